/- The contract of the developers' pieces (an iterator over a text's pieces but empty ones). Texts of up to 2^47 - 4096 bytes. -/
import Derived.Test.YtfgenbmobfbifaaFdv7
namespace Go.Proofs.Ytfgenbmobfbifaa.fdv
open Go.RowKit
open Go.Proofs.Ytfgenbmobfbifaa.oct Go.Proofs.Ytfgenbmobfbifaa.ref Go.Proofs.Ytfgenbmobfbifaa.fld Go.Proofs.Ytfgenbmobfbifaa.rows
open Go.Lib (byteCells)
attribute [local go_sem] Oper.semAt_some

theorem grown_drewN (W : World) (k : Nat) : W.grownBy (W.drewN k) none := ⟨rfl, rfl, rfl, Nat.le_refl _, fun _ _ _ => rfl⟩
theorem tw_not (c : UInt8) : ∀ l : List UInt8, c ∉ l.takeWhile (· ≠ c)
  | [] => by simp
  | b :: l => by
    by_cases hb : b = c
    · simp [hb]
    · have := tw_not c l
      rw [List.takeWhile_cons, if_pos (by simpa using hb)]
      intro h
      rcases List.mem_cons.1 h with e | e
      · exact hb e.symm
      · exact this e
theorem tw_split (c : UInt8) : ∀ l : List UInt8, c ∈ l → l = l.takeWhile (· ≠ c) ++ c :: (l.dropWhile (· ≠ c)).drop 1
  | [], h => by cases h
  | b :: l, h => by
    by_cases hb : b = c
    · simp [hb]
    · have hl : c ∈ l := by
        rcases List.mem_cons.1 h with e | e
        · exact absurd e.symm hb
        · exact e
      have ih := tw_split c l hl
      rw [List.takeWhile_cons, if_pos (by simpa using hb), List.dropWhile_cons, if_pos (by simpa using hb), List.cons_append, ← ih]
def headP (a : List UInt8) : List (List UInt8) := if a = [] then [] else [a]
theorem pieces_plain (a : List UInt8) (h : (38 : UInt8) ∉ a) : pieces a = headP a := by
  unfold pieces headP
  rw [split_plain a (fun x hx e => h (e ▸ hx))]
  cases a <;> simp
theorem pieces_cut (l : List UInt8) : pieces l = headP (l.takeWhile (· ≠ 38)) ++ (if (38 : UInt8) ∈ l then pieces ((l.dropWhile (· ≠ 38)).drop 1) else []) := by
  by_cases h : (38 : UInt8) ∈ l
  · rw [if_pos h]
    have hp := tw_not 38 l
    have e := tw_split 38 l h
    rw [← pieces_plain _ hp, ← pieces_amp, ← e]
  · rw [if_neg h, List.append_nil, (tw_miss 38 l h).1, pieces_plain l h]
/-- a text within the reach: what a round is handed -/
abbrev Txt := { x : List UInt8 // x.length ≤ 140737488351232 }
def txs (l : List Txt) : List (List UInt8) := l.map (·.1)
theorem txs_snoc (l : List Txt) (x : Txt) : txs (l ++ [x]) = txs l ++ [x.1] := by simp [txs]
theorem txs_len (l : List Txt) : (txs l).length = l.length := by simp [txs]
/-- what is left to come, off the loop's slots -/
def left (v m : Value) : Nat := match v, m with
  | .string r, .bool true => r.size + 1
  | _, _ => 0
set_option maxRecDepth 100000 in
set_option maxHeartbeats 2000000 in
theorem pieces1_in (n : Nat) (hn : 1 ≤ n) (l Bn n₀ : Nat) (L : List UInt8) (hL : L.length ≤ 140737488351232) (J Jx : List Txt → World → Prop)
    (B : Nat) (hJ : AbidesFrom B J)
    (hY : ∀ pre x W, J pre W → pre.length < (pieces L).length → YieldAt Fence.wide (n - 1) Try.prog l #[tx x.1] W fun e W' =>
      (e = .returned (.bool true) ∧ J (pre ++ [x]) W' ∧ Below n₀ W W') ∨ (e = .returned (.bool false) ∧ Jx (pre ++ [x]) W'))
    (W : World) (hBn : W.cell? ⟨Bn, 0, none⟩ = some (tx L)) (h0 : J [] W) :
    CallsIn Fence.wide n Try.prog 43 #[.func (.yield l) #[] #[], .pointer (some ⟨Bn, 0, none⟩)] W fun e W' => (∃ v, e = .returned v) ∧
      ((∃ ys, txs ys = pieces L ∧ J ys W') ∨ (∃ pre, txs pre <+: pieces L ∧ Jx pre W')) := by
  unfold tx at hBn
  refine callsIn_of_wp Try.func43 rfl trivial ?_ rfl
  simp only [Try.ntmps43, List.size_toArray, List.length_cons, List.length_nil, Nat.reduceAdd, Nat.reduceSub, Array.replicate_succ, Array.replicate_zero, List.push_toArray, List.append_toArray, List.nil_append, List.cons_append]
  gi_wp2
  gi_loopw [3, 4] (fun s3 s4 wr => ∃ (pre : List Txt) (r : List UInt8) (more : Bool), s3 = tx r ∧ s4 = .bool more ∧ r.length ≤ L.length ∧ Hid (pieces L = txs pre ++ (if more then pieces r else [])) ∧ J pre wr)
    (fun s3 s4 _ => left s3 s4)
  case atStart => exact ⟨[], L, true, rfl, rfl, Nat.le_refl _, by show _ = _; simp [txs], h0⟩
  case round =>
    obtain ⟨pre, r, more, rfl, rfl, hrl, HP, hJs⟩ := hrel
    cases more with
    | false =>
      have HPE : Hid (pieces L = txs pre) := by show _ = _; rw [HP.out]; simp
      gi_wp2
      go_end0
      exact ⟨⟨_, rfl⟩, .inl ⟨pre, HPE.out.symm, hJs⟩⟩
    | true =>
      have hc := cut_c ⟨r.toArray⟩ 38 wr (by rw [size_mk]; omega)
      have hpc := pieces_cut r
      obtain ⟨n1, n2⟩ := tw_le 38 r
      unfold cut1 at hc
      rw [show (⟨r.toArray⟩ : ByteArray).data.toList = r from rfl] at hc
      obtain ⟨a, ha⟩ : ∃ a, r.takeWhile (· ≠ 38) = a := ⟨_, rfl⟩
      obtain ⟨b, hb⟩ : ∃ b, (r.dropWhile (· ≠ 38)).drop 1 = b := ⟨_, rfl⟩
      obtain ⟨m, hm⟩ : ∃ m, decide ((38 : UInt8) ∈ r) = m := ⟨_, rfl⟩
      rw [ha, hb, hm] at hc
      rw [ha] at n1
      rw [hb] at n2
      have hlt : m = true → b.length < r.length := fun e => by
        rw [e] at hm
        obtain ⟨h1, _, h3⟩ := tw_hit 38 r (of_decide_eq_true hm)
        rw [← hb, h3, List.length_drop]
        have : 0 < r.length := by omega
        omega
      have hpc2 : pieces r = headP a ++ (if m then pieces b else []) := by
        rw [hpc, ha, hb]
        congr 1
        cases m with
        | true => rw [if_pos (of_decide_eq_true hm)]; rfl
        | false => rw [if_neg (of_decide_eq_false hm)]; rfl
      have HPN : Hid (pieces L = txs pre ++ headP a ++ (if m then pieces b else [])) := by
        show _ = _
        rw [HP.out, if_pos rfl, hpc2, List.append_assoc]
      have HC := Lib.hid hc
      have HM : Hid (left (tx b) (.bool m) < left (tx r) (.bool true)) := by
        show _ < (⟨r.toArray⟩ : ByteArray).size + 1
        cases m with
        | false => show 0 < _; omega
        | true =>
          show (⟨b.toArray⟩ : ByteArray).size + 1 < _
          have := hlt rfl
          rw [size_mk, size_mk]; omega
      clear hpc hpc2 hc ha hb hm HP hlt
      unfold tx
      cases a with
      | nil =>
        gi_wp2_with (refine ⟨trivial, ?_⟩; gi_at_call 44; refine (callsIn_wide.2 HC.out).mono ?_; rintro e w1 ⟨rfl, nd, rfl⟩)
        refine ⟨fun _ h => (by cases h), ?_⟩
        gi_wp2
        go_roundw
        case rel => exact ⟨pre, b, m, rfl, rfl, Nat.le_trans n2 hrl, by show _ = _; rw [HPN.out]; simp [headP], hJ _ _ _ none hJs (grown_drewN _ _) (fun r e => by cases e)⟩
        case measure => exact HM.out
      | cons c a' =>
        have hne : ((c :: a') == ([] : List UInt8)) = false := rfl
        have hlen : pre.length < (pieces L).length := by rw [HPN.out]; simp [headP, txs]
        obtain ⟨z, hz⟩ : ∃ z : Txt, z.1 = c :: a' := ⟨⟨c :: a', by omega⟩, rfl⟩
        have HJ : Hid (∀ nd, YieldAt Fence.wide (n - 1) Try.prog l #[tx (c :: a')] (wr.drewN nd) fun e W' => (e = .returned (.bool true) ∧ J (pre ++ [z]) W' ∧ Below n₀ (wr.drewN nd) W') ∨ (e = .returned (.bool false) ∧ Jx (pre ++ [z]) W')) :=
          fun nd => by
            have := hY pre z (wr.drewN nd) (hJ _ _ _ none hJs (grown_drewN _ _) (fun r e => by cases e)) hlen
            rw [hz] at this
            exact this
        have HZ := Lib.hid hz
        clear hz
        clear hlen
        gi_wp2_with (refine ⟨trivial, ?_⟩; gi_at_call 44; refine (callsIn_wide.2 HC.out).mono ?_; rintro e w1 ⟨rfl, nd, rfl⟩; obtain ⟨fn, tmps, assign, body, hy, hR⟩ := HJ.out nd; unfold tx at hy)
        refine hR.mono ?_
        rintro e W3 (⟨rfl, hJ3, hk3⟩ | ⟨rfl, hJx3⟩)
        · gi_wp2
          go_roundw
          case rel => exact ⟨pre ++ [z], b, m, rfl, rfl, Nat.le_trans n2 hrl, by show _ = _; rw [HPN.out, txs_snoc, HZ.out]; simp [headP], hJ3⟩
          case measure => exact HM.out
        · gi_wp2
          refine bodyPost_ret (results_none rfl _ _ _) rfl ?_
          exact ⟨⟨_, rfl⟩, .inr ⟨pre ++ [z], by rw [HPN.out, txs_snoc, HZ.out]; exact ⟨if m = true then pieces b else [], by simp [headP]⟩, hJx3⟩⟩
set_option maxHeartbeats 1000000 in
theorem pieces_in (L : List UInt8) (n : Nat) (w : World) :
    CallsIn Fence.wide n Try.prog 35 #[tx L] w fun e w' => e = .returned (.func (.func 43) #[] #[.pointer (some ⟨w.heap.size, 0, none⟩)]) ∧ w' = w.alloc (.cells #[tx L] 9) := by
  unfold tx
  refine callsIn_of_wp Try.func35 rfl trivial ?_ rfl
  simp only [Try.ntmps35, List.size_toArray, List.length_cons, List.length_nil, Nat.reduceAdd, Nat.reduceSub, Array.replicate_succ, Array.replicate_zero, List.push_toArray, List.append_toArray, List.nil_append, List.cons_append]
  gi_wp2
  go_ret
  exact ⟨rfl, rfl⟩
/-- what pieces answers, as an iterator: the text's pieces in their order, or a beginning of them where a round has said 'no more' -/
theorem pieces_stops (n : Nat) (hn : 1 ≤ n) (Bn n₀ : Nat) (L : List UInt8) (hL : L.length ≤ 140737488351232) (w : World) (hBn : Bn < w.heap.size) (hc : w.cell? ⟨Bn, 0, none⟩ = some (tx L)) :
    SeqStopsK Fence.wide n Try.prog 43 #[.pointer (some ⟨Bn, 0, none⟩)] (fun x : Txt => #[tx x.1]) (Below n₀) (fun ys => txs ys = pieces L) (fun pre => txs pre <+: pieces L) (pieces L).length w := fun l J Jx W hW hJ _ hY h0 =>
  pieces1_in n hn l Bn n₀ L hL J Jx W.heap.size hJ hY W ((hW.cell (p := ⟨Bn, 0, none⟩) hBn).trans hc) h0
end Go.Proofs.Ytfgenbmobfbifaa.fdv
