/- The contract of Hash.Write: bytes told behind those that were told. Condition: the two tables hold what the program's text lays; the bytes are not the hash's own. -/
import Derived.Test.YtohmhcglmaifpaaDoorDev5
namespace Go.Proofs.YtohmhcglmaifpaaDoor.sha
open Go.RowKit
open Go.Proofs.YtohmhcglmaifpaaDoor.oct Go.Proofs.YtohmhcglmaifpaaDoor.ref Go.Proofs.YtohmhcglmaifpaaDoor.rows
open Go.Lib (byteCells)

/-- copy into a block that is known whole -/
theorem wpList_copy_blk {P : Program} {w : World} {ops : Array Oper} {rest : List Oper} {o : Oper} {a : Act} {Q : Exit → Act → World → Prop} (hgd : o.guard = none) (d s : Operand) (dT sT : TypeId)
    (ho : o.op = .call { callee := .builtin .copy, args := #[d, s], argTypes := #[dT, sT] }) (elem : TypeId) (hu : P.underlying dT = some (.slice elem)) (hsz : (P.info? elem).map (·.size) = some 1)
    (g off dLen dCap : Nat) (ad : Addr) (sLen sCap : Nat) (hd : a.eval d = .slice (some ⟨g, off, none⟩) dLen dCap) (hs : a.eval s = .slice (some ad) sLen sCap)
    (cur : List Value) (t : TypeId) (hg : Blk w g t cur) (cs : List Value) (hn : cs.length = Nat.min sLen dLen) (n : Nat) (hcn : cs.length = n)
    (hsrc : ∀ j v, cs[j]? = some v → w.cell? (ad.add j) = some v) (hfit : off + cs.length ≤ cur.length) (h1 : ∀ v ∈ cs, v.oneCell' = true)
    (h : ∀ w1, Blk w1 g t (splice cur off cs) → w.grownBy w1 (some g) → wpList P ops Q rest (a.put o.dst (.int .i64 ((n : Nat) : Int))) w1) : wpList P ops Q (o :: rest) a w := by
  subst hcn
  refine wpList_copy_own hgd d s dT sT ho elem hu hsz g off dLen dCap ad sLen sCap hd hs cur.toArray t hg cs hn hsrc (by simpa using hfit) h1 ?_
  refine h _ ?_ ⟨rfl, rfl, rfl, by simp, fun k _ hk => setRow_other _ _ _ _ (fun e => hk (by rw [e]))⟩
  have := setRow_heap w g cur.toArray (cur.toArray.toList.take off ++ (cs ++ cur.toArray.toList.drop (off + cs.length))).toArray t _ hg
  simpa [Blk, splice] using this
theorem grown_cell {w w' : World} {g : Nat} (h : w.grownBy w' (some g)) (i : Nat) (v : Value) : w.grownBy (w'.setCell ⟨g, i, none⟩ v) (some g) :=
  ⟨h.os, h.tape, h.output, by simpa [World.setCell] using h.size, fun k hk hr => by
    rw [Below.heap_setCell _ _ _ _ (fun e => hr (congrArg some e))]
    exact h.block k hk hr⟩
theorem In8.grown {w w' : World} {g : Nat} {p : Option Addr} {l : List UInt8} (h : In8 w p l) (hg : w.grownBy w' (some g)) (hne : 0 < l.length → ∀ a, p = some a → a.block ≠ g) : In8 w' p l := by
  intro hl
  obtain ⟨b, o, rfl, hc⟩ := h hl
  have hb : b ≠ g := hne hl _ rfl
  refine ⟨b, o, rfl, fun i hi => ?_⟩
  have h2 : w'.heap[b]? = w.heap[b]? := hg.block b (cell_lt (hc i hi)) (fun e => hb (by cases e; rfl))
  rw [← hc i hi]
  simp [World.cell?, h2]
theorem In8.cut {w : World} {b o : Nat} {l : List UInt8} (h : In8 w (some ⟨b, o, none⟩) l) (n : Nat) : In8 w (some ⟨b, o + n, none⟩) (l.drop n) := by
  intro hl
  rw [List.length_drop] at hl
  obtain ⟨_, _, he, hc⟩ := h (by omega)
  cases he
  refine ⟨b, o + n, rfl, fun i hi => ?_⟩
  rw [List.length_drop] at hi
  rw [Nat.add_assoc, hc (n + i) (by omega)]
  simp [List.getD]
theorem In8.take {w : World} {p : Option Addr} {l : List UInt8} (h : In8 w p l) (n : Nat) : In8 w p (l.take n) := by
  intro hl
  rw [List.length_take] at hl
  obtain ⟨b, o, rfl, hc⟩ := h (by omega)
  refine ⟨b, o, rfl, fun i hi => ?_⟩
  rw [List.length_take] at hi
  rw [hc i (by omega)]
  simp only [List.getD]
  rw [List.getElem?_take, if_pos (by omega)]
/-- an array behind a pointer, cut from r on -/
theorem run_arr_from {P : Program} (w : World) (t e : TypeId) (n b o r : Nat) (h : P.underlying t = some (.array n e)) (he : (P.info? e).map (·.size) = some 1) (hr : r < n) :
    (Instr.sliceAt t (.pointer (some ⟨b, o, none⟩)) (some (.int .i64 (r : Int))) none none).run P w = .ok (.slice (some ⟨b, o + r, none⟩) (n - r) (n - r)) w := by
  cases hq : P.info? e with
  | none => simp [hq] at he
  | some j =>
    have hs : j.size = 1 := by simpa [hq] using he
    have h1 : ¬ n = r := by omega
    have h2 : (0 : Int) ≤ (r : Int) ∧ (r : Int) ≤ (n : Int) := by omega
    simp [Instr.sliceAt, Instr.sureAddr, run_underlying h, Instr.sliceBounds, Instr.sliceBound, asIntOf, h1, show r ≤ n by omega, sizeOf, typeInfo, hq, hs, Sem.run_bind, Addr.add]
/-- a slice, cut from n on -/
def cutAt (b o cq n : Nat) : Option Addr := if cq = n then some ⟨b, o, none⟩ else some ⟨b, o + n, none⟩
theorem run_slice_from {P : Program} (w : World) (t e : TypeId) (len cq b o n : Nat) (h : P.underlying t = some (.slice e)) (he : (P.info? e).map (·.size) = some 1) (hn : n ≤ len) :
    (Instr.sliceAt t (.slice (some ⟨b, o, none⟩) len cq) (some (.int .i64 (n : Int))) none none).run P w = .ok (.slice (cutAt b o cq n) (len - n) (cq - n)) w := by
  cases hq : P.info? e with
  | none => simp [hq] at he
  | some j =>
    have hs : j.size = 1 := by simpa [hq] using he
    unfold cutAt
    by_cases hc : cq = n
    · simp [Instr.sliceAt, Instr.slice, run_underlying h, Instr.sliceBounds, Instr.sliceBound, asIntOf, hc, hn, sizeOf, typeInfo, hq, Sem.run_bind]
    · simp [Instr.sliceAt, Instr.slice, run_underlying h, Instr.sliceBounds, Instr.sliceBound, asIntOf, hc, hn, sizeOf, typeInfo, hq, hs, Sem.run_bind, Addr.add]
theorem cut_in8 {w : World} {b o cq n len : Nat} {l : List UInt8} (h : In8 w (some ⟨b, o, none⟩) l) (hl : l.length = len) (hc : len ≤ cq) : In8 w (cutAt b o cq n) (l.drop n) := by
  unfold cutAt
  split
  · intro hp
    rw [List.length_drop] at hp
    omega
  · exact In8.cut h n
theorem cut_block {b o cq n g : Nat} (h : b ≠ g) : ∀ a, cutAt b o cq n = some a → a.block ≠ g := by
  intro a ha
  unfold cutAt at ha
  split at ha <;> (cases ha; exact h)
theorem rm_none {b o cq n : Nat} (h : cutAt b o cq n = none) : cq - n = 0 := by
  unfold cutAt at h
  split at h <;> cases h
theorem told_set {w : World} {g : Nat} {f b} {N n : Nat} (h : Blk w g 52 (hrow f b N)) : Blk (w.setCell ⟨g, 72, none⟩ (.int .i64 ((N : Int) + (n : Int)))) g 52 (hrow f b (N + n)) := by
  have h2 := h.set 72 (.int .i64 ((N + n : Nat) : Int))
  rw [hrow_sett, Int.natCast_add] at h2
  exact h2
theorem infoB1 : (Tryd.prog.info? 5).map (·.size) = some 1 := by kernel_rfl

set_option maxHeartbeats 4000000 in
theorem hwrite_c (g : Nat) (L : List UInt8) (p : Option Addr) (cp : Nat) (l : List UInt8) (w : World) (ht : Tabs w) (h : Holds w g L) (hp : In8 w p l) (hne : 0 < l.length → ∀ a, p = some a → a.block ≠ g) (hr : Rm p cp l.length) (hlen : L.length + l.length ≤ 140737488355000) :
    Calls Tryd.prog 19 #[.pointer (some ⟨g, 0, none⟩), .slice p l.length cp] w fun e w' => (∃ v, e = .returned v) ∧ Holds w' g (L ++ l) ∧ w.grownBy w' (some g) := by
  have HT := Lib.hid ht
  have HH := Lib.hid h
  have HP := Lib.hid hp
  have HR := Lib.hid hr
  have HNE := Lib.hid hne
  clear ht h hp hne hr
  go_enter Tryd.func19, Tryd.ntmps19
  go_wp2_with fail
  go_loopg [1] l.length (fun gk s1 wy => ∃ (k : Nat) (q : Option Addr) (cq : Nat), k + gk = l.length ∧ s1 = .slice q gk cq ∧ In8 wy q (l.drop k) ∧ Hid (0 < gk → ∀ a, q = some a → a.block ≠ g) ∧ Hid (Rm q cq gk) ∧ Holds wy g (L ++ l.take k) ∧ w.grownBy wy (some g))
  case atStart => exact ⟨0, p, cp, by omega, rfl, HP.out, HNE.out, HR.out, by simpa using HH.out, World.grownBy.refl _ _⟩
  case round =>
    obtain ⟨k, q, cq, hkg, rfl, hq, HQN, HQR, hh, hgr⟩ := hrel
    by_cases hg0 : gk = 0
    · subst hg0
      have hk : l.take k = l := List.take_of_length_le (by omega)
      rw [hk] at hh
      have HF := Lib.hid hh
      have HG := Lib.hid hgr
      clear hk hh hgr hq
      go_wp2_with fail
      go_end0
      exact ⟨⟨_, rfl⟩, HF.out, HG.out⟩
    · have hML : (L ++ l.take k).length = L.length + k := by rw [List.length_append, List.length_take]; omega
      have htk : Tabs wr := HT.out.grown hgr hh.1 hh.2.1
      have HTK := Lib.hid htk
      obtain ⟨h0, h1, f, b, hB, hf, hs, hb⟩ := hh
      have HH0 := Lib.hid h0
      have HH1 := Lib.hid h1
      have HFW := Lib.hid hf
      have HS := Lib.hid hs
      have HBY := Lib.hid hb
      have HGR := Lib.hid hgr
      have HML := Lib.hid hML
      clear htk h0 h1 hf hs hb hgr hML
      obtain ⟨M, hM⟩ : ∃ M, L ++ l.take k = M := ⟨_, rfl⟩
      have HM := Lib.hid hM
      rw [hM] at HML HS HBY hB
      clear hM
      obtain ⟨N, hN⟩ : ∃ N, M.length = N := ⟨_, rfl⟩
      have HN := Lib.hid hN
      rw [hN] at hB
      have hNb : N + gk ≤ 140737488355000 := by have := HML.out; omega
      clear hN
      obtain ⟨qb, qo, rfl, _⟩ := hq (by rw [List.length_drop]; omega)
      have c72 := (hB.cell 72).trans (hrow_told f b N)
      obtain ⟨r, hr⟩ : ∃ r, N % 64 = r := ⟨_, rfl⟩
      have hr64 : r < 64 := by omega
      have hrI : (N : Int) % 64 = (r : Int) := by omega
      obtain ⟨n, hn⟩ : ∃ n, min gk (64 - r) = n := ⟨_, rfl⟩
      have hn0 : 0 < n := by omega
      have hn1 : n ≤ gk := by omega
      have hn2 : r + n ≤ 64 := by omega
      have hn3 : r + n = 64 ∨ n = gk := by omega
      have HR1 := Lib.hid hr
      have HN1 := Lib.hid hn
      have hsl := fun w' => run_arr_from (P := Tryd.prog) w' 50 5 64 g 8 r Tryd.underlying50 infoB1 hr64
      have hsc := fun w' => run_slice_from (P := Tryd.prog) w' 22 5 gk cq qb qo n Tryd.underlying22 infoB1 hn1
      have hdl : (l.drop k).length = gk := by rw [List.length_drop]; omega
      obtain ⟨m, hm⟩ : ∃ m, (l.drop k).take n = m := ⟨_, rfl⟩
      have hml : m.length = n := by rw [← hm, List.length_take, hdl]; omega
      have H8 := Lib.hid (hm ▸ In8.take hq n)
      have HMM := Lib.hid hm
      have HML2 := Lib.hid hml
      have HQ := Lib.hid hq
      have HB := Lib.hid hB
      have HQB : Hid (qb ≠ g) := HQN.out (by omega) _ rfl
      have HSP : Hid (splice (hrow f b N) (8 + r) (byteCells m) = hrow f (lay b r m) N) := hrow_splice f b N r m (by omega)
      obtain ⟨q', hq'⟩ : ∃ q', cutAt qb qo cq n = q' := ⟨_, rfl⟩
      rw [hq'] at hsc
      have HQ' := Lib.hid hq'
      have HDL := Lib.hid hdl
      clear hr hn hm hml hq hB hq' hdl
      have HCN : Hid ((byteCells m).length = Nat.min gk (64 - r)) := by show _ = _; rw [byteCells_len, HML2.out, ← HN1.out]
      have HFIT : Hid (8 + r + (byteCells m).length ≤ (hrow f b N).length) := by show _ ≤ _; rw [hrow_len, byteCells_len, HML2.out]; omega
      have HLM : Hid (L ++ l.take (k + n) = M ++ m) := by show _ = _; rw [← HM.out, ← HMM.out, List.append_assoc, List.take_add]
      have HDR : Hid ((l.drop k).drop n = l.drop (k + n)) := by show _ = _; rw [List.drop_drop]
      have HRM : Hid (M.length % 64 = r) := by show _ = _; rw [HN.out, HR1.out]
      have hcq : gk ≤ cq := HQR.out.2
      by_cases hfull : r + n = 64
      · have hfb : ((N : Int) % 64 + (n : Int) == 64) = true := by rw [beq_iff_eq]; omega
        go_wp2_with (refine wpList_copy_blk rfl (.tmp 20) (.tmp 21) 22 22 rfl 5 Tryd.underlying22 infoB1 g (8 + r) (64 - r) (64 - r) ⟨qb, qo, none⟩ gk cq rfl rfl (hrow f b N) 52 HB.out (byteCells m) HCN.out n (by rw [byteCells_len]; exact HML2.out) (src_cells H8.out) HFIT.out (bytes_one m) ?_; intro w2 hB2 hg2; rw [HSP.out] at hB2; have c2 := (hB2.cell 72).trans (hrow_told _ _ N); have f2 := hB2.frozen 72; have HB3 := Lib.hid (told_set (n := n) hB2); have HG3 := Lib.hid (grown_cell (grown_trans HGR.out hg2) 72 (.int .i64 ((N : Int) + (n : Int)))); have HQ3 := Lib.hid (In8.grown HQ.out (grown_cell hg2 72 (.int .i64 ((N : Int) + (n : Int)))) (fun _ a ha => by cases ha; exact HQB.out)); have HT3 := Lib.hid (HTK.out.grown (grown_cell hg2 72 (.int .i64 ((N : Int) + (n : Int)))) HH0.out HH1.out); clear hB2 hg2)
        refine (htake_c g f (lay b r m) (N + n) _ HT3.out HFW.out HB3.out).mono ?_
        rintro e w4 ⟨⟨v4, rfl⟩, hB4, hg4⟩
        have hgw := grown_trans HG3.out hg4
        have hq4 := In8.grown HQ3.out hg4 (fun _ a ha => by cases ha; exact HQB.out)
        have hq5 := cut_in8 (n := n) hq4 HDL.out hcq
        rw [HQ'.out, HDR.out] at hq5
        have hh4 : Holds w4 g (M ++ m) := holds_full HH0.out HH1.out HS.out HBY.out (by rw [HRM.out, HML2.out]; exact hfull) (by rw [HRM.out, HN.out, HML2.out]; exact hB4)
        rw [← HLM.out] at hh4
        have HHH := Lib.hid hh4
        have HGW := Lib.hid hgw
        have HQ5 := Lib.hid hq5
        clear hB4 hg4 hgw hq4 hq5 hh4
        go_wp2_with fail
        go_roundg (gk - n)
        case measure => omega
        case rel => exact ⟨k + n, q', cq - n, by omega, rfl, HQ5.out, fun _ a ha => cut_block HQB.out a (HQ'.out.trans ha), ⟨fun h => rm_none (HQ'.out.trans h), by omega⟩, HHH.out, HGW.out⟩
      · have hfb : ((N : Int) % 64 + (n : Int) == 64) = false := by rw [beq_eq_false_iff_ne]; omega
        go_wp2_with (refine wpList_copy_blk rfl (.tmp 20) (.tmp 21) 22 22 rfl 5 Tryd.underlying22 infoB1 g (8 + r) (64 - r) (64 - r) ⟨qb, qo, none⟩ gk cq rfl rfl (hrow f b N) 52 HB.out (byteCells m) HCN.out n (by rw [byteCells_len]; exact HML2.out) (src_cells H8.out) HFIT.out (bytes_one m) ?_; intro w2 hB2 hg2; rw [HSP.out] at hB2; have c2 := (hB2.cell 72).trans (hrow_told _ _ N); have f2 := hB2.frozen 72; have HB3 := Lib.hid (told_set (n := n) hB2); have HG3 := Lib.hid (grown_cell (grown_trans HGR.out hg2) 72 (.int .i64 ((N : Int) + (n : Int)))); have HQ3 := Lib.hid (In8.grown HQ.out (grown_cell hg2 72 (.int .i64 ((N : Int) + (n : Int)))) (fun _ a ha => by cases ha; exact HQB.out)); have HT3 := Lib.hid (HTK.out.grown (grown_cell hg2 72 (.int .i64 ((N : Int) + (n : Int)))) HH0.out HH1.out); clear hB2 hg2)
        have hq5 := cut_in8 (n := n) HQ3.out HDL.out hcq
        rw [HQ'.out, HDR.out] at hq5
        have hh4 := holds_lay HH0.out HH1.out HFW.out HS.out HBY.out (show M.length % 64 + m.length < 64 by rw [HRM.out, HML2.out]; omega) (by rw [HRM.out, HN.out, HML2.out]; exact HB3.out)
        rw [← HLM.out] at hh4
        have HHH := Lib.hid hh4
        have HQ5 := Lib.hid hq5
        clear hq5 hh4
        go_roundg (gk - n)
        case measure => omega
        case rel => exact ⟨k + n, q', cq - n, by omega, rfl, HQ5.out, fun _ a ha => cut_block HQB.out a (HQ'.out.trans ha), ⟨fun h => rm_none (HQ'.out.trans h), by omega⟩, HHH.out, HG3.out⟩
end Go.Proofs.YtohmhcglmaifpaaDoor.sha
