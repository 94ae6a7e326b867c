/- The contract of the reference's pair: name and value of a piece. Texts of up to 16777216 bytes. -/
import Derived.Test.YtfgenbmobfbifaaFld6
import Derived.Test.YtfgenbmobfbifaaRows2
namespace Go.Proofs.Ytfgenbmobfbifaa.fld
open Go.RowKit
open Go.Proofs.Ytfgenbmobfbifaa.oct Go.Proofs.Ytfgenbmobfbifaa.ref Go.Proofs.Ytfgenbmobfbifaa.rows
open Go.Lib (byteCells)

/-- what pair answers -/
def pairV (o : Option Pr) : Value := match o with
  | some x => .tuple #[.agg #[tx x.1, tx x.2], .int .i64 0]
  | none => .tuple #[.agg #[tx [], tx []], .int .i64 3]
theorem cutEq_end {l : List UInt8} (h : ∀ x ∈ l, x ≠ 61) : cutEq l = (l, []) := by
  unfold cutEq
  have h2 : ∀ x ∈ l, (decide (x ≠ 61)) = true := fun x hx => by simpa using h x hx
  have e1 := List.takeWhile_append_of_pos (p := fun x : UInt8 => decide (x ≠ 61)) (l₁ := l) (l₂ := []) h2
  have e2 := List.dropWhile_append_of_pos (p := fun x : UInt8 => decide (x ≠ 61)) (l₁ := l) (l₂ := []) h2
  rw [List.append_nil] at e1 e2
  rw [e1, e2]
  simp
theorem cutEq_mid {a b : List UInt8} (h : ∀ x ∈ a, x ≠ 61) : cutEq (a ++ 61 :: b) = (a, b) := by
  unfold cutEq
  have h2 : ∀ x ∈ a, (decide (x ≠ 61)) = true := fun x hx => by simpa using h x hx
  rw [List.takeWhile_append_of_pos h2, List.dropWhile_append_of_pos h2]
  simp
theorem text_extract (s : ByteArray) (a b : Nat) : (s.extract a b).data.toList = (s.data.toList.take b).drop a := by
  rw [Lib.extract_data]
  simp [List.drop_take]
theorem text_upto (s : ByteArray) (k : Nat) : (s.extract 0 k).data.toList = s.data.toList.take k := by rw [text_extract, List.drop_zero]
theorem text_from (s : ByteArray) (k : Nat) : (s.extract k s.size).data.toList = s.data.toList.drop k := by
  rw [text_extract, List.take_of_length_le (by rw [Array.length_toList]; exact Nat.le_refl _)]
theorem infoP : (Try.prog.info? 44).map (·.size) = some 2 := by kernel_rfl

/-- a result that lies in a variable, and one that lies in a slot -/
theorem results_pair {P : Program} {fn : Func} {p q : Tmp} {ty : TypeId} (h : fn.results = #[.cell p ty, .tmp q]) (tmps : Array Value) (w : World) (g : Nat) (t : TypeId) (x y u : Value) {d : TypeDesc}
    (hp : tmps.getD p undef = .pointer (some ⟨g, 0, none⟩)) (hq : tmps.getD q undef = u) (hB : Blk w g t [x, y]) (hu : P.underlying ty = some d) (hd : (match d with | .struct _ | .array _ _ => true | _ => false) = true) (hi : (P.info? ty).map (·.size) = some 2) :
    (results fn tmps).run P w = .ok (.tuple #[.agg #[x, y], u]) w := by
  have hp' : tmps[p]?.getD undef = .pointer (some ⟨g, 0, none⟩) := by simpa using hp
  have hq' : tmps[q]?.getD undef = u := by simpa using hq
  have hl := run_loadVar_row (P := P) w g t ty #[x, y] (0, 0) d hB hu hd hi
  simp [results, h, hp', hq', asAddr, hl]
set_option maxRecDepth 8000 in
set_option maxHeartbeats 2000000 in
theorem rpair_c (s : ByteArray) (w : World) (hs : s.size ≤ 16777216) :
    Calls Try.prog 37 #[.string s] w fun e w' => e = .returned (pairV (pairOf s.data.toList)) ∧ Below w.heap.size w w' := by
  have HSL : Hid (s.data.toList.length = s.size) := by show _ = _; rw [Array.length_toList]; rfl
  have hE : Blk (w.alloc (.cells #[.string ⟨#[]⟩, .string ⟨#[]⟩] 44)) w.heap.size 44 [tx [], tx []] := blk_new w _ _ _ rfl
  have hb0 := (Below.refl w.heap.size w).alloc (Nat.le_refl _) (.cells #[.string ⟨#[]⟩, .string ⟨#[]⟩] 44)
  have HE := Lib.hid hE
  have HB0 := Lib.hid hb0
  clear hE hb0
  go_enter Try.func37, Try.ntmps37
  go_wp2_with fail
  go_loop [4] (fun s4 => ∃ k : Nat, k ≤ s.size ∧ s4 = .int .i64 k ∧ Hid (∀ x ∈ s.data.toList.take k, x ≠ 61)) (fun i => s.size - (intOf i).toNat)
  case atStart => exact ⟨0, by omega, rfl, fun x hx => by simp at hx⟩
  case round =>
    obtain ⟨k, hk, rfl, HN⟩ := hrel
    by_cases hlt : k < s.size
    · have hltI : (k : Int) < (s.size : Int) := by omega
      have HT := Lib.hid (take_text s k hlt)
      have HD := Lib.hid (drop_text s k hlt)
      obtain ⟨c, hc⟩ : ∃ c, s[k] = c := ⟨_, rfl⟩
      rw [hc] at HT HD
      have hcc : (s[k].toNat : Int) = (c.toNat : Int) := by rw [hc]
      by_cases h61 : c = 61
      · have hb : ((c.toNat : Int) != 61) = false := by rw [h61]; rfl
        have HCUT : Hid (cutEq s.data.toList = (s.data.toList.take k, s.data.toList.drop (k + 1))) := by
          have h := cutEq_mid (b := s.data.toList.drop (k + 1)) HN.out
          rw [← h61, ← HD.out, List.take_append_drop] at h
          exact h
        clear HT HD HN h61
        have HPO : Hid (pairOf s.data.toList = match unq (s.data.toList.take k), unq (s.data.toList.drop (k + 1)) with | some n, some v => some (n, v) | _, _ => none) := by show _ = _; unfold pairOf; rw [HCUT.out]; rfl
        have HA := fun w => runquote_c (s.extract 0 k) w (by rw [ByteArray.size_extract]; omega)
        rw [show (s.extract 0 k).data.toList = s.data.toList.take k from text_upto s k] at HA
        have HB := fun w => runquote_c (s.extract (k + 1) s.size) w (by rw [ByteArray.size_extract]; omega)
        rw [show (s.extract (k + 1) s.size).data.toList = s.data.toList.drop (k + 1) from text_from s (k + 1)] at HB
        obtain ⟨oA, hoA⟩ : ∃ o, unq (s.data.toList.take k) = o := ⟨_, rfl⟩
        obtain ⟨oB, hoB⟩ : ∃ o, unq (s.data.toList.drop (k + 1)) = o := ⟨_, rfl⟩
        rw [hoA] at HA HPO
        rw [hoB] at HB HPO
        have HAH := Lib.hid HA
        have HBH := Lib.hid HB
        clear hoA hoB HA HB HCUT 
        go_wp2_with fail
        refine (HAH.out _).mono ?_
        rintro e w1 ⟨rfl, hb1⟩
        have hE1 := HE.out.below hb1
        have hbw1 := bnext HB0.out hb1
        clear hb1
        rcases oA with _ | n <;> rcases oB with _ | v
        all_goals
          unfold unqV
          go_wp2_with fail
          refine (HBH.out _).mono ?_
          rintro e w2 ⟨rfl, hb2⟩
          have hE2 := hE1.below hb2
          have HBW := Lib.hid (bnext hbw1 hb2)
          have c0 := hE2.cell 0
          have c1 := hE2.cell 1
          have f0 := hE2.frozen 0
          have f1 := hE2.frozen 1
          have HE2 := Lib.hid hE2
          clear hb2 hE2 hE1 hbw1
          unfold unqV
          go_wp2_with fail
          clear c0 c1 f0 f1
          first
          | (have hF := (HE2.out.set 0 (tx n)).set 1 (tx v)
             refine bodyPost_ret (v := .tuple #[.agg #[tx n, tx v], .int .i64 0]) (results_pair Try.results37 _ _ w.heap.size 44 (tx n) (tx v) _ rfl rfl hF Try.underlying44 rfl infoP) rfl ⟨by rw [HPO.out]; rfl, (HBW.out.setCell (p := ⟨w.heap.size, 0, none⟩) (Nat.le_refl _) _).setCell (p := ⟨w.heap.size, 1, none⟩) (Nat.le_refl _) _⟩)
          | (have hF := (HE2.out.set 0 (tx [])).set 1 (tx [])
             refine bodyPost_ret (v := .tuple #[.agg #[tx [], tx []], .int .i64 3]) (results_pair Try.results37 _ _ w.heap.size 44 (tx []) (tx []) _ rfl rfl hF Try.underlying44 rfl infoP) rfl ⟨by rw [HPO.out]; rfl, (HBW.out.setCell (p := ⟨w.heap.size, 0, none⟩) (Nat.le_refl _) _).setCell (p := ⟨w.heap.size, 1, none⟩) (Nat.le_refl _) _⟩)
      · have hb : ((c.toNat : Int) != 61) = true := by have h := ne_byte h61; rw [bne, show ((c.toNat : Int) == 61) = false from h]; rfl
        have HN2 : Hid (∀ x ∈ s.data.toList.take (k + 1), x ≠ 61) := by
          intro x hx
          rw [HT.out, List.mem_append, List.mem_singleton] at hx
          rcases hx with hx | rfl
          · exact HN.out x hx
          · exact h61
        clear HT HD HN h61
        go_wp2_with fail
        go_round
        case rel => exact ⟨k + 1, by omega, by go_num, HN2⟩
        case measure => simp [intOf]; omega
    · have hltI : ¬ ((k : Int) < (s.size : Int)) := by omega
      have HCUT : Hid (cutEq s.data.toList = (s.data.toList.take k, [])) := by
        have e : s.data.toList.take k = s.data.toList := List.take_of_length_le (by rw [HSL.out]; omega)
        have h := HN.out
        rw [e] at h
        show _ = _
        rw [cutEq_end h, e]
      clear HN
      have HPO : Hid (pairOf s.data.toList = match unq (s.data.toList.take k), unq ([] : List UInt8) with | some n, some v => some (n, v) | _, _ => none) := by show _ = _; unfold pairOf; rw [HCUT.out]; rfl
      have HA := fun w => runquote_c (s.extract 0 k) w (by rw [ByteArray.size_extract]; omega)
      rw [show (s.extract 0 k).data.toList = s.data.toList.take k from text_upto s k] at HA
      have HB := fun w => runquote_c ⟨#[]⟩ w (by decide)
      rw [show (⟨#[]⟩ : ByteArray).data.toList = [] from rfl] at HB
      obtain ⟨oA, hoA⟩ : ∃ o, unq (s.data.toList.take k) = o := ⟨_, rfl⟩
      obtain ⟨oB, hoB⟩ : ∃ o, unq ([] : List UInt8) = o := ⟨_, rfl⟩
      rw [hoA] at HA HPO
      rw [hoB] at HB HPO
      have HAH := Lib.hid HA
      have HBH := Lib.hid HB
      clear hoA hoB HA HB HCUT 
      go_wp2_with fail
      refine (HAH.out _).mono ?_
      rintro e w1 ⟨rfl, hb1⟩
      have hE1 := HE.out.below hb1
      have hbw1 := bnext HB0.out hb1
      clear hb1
      rcases oA with _ | n <;> rcases oB with _ | v
      all_goals
        unfold unqV
        go_wp2_with fail
        refine (HBH.out _).mono ?_
        rintro e w2 ⟨rfl, hb2⟩
        have hE2 := hE1.below hb2
        have HBW := Lib.hid (bnext hbw1 hb2)
        have c0 := hE2.cell 0
        have c1 := hE2.cell 1
        have f0 := hE2.frozen 0
        have f1 := hE2.frozen 1
        have HE2 := Lib.hid hE2
        clear hb2 hE2 hE1 hbw1
        unfold unqV
        go_wp2_with fail
        clear c0 c1 f0 f1
        first
        | (have hF := (HE2.out.set 0 (tx n)).set 1 (tx v)
           refine bodyPost_ret (v := .tuple #[.agg #[tx n, tx v], .int .i64 0]) (results_pair Try.results37 _ _ w.heap.size 44 (tx n) (tx v) _ rfl rfl hF Try.underlying44 rfl infoP) rfl ⟨by rw [HPO.out]; rfl, (HBW.out.setCell (p := ⟨w.heap.size, 0, none⟩) (Nat.le_refl _) _).setCell (p := ⟨w.heap.size, 1, none⟩) (Nat.le_refl _) _⟩)
        | (have hF := (HE2.out.set 0 (tx [])).set 1 (tx [])
           refine bodyPost_ret (v := .tuple #[.agg #[tx [], tx []], .int .i64 3]) (results_pair Try.results37 _ _ w.heap.size 44 (tx []) (tx []) _ rfl rfl hF Try.underlying44 rfl infoP) rfl ⟨by rw [HPO.out]; rfl, (HBW.out.setCell (p := ⟨w.heap.size, 0, none⟩) (Nat.le_refl _) _).setCell (p := ⟨w.heap.size, 1, none⟩) (Nat.le_refl _) _⟩)
end Go.Proofs.Ytfgenbmobfbifaa.fld
