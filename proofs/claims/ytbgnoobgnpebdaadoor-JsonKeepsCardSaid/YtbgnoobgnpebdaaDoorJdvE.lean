/- The contracts of the developers' inForm and writeMember. JT for the latter. -/
import Derived.Test.YtbgnoobgnpebdaaDoorJdvD
namespace Go.Proofs.YtbgnoobgnpebdaaDoor.jdv
open Go.RowKit
open Go.Proofs.YtbgnoobgnpebdaaDoor.oct Go.Proofs.YtbgnoobgnpebdaaDoor.ref Go.Proofs.YtbgnoobgnpebdaaDoor.rows Go.Proofs.YtbgnoobgnpebdaaDoor.rowg Go.Proofs.YtbgnoobgnpebdaaDoor.jsn
open Go.Lib (byteCells hasPrefix trimPrefix)

theorem dec_beq (a b : Int) : decide (a = b) = (a == b) := by rw [Bool.eq_iff_iff, decide_eq_true_iff, beq_iff_eq]
theorem inForm_eq (m : Mem) : inForm m = (((m.kind == 0) && (m.n == 0) && !m.b) || ((m.kind == 1) && m.text.isEmpty && !m.b) || ((m.kind == 2) && m.text.isEmpty && (m.n == 0))) := by
  rw [← dec_beq, ← dec_beq, ← dec_beq, ← dec_beq]; rfl
set_option maxRecDepth 100000 in
set_option maxHeartbeats 4000000 in
theorem inForm_c (m : Mem) (w : World) : Calls Tryd.prog 21 #[mv m] w fun e w' => e = .returned (.bool (inForm m)) ∧ Below w.heap.size w w' := by
  have HIF := Lib.hid (inForm_eq m)
  obtain ⟨x0, x1, x2, x3, x4⟩ := m
  unfold mv tx
  dsimp only at HIF ⊢
  have hE2 : (⟨x2.toArray⟩ : ByteArray).toList.isEmpty = x2.isEmpty := by rw [mk_empty]
  obtain ⟨S, hS⟩ : ∃ S, (⟨x2.toArray⟩ : ByteArray) = S := ⟨_, rfl⟩
  rw [hS] at hE2 ⊢
  have HBW := Lib.hid ((Below.refl w.heap.size w).alloc (Nat.le_refl _) (.cells #[.string ⟨x0.toArray⟩, .int .i64 x1, .string S, .int .i64 x3, .bool x4] 38))
  clear hS
  by_cases k0 : x1 = 0
  · have t0 : (x1 == 0) = true := by rw [beq_iff_eq]; exact k0
    have HV : Hid (inForm ⟨x0, x1, x2, x3, x4⟩ = ((x3 == 0) && !x4)) := by show _ = _; rw [HIF.out, k0]; cases x4 <;> simp
    clear hE2 k0 HIF
    cases hz : (x3 == 0)
    all_goals
      rw [hz] at HV
      cases x4
      all_goals
        go_enter Tryd.func21, Tryd.ntmps21
        go_wp2_with fail
        go_ret
        exact ⟨by rw [HV.out]; rfl, HBW.out⟩
  · have t0 : (x1 == 0) = false := by rw [beq_eq_false_iff_ne]; exact k0
    by_cases k1 : x1 = 1
    · have t1 : (x1 == 1) = true := by rw [beq_iff_eq]; exact k1
      have HV : Hid (inForm ⟨x0, x1, x2, x3, x4⟩ = (x2.isEmpty && !x4)) := by show _ = _; rw [HIF.out, k1]; cases x4 <;> simp
      rw [← hE2] at HV
      clear hE2 k0 k1 HIF
      cases hz : S.toList.isEmpty
      all_goals
        rw [hz] at HV
        cases x4
        all_goals
          go_enter Tryd.func21, Tryd.ntmps21
          go_wp2_with fail
          go_ret
          exact ⟨by rw [HV.out]; rfl, HBW.out⟩
    · have t1 : (x1 == 1) = false := by rw [beq_eq_false_iff_ne]; exact k1
      by_cases k2 : x1 = 2
      · have t2 : (x1 == 2) = true := by rw [beq_iff_eq]; exact k2
        have HV : Hid (inForm ⟨x0, x1, x2, x3, x4⟩ = (x2.isEmpty && (x3 == 0))) := by show _ = _; rw [HIF.out, k2]; simp
        rw [← hE2] at HV
        clear hE2 k0 k1 k2 HIF
        cases hz : S.toList.isEmpty
        all_goals
          cases hy : (x3 == 0)
          all_goals
            rw [hz, hy] at HV
            go_enter Tryd.func21, Tryd.ntmps21
            go_wp2_with fail
            go_ret
            exact ⟨by rw [HV.out]; rfl, HBW.out⟩
      · have t2 : (x1 == 2) = false := by rw [beq_eq_false_iff_ne]; exact k2
        have HV : Hid (inForm ⟨x0, x1, x2, x3, x4⟩ = false) := by show _ = _; rw [HIF.out, t0, t1, t2]; rfl
        clear hE2 k0 k1 k2 HIF
        go_enter Tryd.func21, Tryd.ntmps21
        go_wp2_with fail
        go_ret
        exact ⟨by rw [HV.out]; rfl, HBW.out⟩
/-- a member's text is at least as long as its name and its text -/
theorem memT_sum (m : Mem) (h : inForm m = true) : m.name.length + m.text.length + 3 ≤ (memT m).length := by
  obtain ⟨x0, x1, x2, x3, x4⟩ := m
  have h1 := (strB_len x0).1
  have h2 := (strB_len x2).1
  have hs : ∀ l : List UInt8, (strT l).length = (strB l).length + 2 := by intro l; simp [strT]
  rcases inForm_cases h with ⟨hk, hn, hb⟩ | ⟨hk, ht, hb⟩ | ⟨hk, ht, hn⟩
  · dsimp only at hk
    subst hk
    show x0.length + x2.length + 3 ≤ (strT x0 ++ 58 :: strT x2).length
    rw [List.length_append, List.length_cons, hs, hs]
    omega
  · dsimp only at ht
    subst ht
    unfold memT
    rw [List.length_append, List.length_cons, hs]
    simp only [List.length_nil]
    omega
  · dsimp only at ht
    subst ht
    unfold memT
    rw [List.length_append, List.length_cons, hs]
    simp only [List.length_nil]
    omega
theorem intD_len (n : Int) (h1 : -9223372036854775808 ≤ n) (h2 : n ≤ 9223372036854775807) : (intD n).length ≤ 20 := by
  have h : (natD n.natAbs).length ≤ 18 + 1 := natD_len 18 n.natAbs (by omega)
  unfold intD
  split
  · rw [List.length_cons]; omega
  · omega
theorem memT_most (m : Mem) (hi : i64 m) : (memT m).length ≤ 6 * (m.name.length + m.text.length) + 25 := by
  obtain ⟨x0, x1, x2, x3, x4⟩ := m
  have h1 := (strB_len x0).2
  have h2 := (strB_len x2).2
  have hs : ∀ l : List UInt8, (strT l).length = (strB l).length + 2 := by intro l; simp [strT]
  have hv : (valT ⟨x0, x1, x2, x3, x4⟩).length ≤ 6 * x2.length + 20 := by
    unfold valT
    dsimp only
    split
    · rw [hs]; omega
    · split
      · have := intD_len x3 hi.1 hi.2; omega
      · split <;> simp
  unfold memT
  rw [List.length_append, List.length_cons, hs]
  dsimp only
  omega
theorem isB_below {B b : Nat} {l : List UInt8} {w w' : World} (h : IsB B b l w) (hk : Below w.heap.size w w') : IsB B b l w' := by
  have hg : w.grownBy w' none := ⟨hk.os, hk.tape, hk.output, hk.size, fun k h1 _ => hk.block k h1⟩
  have go : ∀ p, Lib.BuilderAtF 50 5 B b p (byteCells l) w → Lib.BuilderAtF 50 5 B b p (byteCells l) w' := by
    intro p h
    have hlt := h.lt
    obtain ⟨hB, v, hb, hown, hne⟩ := h
    refine ⟨hB, v, (hk.block b hlt).trans hb, hown.kept hg ?_, hne⟩
    cases hv : v.ownBlock with
    | none => exact Or.inl rfl
    | some g => exact Or.inr (fun e => by cases e)
  rcases h with h | h
  · exact Or.inl (go _ h)
  · exact Or.inr (go _ h)
theorem fmtBool (b : Bool) : Lib.formatBool b = if b then [116, 114, 117, 101] else [102, 97, 108, 115, 101] := by
  cases b <;> decide
set_option maxRecDepth 100000 in
set_option maxHeartbeats 8000000 in
theorem writeMember_c (B b : Nat) (pre : List UInt8) (m : Mem) (w : World) (h : IsB B b pre w) (hBw : B ≤ w.heap.size) (hlen : pre.length + 6 * (m.name.length + m.text.length) + 100 ≤ 140737488355328) (hf : inForm m = true) (hi : i64 m) (ht : ∀ w', Below B w w' → JT w') :
    Calls Tryd.prog 25 #[.pointer (some ⟨b, 0, none⟩), mv m] w fun e w' => e = .returned (.tuple #[]) ∧ IsB B b (pre ++ memT m) w' ∧ Below B w w' := by
  have HF := Lib.hid (inForm_cases hf)
  have HT := Lib.hid ht
  obtain ⟨x0, x1, x2, x3, x4⟩ := m
  unfold mv tx
  dsimp only at HF hlen hi ⊢
  obtain ⟨hi1, hi2⟩ := hi
  obtain ⟨w0, hw0⟩ : ∃ w0, w.alloc (.cells #[.string ⟨x0.toArray⟩, .int .i64 x1, .string ⟨x2.toArray⟩, .int .i64 x3, .bool x4] 38) = w0 := ⟨_, rfl⟩
  have hE0 : Blk w0 w.heap.size 38 [.string ⟨x0.toArray⟩, .int .i64 x1, .string ⟨x2.toArray⟩, .int .i64 x3, .bool x4] := by rw [← hw0]; exact blk_new w _ _ _ rfl
  have hn0 : IsB B b pre w0 := by rw [← hw0]; exact h.alloc _
  have hb0 : Below B w w0 := by rw [← hw0]; exact (Below.refl _ w).alloc hBw _
  have HW0 := Lib.hid hw0
  have H1 := Lib.hid (writeString_c B b pre x0 w0 hn0 (Nat.le_trans hBw hb0.size) (by omega))
  have hbM : w.heap.size ≠ b := by
    have hlt : b < w.heap.size := by rcases h with h | h <;> exact h.lt
    omega
  have a0 := hE0.cell 0
  have HE0 := Lib.hid hE0
  have HB0 := Lib.hid hb0
  have HL0 := (strB_len x0).2
  have HL2 := (strB_len x2).2
  have HS : ∀ l : List UInt8, (strT l).length = (strB l).length + 2 := by intro l; simp [strT]
  clear hw0 hE0 hn0 hb0 h ht hf
  go_enter Tryd.func25, Tryd.ntmps25
  go_wp2_with fail
  rw [HW0.out]
  refine H1.out.mono ?_
  rintro e w1 ⟨rfl, hn1, hk1⟩
  have HE1 := Lib.hid (hk1.blk HE0.out hbM (by decide))
  have hb1 : Below B w w1 := HB0.out.trans hk1.below
  have H2 := Lib.hid (isB_writeS B b _ [58] w1 hn1 (by have := HS x0; simp; omega) (Nat.le_trans hBw hb1.size))
  have HB1 := Lib.hid hb1
  clear hn1 hk1 hb1 H1 a0 HE0 HB0
  go_wp2_with fail
  refine H2.out.mono ?_
  rintro e w2 ⟨rfl, hn2, hk2⟩
  have hE2 : Blk w2 w.heap.size 38 [.string ⟨x0.toArray⟩, .int .i64 x1, .string ⟨x2.toArray⟩, .int .i64 x3, .bool x4] := hk2.blk HE1.out hbM (by decide)
  have c1 := hE2.cell 1
  have c2 := hE2.cell 2
  have c3 := hE2.cell 3
  have c4 := hE2.cell 4
  have hb2 : Below B w w2 := HB1.out.trans hk2.below
  have hs2 : B ≤ w2.heap.size := Nat.le_trans hBw hb2.size
  have HB2 := Lib.hid hb2
  have HN2 := Lib.hid hn2
  have HSX := HS x0
  have HSY := HS x2
  have hpl : (pre ++ strT x0 ++ [58]).length ≤ pre.length + 6 * x0.length + 3 := by rw [List.length_append, List.length_append, HSX, List.length_singleton]; omega
  obtain ⟨X, hX⟩ : ∃ X, pre ++ strT x0 ++ [58] = X := ⟨_, rfl⟩
  have HMT : Hid (∀ v, valT ⟨x0, x1, x2, x3, x4⟩ = v → pre ++ memT ⟨x0, x1, x2, x3, x4⟩ = X ++ v) := by
    intro v hv
    rw [← hX, memT, hv]
    simp
  rw [hX] at hpl HN2
  clear hX hE2 hn2 hk2 hb2 HE1 HB1 H2 HS HW0
  rcases HF.out with ⟨rfl, rfl, rfl⟩ | ⟨rfl, rfl, rfl⟩ | ⟨rfl, rfl, rfl⟩
  · have HM := Lib.hid (HMT.out (strT x2) rfl)
    have H3 := Lib.hid (writeString_c B b X x2 w2 HN2.out hs2 (by omega))
    clear HSX HSY HL0 HL2
    go_wp2_with fail
    refine H3.out.mono ?_
    rintro e w3 ⟨rfl, hn3, hk3⟩
    have HN3 := Lib.hid hn3
    have HB3 := Lib.hid (HB2.out.trans hk3.below)
    clear hn3 hk3
    go_wp2_with fail
    first | go_end0 | refine bodyPost_ret (results_none rfl _ _ _) rfl ?_
    exact ⟨rfl, by rw [HM.out]; exact HN3.out, HB3.out⟩
  · have HM := Lib.hid (HMT.out (intD x3) rfl)
    have hil := intD_len x3 hi1 hi2
    have HIT := Lib.hid (sh.itoa_c x3 hi1 hi2 w2 (HT.out w2 HB2.out).tab)
    rw [itoaD] at HIT
    clear HSX HSY HL0 HL2
    go_wp2_with (go_at_call 36; refine HIT.out.mono ?_; rintro e w3 ⟨rfl, hb3⟩)
    refine (isB_writeS B b X (intD x3) w3 (isB_below HN2.out hb3) (by omega) (Nat.le_trans hs2 hb3.size)).mono ?_
    rintro e w4 ⟨rfl, hn4, hk4⟩
    have HN4 := Lib.hid hn4
    have HB4 := Lib.hid ((HB2.out.trans (hb3.mono hs2)).trans hk4.below)
    clear hn4 hk4
    go_wp2_with fail
    first | go_end0 | refine bodyPost_ret (results_none rfl _ _ _) rfl ?_
    exact ⟨rfl, by rw [HM.out]; exact HN4.out, HB4.out⟩
  · have HM := Lib.hid (HMT.out (Lib.formatBool x4) (by rw [fmtBool]; rfl))
    have hfl : (Lib.formatBool x4).length ≤ 5 := by rw [fmtBool]; cases x4 <;> decide
    have HFB : Hid (Calls Tryd.prog 37 #[.bool x4] w2 fun e w' => e = .returned (.string ⟨(Lib.formatBool x4).toArray⟩) ∧ w2 = w') := (sh.formatBool x4 w2).mono fun _ _ ⟨h1, h2⟩ => ⟨h1, h2.symm⟩
    have H3 := Lib.hid (isB_writeS B b X (Lib.formatBool x4) w2 HN2.out (by omega) hs2)
    clear HSX HSY HL0 HL2
    go_wp2_with (go_at_call 37; refine HFB.out.mono ?_; rintro e w3 ⟨rfl, rfl⟩)
    refine H3.out.mono ?_
    rintro e w4 ⟨rfl, hn4, hk4⟩
    have HN4 := Lib.hid hn4
    have HB4 := Lib.hid (HB2.out.trans hk4.below)
    clear hn4 hk4
    go_wp2_with fail
    first | go_end0 | refine bodyPost_ret (results_none rfl _ _ _) rfl ?_
    exact ⟨rfl, by rw [HM.out]; exact HN4.out, HB4.out⟩
end Go.Proofs.YtbgnoobgnpebdaaDoor.jdv
