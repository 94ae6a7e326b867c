/- The developers' filled, namedBy; what masks say. No condition. -/
import Derived.Test.YthagdkipipldlaaGreatDoorGr2
namespace Go.Proofs.YthagdkipipldlaaGreatDoor.gra
open Go.RowKit
open Go.Proofs.YthagdkipipldlaaGreatDoor.oct Go.Proofs.YthagdkipipldlaaGreatDoor.ref Go.Proofs.YthagdkipipldlaaGreatDoor.rows Go.Proofs.YthagdkipipldlaaGreatDoor.rowg Go.Proofs.YthagdkipipldlaaGreatDoor.mpt Go.Proofs.YthagdkipipldlaaGreatDoor.trn Go.Proofs.YthagdkipipldlaaGreatDoor.krd
open Go.Proofs.YthagdkipipldlaaGreatDoor.scp (tx senc senc_len senc_one InS ins_below ins_cell lt Lst lval lenc GoodL FitS)

/-- a command's own block -/
theorem boxC (w : World) (x : CM) (t : TypeId) : ∃ w1, w.alloc (.cells #[.int .i64 x.c.kind, tx x.c.fam, .int .i64 x.c.ser, .int .i64 x.c.tok, tx x.c.cl, tx x.c.us, lval x.l, tx x.c.re, tx x.c.ch, tx x.c.me, tx x.c.ve, .bool x.c.rf, .int .i64 x.c.edge] t) = w1 ∧ Below w.heap.size w w1 ∧ Blk w1 w.heap.size t (cenc x) :=
  ⟨_, rfl, (Below.refl _ _).alloc (Nat.le_refl _) _, blk_new w _ _ _ rfl⟩
structure CellsC (w : World) (g : Nat) (x : CM) : Prop where
  c0 : w.cell? ⟨g, 0, none⟩ = some (.int .i64 x.c.kind)
  c1 : w.cell? ⟨g, 1, none⟩ = some (tx x.c.fam)
  c2 : w.cell? ⟨g, 2, none⟩ = some (.int .i64 x.c.ser)
  c3 : w.cell? ⟨g, 3, none⟩ = some (.int .i64 x.c.tok)
  c4 : w.cell? ⟨g, 4, none⟩ = some (tx x.c.cl)
  c5 : w.cell? ⟨g, 5, none⟩ = some (tx x.c.us)
  c6 : w.cell? ⟨g, 6, none⟩ = some (lval x.l)
  c7 : w.cell? ⟨g, 7, none⟩ = some (tx x.c.re)
  c8 : w.cell? ⟨g, 8, none⟩ = some (tx x.c.ch)
  c9 : w.cell? ⟨g, 9, none⟩ = some (tx x.c.me)
  c10 : w.cell? ⟨g, 10, none⟩ = some (tx x.c.ve)
  c11 : w.cell? ⟨g, 11, none⟩ = some (.bool x.c.rf)
  c12 : w.cell? ⟨g, 12, none⟩ = some (.int .i64 x.c.edge)
theorem cellsC {w : World} {g : Nat} {t : TypeId} {x : CM} (h : Blk w g t (cenc x)) : CellsC w g x := ⟨h.cell 0, h.cell 1, h.cell 2, h.cell 3, h.cell 4, h.cell 5, h.cell 6, h.cell 7, h.cell 8, h.cell 9, h.cell 10, h.cell 11, h.cell 12⟩
def maskB : Bool → Bool → Bool → Bool → Bool → Bool → Bool → Bool → Bool → Bool → Bool → Int
  | b0, b1, b2, b3, b4, b5, b6, b7, b8, b9, b10 => bits .or .u64 (bits .or .u64 (bits .or .u64 (bits .or .u64 (bits .or .u64 (bits .or .u64 (bits .or .u64 (bits .or .u64 (bits .or .u64 (bits .or .u64 (whenI b0 1) (whenI b1 2)) (whenI b2 4)) (whenI b3 8)) (whenI b4 16)) (whenI b5 32)) (whenI b6 64)) (whenI b7 128)) (whenI b8 256)) (whenI b9 512)) (whenI b10 1024)
def maskI (c : CT) : Int := maskB (c.ser != 0) (c.tok != 0) (!c.cl.isEmpty) (!c.us.isEmpty) (decide (0 < c.sc.length)) (!c.re.isEmpty) (!c.ch.isEmpty) (!c.me.isEmpty) (!c.ve.isEmpty) c.rf (c.edge != 0)
set_option maxRecDepth 100000 in
set_option maxHeartbeats 8000000 in
theorem filled_c (x : CM) (w : World) :
    Calls Tryz.prog 47 #[cval x] w fun e w' => e = .returned (.int .u64 (maskI x.c)) ∧ Below w.heap.size w w' := by
  obtain ⟨w1, hw1, hb1, hB⟩ := boxC w x 48
  obtain ⟨c0, c1, c2, c3, c4, c5, c6, c7, c8, c9, c10, c11, c12⟩ := cellsC hB
  have HB := Lib.hid hb1
  have HW := Lib.hid (fun b n w => when_c b n w)
  clear hB hb1
  obtain ⟨⟨kind, fam, ser, tok, cl, us, sc, re, ch, me, ve, rf, edge⟩, P, R⟩ := x
  unfold maskI cval
  unfold CM.l lval tx at *
  dsimp only at *
  have y2 := mk_empty cl
  have y3 := mk_empty us
  have y5 := mk_empty re
  have y6 := mk_empty ch
  have y7 := mk_empty me
  have y8 := mk_empty ve
  go_enter Tryz.func47, Tryz.ntmps47
  go_wp2_with fail
  go_quiet ((go_at_call 75; exact Calls.quiet_of_same (HW.out _ _ _)))
  go_wp2_with fail
  go_ret
  exact ⟨rfl, below_drewN HB.out nq⟩
set_option maxRecDepth 100000 in
theorem namedBy_c (k : Int) (w : World) :
    Calls Tryz.prog 46 #[.int .i64 k] w fun e w' => e = .returned (.tuple #[.int .u64 (namedI k).1, .bool (namedI k).2]) ∧ w' = w := by
  have HN : Hid ((k = 1 → namedI k = (252, true)) ∧ (k = 2 → namedI k = (804, true)) ∧ (k = 3 → namedI k = (21, true)) ∧ (k = 4 → namedI k = (20, true)) ∧ (k = 5 → namedI k = (7, true)) ∧ (k = 6 → namedI k = (1027, true)) ∧ (k = 7 → namedI k = (0, true)) ∧ (¬ (k = 1 ∨ k = 2 ∨ k = 3 ∨ k = 4 ∨ k = 5 ∨ k = 6 ∨ k = 7) → namedI k = (0, false))) := by
    refine ⟨?_, ?_, ?_, ?_, ?_, ?_, ?_, ?_⟩
    all_goals
      intro h
      unfold namedI
    any_goals
      subst h
      rfl
    rw [if_neg (by omega), if_neg (by omega), if_neg (by omega), if_neg (by omega), if_neg (by omega), if_neg (by omega), if_neg (by omega)]
  obtain ⟨r, hr⟩ : ∃ r, namedI k = r := ⟨_, rfl⟩
  rw [hr] at HN ⊢
  clear hr
  go_enter Tryz.func46, Tryz.ntmps46
  go_wp2_with fail
  all_goals
    go_ret2
    refine ⟨?_, rfl⟩
    obtain ⟨e1, e2, e3, e4, e5, e6, e7, e8⟩ := HN.out
    clear HN
    simp only [beq_iff_eq, beq_eq_false_iff_ne, ne_eq] at *
    first
      | (rw [e1 (by omega)]; rfl)
      | (rw [e2 (by omega)]; rfl)
      | (rw [e3 (by omega)]; rfl)
      | (rw [e4 (by omega)]; rfl)
      | (rw [e5 (by omega)]; rfl)
      | (rw [e6 (by omega)]; rfl)
      | (rw [e7 (by omega)]; rfl)
      | (rw [e8 (by omega)]; rfl)
def zB (k : Int) : Bool → Bool → Bool → Bool → Bool → Bool → Bool → Bool → Bool → Bool → Bool → Bool
  | b0, b1, b2, b3, b4, b5, b6, b7, b8, b9, b10 =>
    (decide (k ≤ 5) == b2) && (decide (k = 1) || (!b3 && !b6 && !b7)) && (decide (k ≤ 2) || !b5) && (decide (k = 2) || (!b8 && !b9)) && (decide (k = 1) || decide (k = 3) || decide (k = 4) || !b4) &&
    (decide (k = 3) || decide (k = 5) || decide (k = 6) || !b0) && (decide (k = 6) || !b10) && (if k = 5 ∨ k = 6 then b1 else !b1)
def mB (n : Int) : Bool → Bool → Bool → Bool → Bool → Bool → Bool → Bool → Bool → Bool → Bool → Bool
  | b0, b1, b2, b3, b4, b5, b6, b7, b8, b9, b10 => (bits .andNot .u64 (maskB b0 b1 b2 b3 b4 b5 b6 b7 b8 b9 b10) n == 0) && (bits .and .u64 (maskB b0 b1 b2 b3 b4 b5 b6 b7 b8 b9 b10) (bits .and .u64 n 6) == bits .and .u64 n 6)
set_option maxRecDepth 100000 in
theorem mask1 : ∀ b0 b1 b2 b3 b4 b5 b6 b7 b8 b9 b10, mB 252 b0 b1 b2 b3 b4 b5 b6 b7 b8 b9 b10 = zB 1 b0 b1 b2 b3 b4 b5 b6 b7 b8 b9 b10 := by decide +kernel
set_option maxRecDepth 100000 in
theorem mask2 : ∀ b0 b1 b2 b3 b4 b5 b6 b7 b8 b9 b10, mB 804 b0 b1 b2 b3 b4 b5 b6 b7 b8 b9 b10 = zB 2 b0 b1 b2 b3 b4 b5 b6 b7 b8 b9 b10 := by decide +kernel
set_option maxRecDepth 100000 in
theorem mask3 : ∀ b0 b1 b2 b3 b4 b5 b6 b7 b8 b9 b10, mB 21 b0 b1 b2 b3 b4 b5 b6 b7 b8 b9 b10 = zB 3 b0 b1 b2 b3 b4 b5 b6 b7 b8 b9 b10 := by decide +kernel
set_option maxRecDepth 100000 in
theorem mask4 : ∀ b0 b1 b2 b3 b4 b5 b6 b7 b8 b9 b10, mB 20 b0 b1 b2 b3 b4 b5 b6 b7 b8 b9 b10 = zB 4 b0 b1 b2 b3 b4 b5 b6 b7 b8 b9 b10 := by decide +kernel
set_option maxRecDepth 100000 in
theorem mask5 : ∀ b0 b1 b2 b3 b4 b5 b6 b7 b8 b9 b10, mB 7 b0 b1 b2 b3 b4 b5 b6 b7 b8 b9 b10 = zB 5 b0 b1 b2 b3 b4 b5 b6 b7 b8 b9 b10 := by decide +kernel
set_option maxRecDepth 100000 in
theorem mask6 : ∀ b0 b1 b2 b3 b4 b5 b6 b7 b8 b9 b10, mB 1027 b0 b1 b2 b3 b4 b5 b6 b7 b8 b9 b10 = zB 6 b0 b1 b2 b3 b4 b5 b6 b7 b8 b9 b10 := by decide +kernel
set_option maxRecDepth 100000 in
theorem mask7 : ∀ b0 b1 b2 b3 b4 b5 b6 b7 b8 b9 b10, mB 0 b0 b1 b2 b3 b4 b5 b6 b7 b8 b9 b10 = zB 7 b0 b1 b2 b3 b4 b5 b6 b7 b8 b9 b10 := by decide +kernel
/-- the fields of a command, as those that are empty -/
def zC (c : CT) : Bool := zB c.kind (c.ser != 0) (c.tok != 0) (!c.cl.isEmpty) (!c.us.isEmpty) (decide (0 < c.sc.length)) (!c.re.isEmpty) (!c.ch.isEmpty) (!c.me.isEmpty) (!c.ve.isEmpty) c.rf (c.edge != 0)
theorem mask_zero (c : CT) (h : (namedI c.kind).2 = true) : ((bits .andNot .u64 (maskI c) (namedI c.kind).1 == 0) && (bits .and .u64 (maskI c) (bits .and .u64 (namedI c.kind).1 6) == bits .and .u64 (namedI c.kind).1 6)) = zC c := by
  unfold zC maskI
  unfold namedI at h ⊢
  generalize c.kind = k at h ⊢
  by_cases h1 : k = 1
  · subst h1; exact mask1 _ _ _ _ _ _ _ _ _ _ _
  by_cases h2 : k = 2
  · subst h2; exact mask2 _ _ _ _ _ _ _ _ _ _ _
  by_cases h3 : k = 3
  · subst h3; exact mask3 _ _ _ _ _ _ _ _ _ _ _
  by_cases h4 : k = 4
  · subst h4; exact mask4 _ _ _ _ _ _ _ _ _ _ _
  by_cases h5 : k = 5
  · subst h5; exact mask5 _ _ _ _ _ _ _ _ _ _ _
  by_cases h6 : k = 6
  · subst h6; exact mask6 _ _ _ _ _ _ _ _ _ _ _
  by_cases h7 : k = 7
  · subst h7; exact mask7 _ _ _ _ _ _ _ _ _ _ _
  rw [if_neg h1, if_neg h2, if_neg h3, if_neg h4, if_neg h5, if_neg h6, if_neg h7] at h
  cases h
theorem named_in (k : Int) : (namedI k).2 = inB k 1 7 := by
  unfold namedI inB
  by_cases h1 : k = 1
  · subst h1; rfl
  by_cases h2 : k = 2
  · subst h2; rfl
  by_cases h3 : k = 3
  · subst h3; rfl
  by_cases h4 : k = 4
  · subst h4; rfl
  by_cases h5 : k = 5
  · subst h5; rfl
  by_cases h6 : k = 6
  · subst h6; rfl
  by_cases h7 : k = 7
  · subst h7; rfl
  rw [if_neg h1, if_neg h2, if_neg h3, if_neg h4, if_neg h5, if_neg h6, if_neg h7]
  by_cases h8 : 1 ≤ k
  · rw [decide_eq_false (show ¬ k ≤ 7 by omega)]; simp
  · rw [decide_eq_false h8]; rfl
theorem emp {l : T} : (!l.isEmpty) = decide (l ≠ []) := by cases l <;> rfl
/-- what the developers ask of all fields besides -/
def fieldsG (c : CT) : Bool := [c.cl, c.us, c.re, c.ve].all shortB && fitB c.sc && shownB c.ch c.me && inB c.ser 0 1099511627776 && inB c.tok 0 3 && inB c.edge 0 31
def mayD (c : CT) : Bool := (namedI c.kind).2 && zC c && idB c.fam && fieldsG c
theorem and_l {a b : Bool} (h : a = true) : (a && b) = b := by rw [h]; rfl
theorem mayD_eq (c : CT) : mayD c = mayG c := by
  unfold mayD mayG
  rw [named_in]
  cases hk : inB c.kind 1 7 with
  | false => simp
  | true =>
    rw [inB_iff] at hk
    unfold fieldsG
    have hz : (zC c && inB c.tok 0 3) = zerosB c := by
      have e : ∀ (F F' t u t' : Bool), F = F' → (t && u) = t' → (F && t && u) = (F' && t') := by decide
      unfold zC zB zerosB
      refine e _ _ _ _ _ ?_ ?_
      · simp only [emp]
        rw [Bool.eq_iff_iff]
        simp only [Bool.and_eq_true, Bool.or_eq_true, decide_eq_true_eq, Bool.not_eq_true', beq_iff_eq, ne_eq, decide_eq_false_iff_not, Decidable.not_not, bne_eq_false_iff_eq, Nat.not_lt, Nat.le_zero, List.length_eq_zero_iff]
        grind
      · rw [Bool.eq_iff_iff]
        by_cases h56 : c.kind = 5 ∨ c.kind = 6
        · simp only [if_pos h56, Bool.and_eq_true, inB_iff, bne_iff_ne, ne_eq]
          omega
        · simp only [if_neg h56, Bool.and_eq_true, inB_iff, Bool.not_eq_true', bne_eq_false_iff_eq, decide_eq_true_eq]
          omega
    rw [← hz]
    simp only [List.all_cons, List.all_nil, Bool.and_true]
    generalize zC c = z
    generalize idB c.fam = i
    generalize fitB c.sc = f
    generalize shownB c.ch c.me = s
    generalize inB c.tok 0 3 = t
    generalize inB c.ser 0 1099511627776 = n
    generalize inB c.edge 0 31 = e
    generalize shortB c.cl = a1
    generalize shortB c.us = a2
    generalize shortB c.re = a3
    generalize shortB c.ve = a4
    revert z i f s t n e a1 a2 a3 a4
    decide
end Go.Proofs.YthagdkipipldlaaGreatDoor.gra
