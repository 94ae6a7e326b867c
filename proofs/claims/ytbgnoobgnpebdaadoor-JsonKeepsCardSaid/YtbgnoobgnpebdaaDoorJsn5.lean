/- Members in memory; the contracts of the reference's form and member. Bounds as each theorem says. -/
import Derived.Test.YtbgnoobgnpebdaaDoorJsn4
import Derived.Test.YtbgnoobgnpebdaaDoorRowG
import Derived.Laws.StructEq
namespace Go.Proofs.YtbgnoobgnpebdaaDoor.jsn
open Go.RowKit
open Go.Proofs.YtbgnoobgnpebdaaDoor.oct Go.Proofs.YtbgnoobgnpebdaaDoor.ref Go.Proofs.YtbgnoobgnpebdaaDoor.rows
open Go.Lib (byteCells)

def tx (l : List UInt8) : Value := .string ⟨l.toArray⟩
/-- a member's cells -/
def menc (m : Mem) : List Value := [tx m.name, .int .i64 m.kind, tx m.text, .int .i64 m.n, .bool m.b]
theorem menc_len (m : Mem) : (menc m).length = 5 := rfl
/-- a member, by value -/
def mv (m : Mem) : Value := .agg #[tx m.name, .int .i64 m.kind, tx m.text, .int .i64 m.n, .bool m.b]
set_option maxRecDepth 8000 in
set_option maxHeartbeats 2000000 in
theorem form_c (m : Mem) (w : World) : Calls Tryd.prog 27 #[mv m] w fun e w' => e = .returned (.bool (inForm m)) ∧ Below w.heap.size w w' := by
  obtain ⟨nm, K, t, n, b⟩ := m
  unfold mv tx
  dsimp only
  by_cases k0 : K = 0
  · subst k0
    go_enter Tryd.func27, Tryd.ntmps27
    go_wp2_with fail
    all_goals
      go_ret
      refine ⟨ret_bool ?_, (Below.refl _ _).alloc (Nat.le_refl _) _⟩
      first | (simp_all [inForm]; done) | (simp [inForm]; done) | (by_cases hz : n = 0 <;> simp_all [inForm])
  · by_cases k1 : K = 1
    · subst k1
      rcases t with _ | ⟨c, t⟩
      all_goals
        go_enter Tryd.func27, Tryd.ntmps27
        go_wp2_with fail
        all_goals
          go_ret
          refine ⟨ret_bool ?_, (Below.refl _ _).alloc (Nat.le_refl _) _⟩
          first | (simp_all [inForm]; done) | (simp [inForm]; done) | (by_cases hz : n = 0 <;> simp_all [inForm])
    · by_cases k2 : K = 2
      · subst k2
        rcases t with _ | ⟨c, t⟩
        all_goals
          go_enter Tryd.func27, Tryd.ntmps27
          go_wp2_with fail
          all_goals
            go_ret
            refine ⟨ret_bool ?_, (Below.refl _ _).alloc (Nat.le_refl _) _⟩
            first | (simp_all [inForm]; done) | (simp [inForm]; done) | (by_cases hz : n = 0 <;> simp_all [inForm])
      · have j0 : (K == 0) = false := by simpa using k0
        have j1 : (K == 1) = false := by simpa using k1
        have j2 : (K == 2) = false := by simpa using k2
        go_enter Tryd.func27, Tryd.ntmps27
        go_wp2_with fail
        all_goals
          go_ret
          refine ⟨ret_bool ?_, (Below.refl _ _).alloc (Nat.le_refl _) _⟩
          first | (simp_all [inForm]; done) | (simp [inForm]; done) | (by_cases hz : n = 0 <;> simp_all [inForm])
/-- the same, or both too long -/
def Near (B : Nat) (T R : List UInt8) : Prop := R.length ≤ B ∧ (R = T ∨ (16384 < R.length ∧ 16384 < T.length))
theorem Near.same (T : List UInt8) : Near T.length T T := ⟨Nat.le_refl _, Or.inl rfl⟩
theorem Near.append {B1 B2 : Nat} {T1 R1 T2 R2 : List UInt8} (h1 : Near B1 T1 R1) (h2 : Near B2 T2 R2) : Near (B1 + B2) (T1 ++ T2) (R1 ++ R2) := by
  refine ⟨by rw [List.length_append]; exact Nat.add_le_add h1.1 h2.1, ?_⟩
  rcases h1.2 with rfl | ⟨a, b⟩
  · rcases h2.2 with rfl | ⟨c, d⟩
    · exact Or.inl rfl
    · refine Or.inr ⟨?_, ?_⟩ <;> rw [List.length_append] <;> omega
  · refine Or.inr ⟨?_, ?_⟩ <;> rw [List.length_append] <;> omega
theorem Near.mono {B B' : Nat} {T R : List UInt8} (h : Near B T R) (hb : B ≤ B') : Near B' T R := ⟨Nat.le_trans h.1 hb, h.2⟩
theorem text_l (l : List UInt8) (w : World) (hl : l.length ≤ 140737488351232) : Calls Tryd.prog 38 #[.string ⟨l.toArray⟩] w fun e w' => ∃ R, Near 16400 (strT l) R ∧ e = .returned (.string ⟨R.toArray⟩) ∧ Below w.heap.size w w' :=
  (text_c ⟨l.toArray⟩ w (by rw [size_mk]; exact hl)).mono fun e w' ⟨R, h1, h2, h3⟩ => ⟨R, h1, h2, h3⟩
theorem ret_string {a b : ByteArray} (h : a = b) : Ending.returned (.string a) = .returned (.string b) := by rw [h]
def MemV (m : Mem) (w w' : World) (e : Ending) : Prop := ∃ R, Near 33000 (memT m) R ∧ e = .returned (.string ⟨R.toArray⟩) ∧ Below w.heap.size w w'
theorem ba_add (a b : List UInt8) : ((⟨a.toArray⟩ : ByteArray) ++ (⟨b.toArray⟩ : ByteArray)) = ⟨(a ++ b).toArray⟩ := by ext1; simp
theorem intD_len (n : Int) (h1 : -9223372036854775808 ≤ n) (h2 : n ≤ 9223372036854775807) : (intD n).length ≤ 20 := by
  have := natD_len 18 n.natAbs (by omega)
  unfold intD
  split <;> simp <;> omega
set_option maxRecDepth 8000 in
set_option maxHeartbeats 2000000 in
theorem member_c (m : Mem) (w : World) (hn : m.name.length ≤ 140737488351232) (ht : m.text.length ≤ 140737488351232) (hi : i64 m) : Calls Tryd.prog 28 #[mv m] w fun e w' => MemV m w w' e := by
  obtain ⟨nm, K, t, n, b⟩ := m
  have HT1 := Lib.hid (fun w => text_l nm w hn)
  have HT2 := Lib.hid (fun w => text_l t w ht)
  have HD := Lib.hid (fun w => digits_c n w hi.1 hi.2)
  have HDL := Lib.hid (intD_len n hi.1 hi.2)
  have hblk : Blk (w.alloc (.cells #[tx nm, .int .i64 K, tx t, .int .i64 n, .bool b] 38)) w.heap.size 38 [tx nm, .int .i64 K, tx t, .int .i64 n, .bool b] := blk_new w _ _ _ rfl
  have hb0 := (Below.refl w.heap.size w).alloc (Nat.le_refl _) (.cells #[tx nm, .int .i64 K, tx t, .int .i64 n, .bool b] 38)
  have HBLK := Lib.hid hblk
  have HB0 := Lib.hid hb0
  clear hblk hb0 hn ht hi
  unfold mv tx
  dsimp only
  go_enter Tryd.func28, Tryd.ntmps28
  go_wp2_with fail
  refine (HT1.out _).mono ?_
  rintro e w1 ⟨R1, hR1, rfl, hb1⟩
  have hB1 := HBLK.out.below hb1
  have hw1 := bnext HB0.out hb1
  have c1 := hB1.cell 1
  have c2 := hB1.cell 2
  have c3 := hB1.cell 3
  have c4 := hB1.cell 4
  unfold tx at c2
  have HR1 := Lib.hid hR1
  have HW1 := Lib.hid hw1
  have hR1l := hR1.1
  have z1 : (⟨R1.toArray⟩ : ByteArray).size = R1.length := size_mk R1
  clear hb1 hB1 hw1 hR1
  by_cases k0 : K = 0
  · subst k0
    go_wp2_with fail
    refine (HT2.out _).mono ?_
    rintro e w2 ⟨R2, hR2, rfl, hb2⟩
    have HR2 := Lib.hid hR2
    have hR2l := hR2.1
    have HB := Lib.hid (bnext HW1.out hb2)
    have z2 : (⟨R2.toArray⟩ : ByteArray).size = R2.length := size_mk R2
    clear hR2 hb2 c1 c2 c3 c4
    go_wp2_with fail
    go_ret
    refine ⟨R1 ++ ([58] ++ R2), ?_, ret_string (by ext1; simp), HB.out⟩
    exact ((HR1.out.append ((Near.same [58]).append HR2.out)).mono (by decide))
  · have j0 : (K == 0) = false := by simpa using k0
    by_cases k1 : K = 1
    · subst k1
      go_wp2_with fail
      refine (HD.out _).mono ?_
      rintro e w2 ⟨rfl, hb2⟩
      have HB := Lib.hid (bnext HW1.out hb2)
      have z2 : (⟨(intD n).toArray⟩ : ByteArray).size = (intD n).length := size_mk _
      have hdl := HDL.out
      clear hb2 c1 c2 c3 c4
      go_wp2_with fail
      go_ret
      refine ⟨R1 ++ ([58] ++ intD n), ?_, ret_string (by ext1; simp), HB.out⟩
      have h := (HR1.out.append ((Near.same [58]).append (Near.same (intD n)))).mono (B' := 33000) (by have := HDL.out; simp; omega)
      exact h
    · have j1 : (K == 1) = false := by simpa using k1
      cases b
      all_goals
        go_wp2_with fail
        go_ret
      · refine ⟨R1 ++ ([58] ++ [102, 97, 108, 115, 101]), ?_, ret_string (by ext1; simp), HW1.out⟩
        have h := (HR1.out.append ((Near.same [58]).append (Near.same [102, 97, 108, 115, 101]))).mono (B' := 33000) (by decide)
        have e : memT ⟨nm, K, t, n, false⟩ = strT nm ++ ([58] ++ [102, 97, 108, 115, 101]) := by unfold memT valT; simp only [k0, k1, if_false]; rfl
        rw [e]; exact h
      · refine ⟨R1 ++ ([58] ++ [116, 114, 117, 101]), ?_, ret_string (by ext1; simp), HW1.out⟩
        have h := (HR1.out.append ((Near.same [58]).append (Near.same [116, 114, 117, 101]))).mono (B' := 33000) (by decide)
        have e : memT ⟨nm, K, t, n, true⟩ = strT nm ++ ([58] ++ [116, 114, 117, 101]) := by unfold memT valT; simp only [k0, k1, if_false, if_true]; rfl
        rw [e]; exact h
end Go.Proofs.YtbgnoobgnpebdaaDoor.jsn
