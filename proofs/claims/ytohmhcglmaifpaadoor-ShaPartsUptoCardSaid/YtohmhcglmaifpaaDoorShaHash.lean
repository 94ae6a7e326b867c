/- What the laws of sha ask of a hash (Hashes), and ShaApart's walk by it (rows of up to 1048576 bytes each). -/
import Derived.Test.YtohmhcglmaifpaaDoorShaLong
namespace Go.Proofs.YtohmhcglmaifpaaDoor.sha
open Go.RowKit
open Go.Proofs.YtohmhcglmaifpaaDoor.oct Go.Proofs.YtohmhcglmaifpaaDoor.ref Go.Proofs.YtohmhcglmaifpaaDoor.rows
open Go.Lib (byteCells)

structure Hashes (T : World → Prop) (Has : World → Nat → List UInt8 → Prop) : Prop where
  new : ∀ w, T w → Calls Tryd.prog 18 #[] w fun e w' => ∃ g, e = .returned (.pointer (some ⟨g, 0, none⟩)) ∧ w.heap.size ≤ g ∧ Has w' g [] ∧ Below w.heap.size w w'
  write : ∀ g L p cp l w, T w → Has w g L → In8 w p l → (0 < l.length → ∀ a, p = some a → a.block ≠ g) → Rm p cp l.length → L.length + l.length ≤ 140737488351232 →
    Calls Tryd.prog 19 #[.pointer (some ⟨g, 0, none⟩), .slice p l.length cp] w fun e w' => (∃ v, e = .returned v) ∧ Has w' g (L ++ l) ∧ w.grownBy w' (some g)
  told : ∀ g L w, T w → Has w g L → L.length ≤ 140737488351232 → Calls Tryd.prog 21 #[.pointer (some ⟨g, 0, none⟩)] w fun e w' => e = .returned (dval (digest L)) ∧ Below w.heap.size w w'
  len : ∀ g L w, T w → Has w g L → L.length ≤ 140737488351232 → Calls Tryd.prog 20 #[.pointer (some ⟨g, 0, none⟩)] w fun e w' => e = .returned (.int .i64 (L.length : Nat)) ∧ Below w.heap.size w w'

theorem InP.two {w : World} {p r : Option Addr} {cp cr : Nat} {l m : List UInt8} (h : In8 w p l) (hn : Rm p cp l.length) (k : In8 w r m) (kn : Rm r cr m.length) :
    InP (w.alloc (.cells #[.slice p l.length cp, .slice r m.length cr] 22)) (some ⟨w.heap.size, 0, none⟩) [⟨p, cp, l⟩, ⟨r, cr, m⟩] := by
  have hb := (Below.refl w.heap.size w).alloc (Nat.le_refl _) (.cells #[.slice p l.length cp, .slice r m.length cr] 22)
  refine ⟨fun _ => ⟨w.heap.size, 0, rfl, fun i hi => ?_⟩, ?_⟩
  · rw [World.cell?_alloc_at _ _ _ _ rfl]
    match i, hi with
    | 0, _ => rfl
    | 1, _ => rfl
  · intro x hx
    simp only [List.mem_cons, List.not_mem_nil, or_false] at hx
    rcases hx with rfl | rfl
    · exact ⟨h.below hb, hn⟩
    · exact ⟨k.below hb, kn⟩
theorem joined_two (p r : Option Addr) (cp cr : Nat) (l m : List UInt8) : joined [⟨p, cp, l⟩, ⟨r, cr, m⟩] = l ++ m := by simp [joined]
theorem in8_block {w : World} {p : Option Addr} {l : List UInt8} {g : Nat} (h : In8 w p l) (hg : w.heap.size ≤ g) (hl : 0 < l.length) : ∀ a, p = some a → a.block ≠ g := by
  intro a ha
  obtain ⟨b, o, h1, hc⟩ := h hl
  rw [ha] at h1
  cases h1
  have : b < w.heap.size := cell_lt (hc 0 hl)
  show b ≠ g
  omega
/-- a block of the call's own is written: what was there before the call is as it was -/
theorem grown_below {w w' : World} {g B : Nat} {w0 : World} (hb : Below B w0 w) (hg : w.grownBy w' (some g)) (hB : B ≤ g) (hs : B ≤ w.heap.size) : Below B w0 w' :=
  hb.grown hg hs (fun k hk => by cases hk; exact hB)
theorem grown_keep {T : World → Prop} {Has : World → Nat → List UInt8 → Prop} (X : Api T Has) {w w' : World} {g h : Nat} {L : List UInt8} (k : Has w h L) (hg : w.grownBy w' (some g)) (hn : h ≠ g) : Has w' h L :=
  X.keep w w' h L k (hg.block h (X.lt w h L k) (fun e => hn (by cases e; rfl)))
theorem below_keep {T : World → Prop} {Has : World → Nat → List UInt8 → Prop} (X : Api T Has) {w w' : World} {h : Nat} {L : List UInt8} (k : Has w h L) (hb : Below w.heap.size w w') : Has w' h L :=
  X.keep w w' h L k (hb.block h (X.lt w h L k))

set_option maxHeartbeats 2000000 in
theorem law_apart {T : World → Prop} {Has : World → Nat → List UInt8 → Prop} (X : Api T Has) (Y : Hashes T Has) (p : Option Addr) (cp : Nat) (a : List UInt8) (q : Option Addr) (cq : Nat) (b : List UInt8) (r : Option Addr) (cr : Nat) (c : List UInt8) (w : World)
    (hp : In8 w p a) (ha : a.length ≤ 1048576) (hpn : Rm p cp a.length) (hq : In8 w q b) (hb : b.length ≤ 1048576) (hqn : Rm q cq b.length) (hr : In8 w r c) (hc : c.length ≤ 1048576) (hrn : Rm r cr c.length) (ht : T w) :
    Calls Tryd.prog 7 #[.slice p a.length cp, .slice q b.length cq, .slice r c.length cr] w fun e w' => e = .returned (.bool true) ∧ Below w.heap.size w w' := by
  have HP := Lib.hid hp
  have HQ := Lib.hid hq
  have HR := Lib.hid hr
  have HT := Lib.hid ht
  have HX := Lib.hid X
  have HY := Lib.hid Y
  clear hp hq hr ht X Y
  have hjl : (joined [⟨p, cp, a⟩, ⟨r, cr, c⟩]).length ≤ 2097152 := by rw [joined_two, List.length_append]; omega
  have hacl : (a ++ c).length ≤ 2097152 := by rw [List.length_append]; omega
  have hj := joined_two p r cp cr a c
  obtain ⟨AC, hAC⟩ : ∃ AC, a ++ c = AC := ⟨_, rfl⟩
  rw [hAC] at hacl hj
  have HAC := Lib.hid hAC
  have HJ := Lib.hid hj
  have kE1 := fun w => agg_eq (digest AC) w (digest_len _)
  have kE2 := fun w => agg_eq (digest b) w (digest_len _)
  clear hAC hj
  obtain ⟨A, hA⟩ : ∃ A, (byteCells (digest AC)).toArray = A := ⟨_, rfl⟩
  obtain ⟨B, hB⟩ : ∃ B, (byteCells (digest b)).toArray = B := ⟨_, rfl⟩
  rw [hA] at kE1
  rw [hB] at kE2
  have HA : Hid (dval (digest AC) = .agg A) := by show _ = _; unfold dval; rw [hA]
  have HB : Hid (dval (digest b) = .agg B) := by show _ = _; unfold dval; rw [hB]
  clear hA hB
  go_enter Tryd.func7, Tryd.ntmps7
  go_wp2_with fail
  refine (HY.out.new w HT.out).mono ?_
  rintro e w1 ⟨g, rfl, hg, h1, hb1⟩
  go_wp2_with fail
  refine (HY.out.new w1 (HX.out.tbelow _ _ HT.out hb1)).mono ?_
  rintro e w2 ⟨h, rfl, hh, k2, hb2⟩
  have hg1 := HX.out.lt _ _ _ h1
  have hs1 := hb1.size
  have h2 := below_keep HX.out h1 hb2
  have HG : Hid (w.heap.size ≤ g ∧ w.heap.size ≤ h ∧ h ≠ g) := ⟨hg, by omega, by omega⟩
  have hbw2 := bnext hb1 hb2
  clear h1 hb1 hb2 hg hh hg1 hs1
  go_wp2_with fail
  refine (HY.out.write g [] p cp a w2 (HX.out.tbelow _ _ HT.out hbw2) h2 (HP.out.below hbw2) (fun hl => in8_block HP.out HG.out.1 hl) hpn (by simp; omega)).mono ?_
  rintro e w3 ⟨⟨v3, rfl⟩, h3, hg3⟩
  have k3 := grown_keep HX.out k2 hg3 HG.out.2.2
  have hbw3 := grown_below hbw2 hg3 HG.out.1 hbw2.size
  clear h2 k2 hg3 hbw2
  go_wp2_with fail
  refine (HY.out.write h [] q cq b w3 (HX.out.tbelow _ _ HT.out hbw3) k3 (HQ.out.below hbw3) (fun hl => in8_block HQ.out HG.out.2.1 hl) hqn (by simp; omega)).mono ?_
  rintro e w4 ⟨⟨v4, rfl⟩, k4, hg4⟩
  have h4 := grown_keep HX.out h3 hg4 HG.out.2.2.symm
  have hbw4 := grown_below hbw3 hg4 HG.out.2.1 hbw3.size
  clear h3 k3 hg4 hbw3
  go_wp2_with fail
  refine (HY.out.write g ([] ++ a) r cr c w4 (HX.out.tbelow _ _ HT.out hbw4) h4 (HR.out.below hbw4) (fun hl => in8_block HR.out HG.out.1 hl) hrn (by simp; omega)).mono ?_
  rintro e w5 ⟨⟨v5, rfl⟩, h5, hg5⟩
  have k5 := grown_keep HX.out k4 hg5 HG.out.2.2
  have hbw5 := grown_below hbw4 hg5 HG.out.1 hbw4.size
  rw [List.nil_append, HAC.out] at h5
  rw [List.nil_append] at k5
  clear h4 k4 hg5 hbw4
  go_wp2_with fail
  refine (known_c HX.out w5 (HX.out.tbelow _ _ HT.out hbw5)).mono ?_
  rintro e w6 ⟨rfl, hb6⟩
  have h6 := below_keep HX.out h5 hb6
  have k6 := below_keep HX.out k5 hb6
  have hbw6 := bnext hbw5 hb6
  clear h5 k5 hb6 hbw5
  go_wp2_with fail
  refine (HY.out.told g AC w6 (HX.out.tbelow _ _ HT.out hbw6) h6 (by omega)).mono ?_
  rintro e w7 ⟨rfl, hb7⟩
  rw [HA.out]
  have k7 := below_keep HX.out k6 hb7
  have hbw7 := bnext hbw6 hb7
  have hi7 := Lib.hid (InP.two (HP.out.below hbw7) hpn (HR.out.below hbw7) hrn)
  have hba7 := hbw7.alloc hbw7.size (.cells #[.slice p a.length cp, .slice r c.length cr] 22)
  have ka7 := Lib.hid (below_keep HX.out k7 ((Below.refl w7.heap.size w7).alloc (Nat.le_refl _) (.cells #[.slice p a.length cp, .slice r c.length cr] 22)))
  have HB7 := Lib.hid hba7
  clear h6 k6 hb7 hbw6 k7 hbw7 hba7
  go_wp2_with fail
  refine (join_c (some ⟨w7.heap.size, 0, none⟩) 2 [⟨p, cp, a⟩, ⟨r, cr, c⟩] _ hi7.out (by simp) (by omega)).mono ?_
  rintro e w8 ⟨v8, rfl, hown, hb8⟩
  rw [HJ.out] at hown
  obtain ⟨_, p8, c8, rfl, h88⟩ := own_in8 hown
  have hn8 := own_rm hown
  have k8 := below_keep HX.out ka7.out hb8
  have hbw8 := bnext HB7.out hb8
  clear hown hb8
  go_wp2_with fail
  refine (HX.out.sum p8 c8 AC w8 (HX.out.tbelow _ _ HT.out hbw8) h88 (by omega) hn8).mono ?_
  rintro e w9 ⟨rfl, hb9⟩
  rw [HA.out]
  have k9 := below_keep HX.out k8 hb9
  have hbw9 := bnext hbw8 hb9
  clear k8 hb9 hbw8
  go_wp2_with fail
  refine (HY.out.told h b w9 (HX.out.tbelow _ _ HT.out hbw9) k9 (by omega)).mono ?_
  rintro e w10 ⟨rfl, hb10⟩
  rw [HB.out]
  have hbw10 := bnext hbw9 hb10
  clear k9 hb10 hbw9
  go_wp2_with fail
  refine (HX.out.sum q cq b w10 (HX.out.tbelow _ _ HT.out hbw10) (HQ.out.below hbw10) (by omega) hqn).mono ?_
  rintro e w11 ⟨rfl, hb11⟩
  rw [HB.out]
  have hbw11 := bnext hbw10 hb11
  clear hb11 hbw10
  go_wp2_with fail
  go_ret
  exact ⟨rfl, hbw11⟩
end Go.Proofs.YtohmhcglmaifpaaDoor.sha
