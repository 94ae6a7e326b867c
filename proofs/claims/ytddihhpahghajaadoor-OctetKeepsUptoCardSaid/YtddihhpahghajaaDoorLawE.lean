/- OctetKeeps: the walk of the law (rows up to 1048576 bytes). -/
import Derived.Test.YtddihhpahghajaaDoorRef8
namespace Go.Proofs.YtddihhpahghajaaDoor.lawE
open Go.RowKit
open Go.Proofs.YtddihhpahghajaaDoor.pl Go.Proofs.YtddihhpahghajaaDoor.oct Go.Proofs.YtddihhpahghajaaDoor.ref
open Go.Lib (byteCells)

/-- a row that lies between two heights of the heap -/
structure Lies (x : Lst) (w : World) (lo hi : Nat) : Prop where
  ok : x.ok
  at_ : ∀ g, x.blk = some g → lo ≤ g ∧ g < hi ∧ ∃ X, Blk w g 5 X ∧ X.length = x.cap
theorem Lies.below {x : Lst} {w w' : World} {lo hi : Nat} (h : Lies x w lo hi) (hb : Below w.heap.size w w') : Lies x w' lo hi :=
  Lies.mk h.ok fun g hg => (h.at_ g hg).imp id fun k => k.imp id fun ⟨X, h3, h4⟩ => ⟨X, h3.below hb, h4⟩
theorem lies_of_own {w : World} {B n : Nat} {v : Value} {xs : List Value} (h : w.ownsRow B 5 1 v n xs) : ∃ p c x, v = .slice p n c ∧ Lst.val x = .slice p n c ∧ Lies x w B w.heap.size := by
  rcases h.2 with ⟨rfl, rfl⟩ | ⟨g, cap, cur, rfl, hB, hg, hn, hm, hs, _⟩
  · exact ⟨none, 0, ⟨none, 0, 0⟩, rfl, rfl, Lies.mk (by refine ⟨fun _ => ⟨rfl, rfl⟩, Nat.le_refl _, Nat.zero_le _⟩) (fun g hg => by cases hg)⟩
  · refine ⟨some ⟨g, 0, none⟩, cap, ⟨some g, n, cap⟩, rfl, rfl, Lies.mk (by refine ⟨(fun h => by cases h), hn, hm⟩) (fun g' hg' => ?_)⟩
    cases hg'
    refine ⟨hB, (Array.getElem?_eq_some_iff.1 hg).1, cur.toList, ?_, by rw [Array.length_toList, hs, Nat.mul_one]⟩
    unfold Blk; rw [hg]

theorem hitL {T : List UInt8 → List UInt8} {o s : List UInt8} {w : World} {e : Ending} {w' : World} (hT : ∀ a b, T a = T b → a = b) (ho : T o = s) (h : ReadT T s w e w') :
    ∃ p c x, e = .returned (.tuple #[.slice p o.length c, .int .i64 0]) ∧ Lst.val x = .slice p o.length c ∧ Lies x w' w.heap.size w'.heap.size ∧ Below w.heap.size w w' := by
  obtain ⟨v, h1, h2, h3⟩ := h.hit hT ho
  obtain ⟨p, c, x, rfl, h4, h5⟩ := lies_of_own h2
  exact ⟨p, c, x, h1, h4, h5, h3⟩

theorem split5 {x1 x2 x3 x4 x5 : Lst} {w : World} {a0 b0 a1 b1 a2 b2 a3 b3 a4 b4 : Nat} (h5 : Lies x5 w a0 b0) (h1 : Lies x1 w a1 b1) (h2 : Lies x2 w a2 b2) (h3 : Lies x3 w a3 b3) (h4 : Lies x4 w a4 b4)
    (e1 : b0 ≤ a1) (e2 : b1 ≤ a2) (e3 : b2 ≤ a3) (e4 : b3 ≤ a4) (f1 : a1 ≤ b1) (f2 : a2 ≤ b2) (f3 : a3 ≤ b3) : Split [x1, x2, x3, x4, x5] := by
  intro i j x y g hi hj hx hy
  have k : ∀ (n : Nat) (z : Lst), [x1, x2, x3, x4, x5][n]? = some z → z.blk = some g → (n = 0 ∧ a1 ≤ g ∧ g < b1) ∨ (n = 1 ∧ a2 ≤ g ∧ g < b2) ∨ (n = 2 ∧ a3 ≤ g ∧ g < b3) ∨ (n = 3 ∧ a4 ≤ g ∧ g < b4) ∨ (n = 4 ∧ a0 ≤ g ∧ g < b0) := by
    intro n z hz hg
    match n, hz with
    | 0, hz => simp at hz; subst hz; have := h1.at_ g hg; exact Or.inl ⟨rfl, this.1, this.2.1⟩
    | 1, hz => simp at hz; subst hz; have := h2.at_ g hg; exact Or.inr (Or.inl ⟨rfl, this.1, this.2.1⟩)
    | 2, hz => simp at hz; subst hz; have := h3.at_ g hg; exact Or.inr (Or.inr (Or.inl ⟨rfl, this.1, this.2.1⟩))
    | 3, hz => simp at hz; subst hz; have := h4.at_ g hg; exact Or.inr (Or.inr (Or.inr (Or.inl ⟨rfl, this.1, this.2.1⟩)))
    | 4, hz => simp at hz; subst hz; have := h5.at_ g hg; exact Or.inr (Or.inr (Or.inr (Or.inr ⟨rfl, this.1, this.2.1⟩)))
    | n + 5, hz => simp at hz
  have ki := k i x hi hx
  have kj := k j y hj hy
  omega
theorem over5 {x1 x2 x3 x4 x5 : Lst} {w : World} {a0 b0 a1 b1 a2 b2 a3 b3 a4 b4 : Nat} (h5 : Lies x5 w a0 b0) (h1 : Lies x1 w a1 b1) (h2 : Lies x2 w a2 b2) (h3 : Lies x3 w a3 b3) (h4 : Lies x4 w a4 b4) : Over w [x1, x2, x3, x4, x5] 0 := by
  intro n z g hz hg
  match n, hz with
  | 0, hz => simp at hz; subst hz; obtain ⟨_, _, X, hX⟩ := h1.at_ g hg; exact ⟨X, hX.1, hX.2, fun h => by omega⟩
  | 1, hz => simp at hz; subst hz; obtain ⟨_, _, X, hX⟩ := h2.at_ g hg; exact ⟨X, hX.1, hX.2, fun h => by omega⟩
  | 2, hz => simp at hz; subst hz; obtain ⟨_, _, X, hX⟩ := h3.at_ g hg; exact ⟨X, hX.1, hX.2, fun h => by omega⟩
  | 3, hz => simp at hz; subst hz; obtain ⟨_, _, X, hX⟩ := h4.at_ g hg; exact ⟨X, hX.1, hX.2, fun h => by omega⟩
  | 4, hz => simp at hz; subst hz; obtain ⟨_, _, X, hX⟩ := h5.at_ g hg; exact ⟨X, hX.1, hX.2, fun h => by omega⟩
  | n + 5, hz => simp at hz

set_option maxHeartbeats 2000000 in
theorem keeps (p : Option Addr) (cp : Nat) (l : List UInt8) (w : World) (hp : In8 w p l) (hl : l.length ≤ 1048576) :
    Calls Tryd.prog 14 #[.slice p l.length cp] w fun e w' => e = .returned (.bool true) ∧ Below w.heap.size w w' := by
  have HP := Lib.hid hp
  clear hp
  go_enter Tryd.func14, Tryd.ntmps14
  go_wp2_with fail
  refine (room_c p cp l _ HP.out hl).mono ?_
  rintro e w1 ⟨rfl, hR1, hb1⟩
  go_wp2_with fail
  refine (hex_c _ _ l _ (in8_blk hR1) (by omega)).mono ?_
  rintro e w2 ⟨rfl, hb2⟩
  have hR2 := hR1.below hb2
  go_wp2_with fail
  refine (web_c _ _ l _ (in8_blk hR2) (by omega)).mono ?_
  rintro e w3 ⟨rfl, hb3⟩
  have hR3 := hR2.below hb3
  go_wp2_with fail
  refine (bas_c _ _ l _ (in8_blk hR3) (by omega)).mono ?_
  rintro e w4 ⟨rfl, hb4⟩
  have hR4 := hR3.below hb4
  have HS4 : Hid (w.heap.size + 1 ≤ w4.heap.size) := by have := hR4.lt; show _ ≤ _; omega
  have HB4 := Lib.hid (bnext (bnext (bnext hb1 hb2) hb3) hb4)
  clear hR1 hR2 hR3 hb1 hb2 hb3 hb4
  go_wp2_with fail
  refine ((unhex_c ⟨(hexT l).toArray⟩ w4 (by rw [size_mk, hexT_len]; omega)).mono fun _ _ h => hitL (fun _ _ => hexT_inj) rfl h).mono ?_
  rintro e w5 ⟨p1, c1, x1, rfl, v1, L1, hb5⟩
  have hR5 := hR4.below hb5
  go_wp2_with fail
  refine ((unweb_c ⟨(webT l).toArray⟩ w5 (by rw [size_mk, webT_len]; omega)).mono fun _ _ h => hitL (fun _ _ => webT_inj) rfl h).mono ?_
  rintro e w6 ⟨p2, c2, x2, rfl, v2, L2, hb6⟩
  have hR6 := hR5.below hb6
  have L1' := L1.below hb6
  go_wp2_with fail
  refine ((unbas_c ⟨(basT l).toArray⟩ w6 (by rw [size_mk, basT_len]; omega)).mono fun _ _ h => hitL (fun _ _ => basT_inj) rfl h).mono ?_
  rintro e w7 ⟨p3, c3, x3, rfl, v3, L3, hb7⟩
  have hR7 := hR6.below hb7
  have L1'' := L1'.below hb7
  have L2' := L2.below hb7
  go_wp2_with fail
  refine ((unbas_c ⟨(basT l).toArray⟩ w7 (by rw [size_mk, basT_len]; omega)).mono fun _ _ h => hitL (fun _ _ => basT_inj) rfl h).mono ?_
  rintro e w8 ⟨p4, c4, x4, rfl, v4, L4, hb8⟩
  have hR8 := hR7.below hb8
  have HB8 := Lib.hid (bnext (bnext (bnext (bnext HB4.out hb5) hb6) hb7) hb8)
  have HL8 : Hid (Lies x1 w8 w4.heap.size w5.heap.size ∧ Lies x2 w8 w5.heap.size w6.heap.size ∧ Lies x3 w8 w6.heap.size w7.heap.size ∧ Lies x4 w8 w7.heap.size w8.heap.size) := ⟨L1''.below hb8, L2'.below hb8, L3.below hb8, L4⟩
  have HZ : Hid (w4.heap.size ≤ w5.heap.size ∧ w5.heap.size ≤ w6.heap.size ∧ w6.heap.size ≤ w7.heap.size ∧ w7.heap.size ≤ w8.heap.size) := ⟨hb5.size, hb6.size, hb7.size, hb8.size⟩
  have HV : Hid (x1.val = .slice p1 l.length c1 ∧ x2.val = .slice p2 l.length c2 ∧ x3.val = .slice p3 l.length c3 ∧ x4.val = .slice p4 l.length c4) := ⟨v1, v2, v3, v4⟩
  clear hR4 hR5 hR6 hR7 L1 L1' L1'' L2 L2' L3 L4 hb5 hb6 hb7 hb8 v1 v2 v3 v4
  go_wp2_with fail
  refine (known_c _).mono ?_
  rintro e w9 ⟨rfl, hb9⟩
  have hR9 := hR8.below hb9
  have q9 := HP.out.below (bnext HB8.out hb9)
  go_wp2_with fail
  refine (same_c _ p _ cp l l _ (in8_blk hR9) q9 (by omega)).mono ?_
  rintro e w10 ⟨rfl, rfl⟩
  rw [show decide (l = l) = true from by simp]
  go_wp2_with fail
  refine (kept_c _ p cp l _ hR9 q9 hl).mono ?_
  rintro e w10 ⟨rfl, nd, rfl⟩
  go_wp2_with fail
  obtain ⟨M, W9, hM, hW⟩ : ∃ (M : List Value) (W9 : World), M = [.slice p1 l.length c1, .slice p2 l.length c2, .slice p3 l.length c3, .slice p4 l.length c4, .slice (some ⟨w.heap.size, 0, none⟩) l.length (l.length + 3)] ∧ W9 = (w9.drewN nd).alloc (.cells #[.slice p1 l.length c1, .slice p2 l.length c2, .slice p3 l.length c3, .slice p4 l.length c4, .slice (some ⟨w.heap.size, 0, none⟩) l.length (l.length + 3)] 22) := ⟨_, _, rfl, rfl⟩
  have bb : Below w9.heap.size w9 W9 := by rw [hW]; exact (below_drewN (Below.refl _ w9) nd).alloc (Nat.le_refl _) _
  have hBk : Blk W9 w9.heap.size 22 ([x1, x2, x3, x4, ⟨some w.heap.size, l.length, l.length + 3⟩].map Lst.val) := by
    have e : [x1, x2, x3, x4, ⟨some w.heap.size, l.length, l.length + 3⟩].map Lst.val = M := by
      rw [hM]
      simp only [List.map_cons, List.map_nil, HV.out.1, HV.out.2.1, HV.out.2.2.1, HV.out.2.2.2]
      rfl
    rw [e, hM, hW]
    exact heap_alloc_new (w9.drewN nd) _
  have k1 := (HL8.out.1.below hb9).below bb
  have k2 := (HL8.out.2.1.below hb9).below bb
  have k3 := (HL8.out.2.2.1.below hb9).below bb
  have k4 := (HL8.out.2.2.2.below hb9).below bb
  have hs4 := HS4.out
  obtain ⟨z1, z2, z3, z4⟩ := HZ.out
  have z9 := hb9.size
  have k5 : Lies ⟨some w.heap.size, l.length, l.length + 3⟩ W9 w.heap.size w4.heap.size :=
    Lies.mk (by refine ⟨(fun h => by cases h), (by simp), ?_⟩; unfold maxLen; simp; omega) fun g hg => by
      cases hg
      exact ⟨Nat.le_refl _, by omega, _, hR9.below bb, by simp [byteCells_len, seven]⟩
  have hall : ∀ x ∈ [x1, x2, x3, x4, (⟨some w.heap.size, l.length, l.length + 3⟩ : Lst)], ∃ a b, Lies x W9 a b ∧ w.heap.size ≤ a ∧ b ≤ w8.heap.size := by
    intro x hx
    simp only [List.mem_cons, List.not_mem_nil, or_false] at hx
    rcases hx with rfl | rfl | rfl | rfl | rfl
    · exact ⟨_, _, k1, by omega, by omega⟩
    · exact ⟨_, _, k2, by omega, by omega⟩
    · exact ⟨_, _, k3, by omega, by omega⟩
    · exact ⟨_, _, k4, by omega, by omega⟩
    · exact ⟨_, _, k5, by omega, by omega⟩
  have cA := apart_c w9.heap.size _ W9 rfl (fun x hx => by obtain ⟨a, b, h, _⟩ := hall x hx; exact h.ok) (split5 k5 k1 k2 k3 k4 (Nat.le_refl _) (Nat.le_refl _) (Nat.le_refl _) (Nat.le_refl _) z1 z2 z3) hBk (over5 k5 k1 k2 k3 k4) w.heap.size
    (fun x hx g hg => by obtain ⟨a, b, h, h1, h2⟩ := hall x hx; have := h.at_ g hg; omega)
  rw [hW] at cA
  have HE : Hid (Below w.heap.size w ((w9.drewN nd).alloc (.cells #[.slice p1 l.length c1, .slice p2 l.length c2, .slice p3 l.length c3, .slice p4 l.length c4, .slice (some ⟨w.heap.size, 0, none⟩) l.length (l.length + 3)] 22))) := by
    rw [hW] at bb
    exact bnext (bnext HB8.out hb9) bb
  refine cA.mono ?_
  rintro e w11 ⟨rfl, hb11⟩
  clear cA hM hW bb hBk k1 k2 k3 k4 k5 hall hs4 z1 z2 z3 z4 z9 hR8 hR9 q9 hb9
  go_wp2_with fail
  go_ret
  exact ⟨rfl, HE.out.trans hb11⟩
end Go.Proofs.YtddihhpahghajaaDoor.lawE
