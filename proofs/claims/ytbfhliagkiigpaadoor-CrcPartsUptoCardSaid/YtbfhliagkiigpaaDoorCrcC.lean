/- CrcTogether: the walk of the law. Conditions: the table of sixteen sums holds what the program's text lays; rows within the reach. -/
import Derived.Test.YtbfhliagkiigpaaDoorCrc2
import Derived.Test.YtbfhliagkiigpaaDoorAfter
import Derived.Deep.RegionWith
import Derived.Deep.RegionLaw
import Derived.Deep.AppendLies
import Derived.BigRegion
import Derived.StillTailTactics
namespace Go.Proofs.YtbfhliagkiigpaaDoor.crcC
open Go.RowKit
open Go.Proofs.YtbfhliagkiigpaaDoor.oct Go.Proofs.YtbfhliagkiigpaaDoor.ref Go.Proofs.YtbfhliagkiigpaaDoor.crc
open Go.Lib (byteCells)

def z3 (l m n : List UInt8) : List UInt8 := zx (zx l m) n
theorem z3_len {l m n : List UInt8} {k : Nat} (h1 : l.length = k) (h2 : m.length = k) (h3 : n.length = k) : (z3 l m n).length = k := by simp [z3, zx, h1, h2, h3]
theorem z3_take {l m n : List UInt8} {k : Nat} (h1 : k < l.length) (h2 : k < m.length) (h3 : k < n.length) :
    z3 (l.take (k + 1)) (m.take (k + 1)) (n.take (k + 1)) = z3 (l.take k) (m.take k) (n.take k) ++ [l[k] ^^^ m[k] ^^^ n[k]] := by
  rw [List.take_succ_eq_append_getElem h1, List.take_succ_eq_append_getElem h2, List.take_succ_eq_append_getElem h3]
  unfold z3 zx
  rw [List.zipWith_append (by simp; omega), List.zipWith_append (by simp; omega)]
  rfl
theorem xor3_val (a b c : UInt8) : bits .xor .u8 (bits .xor .u8 (a.toNat : Int) (b.toNat : Int)) (c.toNat : Int) = ((a ^^^ b ^^^ c).toNat : Int) := by
  rw [xor_u8, xor_u8]
theorem in8_take {w : World} {p : Option Addr} {l : List UInt8} (h : In8 w p l) (n : Nat) : In8 w p (l.take n) := by
  intro hl
  rw [List.length_take] at hl
  obtain ⟨b, o, hp, hc⟩ := h (by omega)
  refine ⟨b, o, hp, fun i hi => ?_⟩
  rw [List.length_take] at hi
  rw [hc i (by omega)]
  simp [List.getD, show i < n by omega]
set_option maxHeartbeats 4000000 in
theorem together (p : Option Addr) (cp : Nat) (l : List UInt8) (q : Option Addr) (cq : Nat) (m : List UInt8) (r : Option Addr) (cr : Nat) (n : List UInt8) (w : World)
    (hp : In8 w p l) (hl : l.length ≤ 140737488355328) (hlc : l.length ≤ cp) (hq : In8 w q m) (hm : m.length ≤ 140737488355328) (hmc : m.length ≤ cq) (hr : In8 w r n) (hn : n.length ≤ 140737488355328) (hnc : n.length ≤ cr) (ht : Tab w) :
    Calls Tryd.prog 6 #[.slice p l.length cp, .slice q m.length cq, .slice r n.length cr] w fun e w' => e = .returned (.bool true) ∧ Below w.heap.size w w' := by
  obtain ⟨j0, hj, hy0, hy1, hy2⟩ := info_parts infoByte
  have HP := Lib.hid hp
  have HQ := Lib.hid hq
  have HR := Lib.hid hr
  have HT := Lib.hid ht
  clear hp hq hr ht
  obtain ⟨N, hN⟩ : ∃ N, N = min (min l.length m.length) n.length := ⟨_, rfl⟩
  have hc : (m.length < l.length ∧ n.length < m.length ∧ N = n.length) ∨ (m.length < l.length ∧ ¬ n.length < m.length ∧ N = m.length) ∨ (¬ m.length < l.length ∧ n.length < l.length ∧ N = n.length) ∨ (¬ m.length < l.length ∧ ¬ n.length < l.length ∧ N = l.length) := by omega
  have b1 : N ≤ l.length := by omega
  have b2 : N ≤ m.length := by omega
  have b3 : N ≤ n.length := by omega
  have HL : Hid ((l.take N).length = N ∧ (m.take N).length = N ∧ (n.take N).length = N) := ⟨by rw [List.length_take]; omega, by rw [List.length_take]; omega, by rw [List.length_take]; omega⟩
  have HE : Hid (bits .xor .u32 (bits .xor .u32 (more 0 (l.take N) : Nat) (more 0 (m.take N) : Nat)) (more 0 (n.take N) : Nat) = (more 0 (z3 (l.take N) (m.take N) (n.take N)) : Nat)) := by
    show _ = _
    have h1 := more_lt (s := 0) (by decide) (l.take N)
    have h2 := more_lt (s := 0) (by decide) (m.take N)
    have h3 := more_lt (s := 0) (by decide) (n.take N)
    rw [xor_u32 _ _ h1 h2, xor_u32 _ _ (Nat.xor_lt_two_pow h1 h2) h3]
    unfold z3
    rw [more_three _ _ _ (HL.out.1.trans HL.out.2.1.symm) (HL.out.1.trans HL.out.2.2.symm)]
  clear hN
  rcases hc with ⟨x1, x2, x3⟩ | ⟨x1, x2, x3⟩ | ⟨x1, x2, x3⟩ | ⟨x1, x2, x3⟩
  all_goals
    go_enter Tryd.func6, Tryd.ntmps6
    go_wp2_with fail
    go_loopg [8, 9] N (fun g s8 s9 wx => ∃ k : Nat, k + g = N ∧ s9 = .int .i64 k ∧ wx.ownsRow w.heap.size 5 1 s8 k (byteCells (z3 (l.take k) (m.take k) (n.take k))) ∧ Below w.heap.size w wx)
  all_goals first
    | (case atStart => exact ⟨0, by omega, rfl, World.ownsRow_nil _ _ _ _, Below.refl _ _⟩)
    | skip
  all_goals
    obtain ⟨k, hkg, rfl, hrow, hbx⟩ := hrel
    rcases gk with _ | g
    · obtain rfl : k = N := by omega
      have G1 : Hid (∀ w', In8 w' p l → In8 w' p (l.take k)) := fun w' h => in8_take h k
      have G2 : Hid (∀ w', In8 w' q m → In8 w' q (m.take k)) := fun w' h => in8_take h k
      have G3 : Hid (∀ w', In8 w' r n → In8 w' r (n.take k)) := fun w' h => in8_take h k
      generalize l.take k = LL at G1 HL HE hrow
      generalize m.take k = MM at G2 HL HE hrow
      generalize n.take k = NN at G3 HL HE hrow
      subst x3
      clear x1 x2
      obtain ⟨pA, cA, rfl, h8⟩ := own_in8' hrow
      have hZl := z3_len HL.out.1 HL.out.2.1 HL.out.2.2
      generalize hZ : z3 LL MM NN = Z at hZl h8 HE ⊢
      have HF : Hid (∀ x : After wr, Tab x.v ∧ In8 x.v pA Z ∧ In8 x.v p LL ∧ In8 x.v q MM ∧ In8 x.v r NN) := fun x =>
        ⟨HT.out.below (bnext hbx x.below), In8.below h8 x.below, G1.out _ (HP.out.below (bnext hbx x.below)), G2.out _ (HQ.out.below (bnext hbx x.below)), G3.out _ (HR.out.below (bnext hbx x.below))⟩
      have C0 := Lib.hid (fun x : After wr => after_of x (known_c x.v (HF.out x).1))
      have C1 := Lib.hid (fun x : After wr => after_same x (sumN_c pA cA _ Z x.v hZl (HF.out x).2.1 (HF.out x).1 (by omega)))
      have C2 := Lib.hid (fun x : After wr => after_same x (sumN_c p cp _ LL x.v HL.out.1 (HF.out x).2.2.1 (HF.out x).1 (by omega)))
      have C3 := Lib.hid (fun x : After wr => after_same x (sumN_c q cq _ MM x.v HL.out.2.1 (HF.out x).2.2.2.1 (HF.out x).1 (by omega)))
      have C4 := Lib.hid (fun x : After wr => after_same x (sumN_c r cr _ NN x.v HL.out.2.2 (HF.out x).2.2.2.2 (HF.out x).1 (by omega)))
      have HBX := Lib.hid hbx
      have HEO := HE.out
      clear hrow hbx hZ h8
      go_wp2_with fail
      refine wp_region_after (by kernel_rfl) (by kernel_rfl) ?_
      repeat (go_big_quiet_step (first
        | (rename_i x; go_at_call 8; with_reducible exact C0.out x)
        | (rename_i x; go_at_call 11; with_reducible exact C1.out x)
        | (rename_i x; go_at_call 11; with_reducible exact C2.out x)
        | (rename_i x; go_at_call 11; with_reducible exact C3.out x)
        | (rename_i x; go_at_call 11; with_reducible exact C4.out x)))
      refine wpQuiet_nil ?_
      intro x
      have hbz := bnext HBX.out x.below
      obtain ⟨wz, hwz⟩ : ∃ wz, x.v = wz := ⟨_, rfl⟩
      rw [hwz] at hbz ⊢
      go_wp2_with fail
      go_ret
      exact ⟨rfl, hbz⟩
    · have k1 : (k : Int) < (l.length : Int) := by omega
      have k2 : (k : Int) < (m.length : Int) := by omega
      have k3 : (k : Int) < (n.length : Int) := by omega
      have i1 : k < l.length := by omega
      have i2 : k < m.length := by omega
      have i3 : k < n.length := by omega
      have hX := HP.out.below hbx
      have hY := HQ.out.below hbx
      have hZ := HR.out.below hbx
      obtain ⟨bx, ox, rfl, cx⟩ := hX.at (by omega)
      obtain ⟨by', oy, rfl, cy⟩ := hY.at (by omega)
      obtain ⟨bz, oz, rfl, cz⟩ := hZ.at (by omega)
      have c1 := cx k i1
      have c2 := cy k i2
      have c3 := cz k i3
      simp only [List.getD, List.getElem?_eq_getElem i1, List.getElem?_eq_getElem i2, List.getElem?_eq_getElem i3, Option.getD_some] at c1 c2 c3
      have HV := Lib.hid (z3_take i1 i2 i3)
      have e1 := xor3_val l[k] m[k] n[k]
      obtain ⟨z, hz⟩ : ∃ z, l[k] ^^^ m[k] ^^^ n[k] = z := ⟨_, rfl⟩
      rw [hz] at HV e1
      clear cx cy cz hX hY hZ hz
      go_wp2_with fail
      go_region_law (refine step_append_lies _ rfl (.tmp 22) (.tmp 37) 23 rfl w.heap.size 5 j0 (.int .u8 0) 1 1 Tryd.underlying23 hj hy0 hy1 hy2 rfl (by decide) _ _ _ rfl (hrow.alloc _).drew ⟨wr.heap.size, 0, none⟩ 1 1 [.int .u8 (z.toNat : Int)] rfl rfl (fun j u hu => cell_one_new wr _ _ j u hu) (fun x hx => by simp at hx; subst hx; rfl) (by decide) (by unfold maxLen; omega) (by omega) (by have := hbx.size; simp; omega) _ rfl ?_; intro g' cap w1 hown' hgrow _ _)
      all_goals go_wp2_with fail
      all_goals go_roundg g
      all_goals first
        | (case measure => omega)
        | skip
      all_goals (refine ⟨k + 1, by omega, by go_num, ?_, ?_⟩)
      all_goals first
        | (rw [HV.out, byteCells_snoc]; exact hown')
        | exact ((hbx.alloc hbx.size _).drew).grown hgrow (by have := hbx.size; simp; omega) (fun q hq => (hrow.lt q hq).1)
end Go.Proofs.YtbfhliagkiigpaaDoor.crcC
