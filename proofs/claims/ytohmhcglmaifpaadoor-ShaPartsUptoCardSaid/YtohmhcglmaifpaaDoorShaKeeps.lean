/- ShaKeeps: the walk of the law, by what the program's calls answer. -/
import Derived.Test.YtohmhcglmaifpaaDoorSha8
import Derived.Test.YtohmhcglmaifpaaDoorR1Room
import Derived.Test.YtohmhcglmaifpaaDoorR1Kept
import Derived.Test.YtohmhcglmaifpaaDoorRows2
import Derived.Test.YtohmhcglmaifpaaDoorAfter
import Derived.Deep.RegionHeld3
namespace Go.Proofs.YtohmhcglmaifpaaDoor.sha
open Go.RowKit
open Go.Proofs.YtohmhcglmaifpaaDoor.oct Go.Proofs.YtohmhcglmaifpaaDoor.ref Go.Proofs.YtohmhcglmaifpaaDoor.rows
open Go.Lib (byteCells)

theorem wrap_next (c : UInt8) : IntKind.u8.wrap ((c.toNat : Int) + 1) = ((c + 1).toNat : Int) := by
  by_cases h : c.toNat = 255
  · obtain rfl : c = 255 := UInt8.toNat_inj.1 h
    decide
  · have := c.toNat_lt
    rw [wraps_u8 _ (by omega) (by omega), UInt8.toNat_add]
    have h1 : (1 : UInt8).toNat = 1 := rfl
    rw [h1, Nat.mod_eq_of_lt (by omega)]
    omega
theorem bytes_set (X : List UInt8) (i : Nat) (c : UInt8) : (byteCells X).set i (.int .u8 (c.toNat : Int)) = byteCells (X.set i c) := by simp [byteCells, List.map_set]

/-- what a region that draws holds to: behind this world, and a row as it was -/
theorem held_next {w0 W W' : World} {g : Nat} {D : List Value} (hb : Below W.heap.size W W') (h : Below w0.heap.size w0 W ∧ W.rangeAt g 0 D) : Below w0.heap.size w0 W' ∧ W'.rangeAt g 0 D :=
  ⟨bnext h.1 hb, fun j v hv => by
    have h1 := h.2 j v hv
    have h2 : W'.heap[g]? = W.heap[g]? := hb.block g (cell_lt h1)
    simpa [World.cell?, h2] using h1⟩
theorem held_alloc {w0 W : World} {g : Nat} {D : List Value} (h : Below w0.heap.size w0 W ∧ W.rangeAt g 0 D) (o : Obj) : Below w0.heap.size w0 (W.alloc o) ∧ (W.alloc o).rangeAt g 0 D :=
  held_next ((Below.refl _ _).alloc (Nat.le_refl _) o) h

theorem held_end {w w0 W : World} {g : Nat} {D : List Value} (hb : Below w.heap.size w w0) (h : Below w0.heap.size w0 W ∧ W.rangeAt g 0 D) : Ending.returned (.bool true) = .returned (.bool true) ∧ Below w.heap.size w W := ⟨rfl, bnext hb h.1⟩

set_option maxHeartbeats 2000000 in
theorem law_keeps_by {T : World → Prop} {Has : World → Nat → List UInt8 → Prop} {S : List UInt8 → List Value} {M : List UInt8 → List UInt8 → List Value}
    (tb : ∀ w w', T w → Below w.heap.size w w' → T w') (kp : ∀ w w' g L, Has w g L → w'.heap[g]? = w.heap[g]? → Has w' g L) (lt : ∀ w g L, Has w g L → g < w.heap.size)
    (ml : ∀ k l, (M k l).length = 32) (m1 : ∀ k l, ∀ v ∈ M k l, v.oneCell' = true)
    (es : ∀ l w, (binOp .eql 26 (.agg (S l).toArray) (.agg (S l).toArray)).run Tryd.prog w = .ok (.bool true) w)
    (em : ∀ k l w, (binOp .eql 26 (.agg (M k l).toArray) (.agg (M k l).toArray)).run Tryd.prog w = .ok (.bool true) w)
    (kn : ∀ w, T w → Calls Tryd.prog 11 #[] w fun e w' => e = .returned (.bool true) ∧ Below w.heap.size w w')
    (nw : ∀ w, T w → Calls Tryd.prog 18 #[] w fun e w' => ∃ g, e = .returned (.pointer (some ⟨g, 0, none⟩)) ∧ w.heap.size ≤ g ∧ Has w' g [] ∧ Below w.heap.size w w')
    (wr : ∀ g L p cp l w, T w → Has w g L → In8 w p l → (0 < l.length → ∀ a, p = some a → a.block ≠ g) → Rm p cp l.length → L.length + l.length ≤ 140737488351232 →
      Calls Tryd.prog 19 #[.pointer (some ⟨g, 0, none⟩), .slice p l.length cp] w fun e w' => (∃ v, e = .returned v) ∧ Has w' g (L ++ l) ∧ w.grownBy w' (some g))
    (to : ∀ g L w, T w → Has w g L → L.length ≤ 140737488351232 → Calls Tryd.prog 21 #[.pointer (some ⟨g, 0, none⟩)] w fun e w' => e = .returned (.agg (S L).toArray) ∧ Below w.heap.size w w')
    (su : ∀ p cp l w, T w → In8 w p l → l.length ≤ 140737488351232 → Rm p cp l.length → Calls Tryd.prog 13 #[.slice p l.length cp] w fun e w' => e = .returned (.agg (S l).toArray) ∧ Below w.heap.size w w')
    (ma : ∀ p cp k q cq l w g, T w → In8 w p k → k.length ≤ 140737488351232 → Rm p cp k.length → In8 w q l → l.length ≤ 140737488351232 → Rm q cq l.length → w.cell? ⟨g, 0, none⟩ = some (.slice q l.length cq) →
      Calls Tryd.prog 15 #[.slice p k.length cp, .slice (some ⟨g, 0, none⟩) 1 1] w fun e w' => e = .returned (.agg (M k l).toArray) ∧ Below w.heap.size w w')
    (p : Option Addr) (cp : Nat) (k : List UInt8) (q : Option Addr) (cq : Nat) (l : List UInt8) (w : World)
    (hp : In8 w p k) (hk : k.length ≤ 140737488351232) (hpn : Rm p cp k.length) (hq : In8 w q l) (hl : l.length ≤ 140737488351232) (hqn : Rm q cq l.length) (ht : T w) :
    Calls Tryd.prog 10 #[.slice p k.length cp, .slice q l.length cq] w fun e w' => e = .returned (.bool true) ∧ Below w.heap.size w w' := by
  have HP := Lib.hid hp
  have HQ := Lib.hid hq
  have HT := Lib.hid ht
  have TB := Lib.hid tb
  have KP := Lib.hid kp
  have LT := Lib.hid lt
  have ML := Lib.hid ml
  have M1 := Lib.hid m1
  have KN := Lib.hid kn
  have ES := Lib.hid es
  have EM := Lib.hid em
  have NW := Lib.hid nw
  have WR := Lib.hid wr
  have TO := Lib.hid to
  have SU := Lib.hid su
  have MA := Lib.hid ma
  clear hp hq ht tb kp lt ml m1 es em kn nw wr to su ma
  go_enter Tryd.func10, Tryd.ntmps10
  go_wp2_with fail
  refine (room_c p cp k w HP.out hk).mono ?_
  rintro e w1 ⟨rfl, hR1, hb1⟩
  have q1 := HQ.out.below hb1
  go_wp2_with fail
  refine (room_c q cq l w1 q1 hl).mono ?_
  rintro e w2 ⟨rfl, hR2, hb2⟩
  have hbw2 := bnext hb1 hb2
  have hS := hR1.below hb2
  have hz1 : w.heap.size < w1.heap.size := hR1.lt
  have hz2 : w1.heap.size < w2.heap.size := hR2.lt
  clear hR1 hb1 hb2 q1
  go_wp2_with fail
  refine (NW.out w2 (TB.out _ _ HT.out hbw2)).mono ?_
  rintro e w3 ⟨g, rfl, hg, h3, hb3⟩
  have hS3 := hS.below hb3
  have hR3 := hR2.below hb3
  have hbw3 := bnext hbw2 hb3
  clear hS hR2 hb3 hbw2
  go_wp2_with fail
  refine (WR.out g [] _ (l.length + 3) l w3 (TB.out _ _ HT.out hbw3) h3 (in8_blk hR3) (fun _ a ha => by cases ha; show w1.heap.size ≠ g; omega) ⟨(fun h => by cases h), (by omega)⟩ (by simp; omega)).mono ?_
  rintro e w4 ⟨⟨v4, rfl⟩, h4, hg4⟩
  rw [List.nil_append] at h4
  have hS4 : Blk w4 w.heap.size 5 (byteCells k ++ seven 3) := (hg4.block _ hS3.lt (fun e => by cases e; omega)).trans hS3
  have hR4 : Blk w4 w1.heap.size 5 (byteCells l ++ seven 3) := (hg4.block _ hR3.lt (fun e => by cases e; omega)).trans hR3
  have hbw4 : Below w.heap.size w w4 := hbw3.grown hg4 hbw3.size (fun k hk => by cases hk; omega)
  have ht4 := TB.out _ _ HT.out hbw4
  have hz4 := hg4.size
  clear hS3 hR3 h3 hg4 hbw3
  have hal := (Below.refl w4.heap.size w4).alloc (Nat.le_refl _) (.cells #[.slice (some ⟨w1.heap.size, 0, none⟩) l.length (l.length + 3)] 22)
  have hS5 := Lib.hid (hS4.below hal)
  have hR5 := Lib.hid (hR4.below hal)
  have h5 := Lib.hid (KP.out _ _ g l h4 (hal.block g (LT.out _ _ _ h4)))
  have hbw5 := Lib.hid (bnext hbw4 hal)
  have HT5 := Lib.hid (TB.out _ _ ht4 hal)
  clear hS4 hR4 h4 hbw4 ht4 hal
  go_wp2_with fail
  refine (MA.out _ (k.length + 3) k _ (l.length + 3) l _ w4.heap.size HT5.out (in8_blk hS5.out) hk ⟨(fun h => by cases h), (by omega)⟩ (in8_blk hR5.out) hl ⟨(fun h => by cases h), (by omega)⟩ (by rw [World.cell?_alloc_at _ _ _ _ rfl]; rfl)).mono ?_
  rintro e w6 ⟨rfl, hb6⟩
  have hml := ML.out k l
  have hm1 := Lib.hid (M1.out k l)
  obtain ⟨D, hD⟩ : ∃ D, M k l = D := ⟨_, rfl⟩
  rw [hD] at hml hm1 ⊢
  have HD := Lib.hid hD
  have HML := Lib.hid hml
  have hS6 := Lib.hid (hS5.out.below hb6)
  have hR6 := Lib.hid (hR5.out.below hb6)
  have h6 := Lib.hid (KP.out _ _ g l h5.out (hb6.block g (LT.out _ _ _ h5.out)))
  have hbw6 := Lib.hid (bnext hbw5.out hb6)
  have HT6 := Lib.hid (TB.out _ _ HT5.out hb6)
  clear hb6 hS5 hR5 h5 hbw5 HT5 hml hD
  have hz6 : w1.heap.size < w6.heap.size := hR6.out.lt
  have hdi : Hid ((Tryd.prog.info? 26).map (·.size) = some D.length) := by show _ = _; rw [HML.out]; kernel_rfl
  have HDL2 : Hid (32 = D.length) := HML.out.symm
  go_wp2_with ((with_reducible refine wpList_store_new rfl 26 (.tmp 8) (.tmp 21) rfl D 26 _ rfl rfl hdi.out (Eq.trans (by decide) HDL2.out) hm1.out ?_); intro w7 hD7 hSb hz; clear hz; have hB7 := Lib.hid hD7; have hS7 := Lib.hid (hS6.out.below hSb); have hR7 := Lib.hid (hR6.out.below hSb); have h7 := Lib.hid (KP.out _ _ g l h6.out (hSb.block g (LT.out _ _ _ h6.out))); have hbw7 := Lib.hid (bnext hbw6.out hSb); have HT7 := Lib.hid (TB.out _ _ HT6.out hSb); have hz7 := hSb.size; clear hD7 hSb)
  refine (kept_c _ _ _ k w7 hS7.out (HP.out.below hbw7.out) hk).mono ?_
  rintro e w8 ⟨rfl, nd8, hw8⟩
  have hk8 : Below w7.heap.size w7 w8 := by rw [hw8]; exact below_drewN (Below.refl _ _) nd8
  clear hw8
  have hB8 := Lib.hid (hB7.out.below hk8)
  have hS8 := Lib.hid (hS7.out.below hk8)
  have hR8 := Lib.hid (hR7.out.below hk8)
  have h8 := Lib.hid (KP.out _ _ g l h7.out (hk8.block g (LT.out _ _ _ h7.out)))
  have hbw8 := Lib.hid (bnext hbw7.out hk8)
  have HT8 := Lib.hid (TB.out _ _ HT7.out hk8)
  clear hB7 hS7 hR7 h7 hbw7 HT7 hk8
  go_wp2_with fail
  refine (kept_c _ _ _ l w8 hR8.out (HQ.out.below hbw8.out) hl).mono ?_
  rintro e w9 ⟨rfl, nd9, hw9⟩
  have hk9 : Below w8.heap.size w8 w9 := by rw [hw9]; exact below_drewN (Below.refl _ _) nd9
  clear hw9
  have hB9 := Lib.hid (hB8.out.below hk9)
  have hS9 := Lib.hid (hS8.out.below hk9)
  have hR9 := Lib.hid (hR8.out.below hk9)
  have h9 := Lib.hid (KP.out _ _ g l h8.out (hk9.block g (LT.out _ _ _ h8.out)))
  have hbw9 := Lib.hid (bnext hbw8.out hk9)
  have HT9 := Lib.hid (TB.out _ _ HT8.out hk9)
  clear hB8 hS8 hR8 h8 hbw8 HT8 hk9
  go_wp2_with fail
  go_loopg [9] l.length (fun gk s9 wy => ∃ (i : Nat) (X : List UInt8), i + gk = l.length ∧ s9 = .int .i64 i ∧ X.length = l.length + 3 ∧ Blk wy w1.heap.size 5 (byteCells X) ∧ Blk wy w6.heap.size 26 D ∧ Has wy g l ∧ Below w.heap.size w wy)
  case atStart => exact ⟨0, l ++ [77, 77, 77], by omega, rfl, by simp, by have h := hR9.out; rwa [show byteCells l ++ seven 3 = byteCells (l ++ [77, 77, 77]) from by rw [byteCells_append]; rfl] at h, hB9.out, h9.out, hbw9.out⟩
  case round =>
    clear hB9 hS9 hR9 h9 hbw9 HT9
    obtain ⟨i, X, hig, rfl, hXl, hX, hB, hh, hbx⟩ := hrel
    have HX := Lib.hid hX
    have HB := Lib.hid hB
    have HH := Lib.hid hh
    have HBX := Lib.hid hbx
    clear hX hB hh hbx
    cases gk with
    | zero =>
      obtain rfl : i = l.length := by omega
      go_wp2_with fail
      have kE1 := fun w => EM.out k l w
      have kE2 := fun w => ES.out l w
      rw [HD.out] at kE1
      obtain ⟨B, hSB⟩ : ∃ B, (S l).toArray = B := ⟨_, rfl⟩
      rw [hSB] at kE2
      have HSB := Lib.hid hSB
      clear hSB
      have hun := Tryd.underlying26
      have hin := hdi.out
      have hd0 := (Below.refl wr.heap.size wr).drew
      have hr0 : wr.drew.rangeAt w6.heap.size 0 D := fun j v hv => by
        have h := (HB.out.below hd0).cell j
        rw [hv] at h
        simpa using h
      have HF : Hid (∀ W, (Below wr.heap.size wr W ∧ W.rangeAt w6.heap.size 0 D) → T W ∧ In8 W p k ∧ In8 W q l ∧ Has W g l) := fun W h =>
        have hb := bnext HBX.out h.1
        ⟨TB.out _ _ HT.out hb, HP.out.below hb, HQ.out.below hb, KP.out _ _ g l HH.out (h.1.block g (LT.out _ _ _ HH.out))⟩
      go_region_held3 (fun W => Below wr.heap.size wr W ∧ W.rangeAt w6.heap.size 0 D) (first | exact ⟨hd0, hr0⟩ | exact held_next (by assumption) (by assumption) | exact held_alloc (by assumption) _) (first
        | (go_at_call 11; refine (KN.out _ (HF.out _ (by assumption)).1).mono ?_; rintro e wk ⟨rfl, hbk⟩)
        | (go_at_call 21; refine (TO.out g l _ (HF.out _ (by assumption)).1 (HF.out _ (by assumption)).2.2.2 hl).mono ?_; rintro e wk ⟨rfl, hbk⟩; rw [HSB.out])
        | (go_at_call 13; refine (SU.out q cq l _ (HF.out _ (by assumption)).1 (HF.out _ (by assumption)).2.2.1 hl hqn).mono ?_; rintro e wk ⟨rfl, hbk⟩; rw [HSB.out])
        | (go_at_call 15; refine (MA.out p cp k q cq l _ _ (HF.out _ (by assumption)).1 (HF.out _ (by assumption)).2.1 hk hpn (HF.out _ (by assumption)).2.2.1 hl hqn (by rw [World.cell?_alloc_at _ _ _ _ rfl]; rfl)).mono ?_; rintro e wk ⟨rfl, hbk⟩; rw [HD.out]))
      all_goals
        go_wp2_with fail
        go_ret
        exact held_end HBX.out (by assumption)
    | succ gk =>
      have hc := HX.out.cell i
      have hf := HX.out.frozen i
      have hiX : i < X.length := by omega
      obtain ⟨c, hcX⟩ : ∃ c, X[i]? = some c := ⟨_, List.getElem?_eq_getElem hiX⟩
      rw [show (byteCells X)[i]? = some (.int .u8 (c.toNat : Int)) from by simp [byteCells, hcX]] at hc
      have hW := wrap_next c
      have hset := HX.out.set i (.int .u8 ((c + 1).toNat : Int))
      rw [bytes_set] at hset
      have HSET := Lib.hid hset
      have HXL := Lib.hid hXl
      have hil : i < l.length := by omega
      clear hset hXl hcX hiX
      go_wp2_with fail
      go_roundg gk
      case measure => omega
      case rel =>
        refine ⟨i + 1, X.set i (c + 1), by omega, by go_num, by rw [List.length_set]; exact HXL.out, HSET.out, HB.out.set_other (by omega) _ _, KP.out _ _ g l HH.out (Below.heap_setCell _ _ _ _ (by show g ≠ w1.heap.size; omega)), HBX.out.setCell (by show w.heap.size ≤ w1.heap.size; omega) _⟩
end Go.Proofs.YtohmhcglmaifpaaDoor.sha
