/- The contract of the developers' Within (a range over a map, in whatever order). Lists of at most 4194304 texts. -/
import Derived.Test.YtcklbbbplbboaaaDoorScq4
import Derived.Maps.RangeWalk
import Derived.Laws.IdiomRangeMap
namespace Go.Proofs.YtcklbbbplbboaaaDoor.scp
open Go.RowKit
open Go.Proofs.YtcklbbbplbboaaaDoor.oct Go.Proofs.YtcklbbbplbboaaaDoor.ref Go.Proofs.YtcklbbbplbboaaaDoor.rows Go.Proofs.YtcklbbbplbboaaaDoor.rowg

theorem grown_of_below {w w' : World} (h : Below w.heap.size w w') : w.grownBy w' none := ⟨h.os, h.tape, h.output, h.size, fun i hi _ => h.block i hi⟩
/-- how far a range over a set has come: what is gone has been found -/
structure Gone (D : DataW Unit) (left : Lit → Bool) (B : List T) : Prop where
  sub : ∀ z, left z = true → Maps.has D z = true
  found : ∀ s : T, Maps.has D (.string s) = true → left (.string s) = false → s ∈ B
theorem gone_start (D : DataW Unit) (B : List T) : Gone D (Maps.has D) B := ⟨fun _ h => h, fun s h1 h2 => by rw [h1] at h2; cases h2⟩
theorem gone_step {D : DataW Unit} {left : Lit → Bool} {B : List T} {y : T} (h : Gone D left B) (hy : hasB B y = true) : Gone D (fun z => left z && !z.sameKey (.string y)) B :=
  ⟨fun z hz => by rw [Bool.and_eq_true] at hz; exact h.sub z hz.1, fun s h1 h2 => by
    by_cases e : s = y
    · subst e; exact (hasB_iff _ _).1 hy
    · refine h.found s h1 ?_
      have h3 : (Lit.string s).sameKey (.string y) = false := Maps.sameKey_ne (fun h4 => e (Lit.string.inj h4))
      rw [h3] at h2
      simpa using h2⟩
theorem gone_end {D : DataW Unit} {left : Lit → Bool} {A B : List T} (h : Gone D left B) (hs : IsSet D A) (hl : ∀ kl, left kl = false) : withinP A B = true :=
  (within_iff A B).2 fun x hx hw => h.found x ((hs x).2 ⟨hx, hw⟩) (hl _)
theorem gone_word {D : DataW Unit} {left : Lit → Bool} {A B : List T} {y : T} (h : Gone D left B) (hs : IsSet D A) (hl : left (.string y) = true) : y ∈ A ∧ wordB y = true := (hs y).1 (h.sub _ hl)
theorem gone_miss {A B : List T} {y : T} (h : y ∈ A ∧ wordB y = true) (hb : hasB B y = false) : withinP A B = false := by
  cases hw : withinP A B with
  | false => rfl
  | true => rw [(hasB_iff B y).2 ((within_iff A B).1 hw y h.1 h.2)] at hb; cases hb
set_option maxRecDepth 100000 in
set_option maxHeartbeats 8000000 in
theorem within_c (x y : Lst) (w : World) (hx : GoodL w x) (hy : GoodL w y) : Calls Tryd.prog 21 #[lval x, lval y] w fun e w' => e = .returned (.bool (withinP x.2.2 y.2.2)) ∧ Below w.heap.size w w' := by
  have HG := Lib.hid (gather1_c y w hy)
  have HX := Lib.hid hx
  obtain ⟨p, c, A⟩ := x
  obtain ⟨q, d, B⟩ := y
  unfold lval
  dsimp only at HG ⊢
  clear hx hy
  go_enter Tryd.func21, Tryd.ntmps21
  go_wp2_with fail
  refine HG.out.mono ?_
  rintro e w1 ⟨b1, rfl, hset1, hb1⟩
  have HG2 := Lib.hid (gather1_c (p, c, A) w1 (HX.out.below hb1))
  dsimp only at HG2
  have HB1 := Lib.hid hb1
  have HS1 := Lib.hid hset1
  clear hset1 hb1 HG HX
  go_wp2_with fail
  refine HG2.out.mono ?_
  rintro e w2 ⟨b2, rfl, hset2, hb2⟩
  have HB2 := Lib.hid (bnext HB1.out hb2)
  have HSB := Lib.hid (setM_below HS1.out hb2)
  obtain ⟨n, D, hom, hset⟩ := hset2
  have HOM := Lib.hid hom
  have HST := Lib.hid hset
  clear hom hset hb2 HG2 HS1 HB1
  go_wp2_with (first
    | (at_range; refine wpList_range_own _ rfl _ 42 rfl 9 48 skeyed Tryd.underlying42 (unitElem (H := Unit)) b2 n D rfl HOM.out ?_; intro w3 hrg3 hg3 hs3)
    | go_in)
  go_frame
  go_loopw [6] (fun _ wr => ∃ (left : Lit → Bool) (cnt : Nat), wr.ranges Tryd.prog 9 (unitElem (H := Unit)) b2 w2.heap.size n D left cnt ∧ Hid (Gone D left B) ∧ Hid (Below w2.heap.size w2 wr))
    (fun _ wr => wr.rangeLeft b2 w2.heap.size)
  case atStart => exact ⟨_, _, hrg3, gone_start D B, (Below.refl _ _).grown hg3 (Nat.le_refl _) (fun j hj => by cases hj)⟩
  case round =>
    obtain ⟨left, cnt, hrg, HGN, HB⟩ := hrel
    go_wp2_with (first
      | (at_next; refine wpList_next_ranges _ rfl _ rfl 9 skeyed (unitElem (H := Unit)) encStr (fun _ : Unit => Value.agg #[]) (fun key kl hk => by obtain ⟨x, hx, _⟩ := Go.Maps.keyOf_str Tryd.underlying9 hk; exact ⟨x, hx⟩) (fun v _ hv => ⟨(), (unitElem_inv hv).1⟩) b2 w2.heap.size n _ _ _ rfl hrg ?_ ?_)
      | go_in)
    · intro hc0 hl0
      have HR := Lib.hid (gone_end HGN.out HST.out hl0)
      clear hl0
      go_wp2
      go_ret
      exact ⟨ret_bool HR.out.symm, bnext HB2.out HB.out⟩
    · intro x kl yd yp w4 cnt4 hkey hlk hv hat hrg4 hlt hg4 hs4 hen
      obtain ⟨x', ex, rfl, _⟩ := Go.Maps.keyOf_str Tryd.underlying9 hkey
      obtain rfl : x = x' := Go.encStr_inj ex
      have HIN := Lib.hid (gone_word HGN.out HST.out hlk)
      have hb4 : Below w2.heap.size w2 w4 := HB.out.grown hg4 HB.out.size (fun j hj => by cases hj; exact Nat.le_refl _)
      have HB4 := Lib.hid hb4
      have HHS := Lib.hid (has_c b1 B x w4 (setM_below HSB.out hb4) HIN.out.2)
      have HSTEP := Lib.hid (fun h => gone_step (y := x) HGN.out h)
      have HMISS := Lib.hid (fun h => gone_miss (A := A) (B := B) HIN.out h)
      have HRG4 := Lib.hid hrg4
      have hl4 := hrg.left_eq
      clear hs4 hb4 hkey hlk hv hat hg4 ex hrg4
      cases hc : hasB B x <;> rw [hc] at HHS
      · have HR := Lib.hid (HMISS.out hc)
        clear hc HSTEP HMISS
        go_wp2_with (first
          | (go_at_call 32; refine HHS.out.mono ?_; rintro e w5 ⟨rfl, hb5⟩)
          | go_in)
        go_ret
        exact ⟨ret_bool HR.out.symm, bnext (bnext HB2.out HB4.out) hb5⟩
      · have HR := Lib.hid (HSTEP.out hc)
        clear hc HSTEP HMISS
        go_wp2_with (first
          | (go_at_call 32; refine HHS.out.mono ?_; rintro e w5 ⟨rfl, hb5⟩; have hrg5 := HRG4.out.kept (grown_of_below hb5) (by simp) (by simp); have HB5 := Lib.hid (bnext HB4.out hb5); clear hb5)
          | go_in)
        go_roundw
        case rel => exact ⟨_, cnt4, hrg5, HR, HB5⟩
        case measure => rw [hrg5.left_eq, hl4]; exact hlt
end Go.Proofs.YtcklbbbplbboaaaDoor.scp
