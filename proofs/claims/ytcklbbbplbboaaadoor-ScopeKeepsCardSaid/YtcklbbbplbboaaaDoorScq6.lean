/- The contracts of the developers' Meet, of its closure, of maps.DeleteFunc over a set of texts (whatever the order). Lists of at most 4194304 texts. -/
import Derived.Test.YtcklbbbplbboaaaDoorScq5
import Derived.Lib.SlMapFilter
namespace Go.Proofs.YtcklbbbplbboaaaDoor.scp
open Go.RowKit
open Go.Proofs.YtcklbbbplbboaaaDoor.oct Go.Proofs.YtcklbbbplbboaaaDoor.ref Go.Proofs.YtcklbbbplbboaaaDoor.rows Go.Proofs.YtcklbbbplbboaaaDoor.rowg

theorem setM_grown {w w' : World} {b c : Nat} {L : List T} (h : SetM w b L) (hg : w.grownBy w' (some c)) (hne : b ≠ c) : SetM w' b L := by
  obtain ⟨n, D, hom, hset⟩ := h
  have hl := hom.lt
  obtain ⟨es, clock, hh, F, hs, hD⟩ := hom
  exact ⟨n, D, ⟨es, clock, (hg.block b hl (by simpa using hne)).trans hh, F, hs, hD⟩, hset⟩
/-- what the closure of Meet says -/
def pdM (B : List T) (kl : Lit) (_ : DataW Unit) : Bool := !(hasB B (Go.strOf kl))
theorem meet_set {es : List (Lit × DataW Unit)} {A B : List T} (hs : IsSet (.map es) A) : IsSet (Lib.deleteFuncD (pdM B) (.map es)) (A.filter (hasB B)) := fun s => by
  have key : Maps.has (Lib.deleteFuncD (pdM B) (.map es)) (.string s) = true ↔ (Maps.has (.map es) (.string s) = true ∧ hasB B s = true) := by
    unfold Lib.deleteFuncD
    rw [Maps.has_eq, Maps.has_eq, List.any_eq_true, List.any_eq_true]
    constructor
    · rintro ⟨p, hp, hk⟩
      rw [List.mem_filter] at hp
      have e := WideAt.sameKey_eq hk
      refine ⟨⟨p, hp.1, hk⟩, ?_⟩
      have h2 := hp.2
      unfold pdM at h2
      rw [e] at h2
      simpa [Go.strOf] using h2
    · rintro ⟨⟨p, hp, hk⟩, hb⟩
      have e := WideAt.sameKey_eq hk
      refine ⟨p, List.mem_filter.2 ⟨hp, ?_⟩, hk⟩
      unfold pdM
      rw [e]
      simpa [Go.strOf] using hb
  rw [key, hs s, List.mem_filter]
  constructor
  · exact fun ⟨⟨h1, h2⟩, h3⟩ => ⟨⟨h1, h3⟩, h2⟩
  · exact fun ⟨⟨h1, h3⟩, h2⟩ => ⟨⟨h1, h2⟩, h3⟩
set_option maxRecDepth 100000 in
set_option maxHeartbeats 4000000 in
theorem mclos_c (bx b1 : Nat) (B : List T) (y : T) (W : World) (hc : W.cell? ⟨bx, 0, none⟩ = some (.map (some b1))) (hs : SetM W b1 B) (hy : wordB y = true) :
    Calls Tryd.prog 34 #[.string ⟨y.toArray⟩, .agg #[], .pointer (some ⟨bx, 0, none⟩)] W fun e w' => e = .returned (.bool (!(hasB B y))) ∧ Below W.heap.size W w' := by
  have hA := (Below.refl W.heap.size W).alloc (Nat.le_refl _) (.cells #[] 48)
  have HA := Lib.hid hA
  have HH := Lib.hid (has_c b1 B y (W.alloc (.cells #[] 48)) (setM_below hs hA) hy)
  have hlt := cell_lt hc
  have c1 : (W.alloc (.cells #[] 48)).cell? ⟨bx, 0, none⟩ = some (.map (some b1)) := (hA.cell (p := ⟨bx, 0, none⟩) hlt).trans hc
  clear hA hs hc hy hlt
  go_enter Tryd.func34, Tryd.ntmps34
  go_wp2_with fail
  refine HH.out.mono ?_
  rintro e w2 ⟨rfl, hb2⟩
  go_wp2_with fail
  go_ret
  exact ⟨rfl, bnext HA.out hb2⟩
set_option maxRecDepth 100000 in
set_option maxHeartbeats 8000000 in
theorem mdel_c (b b1 bx : Nat) (A B : List T) (w : World) (h : SetM w b A) (h1 : SetM w b1 B) (hc : w.cell? ⟨bx, 0, none⟩ = some (.map (some b1))) (hn1 : b1 ≠ b) (hnx : bx ≠ b) :
    Calls Tryd.prog 33 #[.map (some b), .func (.func 34) #[] #[.pointer (some ⟨bx, 0, none⟩)]] w fun e w' => e = .returned (.tuple #[]) ∧ SetM w' b (A.filter (hasB B)) ∧ w.grownBy w' (some b) := by
  obtain ⟨n, D, hown, hset⟩ := h
  obtain ⟨es0, rfl, hap, hkeys⟩ := hown.entries skeyed
  have HC1 : Hid (∀ W, w.grownBy W (some b) → SetM W b1 B) := fun W hg => setM_grown h1 hg hn1
  have HCX : Hid (∀ W, w.grownBy W (some b) → W.cell? ⟨bx, 0, none⟩ = some (.map (some b1))) := fun W hg => hg.cell hc (fun e => hnx (Option.some.inj e))
  have HEND : Hid (IsSet (Lib.deleteFuncD (pdM B) (.map es0)) (A.filter (hasB B))) := meet_set hset
  have HST := Lib.hid hset
  have HAP := Lib.hid hap
  have HKS := Lib.hid hkeys
  have hbl := hown.lt
  have HOW := Lib.hid hown
  clear hap hkeys hset h1 hc hn1 hnx hown
  go_enter Tryd.func33, Tryd.ntmps33
  go_wp2_with (first
    | (at_range; refine wpList_range_own _ rfl _ 42 rfl 9 48 skeyed Tryd.underlying42 (unitElem (H := Unit)) b n _ rfl HOW.out ?_; intro w0 hrg0 hg0 hs0)
    | go_in)
  go_frame
  go_loopw [4, 5] (fun _ _ wr => ∃ (left : Lit → Bool) (cnt : Nat), wr.ranges Tryd.prog 9 (unitElem (H := Unit)) b w.heap.size n (Maps.Fk (pdM B) es0 left) left cnt ∧ Hid (∀ z, left z = true → Maps.has (.map es0 : DataW Unit) z = true) ∧ Hid (w.grownBy wr (some b)))
    (fun _ _ wr => wr.rangeLeft b w.heap.size)
  case atStart => exact ⟨_, _, by rw [Maps.Fk_start HKS.out]; exact hrg0, fun _ h => h, hg0.but _⟩
  case round =>
    obtain ⟨left, cnt, hrg, HSUB, HGW⟩ := hrel
    go_wp2_with (first
      | (at_next; refine wpList_next_ranges _ rfl _ rfl 9 skeyed (unitElem (H := Unit)) encStr (fun _ : Unit => Value.agg #[]) (fun key kl hk => by obtain ⟨x, hx, _⟩ := Go.Maps.keyOf_str Tryd.underlying9 hk; exact ⟨x, hx⟩) (fun v _ hv => ⟨(), (unitElem_inv hv).1⟩) b w.heap.size n _ _ _ rfl hrg ?_ ?_)
      | go_in)
    · intro _ hl0
      have HO := Lib.hid hrg.owns
      rw [Maps.Fk_end hl0] at HO
      clear hl0
      go_wp2
      go_end0
      exact ⟨rfl, ⟨n, _, HO.out, HEND.out⟩, HGW.out⟩
    · intro x kl yd yp w1 cnt1 hkey hlx hv hat hrg1 hlt hg1 hs1 hen
      obtain ⟨x', ex, rfl, hxl⟩ := Go.Maps.keyOf_str Tryd.underlying9 hkey
      obtain rfl : x = x' := Go.encStr_inj ex
      have hgw1 : w.grownBy w1 (some b) := HGW.out.andThen hg1 (fun j hj => by cases hj; exact Or.inl (Nat.le_refl _))
      have hgw2 : w.grownBy (w1.alloc (.cells #[] 48)) (some b) := hgw1.andThen (World.grownBy_alloc w1 _ none) (fun j hj => by cases hj)
      have HGW2 := Lib.hid hgw2
      have HIN := Lib.hid ((HST.out x).1 (HSUB.out _ hlx))
      have HCL := Lib.hid (mclos_c bx b1 B x (w1.alloc (.cells #[] 48)) (HCX.out _ hgw2) (HC1.out _ hgw2) HIN.out.2)
      have HKY := Lib.hid hkey
      have HSUB2 : Hid (∀ z, (left z && !z.sameKey (.string x)) = true → Maps.has (.map es0 : DataW Unit) z = true) := fun z hz => by
        rw [Bool.and_eq_true] at hz
        exact HSUB.out z hz.1
      have HRG1 := Lib.hid (hrg1.alloc (.cells #[] 48))
      have hl1 := hrg.left_eq
      have HPD : Hid (∀ d, pdM B (.string x) d = !(hasB B x)) := fun d => rfl
      have HSTAY := Lib.hid (fun hp => Maps.Fk_stays HAP.out (skeyed.key hkey) hlx (d := yd) hp hat)
      have HSTRK := Lib.hid (fun hp => Maps.Fk_struck HAP.out (skeyed.key hkey) hlx (d := yd) hp hat)
      clear hs1 hkey hlx hv hat hg1 ex hrg1 hgw1 hgw2 hxl
      cases hp : hasB B x <;> rw [hp] at HCL HPD
      · have HF := Lib.hid (HSTRK.out (HPD.out _))
        clear hp HSTAY HSTRK HPD
        rw [Bool.not_false] at HCL
        go_wp2_with (first
          | (go_at_call 34; refine HCL.out.mono ?_; rintro e w2 ⟨rfl, hb2⟩; have hg2 := grown_of_below hb2; have hrg2 := HRG1.out.kept hg2 (by simp) (by simp); have HG2 := Lib.hid (HGW2.out.andThen hg2 (fun j hj => by cases hj)); clear hb2 hg2)
          | (at_delete; refine wpList_delete_ranges _ rfl _ _ 42 9 rfl 48 skeyed Tryd.underlying42 (unitElem (H := Unit)) b w.heap.size n _ _ _ rfl hrg2 _ _ rfl HKY.out ?_; intro w3 cnt3 hrg3 hle hturn; go_frame)
          | go_in)
        rw [Maps.strike_twice] at hrg3
        go_roundw
        case rel => exact ⟨_, cnt3, by rw [← HF.out]; exact hrg3, HSUB2.out, HG2.out.andThen hturn.grown (fun j hj => by cases hj; exact Or.inr rfl)⟩
        case measure => rw [hrg3.left_eq, hl1]; omega
      · have HF := Lib.hid (HSTAY.out (HPD.out _))
        clear hp HSTAY HSTRK HPD
        rw [Bool.not_true] at HCL
        go_wp2_with (first
          | (go_at_call 34; refine HCL.out.mono ?_; rintro e w2 ⟨rfl, hb2⟩; have hg2 := grown_of_below hb2; have hrg2 := HRG1.out.kept hg2 (by simp) (by simp); have HG2 := Lib.hid (HGW2.out.andThen hg2 (fun j hj => by cases hj)); clear hb2 hg2)
          | go_in)
        go_roundw
        case rel => exact ⟨_, cnt1, by rw [← HF.out]; exact hrg2, HSUB2.out, HG2.out⟩
        case measure => rw [hrg2.left_eq, hl1]; exact hlt
set_option maxRecDepth 100000 in
set_option maxHeartbeats 8000000 in
theorem meet_c (x y : Lst) (w : World) (hx : GoodL w x) (hy : GoodL w y) : Calls Tryd.prog 23 #[lval x, lval y] w fun e w' => RowA w w' (meetP x.2.2 y.2.2) e := by
  have HG := Lib.hid (gather1b_c x w hx)
  have HY := Lib.hid hy
  have hfew := hx.few
  obtain ⟨p, c, A⟩ := x
  obtain ⟨q, d, B⟩ := y
  unfold lval
  dsimp only at HG hfew ⊢
  unfold meetP
  obtain ⟨F, hF⟩ : ∃ F, A.filter (hasB B) = F := ⟨_, rfl⟩
  rw [hF]
  have HF := Lib.hid hF
  clear hx hy hF
  go_enter Tryd.func23, Tryd.ntmps23
  go_wp2_with fail
  refine HG.out.mono ?_
  rintro e w1 ⟨b1, hw1, rfl, hset1, hb1⟩
  have HG2 := Lib.hid (gather1b_c (q, d, B) w1 (HY.out.below hb1))
  dsimp only at HG2
  have HB1 := Lib.hid hb1
  have HS1 := Lib.hid hset1
  have hlt1 : b1 < w1.heap.size := by obtain ⟨_, _, hom, _⟩ := hset1; exact hom.lt
  clear hset1 hb1 HG HY
  go_wp2_with fail
  refine HG2.out.mono ?_
  rintro e w2 ⟨b2, hw2, rfl, hset2, hb2⟩
  have HB2 := Lib.hid (bnext HB1.out hb2)
  have HSA := Lib.hid (setM_below HS1.out hb2)
  have HSB := Lib.hid hset2
  have hA := (Below.refl w2.heap.size w2).alloc (Nat.le_refl _) (.cells #[.map (some b2)] 42)
  have hlt2 : b2 < w2.heap.size := by obtain ⟨_, _, hom, _⟩ := hset2; exact hom.lt
  have hsz2 := hb2.size
  have HD := Lib.hid (mdel_c b1 b2 w2.heap.size A B (w2.alloc (.cells #[.map (some b2)] 42)) (setM_below HSA.out hA) (setM_below hset2 hA) (by rw [World.cell?_alloc_at _ _ _ _ rfl]; rfl) (by omega) (by omega))
  have HBA := Lib.hid (bnext HB2.out hA)
  have HOW : Hid (w.heap.size ≤ b1) := hw1
  have hfl : (A.filter (hasB B)).length ≤ 4194304 := Nat.le_trans (List.length_filter_le _ _) hfew
  have HFL := Lib.hid hfl
  clear hset2 hb2 HG2 HS1 HB1 hA HB2 HSA HSB hlt1 hlt2 hsz2 hw1 hw2 hfl
  go_wp2_with fail
  refine HD.out.mono ?_
  rintro e w3 ⟨rfl, hset3, hg3⟩
  have hb3 : Below w.heap.size w w3 := HBA.out.grown hg3 HBA.out.size (fun j hj => by cases hj; exact HOW.out)
  have HB3 := Lib.hid hb3
  have HS3 := Lib.hid (sorted_c b1 _ w3 hset3 HFL.out)
  rw [HF.out] at HS3
  clear hset3 hg3 hb3 HD HBA HFL
  go_wp2_with fail
  refine HS3.out.mono ?_
  rintro e w4 ⟨v, rfl, hown, hb4⟩
  go_wp2_with fail
  go_ret
  exact ⟨v, rfl, hown.mono HB3.out.size, bnext HB3.out hb4⟩
end Go.Proofs.YtcklbbbplbboaaaDoor.scp
