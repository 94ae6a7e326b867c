/- ScopeMeets and ScopeOrders by SApi. -/
import Derived.Test.YtcklbbbplbboaaaDoorScpLb
namespace Go.Proofs.YtcklbbbplbboaaaDoor.scp
open Go.RowKit
open Go.Proofs.YtcklbbbplbboaaaDoor.oct Go.Proofs.YtcklbbbplbboaaaDoor.ref Go.Proofs.YtcklbbbplbboaaaDoor.rows Go.Proofs.YtcklbbbplbboaaaDoor.rowg

/-- what a call that answers a row answers -/
def Ans (w w' : World) (l : List T) (e : Ending) : Prop := ∃ p c, e = .returned (lval (p, c, l)) ∧ GoodL w' (p, c, l) ∧ Below w.heap.size w w'
theorem rowa_ans {w w' : World} {l : List T} {e : Ending} (h : RowA w w' (setP l) e) (hl : l.length ≤ 4194304) : Ans w w' (setP l) e := by
  obtain ⟨v, rfl, hown, hb⟩ := h
  obtain ⟨p, c, rfl, hg⟩ := own_good hown (fit_set l) (Nat.le_trans (setP_len l) hl)
  exact ⟨p, c, rfl, hg, hb⟩
theorem filter_few (l m : List T) (h : l.length ≤ 4194304) : (l.filter (hasB m)).length ≤ 4194304 := Nat.le_trans (List.length_filter_le _ _) h
theorem api_set {T' : World → Prop} (X : SApi T') (m : Lst) (w : World) (ht : T' w) (hm : GoodL w m) : Calls Tryd.prog 15 #[lval m] w fun e w' => Ans w w' (setP m.2.2) e :=
  (X.set m w ht hm).mono fun _ _ h => rowa_ans h hm.few
theorem ref_set (m : Lst) (w : World) (hm : GoodL w m) : Calls Tryd.prog 16 #[lval m] w fun e w' => Ans w w' (setP m.2.2) e :=
  (rset_c m.1 m.2.1 m.2.2 w hm.row hm.few).mono fun _ _ h => rowa_ans h hm.few
theorem api_meet {T' : World → Prop} (X : SApi T') (x y : Lst) (w : World) (ht : T' w) (hx : GoodL w x) (hy : GoodL w y) : Calls Tryd.prog 23 #[lval x, lval y] w fun e w' => Ans w w' (meetP x.2.2 y.2.2) e :=
  (X.meet x y w ht hx hy).mono fun _ _ h => rowa_ans h (filter_few _ _ hx.few)
theorem ref_meet (x y : Lst) (w : World) (hx : GoodL w x) (hy : GoodL w y) : Calls Tryd.prog 24 #[lval x, lval y] w fun e w' => Ans w w' (meetP x.2.2 y.2.2) e :=
  (rmeet_c x.1 x.2.1 x.2.2 y.1 y.2.1 y.2.2 w hx.row hy.row hx.few hy.few).mono fun _ _ h => rowa_ans h (filter_few _ _ hx.few)
theorem lenc_len : ∀ a, (lenc a).length = 1 := fun _ => rfl
theorem inl_new (W : World) (l : List Lst) (e : Nat) : InG lenc 1 (W.alloc (.cells (cells lenc l).toArray e)) (some ⟨W.heap.size, 0, none⟩) l := by
  intro _
  refine ⟨_, _, rfl, ?_⟩
  intro i hi j hj
  have h := new_cellsG W W.heap.size e rfl (cells lenc l) (i * 1 + j)
  have hc := cells_at lenc_len l i hi j hj
  have hl : j < (lenc l[i]).length := by rw [lenc_len]; exact hj
  rw [List.getElem?_eq_getElem hl] at hc ⊢
  have h2 := h _ hc
  rw [add_none] at h2
  rw [show 0 + i * 1 + j = 0 + (i * 1 + j) by omega]
  exact h2
/-- a call of Both with a row that was laid just now -/
theorem api_both {T' : World → Prop} (X : SApi T') (ls : List Lst) (e : Nat) (w : World) (ht : T' w) (hg : ∀ x ∈ ls, GoodL w x) (hf : (ls.map (·.2.2)).flatten.length ≤ 4194304) (hn : ls.length ≤ 4194304) :
    Calls Tryd.prog 25 #[.slice (some ⟨w.heap.size, 0, none⟩) ls.length ls.length] (w.alloc (.cells (cells lenc ls).toArray e)) fun e w' => Ans w w' (bothP (ls.map (·.2.2))) e := by
  have hb := (Below.refl w.heap.size w).alloc (Nat.le_refl _) (.cells (cells lenc ls).toArray e)
  refine (X.both _ _ ls _ (X.tbelow _ _ ht hb) (inl_new w ls e) hn (Nat.le_refl _) (fun h => by cases h) (fun x hx => (hg x hx).below hb) hf).mono fun e w' h => ?_
  obtain ⟨p, c, h1, h2, h3⟩ := rowa_ans h hf
  exact ⟨p, c, h1, h2, bnext hb h3⟩
theorem api_both0 {T' : World → Prop} (X : SApi T') (w : World) (ht : T' w) :
    Calls Tryd.prog 25 #[.slice none 0 0] w fun e w' => Ans w w' [] e :=
  (X.both none 0 [] w ht (fun h => by simp at h) (Nat.zero_le _) (Nat.le_refl _) (fun _ => rfl) (fun x hx => by cases hx) (by decide)).mono fun e w' h => rowa_ans (l := []) h (by decide)
theorem rsame_v {w : World} {x y : Lst} {b : Bool} (hx : GoodL w x) (hy : GoodL w y) (he : b = decide (x.2.2 = y.2.2)) : Calls Tryd.prog 14 #[lval x, lval y] w fun e w' => e = .returned (.bool b) ∧ Below w.heap.size w w' :=
  (rsame_l hx hy).mono fun _ _ ⟨h1, h2⟩ => ⟨by rw [h1, he], h2⟩
theorem few_len (x : Lst) : (x.2.2.take 300).length ≤ 300 := by rw [List.length_take]; omega
set_option maxRecDepth 100000 in
set_option maxHeartbeats 8000000 in
theorem law_orders {T' : World → Prop} (X : SApi T') (a0 b0 : Lst) (w : World) (ha : ArgL w a0) (hb : ArgL w b0) (ht : T' w) :
    Calls Tryd.prog 8 #[lval a0, lval b0] w fun e w' => e = .returned (.bool true) ∧ Below w.heap.size w w' := by
  have HF1 := Lib.hid (few_l a0 w ha)
  have HF2 := Lib.hid (few_l b0 w hb)
  have HA := Lib.hid (good_few ha)
  have HB := Lib.hid (good_few hb)
  have HA3 := Lib.hid (few_len a0)
  have HB3 := Lib.hid (few_len b0)
  obtain ⟨a, hae⟩ : ∃ m : Lst, (a0.1, a0.2.1, a0.2.2.take 300) = m := ⟨_, rfl⟩
  obtain ⟨b, hbe⟩ : ∃ m : Lst, (b0.1, b0.2.1, b0.2.2.take 300) = m := ⟨_, rfl⟩
  have hae2 : a0.2.2.take 300 = a.2.2 := by rw [← hae]
  have hbe2 : b0.2.2.take 300 = b.2.2 := by rw [← hbe]
  rw [hae] at HF1 HA
  rw [hbe] at HF2 HB
  rw [hae2] at HA3
  rw [hbe2] at HB3
  have HT := Lib.hid ht
  have HX := Lib.hid X
  obtain ⟨o1, o2, o3, o4, o5, o6, o7, o8, o9⟩ := orders a.2.2 b.2.2
  have hfl : ([a, b].map (·.2.2)).flatten.length ≤ 4194304 := by
    have h1 := HA3.out
    have h2 := HB3.out
    simp; omega
  have hfl2 : ([b, a].map (·.2.2)).flatten.length ≤ 4194304 := by
    have h1 := HA3.out
    have h2 := HB3.out
    simp; omega
  have lm : (meetP a.2.2 b.2.2).length ≤ 4194304 := Nat.le_trans (setP_len _) (filter_few _ _ (by have := HA3.out; omega))
  have lu : (bothP [a.2.2, b.2.2]).length ≤ 4194304 := Nat.le_trans (setP_len _) hfl
  have lx : (setP a.2.2).length ≤ 4194304 := Nat.le_trans (setP_len _) (by have := HA3.out; omega)
  have ly : (setP b.2.2).length ≤ 4194304 := Nat.le_trans (setP_len _) (by have := HB3.out; omega)
  have CS1 : Hid (∀ w, T' w → GoodL w a → Calls Tryd.prog 15 #[lval a] w fun e w' => Ans w w' (setP a.2.2) e) := fun w h1 h2 => api_set X a w h1 h2
  have CS2 : Hid (∀ w, T' w → GoodL w b → Calls Tryd.prog 15 #[lval b] w fun e w' => Ans w w' (setP b.2.2) e) := fun w h1 h2 => api_set X b w h1 h2
  have CM : Hid (∀ w, T' w → GoodL w a → GoodL w b → Calls Tryd.prog 23 #[lval a, lval b] w fun e w' => Ans w w' (meetP a.2.2 b.2.2) e) := fun w h1 h2 h3 => api_meet X a b w h1 h2 h3
  have CM2 : Hid (∀ w, T' w → GoodL w a → GoodL w b → Calls Tryd.prog 23 #[lval b, lval a] w fun e w' => Ans w w' (meetP a.2.2 b.2.2) e) := fun w h1 h2 h3 => by rw [← o7]; exact api_meet X b a w h1 h3 h2
  have CB : Hid (∀ w, T' w → GoodL w a → GoodL w b → Calls Tryd.prog 25 #[.slice (some ⟨w.heap.size, 0, none⟩) 2 2] (w.alloc (.cells #[lval a, lval b] 24)) fun e w' => Ans w w' (bothP [a.2.2, b.2.2]) e) := fun w h1 h2 h3 =>
    api_both X [a, b] _ w h1 (fun x hx => by simp at hx; rcases hx with rfl | rfl <;> assumption) hfl (show 2 ≤ 4194304 by decide)
  have CB2 : Hid (∀ w, T' w → GoodL w a → GoodL w b → Calls Tryd.prog 25 #[.slice (some ⟨w.heap.size, 0, none⟩) 2 2] (w.alloc (.cells #[lval b, lval a] 24)) fun e w' => Ans w w' (bothP [a.2.2, b.2.2]) e) := fun w h1 h2 h3 => by
    rw [← o8]
    exact api_both X [b, a] _ w h1 (fun x hx => by simp at hx; rcases hx with rfl | rfl <;> assumption) hfl2 (show 2 ≤ 4194304 by decide)
  have CW : Hid (∀ w, T' w → GoodL w a → GoodL w b → Calls Tryd.prog 21 #[lval a, lval b] w fun e w' => e = .returned (.bool (withinP a.2.2 b.2.2)) ∧ Below w.heap.size w w') := fun w h1 h2 h3 => X.within a b w h1 h2 h3
  have CW1 : Hid (∀ w p c, T' w → GoodL w (p, c, meetP a.2.2 b.2.2) → GoodL w a → Calls Tryd.prog 21 #[lval (p, c, meetP a.2.2 b.2.2), lval a] w fun e w' => e = .returned (.bool true) ∧ Below w.heap.size w w') := fun w p c h1 h2 h3 => by rw [← o3]; exact X.within _ a w h1 h2 h3
  have CW2 : Hid (∀ w p c, T' w → GoodL w (p, c, meetP a.2.2 b.2.2) → GoodL w b → Calls Tryd.prog 21 #[lval (p, c, meetP a.2.2 b.2.2), lval b] w fun e w' => e = .returned (.bool true) ∧ Below w.heap.size w w') := fun w p c h1 h2 h3 => by rw [← o4]; exact X.within _ b w h1 h2 h3
  have CW3 : Hid (∀ w p c, T' w → GoodL w (p, c, bothP [a.2.2, b.2.2]) → GoodL w a → Calls Tryd.prog 21 #[lval a, lval (p, c, bothP [a.2.2, b.2.2])] w fun e w' => e = .returned (.bool true) ∧ Below w.heap.size w w') := fun w p c h1 h2 h3 => by rw [← o5]; exact X.within a _ w h1 h3 h2
  have CW4 : Hid (∀ w p c, T' w → GoodL w (p, c, bothP [a.2.2, b.2.2]) → GoodL w b → Calls Tryd.prog 21 #[lval b, lval (p, c, bothP [a.2.2, b.2.2])] w fun e w' => e = .returned (.bool true) ∧ Below w.heap.size w w') := fun w p c h1 h2 h3 => by rw [← o6]; exact X.within b _ w h1 h3 h2
  obtain ⟨bb, hbb⟩ : ∃ x, withinP a.2.2 b.2.2 = x := ⟨_, rfl⟩
  rw [hbb] at CW o1 o2
  have hb1 : (bb == bb) = true := by simp
  obtain ⟨M, hM⟩ : ∃ x, meetP a.2.2 b.2.2 = x := ⟨_, rfl⟩
  obtain ⟨U, hU⟩ : ∃ x, bothP [a.2.2, b.2.2] = x := ⟨_, rfl⟩
  obtain ⟨S, hS⟩ : ∃ x, setP a.2.2 = x := ⟨_, rfl⟩
  obtain ⟨R, hR⟩ : ∃ x, setP b.2.2 = x := ⟨_, rfl⟩
  rw [hM] at CM CM2 CW1 CW2 o1 o9 lm
  rw [hU] at CB CB2 CW3 CW4 o2 o9 lu
  rw [hS] at CS1 o1 o9 lx
  rw [hR] at CS2 o2 o9 ly
  have hq : ((M.length : Int) + (U.length : Int) == (S.length : Int) + (R.length : Int)) = true := by rw [beq_iff_eq]; omega
  have HQ := Lib.hid hq
  have O1 := Lib.hid o1
  have O2 := Lib.hid o2
  clear ht X ha hb hae hbe hae2 hbe2 hfl hfl2 o1 o2 o3 o4 o5 o6 o7 o8 o9 hM hU hS hR hbb HA3 HB3 hq
  go_enter Tryd.func8, Tryd.ntmps8
  go_wp2_with fail
  refine HF1.out.mono ?_
  rintro e w1 ⟨rfl, rfl⟩
  go_wp2_with fail
  refine HF2.out.mono ?_
  rintro e w1 ⟨rfl, rfl⟩
  go_wp2_with fail
  refine (CS1.out w HT.out HA.out).mono ?_
  rintro e w1 ⟨px, cx, rfl, hgx, hb2⟩
  have HW := Lib.hid hb2
  have HGX := Lib.hid hgx
  clear hgx hb2
  go_wp2_with fail
  refine (CS2.out w1 (HX.out.tbelow _ _ HT.out HW.out) (HB.out.below HW.out)).mono ?_
  rintro e w2 ⟨py, cy, rfl, hgy, hb2⟩
  have HW := Lib.hid (bnext HW.out hb2)
  have HGX := Lib.hid (HGX.out.below hb2)
  have HGY := Lib.hid hgy
  clear hgy hb2
  go_wp2_with fail
  refine (CM.out w2 (HX.out.tbelow _ _ HT.out HW.out) (HA.out.below HW.out) (HB.out.below HW.out)).mono ?_
  rintro e w3 ⟨pm, cm, rfl, hgm, hb2⟩
  have HW := Lib.hid (bnext HW.out hb2)
  have HGX := Lib.hid (HGX.out.below hb2)
  have HGY := Lib.hid (HGY.out.below hb2)
  have HGM := Lib.hid hgm
  clear hgm hb2
  unfold lval
  go_wp2_with fail
  refine (CB.out w3 (HX.out.tbelow _ _ HT.out HW.out) (HA.out.below HW.out) (HB.out.below HW.out)).mono ?_
  rintro e w4 ⟨pu, cu, rfl, hgu, hb2⟩
  have HW := Lib.hid (bnext HW.out hb2)
  have HGX := Lib.hid (HGX.out.below hb2)
  have HGY := Lib.hid (HGY.out.below hb2)
  have HGM := Lib.hid (HGM.out.below hb2)
  have HGU := Lib.hid hgu
  clear hgu hb2
  go_wp2_with fail
  refine (CW.out w4 (HX.out.tbelow _ _ HT.out HW.out) (HA.out.below HW.out) (HB.out.below HW.out)).mono ?_
  rintro e w5 ⟨rfl, hb2⟩
  have HW := Lib.hid (bnext HW.out hb2)
  have HGX := Lib.hid (HGX.out.below hb2)
  have HGY := Lib.hid (HGY.out.below hb2)
  have HGM := Lib.hid (HGM.out.below hb2)
  have HGU := Lib.hid (HGU.out.below hb2)
  clear hb2
  go_wp2_with fail
  refine (sknown_c HX.out w5 (HX.out.tbelow _ _ HT.out HW.out)).mono ?_
  rintro e w6 ⟨rfl, hb2⟩
  have HW := Lib.hid (bnext HW.out hb2)
  have HGX := Lib.hid (HGX.out.below hb2)
  have HGY := Lib.hid (HGY.out.below hb2)
  have HGM := Lib.hid (HGM.out.below hb2)
  have HGU := Lib.hid (HGU.out.below hb2)
  clear hb2
  go_wp2_with fail
  refine (rsame_v HGM.out HGX.out O1.out).mono ?_
  rintro e w7 ⟨rfl, hb2⟩
  have HW := Lib.hid (bnext HW.out hb2)
  have HGX := Lib.hid (HGX.out.below hb2)
  have HGY := Lib.hid (HGY.out.below hb2)
  have HGM := Lib.hid (HGM.out.below hb2)
  have HGU := Lib.hid (HGU.out.below hb2)
  clear hb2
  go_wp2_with fail
  refine (rsame_v HGU.out HGY.out O2.out).mono ?_
  rintro e w8 ⟨rfl, hb2⟩
  have HW := Lib.hid (bnext HW.out hb2)
  have HGX := Lib.hid (HGX.out.below hb2)
  have HGY := Lib.hid (HGY.out.below hb2)
  have HGM := Lib.hid (HGM.out.below hb2)
  have HGU := Lib.hid (HGU.out.below hb2)
  clear hb2
  go_wp2_with fail
  refine (CW1.out w8 _ _ (HX.out.tbelow _ _ HT.out HW.out) HGM.out (HA.out.below HW.out)).mono ?_
  rintro e w9 ⟨rfl, hb2⟩
  have HW := Lib.hid (bnext HW.out hb2)
  have HGX := Lib.hid (HGX.out.below hb2)
  have HGY := Lib.hid (HGY.out.below hb2)
  have HGM := Lib.hid (HGM.out.below hb2)
  have HGU := Lib.hid (HGU.out.below hb2)
  clear hb2
  go_wp2_with fail
  refine (CW2.out w9 _ _ (HX.out.tbelow _ _ HT.out HW.out) HGM.out (HB.out.below HW.out)).mono ?_
  rintro e w10 ⟨rfl, hb2⟩
  have HW := Lib.hid (bnext HW.out hb2)
  have HGX := Lib.hid (HGX.out.below hb2)
  have HGY := Lib.hid (HGY.out.below hb2)
  have HGM := Lib.hid (HGM.out.below hb2)
  have HGU := Lib.hid (HGU.out.below hb2)
  clear hb2
  go_wp2_with fail
  refine (CW3.out w10 _ _ (HX.out.tbelow _ _ HT.out HW.out) HGU.out (HA.out.below HW.out)).mono ?_
  rintro e w11 ⟨rfl, hb2⟩
  have HW := Lib.hid (bnext HW.out hb2)
  have HGX := Lib.hid (HGX.out.below hb2)
  have HGY := Lib.hid (HGY.out.below hb2)
  have HGM := Lib.hid (HGM.out.below hb2)
  have HGU := Lib.hid (HGU.out.below hb2)
  clear hb2
  go_wp2_with fail
  refine (CW4.out w11 _ _ (HX.out.tbelow _ _ HT.out HW.out) HGU.out (HB.out.below HW.out)).mono ?_
  rintro e w12 ⟨rfl, hb2⟩
  have HW := Lib.hid (bnext HW.out hb2)
  have HGX := Lib.hid (HGX.out.below hb2)
  have HGY := Lib.hid (HGY.out.below hb2)
  have HGM := Lib.hid (HGM.out.below hb2)
  have HGU := Lib.hid (HGU.out.below hb2)
  clear hb2
  go_wp2_with fail
  refine (CM2.out w12 (HX.out.tbelow _ _ HT.out HW.out) (HA.out.below HW.out) (HB.out.below HW.out)).mono ?_
  rintro e w13 ⟨p13, c13, rfl, hg13, hb2⟩
  have HW := Lib.hid (bnext HW.out hb2)
  have HGX := Lib.hid (HGX.out.below hb2)
  have HGY := Lib.hid (HGY.out.below hb2)
  have HGM := Lib.hid (HGM.out.below hb2)
  have HGU := Lib.hid (HGU.out.below hb2)
  clear hb2
  unfold lval
  go_wp2_with fail
  refine (rsame_t HGM.out hg13 rfl).mono ?_
  rintro e w14 ⟨rfl, hb2⟩
  have HW := Lib.hid (bnext HW.out hb2)
  have HGX := Lib.hid (HGX.out.below hb2)
  have HGY := Lib.hid (HGY.out.below hb2)
  have HGM := Lib.hid (HGM.out.below hb2)
  have HGU := Lib.hid (HGU.out.below hb2)
  clear hb2
  clear hg13
  go_wp2_with fail
  refine (CB2.out w14 (HX.out.tbelow _ _ HT.out HW.out) (HA.out.below HW.out) (HB.out.below HW.out)).mono ?_
  rintro e w15 ⟨p15, c15, rfl, hg15, hb2⟩
  have HW := Lib.hid (bnext HW.out hb2)
  have HGX := Lib.hid (HGX.out.below hb2)
  have HGY := Lib.hid (HGY.out.below hb2)
  have HGM := Lib.hid (HGM.out.below hb2)
  have HGU := Lib.hid (HGU.out.below hb2)
  clear hb2
  unfold lval
  go_wp2_with fail
  refine (rsame_t HGU.out hg15 rfl).mono ?_
  rintro e w16 ⟨rfl, hb2⟩
  have HW := Lib.hid (bnext HW.out hb2)
  have HGX := Lib.hid (HGX.out.below hb2)
  have HGY := Lib.hid (HGY.out.below hb2)
  have HGM := Lib.hid (HGM.out.below hb2)
  have HGU := Lib.hid (HGU.out.below hb2)
  clear hb2
  clear hg15
  have hq := HQ.out
  go_wp2_with fail
  go_ret
  exact ⟨rfl, HW.out⟩
end Go.Proofs.YtcklbbbplbboaaaDoor.scp
