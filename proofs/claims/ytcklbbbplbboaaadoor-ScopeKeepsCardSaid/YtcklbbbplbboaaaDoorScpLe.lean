/- ScopeKeeps by SApi. -/
import Derived.Test.YtcklbbbplbboaaaDoorScpLc
import Derived.StillTailTactics
namespace Go.Proofs.YtcklbbbplbboaaaDoor.scp
open Go.RowKit
open Go.Proofs.YtcklbbbplbboaaaDoor.oct Go.Proofs.YtcklbbbplbboaaaDoor.ref Go.Proofs.YtcklbbbplbboaaaDoor.rows Go.Proofs.YtcklbbbplbboaaaDoor.rowg

def rm : T := [114, 111, 111, 109]
theorem ins_head {w : World} {P : Option Addr} {ps qs : List T} (h : InS w P (ps ++ qs)) : InS w P ps := by
  intro hl
  obtain ⟨b, o, rfl, hc⟩ := h (by rw [List.length_append]; omega)
  refine ⟨b, o, rfl, fun i hi j hj => ?_⟩
  have := hc i (by rw [List.length_append]; omega) j hj
  rw [List.getElem_append_left hi] at this
  exact this
theorem ins_last {w : World} {g : Nat} {ps : List T} {x : T} (h : InS w (some ⟨g, 0, none⟩) (ps ++ [x])) : w.cell? ⟨g, ps.length, none⟩ = some (tx x) := by
  obtain ⟨b, o, e, hc⟩ := h (by simp)
  cases e
  have := hc ps.length (by simp) 0 (by decide)
  rw [List.getElem_append_right (Nat.le_refl _)] at this
  simpa [senc] using this
theorem own_some {w : World} {B : Nat} {v : Value} {n : Nat} {xs : List Value} (h : w.ownsRow B 9 1 v n xs) (h0 : 0 < n) : ∃ g c X, v = .slice (some ⟨g, 0, none⟩) n c ∧ n ≤ c ∧ B ≤ g ∧ Blk w g 9 X ∧ n ≤ X.length ∧ c ≤ 9223372036854775807 := by
  obtain ⟨h3, h1⟩ := h
  rcases h1 with ⟨_, h2⟩ | ⟨g, c, cur, rfl, hB, hg, hn, hm, hs, _⟩
  · rw [h2] at h3; simp at h3; omega
  · exact ⟨g, c, cur.toList, rfl, hn, hB, hg, by rw [Array.length_toList]; omega, by unfold maxLen at hm; omega⟩
theorem own_setCell {w : World} {B n g : Nat} {v : Value} {xs : List Value} (h : w.ownsRow B 9 1 v n xs) (hg : g < B) (o : Nat) (u : Value) : (w.setCell ⟨g, o, none⟩ u).ownsRow B 9 1 v n xs := by
  refine ⟨h.1, ?_⟩
  rcases h.2 with h2 | ⟨g2, cap, cur, h1, h2, h3, h4⟩
  · exact Or.inl h2
  · refine Or.inr ⟨g2, cap, cur, h1, h2, ?_, h4⟩
    rw [Below.heap_setCell _ _ _ _ (by show g2 ≠ g; omega)]
    exact h3
/-- a row of the call's own that may be written: nil, or a block that begins at B or behind -/
def Wr (w : World) (A B : Nat) (p : Option Addr) (n : Nat) : Prop := 0 < n → ∃ g X, p = some ⟨g, 0, none⟩ ∧ A ≤ g ∧ g < B ∧ Blk w g 9 X ∧ n ≤ X.length
theorem wr_of {w : World} {A n c : Nat} {p : Option Addr} {xs : List Value} (h : w.ownsRow A 9 1 (.slice p n c) n xs) : Wr w A w.heap.size p n := fun h0 => by
  obtain ⟨g, c', X, e, _, h2, h3, h4, _⟩ := own_some h h0
  cases e
  exact ⟨g, X, rfl, h2, h3.lt, h3, h4⟩
theorem Wr.below {w w' : World} {A B n : Nat} {p : Option Addr} (h : Wr w A B p n) (hb : Below w.heap.size w w') : Wr w' A B p n := fun h0 => by
  obtain ⟨g, X, e, h1, h2, h3, h4⟩ := h h0
  exact ⟨g, X, e, h1, h2, h3.below hb, h4⟩
theorem Wr.below' {w w' : World} {A B C n : Nat} {p : Option Addr} (h : Wr w A B p n) (hb : Below C w w') (hc : B ≤ C) : Wr w' A B p n := fun h0 => by
  obtain ⟨g, X, e, h1, h2, h3, h4⟩ := h h0
  exact ⟨g, X, e, h1, h2, (hb.block g (by omega)).trans h3, h4⟩
theorem Wr.other {w : World} {A B n : Nat} {p : Option Addr} (h : Wr w A B p n) (g0 o : Nat) (u : Value) (hg : g0 < A ∨ B ≤ g0) : Wr (w.setCell ⟨g0, o, none⟩ u) A B p n := fun h0 => by
  obtain ⟨g, X, e, h1, h2, h3, h4⟩ := h h0
  exact ⟨g, X, e, h1, h2, h3.set_other (by omega) o u, h4⟩
/-- a call's own row: also the row itself, to be written -/
def AnsW (w w' : World) (l : List T) (e : Ending) : Prop := ∃ p c, e = .returned (lval (p, c, l)) ∧ w'.ownsRow w.heap.size 9 1 (lval (p, c, l)) l.length (cells senc l) ∧ Below w.heap.size w w'
theorem rowa_answ {w w' : World} {l : List T} {e : Ending} (h : RowA w w' l e) : AnsW w w' l e := by
  obtain ⟨v, rfl, hown, hb⟩ := h
  obtain ⟨p, c, rfl, _⟩ := own_g senc_len (by decide) hown
  exact ⟨p, c, rfl, hown, hb⟩
theorem api_bothw {T' : World → Prop} (X : SApi T') (ls : List Lst) (e : Nat) (w : World) (ht : T' w) (hg : ∀ x ∈ ls, GoodL w x) (hf : (ls.map (·.2.2)).flatten.length ≤ 4194304) (hn : ls.length ≤ 4194304) :
    Calls Tryd.prog 25 #[.slice (some ⟨w.heap.size, 0, none⟩) ls.length ls.length] (w.alloc (.cells (cells lenc ls).toArray e)) fun e w' => AnsW w w' (bothP (ls.map (·.2.2))) e := by
  have hb := (Below.refl w.heap.size w).alloc (Nat.le_refl _) (.cells (cells lenc ls).toArray e)
  refine (X.both _ _ ls _ (X.tbelow _ _ ht hb) (inl_new w ls e) hn (Nat.le_refl _) (fun h => by cases h) (fun x hx => (hg x hx).below hb) hf).mono fun e w' h => ?_
  obtain ⟨p, c, h1, h2, h3⟩ := rowa_answ h
  exact ⟨p, c, h1, h2.mono hb.size, bnext hb h3⟩
set_option maxRecDepth 100000 in
set_option maxHeartbeats 8000000 in
theorem law_keeps {T' : World → Prop} (X : SApi T') (a0 b0 : Lst) (w : World) (ha : ArgL w a0) (hb : ArgL w b0) (ht : T' w) :
    Calls Tryd.prog 9 #[lval a0, lval b0] w fun e w' => e = .returned (.bool true) ∧ Below w.heap.size w w' := by
  have HF1 := Lib.hid (few_l a0 w ha)
  have HF2 := Lib.hid (few_l b0 w hb)
  have HA := Lib.hid (good_few ha)
  have HB := Lib.hid (good_few hb)
  have hA3 := few_len a0
  have hB3 := few_len b0
  obtain ⟨a, hae⟩ : ∃ m : Lst, (a0.1, a0.2.1, a0.2.2.take 300) = m := ⟨_, rfl⟩
  obtain ⟨b, hbe⟩ : ∃ m : Lst, (b0.1, b0.2.1, b0.2.2.take 300) = m := ⟨_, rfl⟩
  have hae2 : a0.2.2.take 300 = a.2.2 := by rw [← hae]
  have hbe2 : b0.2.2.take 300 = b.2.2 := by rw [← hbe]
  rw [hae] at HF1 HA
  rw [hbe] at HF2 HB
  rw [hae2] at hA3
  rw [hbe2] at hB3
  have HT := Lib.hid ht
  have HX := Lib.hid X
  obtain ⟨i0, hi0, hz0, hz1, hz2⟩ := info_parts infoStr
  have HE0 := Lib.hid (own_emptyG (enc := senc) (k := 1) w 9)
  clear ht X ha hb hae hbe hae2 hbe2
  go_enter Tryd.func9, Tryd.ntmps9
  go_wp2_with fail
  refine HF1.out.mono ?_
  rintro e w1 ⟨rfl, rfl⟩
  go_wp2_with fail
  refine HF2.out.mono ?_
  rintro e w1 ⟨rfl, rfl⟩
  unfold lval
  go_wp2_with (first
    | (at_builtin; refine wpList_append_g senc_len (by decide) senc_one rfl (.tmp 15) (.tmp 16) 24 9 rfl Tryd.underlying24 hi0 hz0 hz1 hz2 rfl w.heap.size _ 0 (cells senc []) rfl HE0.out a.1 _ a.2.1 a.2.2 rfl (ins_below HA.out.row ((Below.refl _ _).alloc (Nat.le_refl _) _)) rfl HA.out.nil (by unfold maxLen; omega) (by omega) (by simp) ?_; intro v2 w2 hown2 hgrow2; have hb2 := ((Below.refl w.heap.size w).alloc (Nat.le_refl _) _).grown hgrow2 (by simp) (fun k hk => (HE0.out.lt k hk).1); have HO2 := Lib.hid hown2; have HB2 := Lib.hid hb2; clear hown2 hgrow2 hb2)
    | (at_builtin; refine wpList_append_g senc_len (by decide) senc_one rfl (.tmp 17) (.tmp 18) 24 9 rfl Tryd.underlying24 hi0 hz0 hz1 hz2 rfl w.heap.size _ (0 + a.2.2.length) _ rfl (HO2.out.alloc _) (some ⟨w2.heap.size, 0, none⟩) 1 1 [rm] rfl (ins_one w2 rm _) rfl (fun h => by cases h) (by unfold maxLen; omega) (by omega) (by have := HB2.out.size; simp; omega) ?_; intro v3 w3 hown3 hgrow3; have hb3 := (HB2.out.alloc HB2.out.size _).grown hgrow3 (by have := HB2.out.size; simp; omega) (fun k hk => (HO2.out.lt k hk).1); have HI3 : Hid (w3.ownsRow w.heap.size 9 1 v3 (a.2.2 ++ [rm]).length (cells senc (a.2.2 ++ [rm]))) := by { have h := hown3; rw [show 0 + a.2.2.length + 1 = (a.2.2 ++ [rm]).length by rw [Nat.zero_add, List.length_append]; rfl, show cells senc [] ++ cells senc a.2.2 ++ cells senc [rm] = cells senc (a.2.2 ++ [rm]) by simp [cells]] at h; exact h }; obtain ⟨gi, ci, XI, rfl, hci, _, _, _, hcm⟩ := own_some HI3.out (by simp); have HB3 := Lib.hid hb3; clear hown3 hgrow3 hb3))
  have hci1 : a.2.2.length + 1 ≤ ci := by rw [List.length_append] at hci; exact hci
  have hcI : (a.2.2.length : Int) ≤ (ci : Int) := by omega
  have hcmI : (ci : Int) ≤ 9223372036854775807 := by omega
  go_still_tail 8, (by kernel_rfl)
  change wpList _ _ _ _ _ w3.drew
  obtain ⟨w4, hw4⟩ : ∃ w4, w4 = w3.drew := ⟨_, rfl⟩
  rw [← hw4]
  have HB4 : Hid (Below w.heap.size w w4) := by rw [hw4]; exact HB3.out.drew
  have HI4 : Hid (w4.ownsRow w.heap.size 9 1 (.slice (some ⟨gi, 0, none⟩) (a.2.2 ++ [rm]).length ci) (a.2.2 ++ [rm]).length (cells senc (a.2.2 ++ [rm]))) := by
    rw [hw4]; exact own_belowG HI3.out (Below.refl _ w3).drew
  clear hw4 HI3 HB3 HO2 HB2 HE0
  have HGI : Hid (∀ w', Below w4.heap.size w4 w' → GoodL w' (some ⟨gi, 0, none⟩, ci, a.2.2)) := fun w' hb => by
    obtain ⟨_, _, e, _, _, h⟩ := own_g senc_len (by decide) HI4.out
    cases e
    exact ⟨ins_below (ins_head h) hb, (show a.2.2.length ≤ ci by omega), (fun h => by cases h), HA.out.fit, HA.out.few⟩
  have HT4 : Hid (∀ w', Below w4.heap.size w4 w' → T' w') := fun w' hb => HX.out.tbelow _ _ HT.out (bnext HB4.out hb)
  have HA4 : Hid (∀ w', Below w4.heap.size w4 w' → GoodL w' a) := fun w' hb => HA.out.below (bnext HB4.out hb)
  have HB40 : Hid (∀ w', Below w4.heap.size w4 w' → GoodL w' b) := fun w' hb => HB.out.below (bnext HB4.out hb)
  have lx : (meetP a.2.2 a.2.2).length ≤ 4194304 := Nat.le_trans (setP_len _) (filter_few _ _ (by omega))
  have hfl : ([((some ⟨gi, 0, none⟩, ci, a.2.2) : Lst), b].map (·.2.2)).flatten.length ≤ 4194304 := by simp; omega
  have ly : (bothP [a.2.2, b.2.2]).length ≤ 4194304 := Nat.le_trans (setP_len _) hfl
  have CX : Hid (Calls Tryd.prog 23 #[.slice (some ⟨gi, 0, none⟩) a.2.2.length ci, .slice (some ⟨gi, 0, none⟩) a.2.2.length ci] w4 fun e w' => AnsW w4 w' (meetP a.2.2 a.2.2) e) :=
    (HX.out.meet (some ⟨gi, 0, none⟩, ci, a.2.2) (some ⟨gi, 0, none⟩, ci, a.2.2) w4 (HT4.out _ (Below.refl _ _)) (HGI.out _ (Below.refl _ _)) (HGI.out _ (Below.refl _ _))).mono fun _ _ h => rowa_answ h
  have CY : Hid (∀ w, Below w4.heap.size w4 w → Calls Tryd.prog 25 #[.slice (some ⟨w.heap.size, 0, none⟩) 2 2] (w.alloc (.cells #[.slice (some ⟨gi, 0, none⟩) a.2.2.length ci, lval b] 24)) fun e w' => AnsW w w' (bothP [a.2.2, b.2.2]) e) := fun w hb =>
    api_bothw HX.out [(some ⟨gi, 0, none⟩, ci, a.2.2), b] _ w (HT4.out _ hb) (fun x hx => by
      simp only [List.mem_cons, List.not_mem_nil, or_false] at hx
      rcases hx with rfl | rfl
      · exact HGI.out _ hb
      · exact HB40.out _ hb) hfl (show 2 ≤ 4194304 by decide)
  have CZ : Hid (∀ w, Below w4.heap.size w4 w → Calls Tryd.prog 15 #[.slice (some ⟨gi, 0, none⟩) a.2.2.length ci] w fun e w' => AnsW w w' (setP a.2.2) e) := fun w hb =>
    (HX.out.set (some ⟨gi, 0, none⟩, ci, a.2.2) w (HT4.out _ hb) (HGI.out _ hb)).mono fun _ _ h => rowa_answ h
  obtain ⟨nx, hnx⟩ : ∃ n, meetP a.2.2 a.2.2 = n := ⟨_, rfl⟩
  obtain ⟨ny, hny⟩ : ∃ n, bothP [a.2.2, b.2.2] = n := ⟨_, rfl⟩
  rw [hnx] at CX lx
  rw [hny] at CY ly
  clear hnx hny hfl HB HT
  go_wp2_with fail
  refine CX.out.mono ?_
  rintro e w5 ⟨px, cx, rfl, hox, hb5⟩
  have HB45 := Lib.hid hb5
  have HB45s := hb5.size
  have HX5 := Lib.hid (wr_of hox)
  have hx5 := hox
  clear hox hb5 CX
  unfold lval at hx5
  obtain ⟨_, _, ex, hcx, _, _⟩ := own_g senc_len (by decide) hx5
  clear hx5
  unfold lval
  dsimp only
  go_wp2_with fail
  refine (CY.out w5 HB45.out).mono ?_
  rintro e w6 ⟨py, cy, rfl, hoy, hb6⟩
  have HB46 := Lib.hid (bnext HB45.out hb6)
  have HY6 := Lib.hid (wr_of hoy)
  have HX6 := Lib.hid (HX5.out.below hb6)
  have h56 := hb6.size
  clear hoy hb6 CY HX5 HB45
  unfold lval
  dsimp only
  go_wp2_with fail
  refine (CZ.out w6 HB46.out).mono ?_
  rintro e w7 ⟨pz, cz, rfl, hoz, hb7⟩
  have HB47 := Lib.hid (bnext HB46.out hb7)
  have HOZ := Lib.hid hoz
  have HX7 := Lib.hid (HX6.out.below' hb7 h56)
  have HY7 := Lib.hid (HY6.out.below hb7)
  clear hoz hb7 CZ HX6 HY6 HB46
  unfold lval
  dsimp only
  have hZ : (setP a.2.2).length ≤ 4194304 := Nat.le_trans (setP_len _) (by omega)
  have HZF := Lib.hid (fit_set a.2.2)
  have HRS : Hid (∀ w', Below w4.heap.size w4 w' → Calls Tryd.prog 16 #[lval a] w' fun e w'' => Ans w' w'' (setP a.2.2) e) := fun w' hb => ref_set a w' (HA4.out _ hb)
  obtain ⟨Z, hZe⟩ : ∃ Z, setP a.2.2 = Z := ⟨_, rfl⟩
  rw [hZe] at HOZ hZ HZF HRS ⊢
  unfold lval at HOZ
  dsimp only at HOZ
  clear hZe HF1 HF2
  go_wp2_with fail
  go_loopg [9] nx.length (fun g s9 wy => ∃ k : Nat, k + g = nx.length ∧ s9 = .int .i64 ((k : Nat) : Int) ∧ Below w4.heap.size w4 wy ∧ wy.ownsRow w6.heap.size 9 1 (.slice pz Z.length cz) Z.length (cells senc Z) ∧ Wr wy w4.heap.size w5.heap.size px nx.length ∧ Wr wy w5.heap.size w6.heap.size py ny.length)
  case atStart => exact ⟨0, by omega, rfl, HB47.out, HOZ.out, HX7.out, HY7.out⟩
  case round =>
    clear HB47 HOZ HX7 HY7
    obtain ⟨k, hkg, rfl, hbx, hoz, hwx, hwy⟩ := hrel
    have HBX := Lib.hid hbx
    have HOZ := Lib.hid hoz
    have HWX := Lib.hid hwx
    have HWY := Lib.hid hwy
    clear hbx hoz hwx hwy
    rcases gk with _ | g
    · obtain rfl : k = nx.length := by omega
      go_wp2_with fail
      go_loopg [10] ny.length (fun g s10 wy => ∃ k : Nat, k + g = ny.length ∧ s10 = .int .i64 ((k : Nat) : Int) ∧ Below w4.heap.size w4 wy ∧ wy.ownsRow w6.heap.size 9 1 (.slice pz Z.length cz) Z.length (cells senc Z) ∧ Wr wy w5.heap.size w6.heap.size py ny.length)
      case atStart => exact ⟨0, by omega, rfl, HBX.out, HOZ.out, HWY.out⟩
      case round =>
        clear HBX HOZ HWX HWY
        obtain ⟨k, hkg, rfl, hbx, hoz, hwy⟩ := hrel
        have HBX := Lib.hid hbx
        have HOZ := Lib.hid hoz
        have HWY := Lib.hid hwy
        clear hbx hoz hwy
        rcases gk with _ | g
        · obtain rfl : k = ny.length := by omega
          have HW := Lib.hid (bnext HB4.out HBX.out)
          go_wp2_with fail
          refine (sknown_c HX.out wr (HT4.out _ HBX.out)).mono ?_
          rintro e w9 ⟨rfl, hb9⟩
          have HW9 := Lib.hid (bnext HW.out hb9)
          have HB9 := Lib.hid (bnext HBX.out hb9)
          obtain ⟨_, _, e, hgz⟩ := own_good (own_belowG HOZ.out hb9) HZF.out hZ
          cases e
          have HGZ := Lib.hid hgz
          have HS := Lib.hid (rsame_t (x := (some ⟨gi, 0, none⟩, ci, a.2.2)) (HGI.out _ HB9.out) (HA4.out _ HB9.out) rfl)
          unfold lval at HS
          dsimp only at HS
          clear hb9 hgz HBX HOZ HWY HW
          go_wp2_with fail
          refine HS.out.mono ?_
          rintro e w10 ⟨rfl, hb10⟩
          have HW10 := Lib.hid (bnext HW9.out hb10)
          have HB10 := Lib.hid (bnext HB9.out hb10)
          have HGZ := Lib.hid (HGZ.out.below hb10)
          obtain ⟨_, _, e, _, _, hin⟩ := own_g senc_len (by decide) (own_belowG HI4.out HB10.out)
          cases e
          have hcl : w10.cell? ⟨gi, a.2.2.length, none⟩ = some (.string ⟨#[114, 111, 111, 109]⟩) := ins_last hin
          clear hb10 hin HS HB9 HW9
          go_wp2_with fail
          refine (HRS.out w10 HB10.out).mono ?_
          rintro e w11 ⟨p11, c11, rfl, hg11, hb11⟩
          have HW11 := Lib.hid (bnext HW10.out hb11)
          have HS := Lib.hid (rsame_t (HGZ.out.below hb11) hg11 rfl)
          unfold lval at HS ⊢
          dsimp only at HS ⊢
          clear hb11 hg11 hcl HGZ
          go_wp2_with fail
          refine HS.out.mono ?_
          rintro e w12 ⟨rfl, hb12⟩
          have HW12 := Lib.hid (bnext HW11.out hb12)
          clear hb12 HS
          go_wp2_with fail
          go_ret
          exact ⟨rfl, HW12.out⟩
        · have hk : k < ny.length := by omega
          have hkI : (k : Int) < (ny.length : Int) := by omega
          obtain ⟨gx, Y, rfl, hg1, hg2, hbl, hY⟩ := HWY.out (by omega)
          have c0 := (hbl.cell k).trans (List.getElem?_eq_getElem (by omega : k < Y.length))
          have f0 := hbl.frozen k
          have HBL := Lib.hid (hbl.set k (tx [111, 118, 101, 114]))
          obtain ⟨u0, hu0⟩ : ∃ u, Y[k]'(by omega) = u := ⟨_, rfl⟩
          rw [hu0] at c0
          have h45 := HB45s
          clear hbl hu0
          unfold tx at HBL
          go_wp2_with fail
          go_roundg g
          case measure => omega
          case rel =>
            exact ⟨k + 1, by omega, by go_num, HBX.out.setCell (p := ⟨gx, k, none⟩) (Nat.le_trans h45 hg1) _, own_setCell HOZ.out hg2 _ _, fun _ => ⟨gx, _, rfl, hg1, hg2, HBL.out, by rw [List.length_set]; exact hY⟩⟩
    · have hk : k < nx.length := by omega
      have hkI : (k : Int) < (nx.length : Int) := by omega
      obtain ⟨gx, Y, rfl, hg1, hg2, hbl, hY⟩ := HWX.out (by omega)
      have c0 := (hbl.cell k).trans (List.getElem?_eq_getElem (by omega : k < Y.length))
      have f0 := hbl.frozen k
      have HBL := Lib.hid (hbl.set k (tx [111, 118, 101, 114]))
      obtain ⟨u0, hu0⟩ : ∃ u, Y[k]'(by omega) = u := ⟨_, rfl⟩
      rw [hu0] at c0
      clear hbl hu0
      unfold tx at HBL
      go_wp2_with fail
      go_roundg g
      case measure => omega
      case rel =>
        exact ⟨k + 1, by omega, by go_num, HBX.out.setCell (p := ⟨gx, k, none⟩) hg1 _, own_setCell HOZ.out (by omega) _ _, (fun _ => ⟨gx, _, rfl, hg1, hg2, HBL.out, by rw [List.length_set]; exact hY⟩), HWY.out.other gx _ _ (Or.inl hg2)⟩
end Go.Proofs.YtcklbbbplbboaaaDoor.scp
