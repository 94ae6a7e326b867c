/- ScopeMeets by SApi. -/
import Derived.Test.YtcklbbbplbboaaaDoorScpLc
namespace Go.Proofs.YtcklbbbplbboaaaDoor.scp
open Go.RowKit
open Go.Proofs.YtcklbbbplbboaaaDoor.oct Go.Proofs.YtcklbbbplbboaaaDoor.ref Go.Proofs.YtcklbbbplbboaaaDoor.rows Go.Proofs.YtcklbbbplbboaaaDoor.rowg

set_option maxRecDepth 100000 in
set_option maxHeartbeats 8000000 in
theorem law_meets {T' : World → Prop} (X : SApi T') (a0 b0 c0 : Lst) (w : World) (ha : ArgL w a0) (hb : ArgL w b0) (hc : ArgL w c0) (ht : T' w) :
    Calls Tryd.prog 6 #[lval a0, lval b0, lval c0] w fun e w' => e = .returned (.bool true) ∧ Below w.heap.size w w' := by
  have HF1 := Lib.hid (few_l a0 w ha)
  have HF2 := Lib.hid (few_l b0 w hb)
  have HF3 := Lib.hid (few_l c0 w hc)
  have HA := Lib.hid (good_few ha)
  have HB := Lib.hid (good_few hb)
  have HC := Lib.hid (good_few hc)
  have hA3 := few_len a0
  have hB3 := few_len b0
  have hC3 := few_len c0
  obtain ⟨a, hae⟩ : ∃ m : Lst, (a0.1, a0.2.1, a0.2.2.take 300) = m := ⟨_, rfl⟩
  obtain ⟨b, hbe⟩ : ∃ m : Lst, (b0.1, b0.2.1, b0.2.2.take 300) = m := ⟨_, rfl⟩
  obtain ⟨c, hce⟩ : ∃ m : Lst, (c0.1, c0.2.1, c0.2.2.take 300) = m := ⟨_, rfl⟩
  have hae2 : a0.2.2.take 300 = a.2.2 := by rw [← hae]
  have hbe2 : b0.2.2.take 300 = b.2.2 := by rw [← hbe]
  have hce2 : c0.2.2.take 300 = c.2.2 := by rw [← hce]
  rw [hae] at HF1 HA
  rw [hbe] at HF2 HB
  rw [hce] at HF3 HC
  rw [hae2] at hA3
  rw [hbe2] at hB3
  rw [hce2] at hC3
  have HT := Lib.hid ht
  have HX := Lib.hid X
  obtain ⟨i0, hi0, hz0, hz1, hz2⟩ := info_parts infoStr
  have hfl : ([a, b, c].map (·.2.2)).flatten.length ≤ 4194304 := by simp; omega
  have CM : Hid (∀ w, T' w → GoodL w a → GoodL w b → Calls Tryd.prog 23 #[lval a, lval b] w fun e w' => Ans w w' (meetP a.2.2 b.2.2) e) := fun w h1 h2 h3 => api_meet X a b w h1 h2 h3
  have RM : Hid (∀ w, GoodL w a → GoodL w b → Calls Tryd.prog 24 #[lval a, lval b] w fun e w' => Ans w w' (meetP a.2.2 b.2.2) e) := fun w h2 h3 => ref_meet a b w h2 h3
  have CB : Hid (∀ w, T' w → GoodL w a → GoodL w b → GoodL w c → Calls Tryd.prog 25 #[.slice (some ⟨w.heap.size, 0, none⟩) 3 3] (w.alloc (.cells #[lval a, lval b, lval c] 24)) fun e w' => Ans w w' (bothP [a.2.2, b.2.2, c.2.2]) e) := fun w h1 h2 h3 h4 =>
    api_both X [a, b, c] _ w h1 (fun x hx => by simp at hx; rcases hx with rfl | rfl | rfl <;> assumption) hfl (show 3 ≤ 4194304 by decide)
  have CB0 : Hid (∀ w, T' w → Calls Tryd.prog 25 #[.slice none 0 0] w fun e w' => Ans w w' [] e) := fun w h1 => api_both0 X w h1
  have CW : Hid (∀ w, T' w → GoodL w a → GoodL w b → Calls Tryd.prog 21 #[lval a, lval b] w fun e w' => e = .returned (.bool (withinP a.2.2 b.2.2)) ∧ Below w.heap.size w w') := fun w h1 h2 h3 => X.within a b w h1 h2 h3
  have RW' : Hid (∀ w, GoodL w a → GoodL w b → Calls Tryd.prog 22 #[lval a, lval b] w fun e w' => e = .returned (.bool (withinP a.2.2 b.2.2)) ∧ w = w') := fun w h2 h3 => rwithin_c a.1 a.2.1 a.2.2 b.1 b.2.1 b.2.2 w h2.row h3.row h2.few h3.few
  have HEQ : Hid (bothP [a.2.2, b.2.2, c.2.2] = setP (a.2.2 ++ b.2.2 ++ c.2.2)) := by show _ = _; unfold bothP; simp
  have HFIT : Hid (FitS (a.2.2 ++ b.2.2 ++ c.2.2)) := fun x hx => by
    rcases List.mem_append.1 hx with h | h
    · rcases List.mem_append.1 h with h | h
      · exact HA.out.fit x h
      · exact HB.out.fit x h
    · exact HC.out.fit x h
  have HLEN : Hid ((a.2.2 ++ b.2.2 ++ c.2.2).length ≤ 4194304) := by show _ ≤ _; simp; omega
  obtain ⟨bb, hbb⟩ : ∃ x, withinP a.2.2 b.2.2 = x := ⟨_, rfl⟩
  rw [hbb] at CW RW'
  have hb1 : (bb == bb) = true := by simp
  have HE0 := Lib.hid (own_emptyG (enc := senc) (k := 1) w 9)
  clear ht X ha hb hc hae hbe hce hae2 hbe2 hce2 hfl hbb
  go_enter Tryd.func6, Tryd.ntmps6
  go_wp2_with fail
  refine HF1.out.mono ?_
  rintro e w1 ⟨rfl, rfl⟩
  go_wp2_with fail
  refine HF2.out.mono ?_
  rintro e w1 ⟨rfl, rfl⟩
  go_wp2_with fail
  refine HF3.out.mono ?_
  rintro e w1 ⟨rfl, rfl⟩
  unfold lval
  go_wp2_with (first
    | (at_builtin; refine wpList_append_g senc_len (by decide) senc_one rfl (.tmp 14) (.tmp 15) 24 9 rfl Tryd.underlying24 hi0 hz0 hz1 hz2 rfl w.heap.size _ 0 (cells senc []) rfl HE0.out a.1 _ a.2.1 a.2.2 rfl (ins_below HA.out.row ((Below.refl _ _).alloc (Nat.le_refl _) _)) rfl HA.out.nil (by unfold maxLen; omega) (by omega) (by simp) ?_; intro v2 w2 hown2 hgrow2; have hb2 := ((Below.refl w.heap.size w).alloc (Nat.le_refl _) _).grown hgrow2 (by simp) (fun k hk => (HE0.out.lt k hk).1); have HO2 := Lib.hid hown2; have HB2 := Lib.hid hb2; clear hown2 hgrow2 hb2)
    | (at_builtin; refine wpList_append_g senc_len (by decide) senc_one rfl (.tmp 16) (.tmp 17) 24 9 rfl Tryd.underlying24 hi0 hz0 hz1 hz2 rfl w.heap.size _ (0 + a.2.2.length) _ rfl HO2.out b.1 _ b.2.1 b.2.2 rfl (ins_below HB.out.row HB2.out) rfl HB.out.nil (by unfold maxLen; omega) (by omega) HB2.out.size ?_; intro v3 w3 hown3 hgrow3; have hb3 := HB2.out.grown hgrow3 HB2.out.size (fun k hk => (HO2.out.lt k hk).1); have HO3 := Lib.hid hown3; have HB3 := Lib.hid hb3; clear hown3 hgrow3 hb3)
    | (at_builtin; refine wpList_append_g senc_len (by decide) senc_one rfl (.tmp 18) (.tmp 19) 24 9 rfl Tryd.underlying24 hi0 hz0 hz1 hz2 rfl w.heap.size _ (0 + a.2.2.length + b.2.2.length) _ rfl HO3.out c.1 _ c.2.1 c.2.2 rfl (ins_below HC.out.row HB3.out) rfl HC.out.nil (by unfold maxLen; omega) (by omega) HB3.out.size ?_; intro v4 w4 hown4 hgrow4; have hb4 := HB3.out.grown hgrow4 HB3.out.size (fun k hk => (HO3.out.lt k hk).1); have HO4 := Lib.hid hown4; have HB4 := Lib.hid hb4; clear hown4 hgrow4 hb4))
  have HALL : Hid (w4.ownsRow w.heap.size 9 1 v4 (a.2.2 ++ b.2.2 ++ c.2.2).length (cells senc (a.2.2 ++ b.2.2 ++ c.2.2))) := by
    have h := HO4.out
    rw [show 0 + a.2.2.length + b.2.2.length + c.2.2.length = (a.2.2 ++ b.2.2 ++ c.2.2).length by rw [Nat.zero_add, List.length_append, List.length_append], show cells senc [] ++ cells senc a.2.2 ++ cells senc b.2.2 ++ cells senc c.2.2 = cells senc (a.2.2 ++ b.2.2 ++ c.2.2) by simp [cells]] at h
    exact h
  obtain ⟨pA, cA, rfl, hgA⟩ := own_good HALL.out HFIT.out HLEN.out
  have HGA := Lib.hid hgA
  have HW := HB4
  obtain ⟨ALL, hALL⟩ : ∃ l, a.2.2 ++ b.2.2 ++ c.2.2 = l := ⟨_, rfl⟩
  rw [hALL] at HGA HEQ ⊢
  rw [HEQ.out] at CB
  clear hgA HALL HO4 HO3 HO2 HB4 HB3 HB2 HE0 HFIT HLEN HEQ hALL
  refine (sknown_c HX.out w4 (HX.out.tbelow _ _ HT.out HW.out)).mono ?_
  rintro e w5 ⟨rfl, hb2⟩
  have HW := Lib.hid (bnext HW.out hb2)
  have HGA := Lib.hid (HGA.out.below hb2)
  clear hb2
  go_wp2_with fail
  refine (CW.out w5 (HX.out.tbelow _ _ HT.out HW.out) (HA.out.below HW.out) (HB.out.below HW.out)).mono ?_
  rintro e w6 ⟨rfl, hb2⟩
  have HW := Lib.hid (bnext HW.out hb2)
  have HGA := Lib.hid (HGA.out.below hb2)
  clear hb2
  go_wp2_with fail
  refine (RW'.out w6 (HA.out.below HW.out) (HB.out.below HW.out)).mono ?_
  rintro e w7 ⟨rfl, rfl⟩
  go_wp2_with fail
  refine (CM.out w6 (HX.out.tbelow _ _ HT.out HW.out) (HA.out.below HW.out) (HB.out.below HW.out)).mono ?_
  rintro e w7 ⟨p7, c7, rfl, hg7, hb2⟩
  have HG7 := Lib.hid hg7
  clear hg7
  have HW := Lib.hid (bnext HW.out hb2)
  have HGA := Lib.hid (HGA.out.below hb2)
  clear hb2
  go_wp2_with fail
  refine (RM.out w7 (HA.out.below HW.out) (HB.out.below HW.out)).mono ?_
  rintro e w8 ⟨p8, c8, rfl, hg8, hb2⟩
  have HS := Lib.hid (rsame_t (HG7.out.below hb2) hg8 rfl)
  clear hg8 HG7
  have HW := Lib.hid (bnext HW.out hb2)
  have HGA := Lib.hid (HGA.out.below hb2)
  clear hb2
  go_wp2_with fail
  refine HS.out.mono ?_
  rintro e w9 ⟨rfl, hb2⟩
  clear HS
  have HW := Lib.hid (bnext HW.out hb2)
  have HGA := Lib.hid (HGA.out.below hb2)
  clear hb2
  unfold lval
  go_wp2_with fail
  refine (CB.out w9 (HX.out.tbelow _ _ HT.out HW.out) (HA.out.below HW.out) (HB.out.below HW.out) (HC.out.below HW.out)).mono ?_
  rintro e w10 ⟨p10, c10, rfl, hg10, hb2⟩
  have HG10 := Lib.hid hg10
  clear hg10
  have HW := Lib.hid (bnext HW.out hb2)
  have HGA := Lib.hid (HGA.out.below hb2)
  clear hb2
  go_wp2_with fail
  refine (ref_set _ w10 HGA.out).mono ?_
  rintro e w11 ⟨p11, c11, rfl, hg11, hb2⟩
  have HS := Lib.hid (rsame_t (HG10.out.below hb2) hg11 rfl)
  clear hg11 HG10
  have HW := Lib.hid (bnext HW.out hb2)
  have HGA := Lib.hid (HGA.out.below hb2)
  clear hb2
  go_wp2_with fail
  refine HS.out.mono ?_
  rintro e w12 ⟨rfl, hb2⟩
  clear HS
  have HW := Lib.hid (bnext HW.out hb2)
  have HGA := Lib.hid (HGA.out.below hb2)
  clear hb2
  go_wp2_with fail
  refine (CB0.out w12 (HX.out.tbelow _ _ HT.out HW.out)).mono ?_
  rintro e w13 ⟨p13, c13, rfl, hg13, hb2⟩
  clear hg13
  have HW := Lib.hid (bnext HW.out hb2)
  have HGA := Lib.hid (HGA.out.below hb2)
  clear hb2
  unfold lval
  dsimp only
  rw [show ([] : List T).length = 0 from rfl]
  go_wp2_with fail
  go_ret
  exact ⟨rfl, HW.out⟩
end Go.Proofs.YtcklbbbplbboaaaDoor.scp
