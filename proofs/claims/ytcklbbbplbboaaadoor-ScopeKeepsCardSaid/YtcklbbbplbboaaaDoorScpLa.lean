/- ScopeWords, ScopeSets, ScopeParses by SApi. -/
import Derived.Test.YtcklbbbplbboaaaDoorScpApi
namespace Go.Proofs.YtcklbbbplbboaaaDoor.scp
open Go.RowKit
open Go.Proofs.YtcklbbbplbboaaaDoor.oct Go.Proofs.YtcklbbbplbboaaaDoor.ref Go.Proofs.YtcklbbbplbboaaaDoor.rows Go.Proofs.YtcklbbbplbboaaaDoor.rowg

set_option maxRecDepth 8000 in
set_option maxHeartbeats 1000000 in
theorem law_words {T' : World → Prop} (X : SApi T') (s : ByteArray) (w : World) (hs : s.size ≤ 140737488351232) (ht : T' w) :
    Calls Tryd.prog 3 #[.string s] w fun e w' => e = .returned (.bool true) ∧ Below w.heap.size w w' := by
  have HT := Lib.hid ht
  have HX := Lib.hid X
  have HK := Lib.hid (sknown_c X w ht)
  have HR := Lib.hid (fun w => rword_c s w)
  have HW := Lib.hid (fun w ht => X.word s w ht hs)
  obtain ⟨bb, hbb⟩ : ∃ b, wordB s.data.toList = b := ⟨_, rfl⟩
  rw [hbb] at HR HW
  have hb : (bb == bb) = true := by simp
  clear ht X hbb hs
  go_enter Tryd.func3, Tryd.ntmps3
  go_wp2_with fail
  refine HK.out.mono ?_
  rintro e w1 ⟨rfl, hb1⟩
  have HB1 := Lib.hid hb1
  clear hb1
  go_wp2_with fail
  refine (HW.out w1 (HX.out.tbelow _ _ HT.out HB1.out)).mono ?_
  rintro e w2 ⟨rfl, hb2⟩
  have HB2 := Lib.hid (bnext HB1.out hb2)
  clear hb2
  go_wp2_with fail
  refine (HR.out w2).mono ?_
  rintro e w3 ⟨rfl, rfl⟩
  go_wp2_with fail
  go_ret
  exact ⟨rfl, HB2.out⟩
/-- the first 300 of a list -/
theorem few_l (x : Lst) (w : World) (h : ArgL w x) : Calls Tryd.prog 13 #[lval x] w fun e w' => e = .returned (lval (x.1, x.2.1, x.2.2.take 300)) ∧ w = w' :=
  few_c x.1 x.2.1 x.2.2 w h.row h.room
theorem good_few {x : Lst} {w : World} (h : ArgL w x) : GoodL w (x.1, x.2.1, x.2.2.take 300) := by
  refine ⟨?_, ?_, h.nil, fun y hy => h.fit y (List.mem_of_mem_take hy), ?_⟩
  · by_cases hl : 300 ≤ x.2.2.length
    · exact ins_take h.row 300 hl
    · show InS w x.1 (x.2.2.take 300)
      rw [List.take_of_length_le (by omega)]; exact h.row
  · have := h.room
    show (x.2.2.take 300).length ≤ x.2.1
    rw [List.length_take]; omega
  · show (x.2.2.take 300).length ≤ _
    rw [List.length_take]; omega
set_option maxRecDepth 8000 in
set_option maxHeartbeats 1000000 in
theorem law_sets {T' : World → Prop} (X : SApi T') (x : Lst) (w : World) (hx : ArgL w x) (ht : T' w) :
    Calls Tryd.prog 4 #[lval x] w fun e w' => e = .returned (.bool true) ∧ Below w.heap.size w w' := by
  have HF := Lib.hid (few_l x w hx)
  have HM := Lib.hid (good_few hx)
  obtain ⟨m, hm⟩ : ∃ m : Lst, (x.1, x.2.1, x.2.2.take 300) = m := ⟨_, rfl⟩
  rw [hm] at HF HM
  have HT := Lib.hid ht
  have HX := Lib.hid X
  have HK := Lib.hid (sknown_c X w ht)
  obtain ⟨L, hL⟩ : ∃ L, printP m.2.2 = L := ⟨_, rfl⟩
  have HP : Hid (∀ w, T' w → GoodL w m → Calls Tryd.prog 17 #[lval m] w fun e w' => e = .returned (tx L) ∧ Below w.heap.size w w') := fun w h1 h2 => by rw [← hL]; exact X.print m w h1 h2
  have HPR : Hid (∀ w, GoodL w m → Calls Tryd.prog 18 #[lval m] w fun e w' => e = .returned (tx L) ∧ Below w.heap.size w w') := fun w h2 => by rw [← hL]; exact rprint_c m.1 m.2.1 m.2.2 w h2.row h2.few
  have hb : (L == L) = true := by simp
  clear ht X hm hL hx
  go_enter Tryd.func4, Tryd.ntmps4
  go_wp2_with fail
  refine HF.out.mono ?_
  rintro e w1 ⟨rfl, rfl⟩
  go_wp2_with fail
  refine HK.out.mono ?_
  rintro e w1 ⟨rfl, hb1⟩
  have HB1 := Lib.hid hb1
  clear hb1 HK
  go_wp2_with fail
  refine (HX.out.set m w1 (HX.out.tbelow _ _ HT.out HB1.out) (HM.out.below HB1.out)).mono ?_
  rintro e w2 ⟨v1, rfl, hown1, hb2⟩
  obtain ⟨p1, c1, rfl, hg1⟩ := own_good hown1 (fit_set _) (Nat.le_trans (setP_len _) HM.out.few)
  have HG1 := Lib.hid hg1
  have HB2 := Lib.hid (bnext HB1.out hb2)
  clear hown1 hg1 hb2
  go_wp2_with fail
  refine (rset_c m.1 m.2.1 m.2.2 w2 (HM.out.below HB2.out).row HM.out.few).mono ?_
  rintro e w3 ⟨v2, rfl, hown2, hb3⟩
  obtain ⟨p2, c2, rfl, hg2⟩ := own_good hown2 (fit_set _) (Nat.le_trans (setP_len _) HM.out.few)
  have HS := Lib.hid (rsame_t (HG1.out.below hb3) hg2 rfl)
  have HB3 := Lib.hid (bnext HB2.out hb3)
  clear hown2 hg2 hb3 HG1
  go_wp2_with fail
  refine HS.out.mono ?_
  rintro e w4 ⟨rfl, hb4⟩
  have HB4 := Lib.hid (bnext HB3.out hb4)
  clear hb4 HS
  go_wp2_with fail
  refine (HP.out w4 (HX.out.tbelow _ _ HT.out HB4.out) (HM.out.below HB4.out)).mono ?_
  rintro e w5 ⟨rfl, hb5⟩
  have HB5 := Lib.hid (bnext HB4.out hb5)
  clear hb5
  unfold tx
  go_wp2_with fail
  refine (HPR.out w5 (HM.out.below HB5.out)).mono ?_
  rintro e w6 ⟨rfl, hb6⟩
  have HB6 := Lib.hid (bnext HB5.out hb6)
  clear hb6
  unfold tx
  go_wp2_with fail
  go_ret
  exact ⟨rfl, HB6.out⟩
theorem parse_fit (s : T) : FitS (parseP s).2 ∧ (parseP s).2.length ≤ 32 := by
  unfold parseP
  split
  · exact ⟨(fun x hx => by cases hx), Nat.zero_le _⟩
  split
  · exact ⟨(fun x hx => by cases hx), Nat.zero_le _⟩
  split
  · rename_i hw
    split
    · exact ⟨(fun x hx => by cases hx), Nat.zero_le _⟩
    · rename_i h
      refine ⟨fit_set _, ?_⟩
      show (setP (cutP s)).length ≤ 32
      rw [← once_set _ (fun x hx => List.all_eq_true.1 hw x hx)]; omega
  · exact ⟨(fun x hx => by cases hx), Nat.zero_le _⟩
theorem par_good {w w' : World} {s : T} {e : Ending} (h : ParA w w' (parseP s) e) : ∃ p c, e = .returned (.tuple #[lval (p, c, (parseP s).2), .int .i64 ((parseP s).1 : Nat)]) ∧ GoodL w' (p, c, (parseP s).2) ∧ Below w.heap.size w w' := by
  obtain ⟨v, rfl, hown, hb⟩ := h
  obtain ⟨hf, hl⟩ := parse_fit s
  obtain ⟨p, c, rfl, hg⟩ := own_good hown hf (by omega)
  exact ⟨p, c, rfl, hg, hb⟩
set_option maxRecDepth 8000 in
set_option maxHeartbeats 1000000 in
theorem law_parses {T' : World → Prop} (X : SApi T') (s : ByteArray) (w : World) (hs : s.size ≤ 140737488351232) (ht : T' w) :
    Calls Tryd.prog 5 #[.string s] w fun e w' => e = .returned (.bool true) ∧ Below w.heap.size w w' := by
  have HT := Lib.hid ht
  have HX := Lib.hid X
  have HP := Lib.hid (fun w ht => (X.parse s w ht hs).mono fun e w' h => par_good h)
  have HR := Lib.hid (fun w => (rparse_c s w).mono fun e w' h => par_good h)
  obtain ⟨⟨n, r⟩, hr⟩ : ∃ r, parseP s.data.toList = r := ⟨_, rfl⟩
  rw [hr] at HP HR
  dsimp only at HP HR
  clear ht X hr hs
  have hb : ((n : Int) == (n : Int)) = true := by simp
  go_enter Tryd.func5, Tryd.ntmps5
  go_wp2_with fail
  refine (HP.out w HT.out).mono ?_
  rintro e w1 ⟨p1, c1, rfl, hg1, hb1⟩
  have HB1 := Lib.hid hb1
  have HG1 := Lib.hid hg1
  clear hb1 hg1
  go_wp2_with fail
  refine (HR.out w1).mono ?_
  rintro e w2 ⟨p2, c2, rfl, hg2, hb2⟩
  have HB2 := Lib.hid (bnext HB1.out hb2)
  have HG1 := Lib.hid (HG1.out.below hb2)
  have HG2 := Lib.hid hg2
  clear hb2 hg2
  go_wp2_with fail
  refine (sknown_c HX.out w2 (HX.out.tbelow _ _ HT.out HB2.out)).mono ?_
  rintro e w3 ⟨rfl, hb3⟩
  have HB3 := Lib.hid (bnext HB2.out hb3)
  have HS := Lib.hid (rsame_t (HG1.out.below hb3) (HG2.out.below hb3) rfl)
  clear hb3
  go_wp2_with fail
  refine HS.out.mono ?_
  rintro e w4 ⟨rfl, hb4⟩
  have HB4 := Lib.hid (bnext HB3.out hb4)
  clear hb4 HS
  go_wp2_with fail
  go_ret
  exact ⟨rfl, HB4.out⟩
end Go.Proofs.YtcklbbbplbboaaaDoor.scp
