/- What the laws of scope ask of the program's calls (SApi: each answers the plain forms; T: what of the package's variables they need); the fixed question; ScopeWords, ScopeSets, ScopeParses. -/
import Derived.Test.YtcklbbbplbboaaaDoorScp7
namespace Go.Proofs.YtcklbbbplbboaaaDoor.scp
open Go.RowKit
open Go.Proofs.YtcklbbbplbboaaaDoor.oct Go.Proofs.YtcklbbbplbboaaaDoor.ref Go.Proofs.YtcklbbbplbboaaaDoor.rows Go.Proofs.YtcklbbbplbboaaaDoor.rowg

/-- texts that have a size -/
def FitS (l : List T) : Prop := ∀ x ∈ l, x.length ≤ 140737488351232
/-- a list at a slice's address: where, its room, its texts -/
abbrev Lst := Option Addr × Nat × List T
def lval (x : Lst) : Value := .slice x.1 x.2.2.length x.2.1
def lenc (x : Lst) : List Value := [lval x]
structure GoodL (w : World) (x : Lst) : Prop where
  row : InS w x.1 x.2.2
  room : x.2.2.length ≤ x.2.1
  nil : x.1 = none → x.2.1 = 0
  fit : FitS x.2.2
  few : x.2.2.length ≤ 4194304
theorem GoodL.below {w w' : World} {x : Lst} (h : GoodL w x) (hb : Below w.heap.size w w') : GoodL w' x := ⟨ins_below h.row hb, h.room, h.nil, h.fit, h.few⟩
/-- a list that is handed in: as long as memory bears -/
structure ArgL (w : World) (x : Lst) : Prop where
  row : InS w x.1 x.2.2
  room : x.2.2.length ≤ x.2.1
  nil : x.1 = none → x.2.1 = 0
  fit : FitS x.2.2
structure SApi (T' : World → Prop) : Prop where
  tbelow : ∀ w w', T' w → Below w.heap.size w w' → T' w'
  word : ∀ (s : ByteArray) w, T' w → s.size ≤ 140737488351232 → Calls Tryd.prog 11 #[.string s] w fun e w' => e = .returned (.bool (wordB s.data.toList)) ∧ Below w.heap.size w w'
  set : ∀ x w, T' w → GoodL w x → Calls Tryd.prog 15 #[lval x] w fun e w' => RowA w w' (setP x.2.2) e
  print : ∀ x w, T' w → GoodL w x → Calls Tryd.prog 17 #[lval x] w fun e w' => e = .returned (tx (printP x.2.2)) ∧ Below w.heap.size w w'
  parse : ∀ (s : ByteArray) w, T' w → s.size ≤ 140737488351232 → Calls Tryd.prog 19 #[.string s] w fun e w' => ParA w w' (parseP s.data.toList) e
  within : ∀ x y w, T' w → GoodL w x → GoodL w y → Calls Tryd.prog 21 #[lval x, lval y] w fun e w' => e = .returned (.bool (withinP x.2.2 y.2.2)) ∧ Below w.heap.size w w'
  meet : ∀ x y w, T' w → GoodL w x → GoodL w y → Calls Tryd.prog 23 #[lval x, lval y] w fun e w' => RowA w w' (meetP x.2.2 y.2.2) e
  both : ∀ P C (ls : List Lst) w, T' w → InG lenc 1 w P ls → ls.length ≤ 4194304 → ls.length ≤ C → (P = none → C = 0) → (∀ x ∈ ls, GoodL w x) → (ls.map (·.2.2)).flatten.length ≤ 4194304 → Calls Tryd.prog 25 #[.slice P ls.length C] w fun e w' => RowA w w' (bothP (ls.map (·.2.2))) e

theorem ins_new (W : World) (l : List T) (e : Nat) : InS (W.alloc (.cells (cells senc l).toArray e)) (some ⟨W.heap.size, 0, none⟩) l := by
  intro _
  refine ⟨_, _, rfl, ?_⟩
  intro i hi j hj
  have h := new_cellsG W W.heap.size e rfl (cells senc l) (i * 1 + j)
  have hc := cells_at senc_len l i hi j hj
  have hl : j < (senc l[i]).length := by rw [senc_len]; exact hj
  rw [List.getElem?_eq_getElem hl] at hc ⊢
  have h2 := h _ hc
  rw [add_none] at h2
  rw [show 0 + i * 1 + j = 0 + (i * 1 + j) by omega]
  exact h2
/-- a row of the call's own is a good list -/
theorem own_good {w : World} {B : Nat} {v : Value} {l : List T} (h : w.ownsRow B 9 1 v l.length (cells senc l)) (hf : FitS l) (hl : l.length ≤ 4194304) : ∃ p c, v = lval (p, c, l) ∧ GoodL w (p, c, l) := by
  obtain ⟨p, c, hv, hc, hn, hin⟩ := own_g senc_len (by decide) h
  exact ⟨p, c, hv, hin, hc, hn, hf, hl⟩
theorem fit_set (l : List T) : FitS (setP l) := fun x hx => by have := (word_len ((setP_mem l x).1 hx).2).2; omega
theorem rsame_l {w : World} {x y : Lst} (hx : GoodL w x) (hy : GoodL w y) : Calls Tryd.prog 14 #[lval x, lval y] w fun e w' => e = .returned (.bool (decide (x.2.2 = y.2.2))) ∧ Below w.heap.size w w' :=
  (rsame_c x.1 x.2.1 x.2.2 y.1 y.2.1 y.2.2 w hx.row hy.row (by have := hx.few; omega) (by have := hy.few; omega)).mono fun _ _ ⟨h1, n, h2⟩ => ⟨h1, by subst h2; exact below_drewN (Below.refl _ _) n⟩
theorem rsame_t {w : World} {x y : Lst} (hx : GoodL w x) (hy : GoodL w y) (he : x.2.2 = y.2.2) : Calls Tryd.prog 14 #[lval x, lval y] w fun e w' => e = .returned (.bool true) ∧ Below w.heap.size w w' :=
  (rsame_l hx hy).mono fun _ _ ⟨h1, h2⟩ => ⟨by rw [h1, decide_eq_true he], h2⟩
theorem known_parse : parseP [98, 32, 97, 32, 98] = (0, [[97], [98]]) := by decide +kernel
theorem known_print : printP [[98], [], [97]] = [97, 32, 98] := by decide +kernel
theorem known_within : withinP [[97]] [[97], [98]] = true := by decide +kernel
theorem known_word : wordB [97] = true := by decide +kernel
set_option maxRecDepth 8000 in
set_option maxHeartbeats 2000000 in
theorem sknown_c {T' : World → Prop} (X : SApi T') (w : World) (ht : T' w) : Calls Tryd.prog 10 #[] w fun e w' => e = .returned (.bool true) ∧ Below w.heap.size w w' := by
  have HT := Lib.hid ht
  have HX := Lib.hid X
  have HK := Lib.hid (X.parse ⟨#[98, 32, 97, 32, 98]⟩ w ht (by decide))
  rw [show (⟨#[98, 32, 97, 32, 98]⟩ : ByteArray).data.toList = [98, 32, 97, 32, 98] from rfl, known_parse] at HK
  clear ht X
  go_enter Tryd.func10, Tryd.ntmps10
  go_wp2_with fail
  refine HK.out.mono ?_
  rintro e w1 ⟨v, rfl, hown, hb1⟩
  obtain ⟨p, c, rfl, hg⟩ := own_good (l := [[97], [98]]) hown (fun x hx => by simp at hx; rcases hx with rfl | rfl <;> decide) (by decide)
  obtain ⟨b, o, hpe, _⟩ := ins_cell hg.row 0 (Nat.zero_lt_succ 1)
  dsimp only at hpe
  subst hpe
  have HG1 := Lib.hid hg
  have HB1 := Lib.hid hb1
  have hc2 : (2 : Int) ≤ (c : Int) := by have := hg.room; simp at this; omega
  have hA1 := (Below.refl w1.heap.size w1).alloc (Nat.le_refl _) (.cells #[.string ⟨#[97]⟩, .string ⟨#[98]⟩] 9)
  have hN1 : GoodL (w1.alloc (.cells #[.string ⟨#[97]⟩, .string ⟨#[98]⟩] 9)) (some ⟨w1.heap.size, 0, none⟩, 2, [[97], [98]]) := ⟨ins_new w1 [[97], [98]] _, Nat.le_refl 2, (fun h => by cases h), hg.fit, hg.few⟩
  have HS := Lib.hid (rsame_t (hg.below hA1) hN1 rfl)
  have HB1a := Lib.hid (bnext hb1 hA1)
  clear hown hg hb1 hA1 hN1 HK
  unfold lval at HS ⊢
  dsimp only at HS ⊢
  go_wp2_with fail
  refine HS.out.mono ?_
  rintro e w2 ⟨rfl, hb2⟩
  have hB2 := bnext HB1a.out hb2
  have hA2 := (Below.refl w2.heap.size w2).alloc (Nat.le_refl _) (.cells #[.string ⟨#[98]⟩, .string ⟨#[]⟩, .string ⟨#[97]⟩] 9)
  have HB2 := Lib.hid (bnext hB2 hA2)
  have HP := Lib.hid (HX.out.print (some ⟨w2.heap.size, 0, none⟩, 3, [[98], [], [97]]) _ (HX.out.tbelow _ _ HT.out HB2.out) ⟨ins_new w2 [[98], [], [97]] _, Nat.le_refl 3, (fun h => by cases h), (fun x hx => by simp at hx; rcases hx with rfl | rfl | rfl <;> decide), (show 3 ≤ 4194304 by decide)⟩)
  have hB12 := Lib.hid (bnext ((Below.refl w1.heap.size w1).alloc (Nat.le_refl _) (.cells #[.string ⟨#[97]⟩, .string ⟨#[98]⟩] 9)) hb2)
  have HB12 := Lib.hid (bnext hB12.out hA2)
  rw [show ((some ⟨w2.heap.size, 0, none⟩, 3, [[98], [], [97]]) : Lst).2.2 = [[98], [], [97]] from rfl, known_print] at HP
  clear hB2 hA2 hb2 hB12 HS HB1a
  unfold lval tx at HP
  dsimp only at HP
  go_wp2_with fail
  refine HP.out.mono ?_
  rintro e w3 ⟨rfl, hb3⟩
  have HB3 := Lib.hid (bnext HB2.out hb3)
  have HB13 := Lib.hid (bnext HB12.out hb3)
  have HW := Lib.hid (HX.out.word ⟨#[97]⟩ w3 (HX.out.tbelow _ _ HT.out HB3.out) (by decide))
  rw [show (⟨#[97]⟩ : ByteArray).data.toList = [97] from rfl, known_word] at HW
  clear hb3 HB2 HB12 HP
  go_wp2_with fail
  refine HW.out.mono ?_
  rintro e w4 ⟨rfl, hb4⟩
  have HB4 := Lib.hid (bnext HB3.out hb4)
  have hG4 := HG1.out.below (bnext HB13.out hb4)
  have HI := Lib.hid (HX.out.within (some ⟨b, o, none⟩, c, [[97]]) (some ⟨b, o, none⟩, c, [[97], [98]]) w4 (HX.out.tbelow _ _ HT.out HB4.out) ⟨ins_take hG4.row 1 (show 1 ≤ 2 by decide), (show 1 ≤ c by omega), hG4.nil, (fun x hx => hG4.fit x (by simp at hx; subst hx; simp)), (show 1 ≤ 4194304 by decide)⟩ hG4)
  rw [show ((some ⟨b, o, none⟩, c, [[97]]) : Lst).2.2 = [[97]] from rfl, show ((some ⟨b, o, none⟩, c, [[97], [98]]) : Lst).2.2 = [[97], [98]] from rfl, known_within] at HI
  unfold lval at HI
  dsimp only at HI
  clear hb4 hG4 HB3 HB13 HW
  go_wp2_with fail
  refine HI.out.mono ?_
  rintro e w5 ⟨rfl, hb5⟩
  have HB5 := Lib.hid (bnext HB4.out hb5)
  clear hb5 HI
  go_wp2_with fail
  go_ret
  exact ⟨rfl, HB5.out⟩
end Go.Proofs.YtcklbbbplbboaaaDoor.scp
