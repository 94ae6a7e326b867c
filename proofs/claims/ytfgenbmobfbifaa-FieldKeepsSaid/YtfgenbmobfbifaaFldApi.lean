/- What the laws of field ask of the program's calls (FApi: each answers the plain forms; T: what of the package's variables they need); the fixed question; FieldQuotes, FieldUnquotes, FieldPrints, FieldGets, FieldParses by it. -/
import Derived.Test.YtfgenbmobfbifaaFld8
namespace Go.Proofs.Ytfgenbmobfbifaa.fld
open Go.RowKit
open Go.Proofs.Ytfgenbmobfbifaa.oct Go.Proofs.Ytfgenbmobfbifaa.ref Go.Proofs.Ytfgenbmobfbifaa.rows
open Go.Lib (byteCells)

/-- values that fit a row -/
def Vals (ps : List Pr) : Prop := ∀ x ∈ ps, x.2.length ≤ 140737488355328
theorem vals_small {ps : List Pr} (h : Small ps) : Vals ps := fun x hx => Nat.le_trans (h x hx).2 (by decide)
/-- names and values within the reach -/
def Fit (ps : List Pr) : Prop := ∀ x ∈ ps, x.1.length ≤ 140737488351232 ∧ x.2.length ≤ 140737488351232
theorem fit_small {ps : List Pr} (h : Small ps) : Fit ps := fun x hx => ⟨Nat.le_trans (h x hx).1 (by decide), Nat.le_trans (h x hx).2 (by decide)⟩
theorem vals_fit {ps : List Pr} (h : Fit ps) : Vals ps := fun x hx => Nat.le_trans (h x hx).2 (by decide)
structure FApi (T : World → Prop) : Prop where
  tbelow : ∀ w w', T w → Below w.heap.size w w' → T w'
  quote : ∀ l w, T w → l.length ≤ 1048576 → Calls Try.prog 13 #[.string ⟨l.toArray⟩] w fun e w' => e = .returned (.string ⟨(quote l).toArray⟩) ∧ Below w.heap.size w w'
  unquote : ∀ l w, T w → l.length ≤ 140737488351232 → Calls Try.prog 15 #[.string ⟨l.toArray⟩] w fun e w' => e = .returned (unqV (unq l)) ∧ Below w.heap.size w w'
  print : ∀ P C ps w, T w → InPr w P ps → ps.length ≤ 4398046511104 → ps.length ≤ C → (P = none → C = 0) → Fit ps → Calls Try.prog 17 #[.slice P ps.length C] w fun e w' => e = .returned (.tuple #[tx (printR ps).2, .int .i64 ((printR ps).1 : Nat)]) ∧ Below w.heap.size w w'
  parse : ∀ l w, T w → l.length ≤ 140737488351232 → Calls Try.prog 19 #[.string ⟨l.toArray⟩] w fun e w' => ParseV w w' (parse l) e
  get : ∀ P C ps n w, T w → InPr w P ps → ps.length ≤ 4398046511104 → ps.length ≤ C → (P = none → C = 0) → Vals ps → Calls Try.prog 22 #[.slice P ps.length C, tx n] w fun e w' => e = .returned (.tuple #[tx (getV ps n), .int .i64 (getN ps n : Nat)]) ∧ Below w.heap.size w w'

theorem unq_plain1 : unq [97] = some [97] ∧ unq [49] = some [49] ∧ unq [98, 43, 99] = some [98, 32, 99] ∧ unq [] = some [] ∧ unq [120, 61, 121] = some [120, 61, 121] := by
  refine ⟨?_, ?_, ?_, ?_, ?_⟩ <;> simp [unq_cons, unq]
theorem known_parse : parse [38, 97, 61, 49, 38, 38, 98, 43, 99, 38, 61, 120, 61, 121] = (0, [([97], [49]), ([98, 32, 99], []), ([], [120, 61, 121])]) := by
  obtain ⟨h1, h2, h3, h4, h5⟩ := unq_plain1
  have e : pieces [38, 97, 61, 49, 38, 38, 98, 43, 99, 38, 61, 120, 61, 121] = [[97, 61, 49], [98, 43, 99], [61, 120, 61, 121]] := by decide
  have p1 : pairOf [97, 61, 49] = some ([97], [49]) := by
    unfold pairOf
    rw [show cutEq [97, 61, 49] = ([97], [49]) from by decide]
    simp only [h1, h2]
  have p2 : pairOf [98, 43, 99] = some ([98, 32, 99], []) := by
    unfold pairOf
    rw [show cutEq [98, 43, 99] = ([98, 43, 99], []) from by decide]
    simp only [h3, h4]
  have p3 : pairOf [61, 120, 61, 121] = some ([], [120, 61, 121]) := by
    unfold pairOf
    rw [show cutEq [61, 120, 61, 121] = ([], [120, 61, 121]) from by decide]
    simp only [h4, h5]
  unfold parse
  rw [if_neg (by decide), e]
  simp [runP, p1, p2, p3]
theorem known_quote : quote [97, 32, 98, 38] = [97, 43, 98, 37, 50, 54] := by decide

set_option maxRecDepth 8000 in
set_option maxHeartbeats 1000000 in
theorem fknown_c {T : World → Prop} (X : FApi T) (w : World) (ht : T w) : Calls Try.prog 12 #[] w fun e w' => e = .returned (.bool true) ∧ Below w.heap.size w w' := by
  have HT := Lib.hid ht
  have HX := Lib.hid X
  have hP := X.parse [38, 97, 61, 49, 38, 38, 98, 43, 99, 38, 61, 120, 61, 121] w ht (by decide)
  have HQ : Hid (∀ w, T w → Calls Try.prog 13 #[.string ⟨[97, 32, 98, 38].toArray⟩] w fun e w' => e = .returned (.string ⟨#[97, 43, 98, 37, 50, 54]⟩) ∧ Below w.heap.size w w') := fun w ht => by
    have h := X.quote [97, 32, 98, 38] w ht (by decide)
    rw [known_quote] at h
    exact h
  rw [known_parse] at hP
  have HP := Lib.hid hP
  clear ht X hP
  go_enter Try.func12, Try.ntmps12
  go_wp2_with fail
  refine HP.out.mono ?_
  rintro e w1 ⟨v, rfl, hown, hb1⟩
  obtain ⟨p, c, rfl, _, _, hin⟩ := own_pairs hown
  obtain ⟨b, o, rfl, hc⟩ := hin (by decide)
  have c1 := (hc 1 (by decide)).1
  have c2 := (hc 2 (by decide)).2
  unfold tx at c1 c2
  dsimp only [List.getElem_cons_succ, List.getElem_cons_zero] at c1 c2
  have HB1 := Lib.hid hb1
  clear hown hin hc hb1
  go_wp2_with fail
  refine (HQ.out w1 (HX.out.tbelow _ _ HT.out HB1.out)).mono ?_
  rintro e w2 ⟨rfl, hb2⟩
  have d1 := (hb2.cell (p := ⟨b, o + 1 * 2, none⟩) (cell_lt c1)).trans c1
  have d2 := (hb2.cell (p := ⟨b, o + 2 * 2 + 1, none⟩) (cell_lt c2)).trans c2
  have HB2 := Lib.hid (bnext HB1.out hb2)
  clear c1 c2 hb2
  go_wp2_with fail
  go_ret
  exact ⟨rfl, HB2.out⟩
end Go.Proofs.Ytfgenbmobfbifaa.fld
