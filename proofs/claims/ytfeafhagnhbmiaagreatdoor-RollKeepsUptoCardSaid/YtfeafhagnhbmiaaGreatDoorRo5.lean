/- A client in memory (Cm); the developers' secretMayBe, mayHave, grantsMayBe. No condition beyond what slices and texts are. -/
import Derived.Test.YtfeafhagnhbmiaaGreatDoorRo3
namespace Go.Proofs.YtfeafhagnhbmiaaGreatDoor.rol
open Go.RowKit
open Go.Proofs.YtfeafhagnhbmiaaGreatDoor.oct Go.Proofs.YtfeafhagnhbmiaaGreatDoor.ref Go.Proofs.YtfeafhagnhbmiaaGreatDoor.rows Go.Proofs.YtfeafhagnhbmiaaGreatDoor.rowg
open Go.Proofs.YtfeafhagnhbmiaaGreatDoor.scp (tx senc senc_len InS ins_below ins_cell lt hasB hasB_iff Lst lval lenc GoodL FitS)

/-- a list that is handed in -/
structure LL (w : World) (x : Lst) : Prop where
  row : InS w x.1 x.2.2
  room : x.2.2.length ≤ x.2.1
  nil : x.1 = none → x.2.1 = 0
  fit : FitS x.2.2
  reach : x.2.2.length ≤ 140737488351232
theorem LL.below {w w' : World} {x : Lst} (h : LL w x) (hb : Below w.heap.size w w') : LL w' x := ⟨ins_below h.row hb, h.room, h.nil, h.fit, h.reach⟩
theorem LL.good {w : World} {x : Lst} (h : LL w x) (hf : x.2.2.length ≤ 4194304) : GoodL w x := ⟨h.row, h.room, h.nil, h.fit, hf⟩
theorem LL.of_good {w : World} {x : Lst} (h : GoodL w x) : LL w x := ⟨h.row, h.room, h.nil, h.fit, by have := h.few; omega⟩
/-- a client in memory -/
structure Cm where
  id : T
  sec : T
  pub : Bool
  red : Lst
  sco : Lst
  gra : Lst
instance : Inhabited Cm := ⟨⟨[], [], false, (none, 0, []), (none, 0, []), (none, 0, [])⟩⟩
def clenc (x : Cm) : List Value := [tx x.id, tx x.sec, .bool x.pub, lval x.red, lval x.sco, lval x.gra]
theorem clenc_len : ∀ a, (clenc a).length = 6 := fun _ => rfl
theorem clenc_one : ∀ a : Cm, ∀ u ∈ clenc a, u.oneCell' = true := fun a u hu => by
  simp only [clenc, List.mem_cons, List.not_mem_nil, or_false] at hu
  rcases hu with rfl | rfl | rfl | rfl | rfl | rfl <;> rfl
def cval (x : Cm) : Value := .agg #[tx x.id, tx x.sec, .bool x.pub, lval x.red, lval x.sco, lval x.gra]
def Cm.ct (x : Cm) : CT := ⟨x.id, x.sec, x.pub, x.red.2.2, x.sco.2.2, x.gra.2.2⟩
structure GoodC (w : World) (x : Cm) : Prop where
  id : x.id.length ≤ 140737488351232
  sec : x.sec.length ≤ 140737488351232
  red : LL w x.red
  sco : LL w x.sco
  gra : LL w x.gra
theorem GoodC.below {w w' : World} {x : Cm} (h : GoodC w x) (hb : Below w.heap.size w w') : GoodC w' x := ⟨h.id, h.sec, h.red.below hb, h.sco.below hb, h.gra.below hb⟩
/-- a client's own block -/
theorem box_c (w : World) (v0 v1 v2 v3 v4 v5 : Value) (t : TypeId) : ∃ w1, w.alloc (.cells #[v0, v1, v2, v3, v4, v5] t) = w1 ∧ Below w.heap.size w w1 ∧ Blk w1 w.heap.size t [v0, v1, v2, v3, v4, v5] ∧ w1.cell? ⟨w.heap.size, 0, none⟩ = some v0 ∧ w1.cell? ⟨w.heap.size, 1, none⟩ = some v1 ∧ w1.cell? ⟨w.heap.size, 2, none⟩ = some v2 ∧ w1.cell? ⟨w.heap.size, 3, none⟩ = some v3 ∧ w1.cell? ⟨w.heap.size, 4, none⟩ = some v4 ∧ w1.cell? ⟨w.heap.size, 5, none⟩ = some v5 := by
  have hB : Blk (w.alloc (.cells #[v0, v1, v2, v3, v4, v5] t)) w.heap.size t [v0, v1, v2, v3, v4, v5] := blk_new w _ _ _ rfl
  exact ⟨_, rfl, (Below.refl _ _).alloc (Nat.le_refl _) _, hB, hB.cell 0, hB.cell 1, hB.cell 2, hB.cell 3, hB.cell 4, hB.cell 5⟩
theorem blk6 {w : World} {g : Nat} {t : TypeId} {v0 v1 v2 v3 v4 v5 : Value} (h : Blk w g t [v0, v1, v2, v3, v4, v5]) : w.cell? ⟨g, 0, none⟩ = some v0 ∧ w.cell? ⟨g, 1, none⟩ = some v1 ∧ w.cell? ⟨g, 2, none⟩ = some v2 ∧ w.cell? ⟨g, 3, none⟩ = some v3 ∧ w.cell? ⟨g, 4, none⟩ = some v4 ∧ w.cell? ⟨g, 5, none⟩ = some v5 := ⟨h.cell 0, h.cell 1, h.cell 2, h.cell 3, h.cell 4, h.cell 5⟩
theorem secretMayBe_c (x : Cm) (w : World) :
    Calls Tryz.prog 57 #[cval x] w fun e w' => e = .returned (.bool (secB x.pub x.sec)) ∧ Below w.heap.size w w' := by
  obtain ⟨id, sec, pub, ⟨P3, C3, l3⟩, ⟨P4, C4, l4⟩, ⟨P5, C5, l5⟩⟩ := x
  show Calls _ _ #[.agg #[.string ⟨id.toArray⟩, .string ⟨sec.toArray⟩, .bool pub, .slice P3 l3.length C3, .slice P4 l4.length C4, .slice P5 l5.length C5]] w fun e w' => e = .returned (.bool (secB pub sec)) ∧ _
  obtain ⟨w1, hw1, hb1, _, _, c1, c2, _⟩ := box_c w (.string ⟨id.toArray⟩) (.string ⟨sec.toArray⟩) (.bool pub) (.slice P3 l3.length C3) (.slice P4 l4.length C4) (.slice P5 l5.length C5) 49
  have HT := Lib.hid (fun W => isText128 sec W)
  have HB := Lib.hid hb1
  clear hb1
  cases pub with
  | true =>
    go_enter Tryz.func57, Tryz.ntmps57
    go_wp2_with fail
    go_ret
    refine ⟨ret_bool ?_, HB.out⟩
    unfold secB
    cases sec <;> simp
  | false =>
    go_enter Tryz.func57, Tryz.ntmps57
    go_wp2_with fail
    refine (HT.out _).mono ?_
    rintro e w2 ⟨rfl, rfl⟩
    go_wp2_with fail
    go_ret
    exact ⟨rfl, HB.out⟩
set_option maxRecDepth 100000 in
theorem mayHave_c (x : Cm) (g : T) (w : World) :
    Calls Tryz.prog 82 #[cval x, .string ⟨g.toArray⟩] w fun e w' => e = .returned (.bool (mayB x.pub g)) ∧ Below w.heap.size w w' := by
  obtain ⟨id, sec, pub, ⟨P3, C3, l3⟩, ⟨P4, C4, l4⟩, ⟨P5, C5, l5⟩⟩ := x
  show Calls _ _ #[.agg #[.string ⟨id.toArray⟩, .string ⟨sec.toArray⟩, .bool pub, .slice P3 l3.length C3, .slice P4 l4.length C4, .slice P5 l5.length C5], _] w fun e w' => e = .returned (.bool (mayB pub g)) ∧ _
  obtain ⟨w1, hw1, hb1, _, _, c1, c2, _⟩ := box_c w (.string ⟨id.toArray⟩) (.string ⟨sec.toArray⟩) (.bool pub) (.slice P3 l3.length C3) (.slice P4 l4.length C4) (.slice P5 l5.length C5) 49
  have HB := Lib.hid hb1
  clear hb1
  have HM : Hid (mayB pub g = (decide (g = wAC) || decide (g = wRT) || (decide (g = wCC) && !pub))) := rfl
  by_cases h1 : g = wAC
  · have b1 : (g == wAC) = true := by simpa using h1
    have HR : Hid (mayB pub g = true) := by show _ = _; rw [HM.out, decide_eq_true h1]; simp
    clear HM h1
    unfold wAC at b1
    go_enter Tryz.func82, Tryz.ntmps82
    go_wp2_with fail
    go_ret
    exact ⟨ret_bool HR.out.symm, HB.out⟩
  · have b1 : (g == wAC) = false := by simpa using h1
    by_cases h2 : g = wRT
    · have b2 : (g == wRT) = true := by simpa using h2
      have HR : Hid (mayB pub g = true) := by show _ = _; rw [HM.out, decide_eq_true h2]; simp
      clear HM h1 h2
      unfold wAC at b1
      unfold wRT at b2
      go_enter Tryz.func82, Tryz.ntmps82
      go_wp2_with fail
      go_ret
      exact ⟨ret_bool HR.out.symm, HB.out⟩
    · have b2 : (g == wRT) = false := by simpa using h2
      by_cases h3 : g = wCC
      · have b3 : (g == wCC) = true := by simpa using h3
        have HR : Hid (mayB pub g = !pub) := by show _ = _; rw [HM.out, decide_eq_false h1, decide_eq_false h2, decide_eq_true h3]; simp
        clear HM h1 h2 h3
        unfold wAC at b1
        unfold wRT at b2
        unfold wCC at b3
        go_enter Tryz.func82, Tryz.ntmps82
        go_wp2_with fail
        go_ret
        exact ⟨ret_bool HR.out.symm, HB.out⟩
      · have b3 : (g == wCC) = false := by simpa using h3
        have HR : Hid (mayB pub g = false) := by show _ = _; rw [HM.out, decide_eq_false h1, decide_eq_false h2, decide_eq_false h3]; simp
        clear HM h1 h2 h3
        unfold wAC at b1
        unfold wRT at b2
        unfold wCC at b3
        go_enter Tryz.func82, Tryz.ntmps82
        go_wp2_with fail
        go_ret
        exact ⟨ret_bool HR.out.symm, HB.out⟩
end Go.Proofs.YtfeafhagnhbmiaaGreatDoor.rol
