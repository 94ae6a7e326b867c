/- The law's wipe: a client's lists are written over. Condition: each list is empty or lies from the beginning of a block of texts. -/
import Derived.Test.YtfeafhagnhbmiaaGreatDoorRoOp
namespace Go.Proofs.YtfeafhagnhbmiaaGreatDoor.rol
open Go.RowKit
open Go.Proofs.YtfeafhagnhbmiaaGreatDoor.oct Go.Proofs.YtfeafhagnhbmiaaGreatDoor.ref Go.Proofs.YtfeafhagnhbmiaaGreatDoor.rows Go.Proofs.YtfeafhagnhbmiaaGreatDoor.rowg Go.Proofs.YtfeafhagnhbmiaaGreatDoor.trn
open Go.Proofs.YtfeafhagnhbmiaaGreatDoor.scp (tx senc senc_len InS ins_below ins_cell lt Lst lval lenc GoodL FitS)

/-- a list that may be written over: it is empty, or lies from the beginning of a block of texts that is one of S -/
def LW (w : World) (S : Nat → Prop) (x : Lst) : Prop := x.2.2.length = 0 ∨ ∃ g X, x.1 = some ⟨g, 0, none⟩ ∧ S g ∧ Blk w g 9 X ∧ x.2.2.length ≤ X.length
theorem LW.below {w w' : World} {S : Nat → Prop} {x : Lst} (h : LW w S x) (hb : Below w.heap.size w w') : LW w' S x := h.imp id fun ⟨g, X, h1, h2, h3, h4⟩ => ⟨g, X, h1, h2, h3.below hb, h4⟩
theorem LW.set {w : World} {S : Nat → Prop} {x : Lst} (h : LW w S x) {g i : Nat} {v : Value} : LW (w.setCell ⟨g, i, none⟩ v) S x := h.imp id fun ⟨k, X, h1, h2, h3, h4⟩ => by
  by_cases e : g = k
  · subst e
    exact ⟨g, _, h1, h2, h3.set i v, by rw [List.length_set]; exact h4⟩
  · exact ⟨k, X, h1, h2, h3.set_other e i v, h4⟩
theorem LW.of_own {w : World} {B : Nat} {S : Nat → Prop} {x : Lst} (h : w.ownsRow B 9 1 (lval x) x.2.2.length (cells senc x.2.2)) (hS : ∀ b, (lval x).ownBlock = some b → S b) : LW w S x := by
  rcases h.2 with ⟨h1, h2⟩ | ⟨g, cap, cur, h1, h2, h3, h4, h5, h6, h7⟩
  · exact Or.inl h2
  · obtain ⟨P, C, l⟩ := x
    unfold lval at h1 hS
    injection h1 with e1 _ e3
    dsimp only at e1 e3
    subst e1
    refine Or.inr ⟨g, cur.toList, rfl, hS g rfl, h3, ?_⟩
    show l.length ≤ _
    have q7 : cur.toList.length = cur.size := Array.length_toList
    have q4 : l.length ≤ cap := h4
    have q6 : cur.size = cap * 1 := by first | exact h6 | exact h5 | exact h7
    omega
set_option maxRecDepth 100000 in
set_option maxHeartbeats 2000000 in
theorem wipe_c (y : Cm) (S : Nat → Prop) (w : World) (h3 : LW w S y.red) (h4 : LW w S y.sco) (h5 : LW w S y.gra) (hS : ∀ k, S k → k < w.heap.size) (hl : Few y) :
    Calls Tryz.prog 16 #[cval y] w fun e w' => e = .returned (.tuple #[]) ∧ Turn S w w' := by
  obtain ⟨id, sec, pub, ⟨P3, C3, l3⟩, ⟨P4, C4, l4⟩, ⟨P5, C5, l5⟩⟩ := y
  show Calls _ _ #[.agg #[.string ⟨id.toArray⟩, .string ⟨sec.toArray⟩, .bool pub, .slice P3 l3.length C3, .slice P4 l4.length C4, .slice P5 l5.length C5]] w _
  obtain ⟨w1, hw1, hb1, hB, hrest⟩ := box_c w (.string ⟨id.toArray⟩) (.string ⟨sec.toArray⟩) (.bool pub) (.slice P3 l3.length C3) (.slice P4 l4.length C4) (.slice P5 l5.length C5) 27
  have k3 : l3.length ≤ 4194304 := hl.red
  have k4 : l4.length ≤ 4194304 := hl.sco
  have k5 : l5.length ≤ 4194304 := hl.gra
  have H3 := Lib.hid (h3.below hb1)
  have H4 := Lib.hid (h4.below hb1)
  have H5 := Lib.hid (h5.below hb1)
  have HT := Lib.hid (Turn.of_below (S := S) hb1)
  have HBX := Lib.hid hB
  have HS := Lib.hid hS
  clear h3 h4 h5 hrest hB hl hS hb1
  have hI : Hid (∃ wx, wx = w1 ∧ LW wx S (P3, C3, l3) ∧ LW wx S (P4, C4, l4) ∧ LW wx S (P5, C5, l5) ∧ Blk wx w.heap.size 27 [.string ⟨id.toArray⟩, .string ⟨sec.toArray⟩, .bool pub, .slice P3 l3.length C3, .slice P4 l4.length C4, .slice P5 l5.length C5] ∧ Turn S w wx) := Lib.hid ⟨w1, rfl, H3.out, H4.out, H5.out, HBX.out, HT.out⟩
  obtain ⟨j0, j1, j2, j3, j4, j5⟩ := blk6 HBX.out
  clear H3 H4 H5 HT
  go_enter Tryz.func16, Tryz.ntmps16
  go_wp2_with fail
  go_loopg [2] l3.length (fun g s2 wx => ∃ k : Nat, k + g = l3.length ∧ s2 = .int .i64 k ∧ Hid (LW wx S (P3, C3, l3) ∧ LW wx S (P4, C4, l4) ∧ LW wx S (P5, C5, l5) ∧ Blk wx w.heap.size 27 [.string ⟨id.toArray⟩, .string ⟨sec.toArray⟩, .bool pub, .slice P3 l3.length C3, .slice P4 l4.length C4, .slice P5 l5.length C5] ∧ Turn S w wx))
  case atStart => exact ⟨0, by omega, rfl, Lib.hid (by obtain ⟨wx, rfl, h⟩ := hI.out; exact h)⟩
  case round =>
    obtain ⟨k, hkg, rfl, HN⟩ := hrel
    obtain ⟨j0, j1, j2, j3, j4, j5⟩ := blk6 HN.out.2.2.2.1
    rcases gk with _ | gg
    · obtain hke : k = l3.length := by omega
      have hkn : ¬ ((k : Int) < (l3.length : Int)) := by omega
      have hkd : decide ((k : Int) < (l3.length : Int)) = false := decide_eq_false (by omega)
      go_wp2_with fail
      go_loopg [3] l4.length (fun g s3 wx => ∃ k : Nat, k + g = l4.length ∧ s3 = .int .i64 k ∧ Hid (LW wx S (P3, C3, l3) ∧ LW wx S (P4, C4, l4) ∧ LW wx S (P5, C5, l5) ∧ Blk wx w.heap.size 27 [.string ⟨id.toArray⟩, .string ⟨sec.toArray⟩, .bool pub, .slice P3 l3.length C3, .slice P4 l4.length C4, .slice P5 l5.length C5] ∧ Turn S w wx))
      case atStart => exact ⟨0, by omega, rfl, Lib.hid (HN.out)⟩
      case round =>
        obtain ⟨k, hkg, rfl, HN⟩ := hrel
        obtain ⟨j0, j1, j2, j3, j4, j5⟩ := blk6 HN.out.2.2.2.1
        rcases gk with _ | gg
        · obtain hke : k = l4.length := by omega
          have hkn : ¬ ((k : Int) < (l4.length : Int)) := by omega
          have hkd : decide ((k : Int) < (l4.length : Int)) = false := decide_eq_false (by omega)
          go_wp2_with fail
          go_loopg [4] l5.length (fun g s4 wx => ∃ k : Nat, k + g = l5.length ∧ s4 = .int .i64 k ∧ Hid (LW wx S (P3, C3, l3) ∧ LW wx S (P4, C4, l4) ∧ LW wx S (P5, C5, l5) ∧ Blk wx w.heap.size 27 [.string ⟨id.toArray⟩, .string ⟨sec.toArray⟩, .bool pub, .slice P3 l3.length C3, .slice P4 l4.length C4, .slice P5 l5.length C5] ∧ Turn S w wx))
          case atStart => exact ⟨0, by omega, rfl, Lib.hid (HN.out)⟩
          case round =>
            obtain ⟨k, hkg, rfl, HN⟩ := hrel
            obtain ⟨j0, j1, j2, j3, j4, j5⟩ := blk6 HN.out.2.2.2.1
            rcases gk with _ | gg
            · obtain hke : k = l5.length := by omega
              have hkn : ¬ ((k : Int) < (l5.length : Int)) := by omega
              have hkd : decide ((k : Int) < (l5.length : Int)) = false := decide_eq_false (by omega)
              go_wp2_with fail
              clear hkn hkd hke
              first | go_end0 | refine bodyPost_ret (results_none rfl _ _ _) rfl ?_
              exact ⟨rfl, HN.out.2.2.2.2⟩
            · have hkI : (k : Int) < (l5.length : Int) := by omega
              obtain ⟨g, X, hP, hSg, hX, hXl⟩ := HN.out.2.2.1.resolve_left (by show ¬ l5.length = 0; omega)
              have hP2 : P5 = some ⟨g, 0, none⟩ := hP
              subst hP2
              have hXk : k < X.length := by have h9 : l5.length ≤ X.length := hXl; omega
              have hcx : wr.cell? ⟨g, 0 + k, none⟩ = some X[k] := by rw [Nat.zero_add, hX.cell k, List.getElem?_eq_getElem hXk]
              have hcf : wr.frozen? ⟨g, 0 + k, none⟩ = false := hX.frozen _
              have hcx2 : wr.cell? ⟨g, k, none⟩ = some X[k] := by rw [hX.cell k, List.getElem?_eq_getElem hXk]
              have hcf2 : wr.frozen? ⟨g, k, none⟩ = false := hX.frozen _
              have HNX : Hid (∀ v, LW (wr.setCell ⟨g, k, none⟩ v) S (P3, C3, l3) ∧ LW (wr.setCell ⟨g, k, none⟩ v) S (P4, C4, l4) ∧ LW (wr.setCell ⟨g, k, none⟩ v) S ((some ⟨g, 0, none⟩), C5, l5) ∧ Blk (wr.setCell ⟨g, k, none⟩ v) w.heap.size 27 [.string ⟨id.toArray⟩, .string ⟨sec.toArray⟩, .bool pub, .slice P3 l3.length C3, .slice P4 l4.length C4, .slice (some ⟨g, 0, none⟩) l5.length C5] ∧ Turn S w (wr.setCell ⟨g, k, none⟩ v)) := Lib.hid fun v => ⟨HN.out.1.set, HN.out.2.1.set, HN.out.2.2.1.set, HN.out.2.2.2.1.set_other (by have := HS.out g hSg; omega) _ _, HN.out.2.2.2.2.next (Turn.set wr g k v hSg)⟩
              obtain ⟨x0, hx0⟩ : ∃ x, X[k] = x := ⟨_, rfl⟩
              rw [hx0] at hcx hcx2
              clear hX hXl hx0 hP hXk hSg
              go_wp2_with fail
              go_roundg gg
              case measure => omega
              case rel => exact ⟨k + 1, by omega, by go_num, Lib.hid (HNX.out _)⟩
        · have hkI : (k : Int) < (l4.length : Int) := by omega
          obtain ⟨g, X, hP, hSg, hX, hXl⟩ := HN.out.2.1.resolve_left (by show ¬ l4.length = 0; omega)
          have hP2 : P4 = some ⟨g, 0, none⟩ := hP
          subst hP2
          have hXk : k < X.length := by have h9 : l4.length ≤ X.length := hXl; omega
          have hcx : wr.cell? ⟨g, 0 + k, none⟩ = some X[k] := by rw [Nat.zero_add, hX.cell k, List.getElem?_eq_getElem hXk]
          have hcf : wr.frozen? ⟨g, 0 + k, none⟩ = false := hX.frozen _
          have hcx2 : wr.cell? ⟨g, k, none⟩ = some X[k] := by rw [hX.cell k, List.getElem?_eq_getElem hXk]
          have hcf2 : wr.frozen? ⟨g, k, none⟩ = false := hX.frozen _
          have HNX : Hid (∀ v, LW (wr.setCell ⟨g, k, none⟩ v) S (P3, C3, l3) ∧ LW (wr.setCell ⟨g, k, none⟩ v) S ((some ⟨g, 0, none⟩), C4, l4) ∧ LW (wr.setCell ⟨g, k, none⟩ v) S (P5, C5, l5) ∧ Blk (wr.setCell ⟨g, k, none⟩ v) w.heap.size 27 [.string ⟨id.toArray⟩, .string ⟨sec.toArray⟩, .bool pub, .slice P3 l3.length C3, .slice (some ⟨g, 0, none⟩) l4.length C4, .slice P5 l5.length C5] ∧ Turn S w (wr.setCell ⟨g, k, none⟩ v)) := Lib.hid fun v => ⟨HN.out.1.set, HN.out.2.1.set, HN.out.2.2.1.set, HN.out.2.2.2.1.set_other (by have := HS.out g hSg; omega) _ _, HN.out.2.2.2.2.next (Turn.set wr g k v hSg)⟩
          obtain ⟨x0, hx0⟩ : ∃ x, X[k] = x := ⟨_, rfl⟩
          rw [hx0] at hcx hcx2
          clear hX hXl hx0 hP hXk hSg
          go_wp2_with fail
          go_roundg gg
          case measure => omega
          case rel => exact ⟨k + 1, by omega, by go_num, Lib.hid (HNX.out _)⟩
    · have hkI : (k : Int) < (l3.length : Int) := by omega
      obtain ⟨g, X, hP, hSg, hX, hXl⟩ := HN.out.1.resolve_left (by show ¬ l3.length = 0; omega)
      have hP2 : P3 = some ⟨g, 0, none⟩ := hP
      subst hP2
      have hXk : k < X.length := by have h9 : l3.length ≤ X.length := hXl; omega
      have hcx : wr.cell? ⟨g, 0 + k, none⟩ = some X[k] := by rw [Nat.zero_add, hX.cell k, List.getElem?_eq_getElem hXk]
      have hcf : wr.frozen? ⟨g, 0 + k, none⟩ = false := hX.frozen _
      have hcx2 : wr.cell? ⟨g, k, none⟩ = some X[k] := by rw [hX.cell k, List.getElem?_eq_getElem hXk]
      have hcf2 : wr.frozen? ⟨g, k, none⟩ = false := hX.frozen _
      have HNX : Hid (∀ v, LW (wr.setCell ⟨g, k, none⟩ v) S ((some ⟨g, 0, none⟩), C3, l3) ∧ LW (wr.setCell ⟨g, k, none⟩ v) S (P4, C4, l4) ∧ LW (wr.setCell ⟨g, k, none⟩ v) S (P5, C5, l5) ∧ Blk (wr.setCell ⟨g, k, none⟩ v) w.heap.size 27 [.string ⟨id.toArray⟩, .string ⟨sec.toArray⟩, .bool pub, .slice (some ⟨g, 0, none⟩) l3.length C3, .slice P4 l4.length C4, .slice P5 l5.length C5] ∧ Turn S w (wr.setCell ⟨g, k, none⟩ v)) := Lib.hid fun v => ⟨HN.out.1.set, HN.out.2.1.set, HN.out.2.2.1.set, HN.out.2.2.2.1.set_other (by have := HS.out g hSg; omega) _ _, HN.out.2.2.2.2.next (Turn.set wr g k v hSg)⟩
      obtain ⟨x0, hx0⟩ : ∃ x, X[k] = x := ⟨_, rfl⟩
      rw [hx0] at hcx hcx2
      clear hX hXl hx0 hP hXk hSg
      go_wp2_with fail
      go_roundg gg
      case measure => omega
      case rel => exact ⟨k + 1, by omega, by go_num, Lib.hid (HNX.out _)⟩
end Go.Proofs.YtfeafhagnhbmiaaGreatDoor.rol
