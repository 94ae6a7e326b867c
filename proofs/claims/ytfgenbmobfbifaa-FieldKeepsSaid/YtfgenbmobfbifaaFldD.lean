/- FieldKeeps by FApi. -/
import Derived.Test.YtfgenbmobfbifaaFldB
import Derived.Test.YtfgenbmobfbifaaFldR
import Derived.Deep.MidRow
namespace Go.Proofs.Ytfgenbmobfbifaa.fld
open Go.RowKit
open Go.Proofs.Ytfgenbmobfbifaa.oct Go.Proofs.Ytfgenbmobfbifaa.ref Go.Proofs.Ytfgenbmobfbifaa.rows
open Go.Lib (byteCells)

def rm : Pr := ([114, 111, 111, 109], [])
theorem InPr.head {w : World} {P : Option Addr} {ps qs : List Pr} (h : InPr w P (ps ++ qs)) : InPr w P ps := by
  intro hl
  obtain ⟨b, o, rfl, hc⟩ := h (by rw [List.length_append]; omega)
  refine ⟨b, o, rfl, fun i hi => ?_⟩
  have := hc i (by rw [List.length_append]; omega)
  rw [List.getElem_append_left hi] at this
  exact this
theorem InPr.last {w : World} {g : Nat} {ps : List Pr} {x : Pr} (h : InPr w (some ⟨g, 0, none⟩) (ps ++ [x])) : w.cell? ⟨g, ps.length * 2, none⟩ = some (tx x.1) := by
  obtain ⟨b, o, e, hc⟩ := h (by simp)
  cases e
  have := (hc ps.length (by simp)).1
  rw [Nat.zero_add, List.getElem_append_right (Nat.le_refl _)] at this
  simpa using this
theorem own_some {w : World} {B : Nat} {v : Value} {ps : List Pr} (h : w.ownsRow B 44 2 v ps.length (pcells ps)) (h0 : 0 < ps.length) : ∃ g c X, v = .slice (some ⟨g, 0, none⟩) ps.length c ∧ ps.length ≤ c ∧ B ≤ g ∧ Blk w g 44 X ∧ ps.length * 2 ≤ X.length ∧ c ≤ 9223372036854775807 := by
  obtain ⟨_, h1⟩ := h
  rcases h1 with ⟨_, h2⟩ | ⟨g, c, cur, rfl, hB, hg, hn, hm, hs, _⟩
  · omega
  · exact ⟨g, c, cur.toList, rfl, hn, hB, hg, by { have e : cur.toList.length = c * 2 := by { rw [Array.length_toList]; exact hs }; rw [e]; exact Nat.mul_le_mul_right 2 hn }, by unfold maxLen at hm; omega⟩
theorem own_cap {w : World} {B g c : Nat} {ps : List Pr} {x : Pr} (h : w.ownsRow B 44 2 (.slice (some ⟨g, 0, none⟩) (ps ++ [x]).length c) (ps ++ [x]).length (pcells (ps ++ [x]))) : ps.length < c := by
  obtain ⟨p, c', e, hc, _⟩ := own_pairs h
  cases e
  rw [List.length_append] at hc
  exact hc
theorem own_setCell {w : World} {B n g : Nat} {v : Value} {xs : List Value} (h : w.ownsRow B 44 2 v n xs) (hg : g < B) (o : Nat) (u : Value) : (w.setCell ⟨g, o, none⟩ u).ownsRow B 44 2 v n xs := by
  refine ⟨h.1, ?_⟩
  rcases h.2 with h2 | ⟨g2, cap, cur, h1, h2, h3, h4⟩
  · exact Or.inl h2
  · refine Or.inr ⟨g2, cap, cur, h1, h2, ?_, h4⟩
    rw [Below.heap_setCell _ _ _ _ (by show g2 ≠ g; omega)]
    exact h3
set_option maxRecDepth 8000 in
set_option maxHeartbeats 2000000 in
theorem law_keeps {T : World → Prop} (X : FApi T) (P : Option Addr) (C : Nat) (ps : List Pr) (l : List UInt8) (w : World) (hp : InPr w P ps) (hps : ps.length ≤ 4398046510976) (hc : ps.length ≤ C) (hn : P = none → C = 0) (hs : Fit ps) (hl : l.length ≤ 140737488351232) (ht : T w) :
    Calls Try.prog 11 #[.slice P ps.length C, .string ⟨l.toArray⟩] w fun e w' => e = .returned (.bool true) ∧ Below w.heap.size w w' := by
  have HT := Lib.hid ht
  have HX := Lib.hid X
  have HP := Lib.hid hp
  have HS := Lib.hid hs
  have HC := Lib.hid hc
  have HN := Lib.hid hn
  have HL := Lib.hid hl
  have HPS := Lib.hid hps
  have HE0 := Lib.hid (own_nilP w)
  obtain ⟨i0, hi0, hz0, hz1, hz2⟩ := info_parts infoPair
  clear ht X hp hs hc hn hl
  obtain ⟨L, hLe⟩ : ∃ L : ByteArray, ⟨l.toArray⟩ = L := ⟨_, rfl⟩
  have HPl : Hid (∀ w, T w → Calls Try.prog 19 #[.string L] w fun e w' => ParseV w w' (parse l) e) := fun w ht => by
    rw [← hLe]
    exact HX.out.parse l w ht (by have := HL.out; omega)
  have HF := Lib.hid (parse_few l)
  obtain ⟨⟨el, q⟩, hq⟩ : ∃ r, parse l = r := ⟨_, rfl⟩
  rw [hq] at HPl HF
  clear hq
  rw [hLe]
  clear hLe
  go_enter Try.func11, Try.ntmps11
  go_wp2_with (first
    | (at_builtin; refine wpList_append_pr rfl (.tmp 13) (.tmp 14) rfl w.heap.size _ 0 (pcells []) rfl HE0.out P ps.length C ps rfl (HP.out.below ((Below.refl _ _).alloc (Nat.le_refl _) _)) rfl HN.out (by have := HPS.out; omega) (by simp) ?_; intro v1 w1 hown1 hgrow1; have hb1 := ((Below.refl w.heap.size w).alloc (Nat.le_refl _) _).grown hgrow1 (by simp) (fun k hk => (HE0.out.lt k hk).1); obtain ⟨p1, c1, rfl, hc1, hn1, _⟩ := own_ps (ps := ps) hown1 (by omega) rfl; have HW1 : Hid (w1.ownsRow w.heap.size 44 2 (.slice p1 ps.length c1) ps.length (pcells ps)) := by { show World.ownsRow _ _ _ _ _ _ _; rw [Nat.zero_add] at hown1; exact hown1 }; have HB1 := Lib.hid hb1; have HE1 := Lib.hid (own_nilP w1); clear hown1 hgrow1 hb1)
    | (at_builtin; refine wpList_append_pr rfl (.tmp 16) (.tmp 17) rfl w1.heap.size _ 0 (pcells []) rfl HE1.out P ps.length C ps rfl (HP.out.below (HB1.out.alloc HB1.out.size _)) rfl HN.out (by have := HPS.out; omega) (by simp) ?_; intro v2 w2 hown2 hgrow2; have hb2 := ((Below.refl w1.heap.size w1).alloc (Nat.le_refl _) _).grown hgrow2 (by simp) (fun k hk => (HE1.out.lt k hk).1); have HO2 := Lib.hid hown2; have HB2 := Lib.hid hb2; clear hown2 hgrow2 hb2)
    | (at_builtin; refine wpList_append_lies _ rfl (.tmp 18) (.tmp 20) 30 rfl w1.heap.size 44 i0 (.agg #[tx [], tx []]) 2 32 Try.underlying30 hi0 hz0 hz1 hz2 rfl (by decide) v2 (0 + ps.length) (pcells [] ++ pcells ps) rfl (HO2.out.alloc _) ⟨w2.heap.size, 0, none⟩ 1 1 [tx rm.1, tx rm.2] rfl rfl (new_cells _ _ _ rfl _) (fun u hu => by simp at hu; rcases hu with rfl | rfl <;> rfl) (by decide) (by unfold maxLen; have := HPS.out; omega) (by have := HPS.out; omega) (by have := HB2.out.size; simp; omega) (w2.heap.size + 1) (by simp) ?_; intro gi ci w3 hown3 hgrow3 _ _; have hb3 := (HB2.out.alloc HB2.out.size _).grown hgrow3 (by have := HB2.out.size; simp; omega) (fun k hk => (HO2.out.lt k hk).1); rw [Nat.zero_add] at hown3 ⊢; have HI3 : Hid (w3.ownsRow w1.heap.size 44 2 (.slice (some ⟨gi, 0, none⟩) (ps ++ [rm]).length ci) (ps ++ [rm]).length (pcells (ps ++ [rm]))) := by { show World.ownsRow _ _ _ _ _ _ _; rw [pcells_append, List.length_append]; exact hown3 }; have HW3 := Lib.hid (own_belowS HW1.out hb3); have HB3 := Lib.hid (bnext HB1.out hb3); have hci1 : ps.length < ci := own_cap HI3.out; have hci : ps.length ≤ ci := Nat.le_of_lt hci1; clear hown3 hgrow3 hb3 HO2 HB2 HB1 HW1))
  have HI3p : Hid (InPr w3 (some ⟨gi, 0, none⟩) ps) := by
    obtain ⟨_, _, e, _, _, h⟩ := own_pairs HI3.out
    cases e
    exact h.head
  refine (HX.out.print (some ⟨gi, 0, none⟩) ci ps w3 (HX.out.tbelow _ _ HT.out HB3.out) HI3p.out (by have := HPS.out; omega) hci (fun h => by cases h) HS.out).mono ?_
  rintro e w4 ⟨rfl, hb4⟩
  have HI4 := Lib.hid (own_belowS HI3.out hb4)
  have HW4 := Lib.hid (own_belowS HW3.out hb4)
  have HI4p := Lib.hid (HI3p.out.below hb4)
  have HB4 := Lib.hid (bnext HB3.out hb4)
  clear hb4 HI3 HW3 HI3p HB3
  go_wp2_with fail
  refine (HX.out.get (some ⟨gi, 0, none⟩) ci ps [97] w4 (HX.out.tbelow _ _ HT.out HB4.out) HI4p.out (by have := HPS.out; omega) hci (fun h => by cases h) (vals_fit HS.out)).mono ?_
  rintro e w5 ⟨rfl, hb5⟩
  have HI5 := Lib.hid (own_belowS HI4.out hb5)
  have HW5 := Lib.hid (own_belowS HW4.out hb5)
  have HB5 := Lib.hid (bnext HB4.out hb5)
  clear hb5 HI4 HW4 HI4p HB4
  go_wp2_with fail
  refine (HPl.out w5 (HX.out.tbelow _ _ HT.out HB5.out)).mono ?_
  rintro e w6 ⟨v, rfl, hown, hb6⟩
  obtain ⟨px, cx, rfl, hcx, hnx, _⟩ := own_pairs hown
  have HXB : Hid (0 < q.length → ∃ gx X, px = some ⟨gx, 0, none⟩ ∧ w5.heap.size ≤ gx ∧ Blk w6 gx 44 X ∧ q.length * 2 ≤ X.length) := fun h0 => by
    obtain ⟨g, c, X, e, _, h2, h3, h4, _⟩ := own_some hown h0
    cases e
    exact ⟨g, X, rfl, h2, h3, h4⟩
  have HB56 := Lib.hid hb6
  have HB6 := Lib.hid (bnext HB5.out hb6)
  clear hown hb6
  go_wp2_with fail
  refine (HPl.out w6 (HX.out.tbelow _ _ HT.out HB6.out)).mono ?_
  rintro e w7 ⟨v, rfl, hown, hb7⟩
  have HOY := Lib.hid hown
  obtain ⟨py, cy, rfl, hcy, hny, hiny⟩ := own_pairs hown
  have HIY := Lib.hid hiny
  have HB67 := Lib.hid hb7
  have HB57 := Lib.hid (bnext HB56.out hb7)
  have HB7 := Lib.hid (bnext HB6.out hb7)
  have HE7 := Lib.hid (own_nilP w7)
  have HNY := Lib.hid hny
  clear hown hb7 HB6 HB56 hiny hny
  go_wp2_with (at_builtin; refine wpList_append_pr rfl (.tmp 42) (.tmp 43) rfl w7.heap.size _ 0 (pcells []) rfl HE7.out py q.length cy q rfl (HIY.out.below ((Below.refl _ _).alloc (Nat.le_refl _) _)) rfl HNY.out (by have := HF.out; omega) (by simp) ?_; intro v8 w8 hown8 hgrow8; have hb8 := ((Below.refl w7.heap.size w7).alloc (Nat.le_refl _) _).grown hgrow8 (by simp) (fun k hk => (HE7.out.lt k hk).1); obtain ⟨pz, cz, rfl, hcz, hnz, _⟩ := own_ps (ps := q) hown8 (by omega) rfl; have HOZ : Hid (w8.ownsRow w7.heap.size 44 2 (.slice pz q.length cz) q.length (pcells q)) := by { show World.ownsRow _ _ _ _ _ _ _; rw [Nat.zero_add] at hown8; exact hown8 }; have HB78 := Lib.hid hb8; clear hown8 hgrow8 hb8)
  have HXB8 : Hid (0 < q.length → ∃ gx X, px = some ⟨gx, 0, none⟩ ∧ w5.heap.size ≤ gx ∧ gx < w6.heap.size ∧ Blk w8 gx 44 X ∧ q.length * 2 ≤ X.length) := fun h0 => by
    obtain ⟨g, X, e, h2, h3, h4⟩ := HXB.out h0
    exact ⟨g, X, e, h2, h3.lt, (h3.below HB67.out).below HB78.out, h4⟩
  have HOY8 := Lib.hid (own_belowS HOY.out HB78.out)
  have HB58 := Lib.hid (bnext HB57.out HB78.out)
  have HB67s := HB67.out.size
  clear HXB HOY HB78 HB67 HB57
  go_loopg [12] q.length (fun g s12 wy => ∃ k : Nat, k + g = q.length ∧ s12 = .int .i64 ((k : Nat) : Int) ∧ Below w5.heap.size w5 wy ∧ wy.ownsRow w6.heap.size 44 2 (.slice py q.length cy) q.length (pcells q) ∧ wy.ownsRow w7.heap.size 44 2 (.slice pz q.length cz) q.length (pcells q) ∧ (0 < q.length → ∃ gx X, px = some ⟨gx, 0, none⟩ ∧ w5.heap.size ≤ gx ∧ gx < w6.heap.size ∧ Blk wy gx 44 X ∧ q.length * 2 ≤ X.length))
  case atStart => exact ⟨0, by omega, rfl, HB58.out, HOY8.out, HOZ.out, HXB8.out⟩
  case round =>
    clear HB58 HOY8 HOZ HXB8
    obtain ⟨k, hkg, rfl, hbx, hoy, hoz, hxb⟩ := hrel
    have HBX := Lib.hid hbx
    have HOY := Lib.hid hoy
    have HOZ := Lib.hid hoz
    clear hbx hoy hoz
    cases gk with
    | zero =>
      obtain rfl : k = q.length := by omega
      clear hxb
      go_wp2_with fail
      refine (fknown_c HX.out wr (HX.out.tbelow _ _ HT.out (bnext HB5.out HBX.out))).mono ?_
      rintro e w9 ⟨rfl, hb9⟩
      have hbw9 := bnext (bnext HB5.out HBX.out) hb9
      have h59 := bnext HBX.out hb9
      obtain ⟨_, _, e, _, _, hinI⟩ := own_pairs (own_belowS HI5.out h59)
      cases e
      obtain ⟨_, _, e, _, _, hinW⟩ := own_pairs (own_belowS HW5.out h59)
      cases e
      obtain ⟨_, _, e, _, _, hinY⟩ := own_pairs (own_belowS HOY.out hb9)
      cases e
      obtain ⟨_, _, e, _, _, hinZ⟩ := own_pairs (own_belowS HOZ.out hb9)
      cases e
      have cl := hinI.last
      unfold tx rm at cl
      have hcl : w9.cell? ⟨gi, ps.length * 2, none⟩ = some (.string ⟨#[114, 111, 111, 109]⟩) := cl
      have HS1 := Lib.hid (rsame_eq (some ⟨gi, 0, none⟩) ci p1 c1 ps w9 hinI.head hinW (by omega))
      have HS2 := Lib.hid (fun n => rsame_eq py cy pz cz q (w9.drewN n) hinY hinZ (by have h := HF.out; omega))
      have HB := Lib.hid hbw9
      clear hb9 hbw9 h59 hinI hinW hinY hinZ cl HBX HOY HOZ HI5 HW5 HB5
      go_wp2_with fail
      refine HS1.out.mono ?_
      rintro e w10 ⟨rfl, n1, rfl⟩
      have hcl2 : (w9.drewN n1).cell? ⟨gi, ps.length * 2, none⟩ = some (.string ⟨#[114, 111, 111, 109]⟩) := hcl
      go_wp2_with fail
      refine (HS2.out n1).mono ?_
      rintro e w11 ⟨rfl, n2, rfl⟩
      go_wp2_with fail
      go_ret
      exact ⟨rfl, below_drewN HB.out (n1 + n2)⟩
    | succ g =>
      have hk : k < q.length := by omega
      have hk64 : k < 64 := by have h := HF.out; omega
      obtain ⟨gx, Y, rfl, hg1, hg2, hbl, hY⟩ := hxb (by omega)
      have hb1 := hbl.set (k * 2) (tx [111, 118, 101, 114])
      have c0 := (hbl.cell (k * 2)).trans (List.getElem?_eq_getElem (by omega : k * 2 < Y.length))
      have f0 := hbl.frozen (k * 2)
      have c1 := (hb1.cell (k * 2 + 1)).trans (List.getElem?_eq_getElem (by rw [List.length_set]; omega))
      have f1 := hb1.frozen (k * 2 + 1)
      have HBL := Lib.hid (hb1.set (k * 2 + 1) (tx []))
      obtain ⟨u0, hu0⟩ : ∃ u, Y[k * 2]'(by omega) = u := ⟨_, rfl⟩
      rw [hu0] at c0
      clear hxb hbl hb1 hu0
      unfold tx at c1 f1 HBL
      go_wp2_with fail
      go_roundg g
      case measure => omega
      case rel =>
        refine ⟨k + 1, by omega, by go_num, (HBX.out.setCell hg1 _).setCell hg1 _, own_setCell (own_setCell HOY.out hg2 _ _) hg2 _ _, own_setCell (own_setCell HOZ.out (by have := HB67s; omega) _ _) (by have := HB67s; omega) _ _, fun _ => ⟨gx, _, rfl, hg1, hg2, HBL.out, by rw [List.length_set, List.length_set]; exact hY⟩⟩
end Go.Proofs.Ytfgenbmobfbifaa.fld
