/- JsonKeeps by JApi. -/
import Derived.Test.YtbgnoobgnpebdaaDoorJsnLb
import Derived.Deep.MidRow
namespace Go.Proofs.YtbgnoobgnpebdaaDoor.jsn
open Go.RowKit
open Go.Proofs.YtbgnoobgnpebdaaDoor.oct Go.Proofs.YtbgnoobgnpebdaaDoor.ref Go.Proofs.YtbgnoobgnpebdaaDoor.rows Go.Proofs.YtbgnoobgnpebdaaDoor.rowg
open Go.Lib (byteCells)

def rm : Mem := ⟨[114, 111, 111, 109], 0, [], 0, false⟩
theorem InM.head {w : World} {P : Option Addr} {ps qs : List Mem} (h : InM w P (ps ++ qs)) : InM w P ps := by
  intro hl
  obtain ⟨b, o, rfl, hc⟩ := h (by rw [List.length_append]; omega)
  refine ⟨b, o, rfl, fun i hi j hj => ?_⟩
  have := hc i (by rw [List.length_append]; omega) j hj
  rw [List.getElem_append_left hi] at this
  exact this
theorem InM.last {w : World} {g : Nat} {ps : List Mem} {x : Mem} (h : InM w (some ⟨g, 0, none⟩) (ps ++ [x])) : w.cell? ⟨g, ps.length * 5, none⟩ = some (tx x.name) := by
  obtain ⟨b, o, e, hc⟩ := h (by simp)
  cases e
  have := hc ps.length (by simp) 0 (by decide)
  rw [List.getElem_append_right (Nat.le_refl _)] at this
  simpa [menc] using this
theorem own_some {w : World} {B : Nat} {v : Value} {ps : List Mem} (h : w.ownsRow B 38 5 v ps.length (cells menc ps)) (h0 : 0 < ps.length) : ∃ g c X, v = .slice (some ⟨g, 0, none⟩) ps.length c ∧ ps.length ≤ c ∧ B ≤ g ∧ Blk w g 38 X ∧ ps.length * 5 ≤ X.length ∧ c ≤ 9223372036854775807 := by
  obtain ⟨_, h1⟩ := h
  rcases h1 with ⟨_, h2⟩ | ⟨g, c, cur, rfl, hB, hg, hn, hm, hs, _⟩
  · have := cells_len menc_len ps
    rw [h2] at this
    simp at this; omega
  · exact ⟨g, c, cur.toList, rfl, hn, hB, hg, by { have e : cur.toList.length = c * 5 := by { rw [Array.length_toList]; exact hs }; rw [e]; exact Nat.mul_le_mul_right 5 hn }, by unfold maxLen at hm; omega⟩
theorem own_cap {w : World} {B g c : Nat} {ps : List Mem} {x : Mem} (h : w.ownsRow B 38 5 (.slice (some ⟨g, 0, none⟩) (ps ++ [x]).length c) (ps ++ [x]).length (cells menc (ps ++ [x]))) : ps.length < c := by
  obtain ⟨p, c', e, hc, _⟩ := own_ms h
  cases e
  rw [List.length_append] at hc
  exact hc
theorem own_setCell {w : World} {B n g : Nat} {v : Value} {xs : List Value} (h : w.ownsRow B 38 5 v n xs) (hg : g < B) (o : Nat) (u : Value) : (w.setCell ⟨g, o, none⟩ u).ownsRow B 38 5 v n xs := by
  refine ⟨h.1, ?_⟩
  rcases h.2 with h2 | ⟨g2, cap, cur, h1, h2, h3, h4⟩
  · exact Or.inl h2
  · refine Or.inr ⟨g2, cap, cur, h1, h2, ?_, h4⟩
    rw [Below.heap_setCell _ _ _ _ (by show g2 ≠ g; omega)]
    exact h3
theorem own_p {w : World} {B : Nat} {v : Value} {ms : List Mem} {n : Nat} {xs : List Value} (h : w.ownsRow B 38 5 v n xs) (hn : n = ms.length) (hx : xs = cells menc ms) : ∃ p c, v = .slice p ms.length c ∧ ms.length ≤ c ∧ (p = none → c = 0) ∧ InM w p ms := by
  subst hn hx
  exact own_ms h
set_option maxRecDepth 8000 in
set_option maxHeartbeats 4000000 in
theorem law_keeps {T : World → Prop} (X : JApi T) (P : Option Addr) (C : Nat) (ps : List Mem) (l : List UInt8) (w : World) (hp : InM w P ps) (hps : ps.length ≤ 2513169434900) (hc : ps.length ≤ C) (hn : P = none → C = 0) (hs : FitM ps) (hl : l.length ≤ 140737488351232) (ht : T w) :
    Calls Tryd.prog 9 #[.slice P ps.length C, .string ⟨l.toArray⟩] w fun e w' => e = .returned (.bool true) ∧ Below w.heap.size w w' := by
  have HT := Lib.hid ht
  have HX := Lib.hid X
  have HP := Lib.hid hp
  have HS := Lib.hid hs
  have HC := Lib.hid hc
  have HN := Lib.hid hn
  have HL := Lib.hid hl
  have HPS := Lib.hid hps
  have HE0 := Lib.hid (own_emptyG (enc := menc) (k := 5) w 38)
  obtain ⟨i0, hi0, hz0, hz1, hz2⟩ := info_parts infoMem2
  clear ht X hp hs hc hn hl
  obtain ⟨L, hLe⟩ : ∃ L : ByteArray, ⟨l.toArray⟩ = L := ⟨_, rfl⟩
  have HPl : Hid (∀ w, T w → Calls Tryd.prog 13 #[.string L] w fun e w' => ParseV w w' (parseJ l) e) := fun w ht => by
    rw [← hLe]
    exact HX.out.parse l w ht (by have := HL.out; omega)
  have HF := Lib.hid (parse_few l)
  obtain ⟨⟨el, q⟩, hq⟩ : ∃ r, parseJ l = r := ⟨_, rfl⟩
  rw [hq] at HPl HF
  clear hq
  rw [hLe]
  clear hLe
  go_enter Tryd.func9, Tryd.ntmps9
  go_wp2_with (first
    | (at_builtin; refine wpList_append_g menc_len (by decide) menc_one rfl (.tmp 12) (.tmp 13) 22 38 rfl Tryd.underlying22 hi0 hz0 hz1 hz2 rfl w.heap.size _ 0 (cells menc []) rfl HE0.out P ps.length C ps rfl (inm_below HP.out ((Below.refl _ _).alloc (Nat.le_refl _) _)) rfl HN.out (by unfold maxLen; have := HPS.out; omega) (by have := HPS.out; omega) (by simp) ?_; intro v2 w2 hown2 hgrow2; have hb2 := ((Below.refl w.heap.size w).alloc (Nat.le_refl _) _).grown hgrow2 (by simp) (fun k hk => (HE0.out.lt k hk).1); have HO2 := Lib.hid hown2; have HB2 := Lib.hid hb2; clear hown2 hgrow2 hb2)
    | (at_builtin; refine wpList_append_lies _ rfl (.tmp 14) (.tmp 16) 22 rfl w.heap.size 38 i0 (.agg #[.string ⟨#[]⟩, .int .i64 0, .string ⟨#[]⟩, .int .i64 0, .bool false]) 5 56 Tryd.underlying22 hi0 hz0 hz1 hz2 rfl (by decide) v2 (0 + ps.length) (cells menc [] ++ cells menc ps) rfl (HO2.out.alloc _) ⟨w2.heap.size, 0, none⟩ 1 1 (menc rm) rfl rfl (new_cellsG _ _ _ rfl _) (menc_one rm) (by decide) (by unfold maxLen; have := HPS.out; omega) (by have := HPS.out; omega) (by have := HB2.out.size; simp; omega) (w2.heap.size + 1) (by simp) ?_; intro gi ci w3 hown3 hgrow3 _ _; have hb3 := (HB2.out.alloc HB2.out.size _).grown hgrow3 (by have := HB2.out.size; simp; omega) (fun k hk => (HO2.out.lt k hk).1); rw [Nat.zero_add] at hown3 ⊢; have HI3 : Hid (w3.ownsRow w.heap.size 38 5 (.slice (some ⟨gi, 0, none⟩) (ps ++ [rm]).length ci) (ps ++ [rm]).length (cells menc (ps ++ [rm]))) := by { show World.ownsRow _ _ _ _ _ _ _; rw [cells_append, cells_one, List.length_append]; exact hown3 }; have HB3 := Lib.hid hb3; have hci1 : ps.length < ci := own_cap HI3.out; have hci : ps.length ≤ ci := Nat.le_of_lt hci1; clear hown3 hgrow3 hb3 HO2 HB2))
  have HI3p : Hid (InM w3 (some ⟨gi, 0, none⟩) ps) := by
    obtain ⟨_, _, e, _, _, h⟩ := own_ms HI3.out
    cases e
    exact InM.head h
  refine (HX.out.print (some ⟨gi, 0, none⟩) ci ps w3 (HX.out.tbelow _ _ HT.out HB3.out) HI3p.out (by have := HPS.out; omega) hci (fun h => by cases h) HS.out).mono ?_
  rintro e w4 ⟨rfl, hb4⟩
  have HI4 := Lib.hid (own_belowG HI3.out hb4)
  have HI4p := Lib.hid (inm_below HI3p.out hb4)
  have HB4 := Lib.hid (bnext HB3.out hb4)
  clear hb4 HI3 HI3p HB3
  go_wp2_with fail
  refine (HX.out.get (some ⟨gi, 0, none⟩) ci ps [97] w4 (HX.out.tbelow _ _ HT.out HB4.out) HI4p.out (by have := HPS.out; omega) hci (fun h => by cases h) HS.out).mono ?_
  rintro e w5 ⟨rfl, hb5⟩
  have HI5 := Lib.hid (own_belowG HI4.out hb5)
  have HB5 := Lib.hid (bnext HB4.out hb5)
  clear hb5 HI4 HI4p HB4
  obtain ⟨gv, hgv⟩ : ∃ v, getV (findM ps [97]) = v := ⟨_, rfl⟩
  rw [hgv]
  clear hgv
  go_wp2_with fail
  refine (HPl.out w5 (HX.out.tbelow _ _ HT.out HB5.out)).mono ?_
  rintro e w6 ⟨v, rfl, hown, hb6⟩
  obtain ⟨px, cx, rfl, hcx, hnx, _⟩ := own_ms hown
  have HXB : Hid (0 < q.length → ∃ gx X, px = some ⟨gx, 0, none⟩ ∧ w5.heap.size ≤ gx ∧ Blk w6 gx 38 X ∧ q.length * 5 ≤ X.length) := fun h0 => by
    obtain ⟨g, c, X, e, _, h2, h3, h4, _⟩ := own_some hown h0
    cases e
    exact ⟨g, X, rfl, h2, h3, h4⟩
  have HB56 := Lib.hid hb6
  have HB6 := Lib.hid (bnext HB5.out hb6)
  clear hown hb6
  go_wp2_with fail
  refine (HPl.out w6 (HX.out.tbelow _ _ HT.out HB6.out)).mono ?_
  rintro e w7 ⟨v, rfl, hown, hb7⟩
  have HOY := Lib.hid hown
  obtain ⟨py, cy, rfl, hcy, hny, hiny⟩ := own_ms hown
  have HIY := Lib.hid hiny
  have HB67 := Lib.hid hb7
  have HB57 := Lib.hid (bnext HB56.out hb7)
  have HB7 := Lib.hid (bnext HB6.out hb7)
  have HE7 := Lib.hid (own_emptyG (enc := menc) (k := 5) w7 38)
  have HNY := Lib.hid hny
  clear hown hb7 HB6 HB56 hiny hny
  go_wp2_with (at_builtin; refine wpList_append_g menc_len (by decide) menc_one rfl (.tmp 38) (.tmp 39) 22 38 rfl Tryd.underlying22 hi0 hz0 hz1 hz2 rfl w7.heap.size _ 0 (cells menc []) rfl HE7.out py q.length cy q rfl (inm_below HIY.out ((Below.refl _ _).alloc (Nat.le_refl _) _)) rfl HNY.out (by unfold maxLen; have := HF.out; omega) (by have := HF.out; omega) (by simp) ?_; intro v8 w8 hown8 hgrow8; have hb8 := ((Below.refl w7.heap.size w7).alloc (Nat.le_refl _) _).grown hgrow8 (by simp) (fun k hk => (HE7.out.lt k hk).1); obtain ⟨pz, cz, rfl, hcz, hnz, _⟩ := own_p (ms := q) hown8 (by omega) rfl; have HOZ : Hid (w8.ownsRow w7.heap.size 38 5 (.slice pz q.length cz) q.length (cells menc q)) := by { show World.ownsRow _ _ _ _ _ _ _; rw [Nat.zero_add] at hown8; exact hown8 }; have HB78 := Lib.hid hb8; clear hown8 hgrow8 hb8)
  have HXB8 : Hid (0 < q.length → ∃ gx X, px = some ⟨gx, 0, none⟩ ∧ w5.heap.size ≤ gx ∧ gx < w6.heap.size ∧ Blk w8 gx 38 X ∧ q.length * 5 ≤ X.length) := fun h0 => by
    obtain ⟨g, X, e, h2, h3, h4⟩ := HXB.out h0
    exact ⟨g, X, e, h2, h3.lt, (h3.below HB67.out).below HB78.out, h4⟩
  have HOY8 := Lib.hid (own_belowG HOY.out HB78.out)
  have HB58 := Lib.hid (bnext HB57.out HB78.out)
  have HB67s := HB67.out.size
  clear HXB HOY HB78 HB67 HB57
  go_loopg [11] q.length (fun g s12 wy => ∃ k : Nat, k + g = q.length ∧ s12 = .int .i64 ((k : Nat) : Int) ∧ Below w5.heap.size w5 wy ∧ wy.ownsRow w6.heap.size 38 5 (.slice py q.length cy) q.length (cells menc q) ∧ wy.ownsRow w7.heap.size 38 5 (.slice pz q.length cz) q.length (cells menc q) ∧ (0 < q.length → ∃ gx X, px = some ⟨gx, 0, none⟩ ∧ w5.heap.size ≤ gx ∧ gx < w6.heap.size ∧ Blk wy gx 38 X ∧ q.length * 5 ≤ X.length))
  case atStart => exact ⟨0, by omega, rfl, HB58.out, HOY8.out, HOZ.out, HXB8.out⟩
  case round =>
    clear HB58 HOY8 HOZ HXB8
    obtain ⟨k, hkg, rfl, hbx, hoy, hoz, hxb⟩ := hrel
    have HBX := Lib.hid hbx
    have HOY := Lib.hid hoy
    have HOZ := Lib.hid hoz
    clear hbx hoy hoz
    cases gk with
    | zero =>
      obtain rfl : k = q.length := by omega
      clear hxb
      go_wp2_with fail
      refine (jknown_c HX.out wr (HX.out.tbelow _ _ HT.out (bnext HB5.out HBX.out))).mono ?_
      rintro e w9 ⟨rfl, hb9⟩
      have hbw9 := bnext (bnext HB5.out HBX.out) hb9
      have h59 := bnext HBX.out hb9
      obtain ⟨_, _, e, _, _, hinI⟩ := own_ms (own_belowG HI5.out h59)
      cases e
      obtain ⟨_, _, e, _, _, hinY⟩ := own_ms (own_belowG HOY.out hb9)
      cases e
      obtain ⟨_, _, e, _, _, hinZ⟩ := own_ms (own_belowG HOZ.out hb9)
      cases e
      have cl := InM.last hinI
      unfold tx rm at cl
      have hcl : w9.cell? ⟨gi, ps.length * 5, none⟩ = some (.string ⟨#[114, 111, 111, 109]⟩) := cl
      have HS1 := Lib.hid (rsame_c (some ⟨gi, 0, none⟩) ci ps P C ps w9 (InM.head hinI) (inm_below HP.out hbw9) (by omega) (by omega))
      have HS2 := Lib.hid (fun n => rsame_c py cy q pz cz q (w9.drewN n) hinY hinZ (by have h := HF.out; omega) (by have h := HF.out; omega))
      have HB := Lib.hid hbw9
      rw [decide_eq_true rfl] at HS1 
      simp only [decide_true] at HS2
      clear hb9 hbw9 h59 hinI hinY hinZ cl HBX HOY HOZ HI5 HB5
      go_wp2_with fail
      refine HS1.out.mono ?_
      rintro e w10 ⟨rfl, n1, rfl⟩
      have hcl2 : (w9.drewN n1).cell? ⟨gi, ps.length * 5, none⟩ = some (.string ⟨#[114, 111, 111, 109]⟩) := hcl
      go_wp2_with fail
      refine (HS2.out n1).mono ?_
      rintro e w11 ⟨rfl, n2, rfl⟩
      go_wp2_with fail
      go_ret
      exact ⟨rfl, below_drewN HB.out (n1 + n2)⟩
    | succ g =>
      have hk : k < q.length := by omega
      have hk64 : k < 64 := by have h := HF.out; omega
      obtain ⟨gx, Y, rfl, hg1, hg2, hbl, hY⟩ := hxb (by omega)
      have hb1 := hbl.set (k * 5) (tx [111, 118, 101, 114])
      have hb2 := hb1.set (k * 5 + 1) (.int .i64 0)
      have hb3 := hb2.set (k * 5 + 2) (tx [])
      have hb4 := hb3.set (k * 5 + 3) (.int .i64 0)
      have c0 := (hbl.cell (k * 5)).trans (List.getElem?_eq_getElem (by omega : k * 5 < Y.length))
      have f0 := hbl.frozen (k * 5)
      have c1 := (hb1.cell (k * 5 + 1)).trans (List.getElem?_eq_getElem (by simp only [List.length_set]; omega))
      have f1 := hb1.frozen (k * 5 + 1)
      have c2 := (hb2.cell (k * 5 + 2)).trans (List.getElem?_eq_getElem (by simp only [List.length_set]; omega))
      have f2 := hb2.frozen (k * 5 + 2)
      have c3 := (hb3.cell (k * 5 + 3)).trans (List.getElem?_eq_getElem (by simp only [List.length_set]; omega))
      have f3 := hb3.frozen (k * 5 + 3)
      have c4 := (hb4.cell (k * 5 + 4)).trans (List.getElem?_eq_getElem (by simp only [List.length_set]; omega))
      have f4 := hb4.frozen (k * 5 + 4)
      have HBL := Lib.hid (hb4.set (k * 5 + 4) (.bool false))
      obtain ⟨u0, hu0⟩ : ∃ u, Y[k * 5]'(by omega) = u := ⟨_, rfl⟩
      rw [hu0] at c0
      clear hxb hbl hb1 hb2 hb3 hb4 hu0
      unfold tx at c1 f1 c2 f2 c3 f3 c4 f4 HBL
      go_wp2_with fail
      go_roundg g
      case measure => omega
      case rel =>
        refine ⟨k + 1, by omega, by go_num, ((((HBX.out.setCell hg1 _).setCell hg1 _).setCell hg1 _).setCell hg1 _).setCell hg1 _, own_setCell (own_setCell (own_setCell (own_setCell (own_setCell HOY.out hg2 _ _) hg2 _ _) hg2 _ _) hg2 _ _) hg2 _ _, own_setCell (own_setCell (own_setCell (own_setCell (own_setCell HOZ.out (by have := HB67s; omega) _ _) (by have := HB67s; omega) _ _) (by have := HB67s; omega) _ _) (by have := HB67s; omega) _ _) (by have := HB67s; omega) _ _, fun _ => ⟨gx, _, rfl, hg1, hg2, HBL.out, by simp only [List.length_set]; exact hY⟩⟩
end Go.Proofs.YtbgnoobgnpebdaaDoor.jsn
