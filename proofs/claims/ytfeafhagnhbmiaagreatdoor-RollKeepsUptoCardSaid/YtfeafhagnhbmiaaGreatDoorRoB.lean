/- The developers' copied. No condition beyond what slices and texts are. -/
import Derived.Test.YtfeafhagnhbmiaaGreatDoorRoB0
import Derived.Deep.RegionHeld3
namespace Go.Proofs.YtfeafhagnhbmiaaGreatDoor.rol
open Go.RowKit
open Go.Proofs.YtfeafhagnhbmiaaGreatDoor.oct Go.Proofs.YtfeafhagnhbmiaaGreatDoor.ref Go.Proofs.YtfeafhagnhbmiaaGreatDoor.rows Go.Proofs.YtfeafhagnhbmiaaGreatDoor.rowg Go.Proofs.YtfeafhagnhbmiaaGreatDoor.trn
open Go.Proofs.YtfeafhagnhbmiaaGreatDoor.scp (tx senc senc_len senc_one InS ins_below ins_cell ins_one lt hasB hasB_iff Lst lval lenc GoodL FitS setP printP RowA own_good infoStr setCell_same clone_c)

theorem infoCl : (Tryz.prog.info? 49).map (·.size) = some 6 := by kernel_rfl
set_option maxRecDepth 100000 in
set_option maxHeartbeats 8000000 in
theorem copied_c (x : Cm) (w : World) (hx : GoodC w x) (hf : Few x) :
    Calls Tryz.prog 18 #[cval x] w fun e w' => ∃ y : Cm, e = .returned (cval y) ∧ y.ct = x.ct ∧ OwnC w' w.heap.size y ∧ Below w.heap.size w w' := by
  obtain ⟨id, sec, pub, ⟨P3, C3, l3⟩, ⟨P4, C4, l4⟩, ⟨P5, C5, l5⟩⟩ := x
  show Calls _ _ #[.agg #[.string ⟨id.toArray⟩, .string ⟨sec.toArray⟩, .bool pub, .slice P3 l3.length C3, .slice P4 l4.length C4, .slice P5 l5.length C5]] w fun e w' => ∃ y : Cm, e = .returned (cval y) ∧ y.ct = ⟨id, sec, pub, l3, l4, l5⟩ ∧ _
  obtain ⟨w1, hw1, hb1, hB, hrest⟩ := box_c w (.string ⟨id.toArray⟩) (.string ⟨sec.toArray⟩) (.bool pub) (.slice P3 l3.length C3) (.slice P4 l4.length C4) (.slice P5 l5.length C5) 49
  have hsz1 : w1.heap.size = w.heap.size + 1 := by rw [← hw1, World.size_alloc]
  obtain ⟨wx, hwx, hbx, hR, hrest2⟩ := box_c w1 (.string ⟨#[]⟩) (.string ⟨#[]⟩) (.bool false) (.slice none 0 0) (.slice none 0 0) (.slice none 0 0) 49
  rw [hsz1] at hR
  have hBx := hB.below hbx
  have hbb := bnext hb1 hbx
  have K3 : ∀ W, Below wx.heap.size wx W → LL W (P3, C3, l3) := fun W hW => (LL.below (x := (P3, C3, l3)) hx.red hbb).below hW
  have K4 : ∀ W, Below wx.heap.size wx W → LL W (P4, C4, l4) := fun W hW => (LL.below (x := (P4, C4, l4)) hx.sco hbb).below hW
  have K5 : ∀ W, Below wx.heap.size wx W → LL W (P5, C5, l5) := fun W hW => (LL.below (x := (P5, C5, l5)) hx.gra hbb).below hW
  have H3 : Hid (∀ W, Below wx.heap.size wx W → Calls Tryz.prog 26 #[.slice P3 l3.length C3] W fun e w' => ∃ p c, e = .returned (.slice p l3.length c) ∧ w'.ownsRow W.heap.size 9 1 (.slice p l3.length c) l3.length (cells senc l3) ∧ GoodL w' (p, c, l3) ∧ Below W.heap.size W w') := Lib.hid fun W hW => cloned_c (P3, C3, l3) W (K3 W hW) hf.red
  have H4 : Hid (∀ W, Below wx.heap.size wx W → Calls Tryz.prog 26 #[.slice P4 l4.length C4] W fun e w' => ∃ p c, e = .returned (.slice p l4.length c) ∧ w'.ownsRow W.heap.size 9 1 (.slice p l4.length c) l4.length (cells senc l4) ∧ GoodL w' (p, c, l4) ∧ Below W.heap.size W w') := Lib.hid fun W hW => cloned_c (P4, C4, l4) W (K4 W hW) hf.sco
  have H5 : Hid (∀ W, Below wx.heap.size wx W → Calls Tryz.prog 26 #[.slice P5 l5.length C5] W fun e w' => ∃ p c, e = .returned (.slice p l5.length c) ∧ w'.ownsRow W.heap.size 9 1 (.slice p l5.length c) l5.length (cells senc l5) ∧ GoodL w' (p, c, l5) ∧ Below W.heap.size W w') := Lib.hid fun W hW => cloned_c (P5, C5, l5) W (K5 W hW) hf.gra
  have HC0 := Lib.hid (fun w => clone_c ⟨id.toArray⟩ w (by rw [size_mk]; have : id.length ≤ _ := hx.id; omega))
  have HC1 := Lib.hid (fun w => clone_c ⟨sec.toArray⟩ w (by rw [size_mk]; have : sec.length ≤ _ := hx.sec; omega))
  obtain ⟨S0, hS0⟩ : ∃ S0, (⟨id.toArray⟩ : ByteArray) = S0 := ⟨_, rfl⟩
  obtain ⟨S1, hS1⟩ : ∃ S1, (⟨sec.toArray⟩ : ByteArray) = S1 := ⟨_, rfl⟩
  obtain ⟨n3, hn3⟩ : ∃ n, l3.length = n := ⟨_, rfl⟩
  obtain ⟨n4, hn4⟩ : ∃ n, l4.length = n := ⟨_, rfl⟩
  obtain ⟨n5, hn5⟩ : ∃ n, l5.length = n := ⟨_, rfl⟩
  rw [hS0, hS1, hn3, hn4, hn5] at hBx hw1 ⊢
  rw [hS0] at HC0
  rw [hS1] at HC1
  rw [hn3] at H3
  rw [hn4] at H4
  rw [hn5] at H5
  have HN3 := Lib.hid hn3
  have HN4 := Lib.hid hn4
  have HN5 := Lib.hid hn5
  have HS0 := Lib.hid hS0
  have HS1 := Lib.hid hS1
  have HBB := Lib.hid hbb
  have HRX := Lib.hid hR
  have HBX := Lib.hid hBx
  clear hx hf hB hrest hrest2 hb1 hbx hbb hR hBx hn3 hn4 hn5 hS0 hS1 K3 K4 K5
  go_enter Tryz.func18, Tryz.ntmps18
  go_wp2_with fail
  have e0 : ∀ x : After wx, x.v.cell? ⟨w.heap.size, 0, none⟩ = some (.string S0) := fun x => (HBX.out.below x.below).cell 0
  have e1 : ∀ x : After wx, x.v.cell? ⟨w.heap.size, 1, none⟩ = some (.string S1) := fun x => (HBX.out.below x.below).cell 1
  have g0 : ∀ x : After wx, x.v.frozen? ⟨w.heap.size, 0, none⟩ = false := fun x => (HBX.out.below x.below).frozen 0
  have g1 : ∀ x : After wx, x.v.frozen? ⟨w.heap.size, 1, none⟩ = false := fun x => (HBX.out.below x.below).frozen 1
  have s0 : ∀ x : After wx, x.v.setCell ⟨w.heap.size, 0, none⟩ (.string S0) = x.v := fun x => setCell_same (e0 x)
  have s1 : ∀ x : After wx, x.v.setCell ⟨w.heap.size, 1, none⟩ (.string S1) = x.v := fun x => setCell_same (e1 x)
  have C0 := Lib.hid (fun x : After wx => after_of x (HC0.out x.v))
  have C1 := Lib.hid (fun x : After wx => after_of x (HC1.out x.v))
  refine wp_region_after (by kernel_rfl) (by kernel_rfl) ?_
  repeat (go_big_quiet_step (first | (rename_i x; go_at_call_of 23 (Value.string S0); with_reducible exact C0.out x) | (rename_i x; go_at_call 23; with_reducible exact C1.out x)))
  refine wpQuiet_nil ?_
  rintro ⟨wq, hxb⟩
  dsimp only
  clear e0 e1 g0 g1 s0 s1 C0 C1 HC0 HC1
  have HBQ := Lib.hid hxb
  have HX : Hid (∀ W, Below wq.heap.size wq W → Blk W w.heap.size 49 [.string S0, .string S1, .bool pub, .slice P3 n3 C3, .slice P4 n4 C4, .slice P5 n5 C5]) := Lib.hid fun W hW => (HBX.out.below HBQ.out).below hW
  have HB0 : Hid (Below wq.heap.size wq wq.drew) := Lib.hid (Below.refl _ _).drew
  obtain ⟨_, _, _, c3, c4, c5⟩ := blk6 (HX.out wq (Below.refl _ _))
  clear hw1 hwx hsz1
  clear hxb
  go_wp2_with fail
  go_upto_region 2 with fail
  go_cut [] from 15 to 32 (fun wz => ∃ p3 q3 p4 q4 p5 q5, Hid (CopI w wz S0 S1 pub n3 n4 n5 l3 l4 l5 p3 q3 p4 q4 p5 q5))
  case first =>
    first
    | go_region_with (first
      | (go_at_call_of 26 (Value.slice P3 n3 C3); (with_reducible refine (H3.out _ ?_).mono ?_); exact bnext HBQ.out HB0.out; rintro e w2 ⟨p3, q3, rfl, ho3, hg3, hb2⟩; have HB2 := Lib.hid (HB0.out.trans (hb2.mono HB0.out.size)); obtain ⟨_, _, _, d3, d4, d5⟩ := blk6 (HX.out w2 HB2.out); have HO3 := Lib.hid (And.intro ho3 hg3); clear hb2 ho3 hg3)
      | (go_at_call_of 26 (Value.slice P4 n4 C4); (with_reducible refine (H4.out _ ?_).mono ?_); exact bnext HBQ.out HB2.out; rintro e w3 ⟨p4, q4, rfl, ho3, hg3, hb2⟩; have HB3 := Lib.hid (bnext HB2.out hb2); obtain ⟨_, _, _, e3, e4, e5⟩ := blk6 (HX.out w3 HB3.out); have HO4 := Lib.hid (And.intro ho3 hg3); have HX3 := Lib.hid hb2; clear hb2 ho3 hg3)
      | (go_at_call_of 26 (Value.slice P5 n5 C5); (with_reducible refine (H5.out _ ?_).mono ?_); exact bnext HBQ.out HB3.out; rintro e w4 ⟨p5, q5, rfl, ho3, hg3, hb2⟩; have HB4 := Lib.hid (bnext HB3.out hb2); obtain ⟨_, _, _, f3, f4, f5⟩ := blk6 (HX.out w4 HB4.out); have z3 := (HX.out w4 HB4.out).frozen 3; have z4 := (HX.out w4 HB4.out).frozen 4; have z5 := (HX.out w4 HB4.out).frozen 5; have HO5 := Lib.hid (And.intro ho3 hg3); have HX4 := Lib.hid hb2; clear hb2 ho3 hg3))
    | fail
    all_goals
      go_wp2_with fail
      go_meet
      exact ⟨_, _, _, _, _, _, Lib.hid (copI_mk HN3.out HN4.out HN5.out HBB.out (HRX.out.below HBQ.out) HBQ.out HB2.out HX3.out HX4.out (HX.out _ HB4.out) HO3.out.1 HO4.out.1 HO5.out.1)⟩
  case rest =>
    obtain ⟨p3, q3, p4, q4, p5, q5, HI⟩ := hcut
    obtain ⟨d0, d1, d2, d3, d4, d5⟩ := blk6 HI.out.blk
    obtain ⟨e0, e1, e2, e3, e4, e5⟩ := blk6 HI.out.res
    have HSET := Lib.hid (set6_blk HI.out.res (.string S0) (.string S1) (.bool pub) (.slice p3 n3 q3) (.slice p4 n4 q4) (.slice p5 n5 q5))
    have f0 := HI.out.res.frozen 0
    have f1 := HI.out.res.frozen 1
    have f2 := HI.out.res.frozen 2
    have f3 := HI.out.res.frozen 3
    have f4 := HI.out.res.frozen 4
    have f5 := HI.out.res.frozen 5
    go_wp2_with fail
    clear d0 d1 d2 d3 d4 d5 e0 e1 e2 e3 e4 e5 f0 f1 f2 f3 f4 f5
    refine bodyPost_ret (results_blk Tryz.results18 _ _ (w.heap.size + 1) 49 [.string S0, .string S1, .bool pub, .slice p3 n3 q3, .slice p4 n4 q4, .slice p5 n5 q5] _ rfl HSET.out Tryz.underlying49 rfl infoCl) rfl ?_
    have HT := set6_turn (w := wc) (g := w.heap.size + 1) (v0 := .string S0) (v1 := .string S1) (v2 := .bool pub) (v3 := .slice p3 n3 q3) (v4 := .slice p4 n4 q4) (v5 := .slice p5 n5 q5)
    refine ⟨⟨id, sec, pub, (p3, q3, l3), (p4, q4, l4), (p5, q5, l5)⟩, ?_, rfl, ⟨?_, ?_, ?_⟩, ?_⟩
    · rw [← HS0.out, ← HS1.out, ← HN3.out, ← HN4.out, ← HN5.out]
      rfl
    · have h := own_turn (own_baseR HI.out.r3 (show w.heap.size ≤ _ by omega)) HT fun b hb e => by have := (HI.out.r3.lt b hb).1; omega
      show World.ownsRow _ _ _ _ (.slice p3 l3.length q3) l3.length _
      rw [HN3.out]
      exact h
    · have h := own_turn (own_baseR HI.out.r4 (show w.heap.size ≤ _ by omega)) HT fun b hb e => by have := (HI.out.r4.lt b hb).1; omega
      show World.ownsRow _ _ _ _ (.slice p4 l4.length q4) l4.length _
      rw [HN4.out]
      exact h
    · have h := own_turn (own_baseR HI.out.r5 (show w.heap.size ≤ _ by omega)) HT fun b hb e => by have := (HI.out.r5.lt b hb).1; omega
      show World.ownsRow _ _ _ _ (.slice p5 l5.length q5) l5.length _
      rw [HN5.out]
      exact h
    · exact Turn.below HI.out.bel HT (fun k hk => by omega) (by have := HI.out.blk.lt; omega)
end Go.Proofs.YtfeafhagnhbmiaaGreatDoor.rol
