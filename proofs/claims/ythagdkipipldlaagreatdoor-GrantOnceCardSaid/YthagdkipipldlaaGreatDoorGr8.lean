/- The developers' copied. No condition beyond what slices and texts are. -/
import Derived.Test.YthagdkipipldlaaGreatDoorGr7
import Derived.Deep.RegionHeld3
namespace Go.Proofs.YthagdkipipldlaaGreatDoor.gra
open Go.RowKit
open Go.Proofs.YthagdkipipldlaaGreatDoor.oct Go.Proofs.YthagdkipipldlaaGreatDoor.ref Go.Proofs.YthagdkipipldlaaGreatDoor.rows Go.Proofs.YthagdkipipldlaaGreatDoor.rowg Go.Proofs.YthagdkipipldlaaGreatDoor.mpt Go.Proofs.YthagdkipipldlaaGreatDoor.trn Go.Proofs.YthagdkipipldlaaGreatDoor.krd
open Go.Proofs.YthagdkipipldlaaGreatDoor.scp (tx senc senc_len senc_one InS ins_below ins_cell ins_one lt Lst lval lenc GoodL FitS RowA own_good infoStr setCell_same clone_c)

theorem infoFa : (Tryz.prog.info? 41).map (·.size) = some 11 := by kernel_rfl
theorem infoIs : (Tryz.prog.info? 50).map (·.size) = some 3 := by kernel_rfl
def zerI : List Value := [.int .i64 0, .slice none 0 0, .bool false]
set_option maxRecDepth 100000 in
set_option maxHeartbeats 16000000 in
theorem copied_c (x : DF) (w : World) (hx : GoodF w x) :
    Calls Tryz.prog 41 #[fval x] w fun e w' => ∃ y : DF, e = .returned (fval y) ∧ y.f = x.f ∧ OwnF w' w.heap.size y ∧ Below w.heap.size w w' := by
  have HG := Lib.hid hx
  obtain ⟨g, id, cl, us, ⟨P3, C3, l3⟩, re, ch, me, code, P8, C8, tk, rev, P10, C10, le⟩ := x
  have hci := boxF w [.string ⟨id.toArray⟩, .string ⟨cl.toArray⟩, .string ⟨us.toArray⟩, .slice P3 l3.length C3, .string ⟨re.toArray⟩, .string ⟨ch.toArray⟩, .string ⟨me.toArray⟩, .int .i64 code, .slice P8 tk.length C8, .bool rev, .slice P10 le.length C10] #[.string ⟨id.toArray⟩, .string ⟨cl.toArray⟩, .string ⟨us.toArray⟩, .slice P3 l3.length C3, .string ⟨re.toArray⟩, .string ⟨ch.toArray⟩, .string ⟨me.toArray⟩, .int .i64 code, .slice P8 tk.length C8, .bool rev, .slice P10 le.length C10] rfl
  unfold fval DF.tv DF.lv lval tx
  dsimp only
  have HC0 := Lib.hid (fun w => clone_c ⟨id.toArray⟩ w (by rw [size_mk]; have : id.length ≤ _ := HG.out.id; omega))
  have HC1 := Lib.hid (fun w => clone_c ⟨cl.toArray⟩ w (by rw [size_mk]; have : cl.length ≤ _ := HG.out.cl; omega))
  have HC2 := Lib.hid (fun w => clone_c ⟨us.toArray⟩ w (by rw [size_mk]; have : us.length ≤ _ := HG.out.us; omega))
  have HC4 := Lib.hid (fun w => clone_c ⟨re.toArray⟩ w (by rw [size_mk]; have : re.length ≤ _ := HG.out.re; omega))
  have HC5 := Lib.hid (fun w => clone_c ⟨ch.toArray⟩ w (by rw [size_mk]; have : ch.length ≤ _ := HG.out.ch; omega))
  have HC6 := Lib.hid (fun w => clone_c ⟨me.toArray⟩ w (by rw [size_mk]; have : me.length ≤ _ := HG.out.me; omega))
  have HK3 : Hid (∀ W, Below w.heap.size w W → Calls Tryz.prog 71 #[.slice P3 l3.length C3] W fun e w' => ∃ p c, e = .returned (.slice p l3.length c) ∧ w'.ownsRow W.heap.size 9 1 (.slice p l3.length c) l3.length (cells senc l3) ∧ GoodL w' (p, c, l3) ∧ Below W.heap.size W w') := Lib.hid fun W hW => cloned_c (P3, C3, l3) W ((LL.of_good HG.out.sc).below hW) HG.out.sc.few
  have HK8 : Hid (∀ W, Below w.heap.size w W → Calls Tryz.prog 72 #[.slice P8 tk.length C8] W fun e w' => RowG ienc 50 3 W w' tk e) := Lib.hid fun W hW => iclone_c P8 C8 tk W (HG.out.tk.below ienc_len (by decide) hW) HG.out.tn HG.out.tl
  have HK10 : Hid (∀ W, Below w.heap.size w W → Calls Tryz.prog 73 #[.slice P10 le.length C10] W fun e w' => RowG nenc 3 1 W w' le e) := Lib.hid fun W hW => nclone_c P10 C10 le W (HG.out.le.below nenc_len (by decide) hW) HG.out.ln HG.out.ll
  have HTS : Hid (∀ W, Below w.heap.size w W → ∀ t ∈ tk, Calls Tryz.prog 71 #[lval t.sc] W fun e w' => ∃ p c, e = .returned (.slice p t.sc.2.2.length c) ∧ w'.ownsRow W.heap.size 9 1 (.slice p t.sc.2.2.length c) t.sc.2.2.length (cells senc t.sc.2.2) ∧ GoodL w' (p, c, t.sc.2.2) ∧ Below W.heap.size W w') := Lib.hid fun W hW t ht => cloned_c t.sc W ((LL.of_good (HG.out.ts t ht)).below hW) (HG.out.ts t ht).few
  have HTL : Hid (tk.length ≤ 4194304) := HG.out.tl
  obtain ⟨S0, hS0⟩ : ∃ S, (⟨id.toArray⟩ : ByteArray) = S := ⟨_, rfl⟩
  obtain ⟨S1, hS1⟩ : ∃ S, (⟨cl.toArray⟩ : ByteArray) = S := ⟨_, rfl⟩
  obtain ⟨S2, hS2⟩ : ∃ S, (⟨us.toArray⟩ : ByteArray) = S := ⟨_, rfl⟩
  obtain ⟨S4, hS4⟩ : ∃ S, (⟨re.toArray⟩ : ByteArray) = S := ⟨_, rfl⟩
  obtain ⟨S5, hS5⟩ : ∃ S, (⟨ch.toArray⟩ : ByteArray) = S := ⟨_, rfl⟩
  obtain ⟨S6, hS6⟩ : ∃ S, (⟨me.toArray⟩ : ByteArray) = S := ⟨_, rfl⟩
  rw [hS0, hS1, hS2, hS4, hS5, hS6] at hci ⊢
  rw [hS0] at HC0
  rw [hS1] at HC1
  rw [hS2] at HC2
  rw [hS4] at HC4
  rw [hS5] at HC5
  rw [hS6] at HC6
  obtain ⟨n3, hn3⟩ : ∃ n, l3.length = n := ⟨_, rfl⟩
  obtain ⟨n8, hn8⟩ : ∃ n, tk.length = n := ⟨_, rfl⟩
  obtain ⟨n10, hn10⟩ : ∃ n, le.length = n := ⟨_, rfl⟩
  rw [hn3, hn8, hn10] at hci ⊢
  rw [hn3] at HK3
  rw [hn8] at HK8 HTL
  rw [hn10] at HK10
  have HS := Lib.hid (And.intro hS0 (And.intro hS1 (And.intro hS2 (And.intro hS4 (And.intro hS5 hS6)))))
  have HN := Lib.hid (And.intro hn3 (And.intro hn8 hn10))
  clear hS0 hS1 hS2 hS4 hS5 hS6 hn3 hn8 hn10 HG hx
  unfold zerF at hci
  obtain ⟨wx, hwx⟩ : ∃ wx, (w.alloc (.cells #[.string S0, .string S1, .string S2, .slice P3 n3 C3, .string S4, .string S5, .string S6, .int .i64 code, .slice P8 n8 C8, .bool rev, .slice P10 n10 C10] 41)).alloc (.cells [.string ⟨#[]⟩, .string ⟨#[]⟩, .string ⟨#[]⟩, .slice none 0 0, .string ⟨#[]⟩, .string ⟨#[]⟩, .string ⟨#[]⟩, .int .i64 0, .slice none 0 0, .bool false, .slice none 0 0].toArray 41) = wx := ⟨_, rfl⟩
  rw [hwx] at hci
  have HCI := Lib.hid hci
  clear hci
  go_enter Tryz.func41, Tryz.ntmps41
  go_wp2_with fail
  have hci := HCI.out
  have e0 : ∀ x : After wx, x.v.cell? ⟨w.heap.size, 0, none⟩ = some (.string S0) := fun x => (HCI.out.blk.below x.below).cell 0
  have e1 : ∀ x : After wx, x.v.cell? ⟨w.heap.size, 1, none⟩ = some (.string S1) := fun x => (HCI.out.blk.below x.below).cell 1
  have e2 : ∀ x : After wx, x.v.cell? ⟨w.heap.size, 2, none⟩ = some (.string S2) := fun x => (HCI.out.blk.below x.below).cell 2
  have g0 : ∀ x : After wx, x.v.frozen? ⟨w.heap.size, 0, none⟩ = false := fun x => (HCI.out.blk.below x.below).frozen 0
  have g1 : ∀ x : After wx, x.v.frozen? ⟨w.heap.size, 1, none⟩ = false := fun x => (HCI.out.blk.below x.below).frozen 1
  have g2 : ∀ x : After wx, x.v.frozen? ⟨w.heap.size, 2, none⟩ = false := fun x => (HCI.out.blk.below x.below).frozen 2
  have s0 : ∀ x : After wx, x.v.setCell ⟨w.heap.size, 0, none⟩ (.string S0) = x.v := fun x => setCell_same (e0 x)
  have s1 : ∀ x : After wx, x.v.setCell ⟨w.heap.size, 1, none⟩ (.string S1) = x.v := fun x => setCell_same (e1 x)
  have s2 : ∀ x : After wx, x.v.setCell ⟨w.heap.size, 2, none⟩ (.string S2) = x.v := fun x => setCell_same (e2 x)
  have C0 := Lib.hid (fun x : After wx => after_of x (HC0.out x.v))
  have C1 := Lib.hid (fun x : After wx => after_of x (HC1.out x.v))
  have C2 := Lib.hid (fun x : After wx => after_of x (HC2.out x.v))
  clear hci
  refine wp_region_after (by kernel_rfl) (by kernel_rfl) ?_
  repeat (go_big_quiet_step (first | (rename_i x; go_at_call_of 43 (Value.string S0); with_reducible exact C0.out x) | (rename_i x; go_at_call_of 43 (Value.string S1); with_reducible exact C1.out x) | (rename_i x; go_at_call 43; with_reducible exact C2.out x)))
  refine wpQuiet_nil ?_
  rintro ⟨wq, hxb⟩
  dsimp only
  have HQ := Lib.hid (HCI.out.next hxb)
  clear e0 e1 e2 g0 g1 g2 s0 s1 s2 C0 C1 C2 HC0 HC1 HC2 hwx hxb
  have d3 : wq.cell? ⟨w.heap.size, 3, none⟩ = some (.slice P3 n3 C3) := HQ.out.blk.cell 3
  go_wp2_with fail
  refine (HK3.out _ HQ.out.bel).mono ?_
  rintro e w3 ⟨p3, q3, rfl, ho3, _, hb3⟩
  have HQ3 := Lib.hid (HQ.out.next hb3)
  have HR3 : Hid (Row2 senc 9 1 w w3 p3 q3 l3) := by
    have h := own_baseR ho3 HQ.out.size
    show World.ownsRow _ _ _ _ _ _ _
    rw [HN.out.1]
    exact h
  have d3 : w3.cell? ⟨w.heap.size, 3, none⟩ = some (.slice P3 n3 C3) := HQ3.out.blk.cell 3
  have f3 := HQ3.out.blk.frozen 3
  clear ho3 hb3
  go_upto_region 3 with fail
  clear d3 f3
  have HQ4 : Hid (CI w (w3.setCell ⟨w.heap.size, 3, none⟩ (.slice p3 n3 q3)) [.string S0, .string S1, .string S2, .slice p3 n3 q3, .string S4, .string S5, .string S6, .int .i64 code, .slice P8 n8 C8, .bool rev, .slice P10 n10 C10]) := HQ3.out.set 3 _
  have HR3b := Lib.hid (row2_set HR3.out 3 (.slice p3 n3 q3))
  obtain ⟨wy, hwy⟩ : ∃ wy, w3.setCell ⟨w.heap.size, 3, none⟩ (.slice p3 n3 q3) = wy := ⟨_, rfl⟩
  rw [hwy] at HQ4 HR3b ⊢
  clear hwy HQ3 HR3 HQ HK3
  have e0 : ∀ x : After wy, x.v.cell? ⟨w.heap.size, 4, none⟩ = some (.string S4) := fun x => (HQ4.out.blk.below x.below).cell 4
  have e1 : ∀ x : After wy, x.v.cell? ⟨w.heap.size, 5, none⟩ = some (.string S5) := fun x => (HQ4.out.blk.below x.below).cell 5
  have e2 : ∀ x : After wy, x.v.cell? ⟨w.heap.size, 6, none⟩ = some (.string S6) := fun x => (HQ4.out.blk.below x.below).cell 6
  have g0 : ∀ x : After wy, x.v.frozen? ⟨w.heap.size, 4, none⟩ = false := fun x => (HQ4.out.blk.below x.below).frozen 4
  have g1 : ∀ x : After wy, x.v.frozen? ⟨w.heap.size, 5, none⟩ = false := fun x => (HQ4.out.blk.below x.below).frozen 5
  have g2 : ∀ x : After wy, x.v.frozen? ⟨w.heap.size, 6, none⟩ = false := fun x => (HQ4.out.blk.below x.below).frozen 6
  have s0 : ∀ x : After wy, x.v.setCell ⟨w.heap.size, 4, none⟩ (.string S4) = x.v := fun x => setCell_same (e0 x)
  have s1 : ∀ x : After wy, x.v.setCell ⟨w.heap.size, 5, none⟩ (.string S5) = x.v := fun x => setCell_same (e1 x)
  have s2 : ∀ x : After wy, x.v.setCell ⟨w.heap.size, 6, none⟩ (.string S6) = x.v := fun x => setCell_same (e2 x)
  have C0 := Lib.hid (fun x : After wy => after_of x (HC4.out x.v))
  have C1 := Lib.hid (fun x : After wy => after_of x (HC5.out x.v))
  have C2 := Lib.hid (fun x : After wy => after_of x (HC6.out x.v))
  refine wp_region_after (by kernel_rfl) (by kernel_rfl) ?_
  repeat (go_big_quiet_step (first | (rename_i x; go_at_call_of 43 (Value.string S4); with_reducible exact C0.out x) | (rename_i x; go_at_call_of 43 (Value.string S5); with_reducible exact C1.out x) | (rename_i x; go_at_call 43; with_reducible exact C2.out x)))
  refine wpQuiet_nil ?_
  rintro ⟨wu, hxb⟩
  dsimp only
  have HU := Lib.hid (HQ4.out.next hxb)
  have HR3u := Lib.hid (row2_next HR3b.out hxb)
  clear e0 e1 e2 g0 g1 g2 s0 s1 s2 C0 C1 C2 HC4 HC5 HC6 hxb HQ4 HR3b
  have d8 : wu.cell? ⟨w.heap.size, 8, none⟩ = some (.slice P8 n8 C8) := HU.out.blk.cell 8
  go_wp2_with fail
  refine (HK8.out _ HU.out.bel).mono ?_
  rintro e w5 ⟨p8, q8, rfl, ho8, hb8⟩
  rw [HN.out.2.1]
  have HV := Lib.hid (HU.out.next hb8)
  have HR3v := Lib.hid (row2_next HR3u.out hb8)
  have HR8 : Hid (Row2 ienc 50 3 w w5 p8 q8 tk) := own_baseR ho8 HU.out.size
  have d8 : w5.cell? ⟨w.heap.size, 8, none⟩ = some (.slice P8 n8 C8) := HV.out.blk.cell 8
  have f8 := HV.out.blk.frozen 8
  clear ho8 hb8
  go_upto_region 5 with fail
  clear d8 f8
  have HV2 := Lib.hid (HV.out.set 8 (.slice p8 n8 q8))
  have HR3w := Lib.hid (row2_set HR3v.out 8 (.slice p8 n8 q8))
  have HR8w := Lib.hid (row2_set HR8.out 8 (.slice p8 n8 q8))
  obtain ⟨wv, hwv⟩ : ∃ wv, w5.setCell ⟨w.heap.size, 8, none⟩ (.slice p8 n8 q8) = wv := ⟨_, rfl⟩
  rw [hwv] at HV2 HR3w HR8w ⊢
  clear hwv HV HR3v HR8 HU HR3u HK8
  have d8 : wv.cell? ⟨w.heap.size, 8, none⟩ = some (.slice p8 n8 q8) := HV2.out.blk.cell 8
  go_wp2_with fail
  go_loopg [40] n8 (fun gg s40 wz => ∃ (k : Nat) (ys : List IM), k + gg = n8 ∧ s40 = .int .i64 k ∧ Hid (CI w wz [.string S0, .string S1, .string S2, .slice p3 n3 q3, .string S4, .string S5, .string S6, .int .i64 code, .slice p8 n8 q8, .bool rev, .slice P10 n10 C10]) ∧ Hid (Row2 senc 9 1 w wz p3 q3 l3) ∧ Hid (TI w wz p8 q8 tk ys k))
  case atStart => exact ⟨0, [], by omega, rfl, HV2, HR3w, Lib.hid ⟨rfl, Nat.zero_le _, rfl, HR8w.out, fun _ h => by cases h⟩⟩
  case round =>
    obtain ⟨k, ys, hkg, rfl, HC, HR3, HTI⟩ := hrel
    rcases gk with _ | gg
    · obtain rfl : n8 = k := by omega
      have d10 : wr.cell? ⟨w.heap.size, 10, none⟩ = some (.slice P10 n10 C10) := HC.out.blk.cell 10
      clear d8
      go_wp2_with fail
      refine (HK10.out _ HC.out.bel).mono ?_
      rintro e w6 ⟨p10, q10, rfl, ho10, hb10⟩
      rw [HN.out.2.2]
      have HD := Lib.hid (HC.out.next hb10)
      have HR3d := Lib.hid (row2_next HR3.out hb10)
      have HTD := Lib.hid (HTI.out.next hb10)
      have HR10 : Hid (Row2 nenc 3 1 w w6 p10 q10 le) := own_baseR ho10 HC.out.size
      have d10 : w6.cell? ⟨w.heap.size, 10, none⟩ = some (.slice P10 n10 C10) := HD.out.blk.cell 10
      have f10 := HD.out.blk.frozen 10
      clear ho10 hb10
      go_upto_region 11 with fail
      clear d10 f10
      have HD2 : Hid (CI w (w6.setCell ⟨w.heap.size, 10, none⟩ (.slice p10 n10 q10)) [.string S0, .string S1, .string S2, .slice p3 n3 q3, .string S4, .string S5, .string S6, .int .i64 code, .slice p8 n8 q8, .bool rev, .slice p10 n10 q10]) := HD.out.set 10 _
      have HR3e := Lib.hid (row2_set HR3d.out 10 (.slice p10 n10 q10))
      have HTE := Lib.hid (HTD.out.set 10 (.slice p10 n10 q10))
      have HR10e := Lib.hid (row2_set HR10.out 10 (.slice p10 n10 q10))
      obtain ⟨wf, hwf⟩ : ∃ wf, w6.setCell ⟨w.heap.size, 10, none⟩ (.slice p10 n10 q10) = wf := ⟨_, rfl⟩
      rw [hwf] at HD2 HR3e HTE HR10e ⊢
      clear hwf HD HR3d HTD HR10 HC HR3 HTI
      obtain ⟨X, hX⟩ : ∃ X : List Value, [.string S0, .string S1, .string S2, .slice p3 n3 q3, .string S4, .string S5, .string S6, .int .i64 code, .slice p8 n8 q8, .bool rev, .slice p10 n10 q10] = X := ⟨_, rfl⟩
      have HX := Lib.hid hX
      have hXi : (Tryz.prog.info? 41).map (·.size) = some X.length := by rw [← hX]; exact infoFa
      have hX1 : ∀ v ∈ X, v.oneCell' = true := by
        rw [← hX]
        intro v hv
        simp only [List.mem_cons, List.not_mem_nil, or_false] at hv
        rcases hv with rfl | rfl | rfl | rfl | rfl | rfl | rfl | rfl | rfl | rfl | rfl <;> rfl
      have hXl : zerF.length = X.length := by rw [← hX]; rfl
      rw [hX] at HD2
      clear hX
      go_wp2_with (first
        | (with_reducible refine wpList_load_blk rfl 41 (.tmp 1) rfl w.heap.size X 41 HD2.out.blk rfl _ Tryz.underlying41 rfl hXi ?_)
        | ((with_reducible refine wpList_store_blk rfl 41 (.tmp 2) (.tmp 58) rfl (w.heap.size + 1) X zerF 41 HD2.out.res rfl rfl hXi hXl hX1 ?_); intro wg hR hW; have HRES := Lib.hid hR; have HWR := Lib.hid hW; clear hR hW))
      refine bodyPost_ret (results_blk Tryz.results41 _ _ (w.heap.size + 1) 41 X _ rfl HRES.out Tryz.underlying41 rfl hXi) rfl ?_
      have hk8 := HN.out.2.1
      subst hk8
      have hT : Turn (fun k => k = w.heap.size + 1) wf wg := by
        have hb := HWR.out.below (w.heap.size + 1) wf (Below.refl _ _) (Nat.le_refl _)
        exact ⟨hb.os, hb.tape, hb.output, hb.size, fun k hk hn => HWR.out.other k hn⟩
      obtain ⟨c1, c2, c3, c4⟩ := copied_end (x := ⟨g, id, cl, us, (P3, C3, l3), re, ch, me, code, P8, C8, tk, rev, P10, C10, le⟩) HD2.out.bel hT HD2.out.size HR3e.out HTE.out HR10e.out
      refine ⟨_, ?_, c2, c1, c3⟩
      obtain ⟨a0, a1, a2, a4, a5, a6⟩ := HS.out
      rw [← HX.out, ← a0, ← a1, ← a2, ← a4, ← a5, ← a6, ← HN.out.1, ← HN.out.2.2, ← c4]
    · have hk : k < tk.length := by rw [HN.out.2.1]; omega
      have hkI : (k : Int) < (n8 : Int) := by omega
      have hn8 := HTL.out
      obtain ⟨b, rfl, hb1, hb2, hcap, t0, t1, t2, f1⟩ := HTI.out.at hk
      have HT1 := Lib.hid (fun W (hW : Below w.heap.size w W) => HTS.out W hW tk[k] (List.getElem_mem hk))
      have HST := Lib.hid (fun (W : World) (h : TI w W (some ⟨b, 0, none⟩) q8 tk ys k) p2 c2 ho => h.step hk p2 c2 ho)
      obtain ⟨t, ht⟩ : ∃ t, tk[k] = t := ⟨_, rfl⟩
      rw [ht] at t0 t1 t2 HT1 HST
      obtain ⟨tkd, ⟨TP, TC, tl⟩, tu⟩ := t
      replace t0 : wr.cell? ⟨b, k * 3, none⟩ = some (.int .i64 tkd) := t0
      replace t1 : wr.cell? ⟨b, k * 3 + 1, none⟩ = some (.slice TP tl.length TC) := t1
      replace t2 : wr.cell? ⟨b, k * 3 + 2, none⟩ = some (.bool tu) := t2
      replace HT1 : Hid (∀ W, Below w.heap.size w W → Calls Tryz.prog 71 #[.slice TP tl.length TC] W fun e w' => ∃ p c, e = .returned (.slice p tl.length c) ∧ w'.ownsRow W.heap.size 9 1 (.slice p tl.length c) tl.length (cells senc tl) ∧ GoodL w' (p, c, tl) ∧ Below W.heap.size W w') := HT1
      replace HST : Hid (∀ (W : World), TI w W (some ⟨b, 0, none⟩) q8 tk ys k → ∀ p2 c2, W.ownsRow (w.heap.size + 2) 9 1 (.slice p2 tl.length c2) tl.length (cells senc tl) → TI w (W.setCell ⟨b, k * 3 + 1, none⟩ (.slice p2 tl.length c2)) (some ⟨b, 0, none⟩) q8 tk (ys ++ [⟨tkd, (p2, c2, tl), tu⟩]) (k + 1)) := HST
      obtain ⟨m, hm⟩ : ∃ m, tl.length = m := ⟨_, rfl⟩
      rw [hm] at t1 HT1 HST
      have d8 : wr.cell? ⟨w.heap.size, 8, none⟩ = some (.slice (some ⟨b, 0, none⟩) n8 q8) := HC.out.blk.cell 8
      have HBB := Lib.hid hb1
      have HB2 := Lib.hid hb2
      clear ht hm hk hb1 hb2
      go_wp2_with fail
      have hba : Below wr.heap.size wr (wr.alloc (.cells #[.int .i64 tkd, .slice TP m TC, .bool tu] 50)) := (Below.refl _ _).alloc (Nat.le_refl _) _
      have hBa : Blk (wr.alloc (.cells #[.int .i64 tkd, .slice TP m TC, .bool tu] 50)) wr.heap.size 50 [.int .i64 tkd, .slice TP m TC, .bool tu] := blk_new wr _ _ _ rfl
      have HCa := Lib.hid (HC.out.next hba)
      have HR3a := Lib.hid (row2_next HR3.out hba)
      have HTa := Lib.hid (HTI.out.next hba)
      have HBLa := Lib.hid hBa
      have hbsz : b < (wr.alloc (.cells #[.int .i64 tkd, .slice TP m TC, .bool tu] 50)).heap.size := by rw [World.size_alloc]; have := HB2.out; omega
      have ca1 : (wr.alloc (.cells #[.int .i64 tkd, .slice TP m TC, .bool tu] 50)).cell? ⟨b, k * 3 + 1, none⟩ = some (.slice TP m TC) := (hba.cell (p := ⟨b, k * 3 + 1, none⟩) HB2.out).trans t1
      have fa1 : (wr.alloc (.cells #[.int .i64 tkd, .slice TP m TC, .bool tu] 50)).frozen? ⟨b, k * 3 + 1, none⟩ = false := (hba.frozen (p := ⟨b, k * 3 + 1, none⟩) HB2.out).trans f1
      obtain ⟨wa, hwa⟩ : ∃ wa, wr.alloc (.cells #[.int .i64 tkd, .slice TP m TC, .bool tu] 50) = wa := ⟨_, rfl⟩
      rw [hwa] at HCa HR3a HTa HBLa hbsz ca1 fa1 ⊢
      have HX : Hid (∀ W, Below wa.heap.size wa W → W.cell? ⟨w.heap.size, 8, none⟩ = some (.slice (some ⟨b, 0, none⟩) n8 q8) ∧ W.cell? ⟨wr.heap.size, 1, none⟩ = some (.slice TP m TC) ∧ W.cell? ⟨b, k * 3 + 1, none⟩ = some (.slice TP m TC) ∧ W.frozen? ⟨b, k * 3 + 1, none⟩ = false) := fun W hW => ⟨(HCa.out.blk.below hW).cell 8, (HBLa.out.below hW).cell 1, (hW.cell (p := ⟨b, k * 3 + 1, none⟩) hbsz).trans ca1, (hW.frozen (p := ⟨b, k * 3 + 1, none⟩) hbsz).trans fa1⟩
      obtain ⟨z8, z1, _, _⟩ := HX.out wa (Below.refl _ _)
      have HB0 : Hid (Below wa.heap.size wa wa.drew) := Lib.hid (Below.refl _ _).drew
      clear hwa hba hBa hbsz ca1 fa1 t0 t1 t2 d8 f1 HC HR3 HTI
      go_region_with (go_at_call 71; (with_reducible refine (HT1.out _ ?_).mono ?_); exact bnext HCa.out.bel HB0.out; rintro e w7 ⟨p2, q2, rfl, ho2, _, hb7⟩; have HB7 := Lib.hid (bnext HB0.out hb7); have HO2 := Lib.hid ho2; obtain ⟨y8, y1, ye, yf⟩ := HX.out w7 HB7.out; clear hb7 ho2)
      all_goals
        go_wp2_with fail
        go_roundg gg
        case measure => omega
        case rel =>
          refine ⟨k + 1, _, by omega, by go_num, (HCa.out.next HB7.out).other HBB.out _ _, ?_, HST.out w7 (HTa.out.next HB7.out) p2 q2 (own_baseR HO2.out (by have := HCa.out.size; have := HB7.out.size; have := HB0.out.size; omega))⟩
          exact own_turn (row2_next HR3a.out HB7.out) (Turn.set (S := fun k => k = b) w7 _ _ _ rfl) fun b2 hb2 e => by subst e; exact absurd (row_row (row2_next HR3a.out HB7.out) (HTa.out.next HB7.out).row hb2 rfl) (by decide)
end Go.Proofs.YthagdkipipldlaaGreatDoor.gra
