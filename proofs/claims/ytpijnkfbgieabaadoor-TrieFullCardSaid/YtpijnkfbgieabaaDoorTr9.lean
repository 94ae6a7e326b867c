/- The developers' sumOf of one pair. Condition: sha's package variables (Tabs). -/
import Derived.Test.YtpijnkfbgieabaaDoorTr8
import Derived.Deep.RegionHeld3
namespace Go.Proofs.YtpijnkfbgieabaaDoor.tri
open Go.RowKit
open Go.Proofs.YtpijnkfbgieabaaDoor.oct Go.Proofs.YtpijnkfbgieabaaDoor.ref Go.Proofs.YtpijnkfbgieabaaDoor.rows Go.Proofs.YtpijnkfbgieabaaDoor.rowg Go.Proofs.YtpijnkfbgieabaaDoor.trn Go.Proofs.YtpijnkfbgieabaaDoor.qut
open Go.Proofs.YtpijnkfbgieabaaDoor.sha (digest digest_len dval Tabs wpList_index_row all_c Part InP joined Rm own_rm step_store_blk)
open Go.Lib (byteCells)

theorem measured_v (s : T) (w : World) (hs : s.length ≤ 1048576) :
    Calls Tryd.prog 112 #[txt s] w fun e w' => ∃ p c, e = .returned (.slice p (sized s).length c) ∧ In8 w' p (sized s) ∧ Rm p c (sized s).length ∧ Below w.heap.size w w' := by
  refine (measured_c s w hs).mono ?_
  rintro e w' ⟨v, rfl, hn, hb⟩
  obtain ⟨p, c, rfl, h8⟩ := own_in8' hn
  exact ⟨p, c, rfl, h8, own_rm hn, hb⟩
/-- a pair of an own row -/
theorem penc_at {w : World} {B : Nat} {v : Value} {l : List Pr} (h : w.ownsRow B 44 2 v l.length (cells penc l)) (i : Nat) (hi : i < l.length) : ∃ b, v.ownBlock = some b ∧ w.cell? ⟨b, i * 2, none⟩ = some (txt (l[i]).n) ∧ w.cell? ⟨b, i * 2 + 1, none⟩ = some (txt (l[i]).v) := by
  rcases h.2 with ⟨h1, h2⟩ | ⟨g, cap, cur, h1, _⟩
  · omega
  · obtain ⟨p, c, rfl, _, _, hin⟩ := own_g penc_len (by decide) h
    obtain ⟨b, o, rfl, hc⟩ := hin (by omega)
    injection h1 with h1
    injection h1 with h1
    injection h1 with h1 h5
    subst h1
    subst h5
    have h4 := hc i hi 0 (by decide)
    have h6 := hc i hi 1 (by decide)
    rw [Nat.zero_add] at h4 h6
    exact ⟨b, rfl, h4, h6⟩
set_option maxRecDepth 100000 in
set_option maxHeartbeats 16000000 in
theorem sumOf_one {w : World} {x : Pr} {p : Option Addr} {cp B : Nat} (h : w.ownsRow B 44 2 (.slice p 1 cp) 1 (cells penc [x])) (ht : Tabs w) (hn : x.n.length ≤ 64) (hv : x.v.length ≤ 60000) :
    Calls Tryd.prog 100 #[.slice p 1 cp] w fun e w' => e = .returned (dval (leafD [x])) ∧ Below w.heap.size w w' := by
  obtain ⟨b, hb, q1, q2⟩ := penc_at (l := [x]) h 0 (Nat.succ_pos 0)
  have hp : p = some ⟨b, 0, none⟩ := by
    rcases h.2 with ⟨h1, _⟩ | ⟨gg, cap, cur, h1, _⟩
    · rw [h1] at hb; cases hb
    · injection h1 with h1
      subst h1
      injection hb with hb
      subst hb
      rfl
  subst hp
  have hz := zeroD
  have hzl : (byteCells zeros).length = 32 := by rfl
  obtain ⟨Z, hZ⟩ : ∃ Z, byteCells zeros = Z := ⟨_, rfl⟩
  rw [hZ] at hz hzl
  have hb1 := (Below.refl w.heap.size w).alloc (Nat.le_refl _) (.cells Z.toArray 32)
  have hB1 := blk_new w Z.toArray 32 Z rfl
  have hlt := cell_lt q1
  obtain ⟨w1, hw1⟩ : ∃ w1, w.alloc (.cells Z.toArray 32) = w1 := ⟨_, rfl⟩
  rw [hw1] at hb1 hB1
  have HCA : Hid (∀ W, Below w.heap.size w W → W.cell? ⟨b, 0, none⟩ = some (.string ⟨x.n.toArray⟩)) := fun W hb => (hb.cell (p := ⟨b, 0, none⟩) hlt).trans q1
  have HCB : Hid (∀ W, Below w.heap.size w W → W.cell? ⟨b, 1, none⟩ = some (.string ⟨x.v.toArray⟩)) := fun W hb => (hb.cell (p := ⟨b, 1, none⟩) hlt).trans q2
  have HME : Hid (∀ W, Calls Tryd.prog 112 #[.string ⟨x.n.toArray⟩] W fun e w' => ∃ p c, e = .returned (.slice p (sized x.n).length c) ∧ In8 w' p (sized x.n) ∧ Rm p c (sized x.n).length ∧ Below W.heap.size W w') := fun W => measured_v x.n W (by omega)
  have hsl : (sized x.n).length = 4 + x.n.length := by unfold sized len4; simp; omega
  have hDl : (byteCells (leafD [x])).length = 32 := by rw [byteCells_len, leafD_len]
  have hD1 := bytes_one (leafD [x])
  have hall : ∀ (W : World) (g0 : Nat) (p5 : Option Addr) (c5 g10 c10 : Nat), Below w.heap.size w W → In8 W (some ⟨g0, 0, none⟩) [0] → In8 W p5 (sized x.n) → Rm p5 c5 (sized x.n).length → In8 W (some ⟨g10, 0, none⟩) x.v → x.v.length ≤ c10 →
      Calls Tryd.prog 38 #[.slice (some ⟨W.heap.size, 0, none⟩) 3 3] (W.alloc (.cells #[.slice (some ⟨g0, 0, none⟩) 1 1, .slice p5 (sized x.n).length c5, .slice (some ⟨g10, 0, none⟩) x.v.length c10] 66)) fun e w' => e = .returned (dval (leafD [x])) ∧ Below (W.alloc (.cells #[.slice (some ⟨g0, 0, none⟩) 1 1, .slice p5 (sized x.n).length c5, .slice (some ⟨g10, 0, none⟩) x.v.length c10] 66)).heap.size (W.alloc (.cells #[.slice (some ⟨g0, 0, none⟩) 1 1, .slice p5 (sized x.n).length c5, .slice (some ⟨g10, 0, none⟩) x.v.length c10] 66)) w' := by
    intro W g0 p5 c5 g10 c10 hbW a0 a5 r5 a10 hcp
    have hb2 := (Below.refl W.heap.size W).alloc (Nat.le_refl _) (.cells #[.slice (some ⟨g0, 0, none⟩) 1 1, .slice p5 (sized x.n).length c5, .slice (some ⟨g10, 0, none⟩) x.v.length c10] 66)
    have hB := blk_new W #[.slice (some ⟨g0, 0, none⟩) 1 1, .slice p5 (sized x.n).length c5, .slice (some ⟨g10, 0, none⟩) x.v.length c10] 66 _ rfl
    have hj : joined [⟨some ⟨g0, 0, none⟩, 1, [0]⟩, ⟨p5, c5, sized x.n⟩, ⟨some ⟨g10, 0, none⟩, c10, x.v⟩] = [0] ++ sized x.n ++ x.v := by simp [joined]
    have h := all_c (some ⟨W.heap.size, 0, none⟩) 3 [⟨some ⟨g0, 0, none⟩, 1, [0]⟩, ⟨p5, c5, sized x.n⟩, ⟨some ⟨g10, 0, none⟩, c10, x.v⟩] _ ((ht.below hbW).below hb2) ⟨fun _ => ⟨W.heap.size, 0, rfl, fun i hi => ?_⟩, fun y hy => ?_⟩ (show 3 ≤ 1048576 by decide) (by rw [hj]; simp; omega)
    · rw [hj] at h
      exact h
    · rw [Nat.zero_add, hB.cell i]
      have h3 : i < 3 := hi
      rcases i with _ | _ | _ | i
      · rfl
      · rfl
      · rfl
      · omega
    · rcases List.mem_cons.1 hy with rfl | hy
      · exact ⟨a0.below hb2, (fun e => by cases e), Nat.le_refl 1⟩
      · rcases List.mem_cons.1 hy with rfl | hy
        · exact ⟨a5.below hb2, r5⟩
        · rw [List.mem_singleton.1 hy]
          exact ⟨a10.below hb2, (fun e => by cases e), hcp⟩
  unfold dval at hall
  obtain ⟨D, hD⟩ : ∃ D, byteCells (leafD [x]) = D := ⟨_, rfl⟩
  rw [hD] at hDl hD1 hall
  have HDE := Lib.hid hD
  have HDO := Lib.hid hD1
  have hDi : Hid ((Tryd.prog.info? 32).map (·.size) = some D.length) := by show _ = _; rw [hDl]; exact infoDg
  have HZL : Hid (Z.length = D.length) := by show _ = _; rw [hzl, hDl]
  have HALL := Lib.hid hall
  have hd0 := hb1.drew
  have hd1 := (Below.refl w1.heap.size w1).drew
  have Z0 : Blk w1.drew w.heap.size 32 Z := hB1.below hd1
  clear h hb q1 q2 hZ hb1 hB1 hzl ht hD hD1 hDl hall hd1 hsl
  go_enter Tryd.func100, Tryd.ntmps100
  go_upto_region 2 with fail
  refine wp_region_noPanic ?_
  refine wp_region_held_drew (S := fun W => Below w.heap.size w W) (by kernel_rfl) hd0 (fun hHeld => ?_)
  refine wpAnyH_take (i := 1) (oi := ⟨some 10, _, _, _, _, _⟩) (v := ?_) rfl (by kernel_rfl) (by kernel_rfl) (by kernel_rfl) (fun _ _ _ h => h) (Or.inl ⟨by rfl, ?_⟩) (by assumption) ?_
  rotate_left
  · intro w hSw; have hcA := HCA.out _ hSw; have hcB := HCB.out _ hSw; (first | (go_simp; done) | (go_simp; with_reducible rfl))
  simp only [Act.put, List.setIfInBounds_toArray, List.set_cons_zero, List.set_cons_succ]
  refine wpAnyH_take (i := 2) (oi := ⟨some 11, _, _, _, _, _⟩) (v := ?_) rfl (by kernel_rfl) (by kernel_rfl) (by kernel_rfl) (fun _ _ _ h => h) (Or.inl ⟨by rfl, ?_⟩) (by assumption) ?_
  rotate_left
  · intro w hSw; have hcA := HCA.out _ hSw; have hcB := HCB.out _ hSw; (first | (go_simp; done) | (go_simp; with_reducible rfl))
  simp only [Act.put, List.setIfInBounds_toArray, List.set_cons_zero, List.set_cons_succ]
  refine wpAnyH_take (i := 3) (oi := ⟨some 12, _, _, _, _, _⟩) (v := ?_) rfl (by kernel_rfl) (by kernel_rfl) (by kernel_rfl) (fun _ _ _ h => h) (Or.inl ⟨by rfl, ?_⟩) (by assumption) ?_
  rotate_left
  · intro w hSw; have hcA := HCA.out _ hSw; have hcB := HCB.out _ hSw; (first | (go_simp; done) | (go_simp; with_reducible rfl))
  simp only [Act.put, List.setIfInBounds_toArray, List.set_cons_zero, List.set_cons_succ]
  refine wpAnyH_take (i := 4) (oi := ⟨some 13, _, _, _, _, _⟩) (v := ?_) rfl (by kernel_rfl) (by kernel_rfl) (by kernel_rfl) (fun _ _ _ h => h) (Or.inl ⟨by rfl, ?_⟩) (by assumption) ?_
  rotate_left
  · intro w hSw; have hcA := HCA.out _ hSw; have hcB := HCB.out _ hSw; (first | (go_simp; done) | (go_simp; with_reducible rfl))
  simp only [Act.put, List.setIfInBounds_toArray, List.set_cons_zero, List.set_cons_succ]
  refine wpAnyH_take (i := 6) (oi := ⟨some 15, _, _, _, _, _⟩) (v := ?_) rfl (by kernel_rfl) (by kernel_rfl) (by kernel_rfl) (fun _ _ _ h => h) (Or.inl ⟨by rfl, ?_⟩) (by assumption) ?_
  rotate_left
  · intro w hSw; have hcA := HCA.out _ hSw; have hcB := HCB.out _ hSw; (first | (go_simp; done) | (go_simp; with_reducible rfl))
  simp only [Act.put, List.setIfInBounds_toArray, List.set_cons_zero, List.set_cons_succ]
  refine wpAnyH_take (i := 7) (oi := ⟨some 16, _, _, _, _, _⟩) (v := ?_) rfl (by kernel_rfl) (by kernel_rfl) (by kernel_rfl) (fun _ _ _ h => h) (Or.inl ⟨by rfl, ?_⟩) (by assumption) ?_
  rotate_left
  · intro w hSw; have hcA := HCA.out _ hSw; have hcB := HCB.out _ hSw; (first | (go_simp; done) | (go_simp; with_reducible rfl))
  simp only [Act.put, List.setIfInBounds_toArray, List.set_cons_zero, List.set_cons_succ]
  refine wpAnyH_take (i := 8) (oi := ⟨some 17, _, _, _, _, _⟩) (v := ?_) rfl (by kernel_rfl) (by kernel_rfl) (by kernel_rfl) (fun _ _ _ h => h) (Or.inl ⟨by rfl, ?_⟩) (by assumption) ?_
  rotate_left
  · intro w hSw; have hcA := HCA.out _ hSw; have hcB := HCB.out _ hSw; (first | (go_simp; done) | (go_simp; with_reducible rfl))
  simp only [Act.put, List.setIfInBounds_toArray, List.set_cons_zero, List.set_cons_succ]
  refine wpAnyH_take (i := 9) (oi := ⟨some 18, _, _, _, _, _⟩) (v := ?_) rfl (by kernel_rfl) (by kernel_rfl) (by kernel_rfl) (fun _ _ _ h => h) (Or.inl ⟨by rfl, ?_⟩) (by assumption) ?_
  rotate_left
  · intro w hSw; have hcA := HCA.out _ hSw; have hcB := HCB.out _ hSw; (first | (go_simp; done) | (go_simp; with_reducible rfl))
  simp only [Act.put, List.setIfInBounds_toArray, List.set_cons_zero, List.set_cons_succ]
  obtain ⟨wx0, hwx⟩ : ∃ y0, y0 = w1.drew := ⟨_, rfl⟩
  rw [← hwx] at hHeld Z0 ⊢
  clear hwx hd0
  refine wpAnyH_ready (rs := [0, 5, 10]) (by kernel_rfl) (by simp) ?_
  refine AllReadyH.cons rfl (fun K hK => ?_) (AllReadyH.cons rfl (fun K hK => ?_) (AllReadyH.cons rfl (fun K hK => ?_) AllReadyH.nil))
  · skip
    go_simp
    go_wp2_with fail
    refine hK.out _ _ (hHeld.alloc hHeld.size _) (fun hHeld => ?_)
    clear hK K
    have hbk := (Below.refl wx0.heap.size wx0).alloc (Nat.le_refl _) (.cells #[.int .u8 0] 5)
    have A0 := one_row wx0 0
    change wpAnyH _ _ _ _ _ _ _ _ (wx0.alloc (.cells #[.int .u8 0] 5))
    replace hHeld : Below w.heap.size w (wx0.alloc (.cells #[.int .u8 0] 5)) := hHeld
    replace A0 : In8 (wx0.alloc (.cells #[.int .u8 0] 5)) (some ⟨wx0.heap.size, 0, none⟩) [0] := A0
    obtain ⟨wx1, hwn⟩ : ∃ y0, y0 = wx0.alloc (.cells #[.int .u8 0] 5) := ⟨_, rfl⟩
    rw [← hwn] at A0 hHeld hbk ⊢
    replace Z0 := Z0.below hbk
    have hHeld0 := hHeld
    obtain ⟨g0, hg0⟩ : ∃ y0, y0 = wx0.heap.size := ⟨_, rfl⟩
    rw [← hg0] at A0 ⊢
    clear hwn hg0 hbk
    refine wpAnyH_ready (rs := [5, 10]) (by kernel_rfl) (by simp) ?_
    refine AllReadyH.cons rfl (fun K hK => ?_) (AllReadyH.cons rfl (fun K hK => ?_) AllReadyH.nil)
    · skip
      go_simp
      go_wp2_with (go_at_call 112; refine (HME.out _).mono ?_; rintro e wx2 ⟨p5, c5, rfl, A5, R5, hbk⟩)
      refine hK.out _ _ (bnext hHeld hbk) (fun hHeld => ?_)
      replace A0 := A0.below hbk
      replace Z0 := Z0.below hbk
      have hHeld0 := hHeld
      clear hK K hbk
      refine wpAnyH_ready (rs := [10]) (by kernel_rfl) (by simp) ?_
      refine AllReadyH.cons rfl (fun K hK => ?_) AllReadyH.nil
      obtain ⟨wx3, c10, hcv, A10, hcp, hbk⟩ := conv_row x.v wx2
      go_simp
      try go_wp2_with fail
      refine hK.out _ _ (bnext hHeld hbk) (fun hHeld => ?_)
      replace A0 := A0.below hbk
      replace A5 := A5.below hbk
      replace Z0 := Z0.below hbk
      have hHeld0 := hHeld
      obtain ⟨g10, hg10⟩ : ∃ y0, y0 = wx2.heap.size := ⟨_, rfl⟩
      rw [← hg10] at A10 ⊢
      clear hK K hbk hcv hg10
      refine wpAnyH_ready (rs := [11]) (by kernel_rfl) (by simp) ?_
      refine AllReadyH.cons rfl (fun K hK => ?_) AllReadyH.nil
      go_simp
      go_wp2_with fail
      refine hK.out _ _ (hHeld.alloc hHeld.size _) (fun hHeld => ?_)
      clear hK K
      have HAL := Lib.hid (HALL.out wx3 g0 p5 c5 g10 c10 hHeld0 A0 A5 R5 A10 hcp)
      have ZB := Lib.hid (blk_old Z0 (.cells #[.slice (some ⟨g0, 0, none⟩) 1 1, .slice p5 (sized x.n).length c5, .slice (some ⟨g10, 0, none⟩) x.v.length c10] 66))
      change wpAnyH _ _ _ _ _ _ _ _ (wx3.alloc (.cells #[.slice (some ⟨g0, 0, none⟩) 1 1, .slice p5 (sized x.n).length c5, .slice (some ⟨g10, 0, none⟩) x.v.length c10] 66))
      replace hHeld : Below w.heap.size w (wx3.alloc (.cells #[.slice (some ⟨g0, 0, none⟩) 1 1, .slice p5 (sized x.n).length c5, .slice (some ⟨g10, 0, none⟩) x.v.length c10] 66)) := hHeld
      clear A0 A5 R5 A10 hcp Z0 hHeld0
      obtain ⟨wx4, hwn⟩ : ∃ y0, y0 = wx3.alloc (.cells #[.slice (some ⟨g0, 0, none⟩) 1 1, .slice p5 (sized x.n).length c5, .slice (some ⟨g10, 0, none⟩) x.v.length c10] 66) := ⟨_, rfl⟩
      rw [← hwn] at HAL hHeld ZB ⊢
      obtain ⟨ga, hga⟩ : ∃ y0, y0 = wx3.heap.size := ⟨_, rfl⟩
      rw [← hga] at HAL ⊢
      clear hwn hga
      refine wpAnyH_ready (rs := [12]) (by kernel_rfl) (by simp) ?_
      refine AllReadyH.cons rfl (fun K hK => ?_) AllReadyH.nil
      go_simp
      go_wp2_with (go_at_call 38; refine HAL.out.mono ?_; rintro e wx5 ⟨rfl, hbk⟩)
      refine hK.out _ _ (bnext hHeld hbk) (fun hHeld => ?_)
      have ZC := Lib.hid (ZB.out.below hbk)
      clear hK K hbk HAL ZB
      refine wpAnyH_ready (rs := [13]) (by kernel_rfl) (by simp) ?_
      refine AllReadyH.cons rfl (fun K hK => ?_) AllReadyH.nil
      refine step_store_blk rfl 32 (.tmp 2) (.tmp 21) rfl w.heap.size D Z 32 ZC.out rfl rfl hDi.out HZL.out HDO.out ?_
      intro wa hA hW
      have hfin := hW.below _ _ hHeld (Nat.le_refl _)
      refine hK.out _ _ hfin (fun hHeld => ?_)
      have HA := Lib.hid hA
      have HF := Lib.hid hfin
      clear hK K hW ZC hA hfin
      refine wpAnyH_done (by kernel_rfl) ?_ _
      refine NoPanic.normal ?_
      go_wp2_with fail
      exact bodyPost_ret (v := .agg D.toArray) (results_blk Tryd.results100 _ _ w.heap.size 32 D _ rfl HA.out Tryd.underlying32 rfl hDi.out) rfl ⟨by unfold dval; rw [HDE.out], HF.out⟩
    · skip
      obtain ⟨wx2, c10, hcv, A10, hcp, hbk⟩ := conv_row x.v wx1
      go_simp
      try go_wp2_with fail
      refine hK.out _ _ (bnext hHeld hbk) (fun hHeld => ?_)
      replace A0 := A0.below hbk
      replace Z0 := Z0.below hbk
      have hHeld0 := hHeld
      obtain ⟨g10, hg10⟩ : ∃ y0, y0 = wx1.heap.size := ⟨_, rfl⟩
      rw [← hg10] at A10 ⊢
      clear hK K hbk hcv hg10
      refine wpAnyH_ready (rs := [5]) (by kernel_rfl) (by simp) ?_
      refine AllReadyH.cons rfl (fun K hK => ?_) AllReadyH.nil
      go_simp
      go_wp2_with (go_at_call 112; refine (HME.out _).mono ?_; rintro e wx3 ⟨p5, c5, rfl, A5, R5, hbk⟩)
      refine hK.out _ _ (bnext hHeld hbk) (fun hHeld => ?_)
      replace A0 := A0.below hbk
      replace A10 := A10.below hbk
      replace Z0 := Z0.below hbk
      have hHeld0 := hHeld
      clear hK K hbk
      refine wpAnyH_ready (rs := [11]) (by kernel_rfl) (by simp) ?_
      refine AllReadyH.cons rfl (fun K hK => ?_) AllReadyH.nil
      go_simp
      go_wp2_with fail
      refine hK.out _ _ (hHeld.alloc hHeld.size _) (fun hHeld => ?_)
      clear hK K
      have HAL := Lib.hid (HALL.out wx3 g0 p5 c5 g10 c10 hHeld0 A0 A5 R5 A10 hcp)
      have ZB := Lib.hid (blk_old Z0 (.cells #[.slice (some ⟨g0, 0, none⟩) 1 1, .slice p5 (sized x.n).length c5, .slice (some ⟨g10, 0, none⟩) x.v.length c10] 66))
      change wpAnyH _ _ _ _ _ _ _ _ (wx3.alloc (.cells #[.slice (some ⟨g0, 0, none⟩) 1 1, .slice p5 (sized x.n).length c5, .slice (some ⟨g10, 0, none⟩) x.v.length c10] 66))
      replace hHeld : Below w.heap.size w (wx3.alloc (.cells #[.slice (some ⟨g0, 0, none⟩) 1 1, .slice p5 (sized x.n).length c5, .slice (some ⟨g10, 0, none⟩) x.v.length c10] 66)) := hHeld
      clear A0 A5 R5 A10 hcp Z0 hHeld0
      obtain ⟨wx4, hwn⟩ : ∃ y0, y0 = wx3.alloc (.cells #[.slice (some ⟨g0, 0, none⟩) 1 1, .slice p5 (sized x.n).length c5, .slice (some ⟨g10, 0, none⟩) x.v.length c10] 66) := ⟨_, rfl⟩
      rw [← hwn] at HAL hHeld ZB ⊢
      obtain ⟨ga, hga⟩ : ∃ y0, y0 = wx3.heap.size := ⟨_, rfl⟩
      rw [← hga] at HAL ⊢
      clear hwn hga
      refine wpAnyH_ready (rs := [12]) (by kernel_rfl) (by simp) ?_
      refine AllReadyH.cons rfl (fun K hK => ?_) AllReadyH.nil
      go_simp
      go_wp2_with (go_at_call 38; refine HAL.out.mono ?_; rintro e wx5 ⟨rfl, hbk⟩)
      refine hK.out _ _ (bnext hHeld hbk) (fun hHeld => ?_)
      have ZC := Lib.hid (ZB.out.below hbk)
      clear hK K hbk HAL ZB
      refine wpAnyH_ready (rs := [13]) (by kernel_rfl) (by simp) ?_
      refine AllReadyH.cons rfl (fun K hK => ?_) AllReadyH.nil
      refine step_store_blk rfl 32 (.tmp 2) (.tmp 21) rfl w.heap.size D Z 32 ZC.out rfl rfl hDi.out HZL.out HDO.out ?_
      intro wa hA hW
      have hfin := hW.below _ _ hHeld (Nat.le_refl _)
      refine hK.out _ _ hfin (fun hHeld => ?_)
      have HA := Lib.hid hA
      have HF := Lib.hid hfin
      clear hK K hW ZC hA hfin
      refine wpAnyH_done (by kernel_rfl) ?_ _
      refine NoPanic.normal ?_
      go_wp2_with fail
      exact bodyPost_ret (v := .agg D.toArray) (results_blk Tryd.results100 _ _ w.heap.size 32 D _ rfl HA.out Tryd.underlying32 rfl hDi.out) rfl ⟨by unfold dval; rw [HDE.out], HF.out⟩
  · skip
    go_simp
    go_wp2_with (go_at_call 112; refine (HME.out _).mono ?_; rintro e wx1 ⟨p5, c5, rfl, A5, R5, hbk⟩)
    refine hK.out _ _ (bnext hHeld hbk) (fun hHeld => ?_)
    replace Z0 := Z0.below hbk
    have hHeld0 := hHeld
    clear hK K hbk
    refine wpAnyH_ready (rs := [0, 10]) (by kernel_rfl) (by simp) ?_
    refine AllReadyH.cons rfl (fun K hK => ?_) (AllReadyH.cons rfl (fun K hK => ?_) AllReadyH.nil)
    · skip
      go_simp
      go_wp2_with fail
      refine hK.out _ _ (hHeld.alloc hHeld.size _) (fun hHeld => ?_)
      clear hK K
      have hbk := (Below.refl wx1.heap.size wx1).alloc (Nat.le_refl _) (.cells #[.int .u8 0] 5)
      have A0 := one_row wx1 0
      change wpAnyH _ _ _ _ _ _ _ _ (wx1.alloc (.cells #[.int .u8 0] 5))
      replace hHeld : Below w.heap.size w (wx1.alloc (.cells #[.int .u8 0] 5)) := hHeld
      replace A0 : In8 (wx1.alloc (.cells #[.int .u8 0] 5)) (some ⟨wx1.heap.size, 0, none⟩) [0] := A0
      obtain ⟨wx2, hwn⟩ : ∃ y0, y0 = wx1.alloc (.cells #[.int .u8 0] 5) := ⟨_, rfl⟩
      rw [← hwn] at A0 hHeld hbk ⊢
      replace A5 := A5.below hbk
      replace Z0 := Z0.below hbk
      have hHeld0 := hHeld
      obtain ⟨g0, hg0⟩ : ∃ y0, y0 = wx1.heap.size := ⟨_, rfl⟩
      rw [← hg0] at A0 ⊢
      clear hwn hg0 hbk
      refine wpAnyH_ready (rs := [10]) (by kernel_rfl) (by simp) ?_
      refine AllReadyH.cons rfl (fun K hK => ?_) AllReadyH.nil
      obtain ⟨wx3, c10, hcv, A10, hcp, hbk⟩ := conv_row x.v wx2
      go_simp
      try go_wp2_with fail
      refine hK.out _ _ (bnext hHeld hbk) (fun hHeld => ?_)
      replace A0 := A0.below hbk
      replace A5 := A5.below hbk
      replace Z0 := Z0.below hbk
      have hHeld0 := hHeld
      obtain ⟨g10, hg10⟩ : ∃ y0, y0 = wx2.heap.size := ⟨_, rfl⟩
      rw [← hg10] at A10 ⊢
      clear hK K hbk hcv hg10
      refine wpAnyH_ready (rs := [11]) (by kernel_rfl) (by simp) ?_
      refine AllReadyH.cons rfl (fun K hK => ?_) AllReadyH.nil
      go_simp
      go_wp2_with fail
      refine hK.out _ _ (hHeld.alloc hHeld.size _) (fun hHeld => ?_)
      clear hK K
      have HAL := Lib.hid (HALL.out wx3 g0 p5 c5 g10 c10 hHeld0 A0 A5 R5 A10 hcp)
      have ZB := Lib.hid (blk_old Z0 (.cells #[.slice (some ⟨g0, 0, none⟩) 1 1, .slice p5 (sized x.n).length c5, .slice (some ⟨g10, 0, none⟩) x.v.length c10] 66))
      change wpAnyH _ _ _ _ _ _ _ _ (wx3.alloc (.cells #[.slice (some ⟨g0, 0, none⟩) 1 1, .slice p5 (sized x.n).length c5, .slice (some ⟨g10, 0, none⟩) x.v.length c10] 66))
      replace hHeld : Below w.heap.size w (wx3.alloc (.cells #[.slice (some ⟨g0, 0, none⟩) 1 1, .slice p5 (sized x.n).length c5, .slice (some ⟨g10, 0, none⟩) x.v.length c10] 66)) := hHeld
      clear A0 A5 R5 A10 hcp Z0 hHeld0
      obtain ⟨wx4, hwn⟩ : ∃ y0, y0 = wx3.alloc (.cells #[.slice (some ⟨g0, 0, none⟩) 1 1, .slice p5 (sized x.n).length c5, .slice (some ⟨g10, 0, none⟩) x.v.length c10] 66) := ⟨_, rfl⟩
      rw [← hwn] at HAL hHeld ZB ⊢
      obtain ⟨ga, hga⟩ : ∃ y0, y0 = wx3.heap.size := ⟨_, rfl⟩
      rw [← hga] at HAL ⊢
      clear hwn hga
      refine wpAnyH_ready (rs := [12]) (by kernel_rfl) (by simp) ?_
      refine AllReadyH.cons rfl (fun K hK => ?_) AllReadyH.nil
      go_simp
      go_wp2_with (go_at_call 38; refine HAL.out.mono ?_; rintro e wx5 ⟨rfl, hbk⟩)
      refine hK.out _ _ (bnext hHeld hbk) (fun hHeld => ?_)
      have ZC := Lib.hid (ZB.out.below hbk)
      clear hK K hbk HAL ZB
      refine wpAnyH_ready (rs := [13]) (by kernel_rfl) (by simp) ?_
      refine AllReadyH.cons rfl (fun K hK => ?_) AllReadyH.nil
      refine step_store_blk rfl 32 (.tmp 2) (.tmp 21) rfl w.heap.size D Z 32 ZC.out rfl rfl hDi.out HZL.out HDO.out ?_
      intro wa hA hW
      have hfin := hW.below _ _ hHeld (Nat.le_refl _)
      refine hK.out _ _ hfin (fun hHeld => ?_)
      have HA := Lib.hid hA
      have HF := Lib.hid hfin
      clear hK K hW ZC hA hfin
      refine wpAnyH_done (by kernel_rfl) ?_ _
      refine NoPanic.normal ?_
      go_wp2_with fail
      exact bodyPost_ret (v := .agg D.toArray) (results_blk Tryd.results100 _ _ w.heap.size 32 D _ rfl HA.out Tryd.underlying32 rfl hDi.out) rfl ⟨by unfold dval; rw [HDE.out], HF.out⟩
    · skip
      obtain ⟨wx2, c10, hcv, A10, hcp, hbk⟩ := conv_row x.v wx1
      go_simp
      try go_wp2_with fail
      refine hK.out _ _ (bnext hHeld hbk) (fun hHeld => ?_)
      replace A5 := A5.below hbk
      replace Z0 := Z0.below hbk
      have hHeld0 := hHeld
      obtain ⟨g10, hg10⟩ : ∃ y0, y0 = wx1.heap.size := ⟨_, rfl⟩
      rw [← hg10] at A10 ⊢
      clear hK K hbk hcv hg10
      refine wpAnyH_ready (rs := [0]) (by kernel_rfl) (by simp) ?_
      refine AllReadyH.cons rfl (fun K hK => ?_) AllReadyH.nil
      go_simp
      go_wp2_with fail
      refine hK.out _ _ (hHeld.alloc hHeld.size _) (fun hHeld => ?_)
      clear hK K
      have hbk := (Below.refl wx2.heap.size wx2).alloc (Nat.le_refl _) (.cells #[.int .u8 0] 5)
      have A0 := one_row wx2 0
      change wpAnyH _ _ _ _ _ _ _ _ (wx2.alloc (.cells #[.int .u8 0] 5))
      replace hHeld : Below w.heap.size w (wx2.alloc (.cells #[.int .u8 0] 5)) := hHeld
      replace A0 : In8 (wx2.alloc (.cells #[.int .u8 0] 5)) (some ⟨wx2.heap.size, 0, none⟩) [0] := A0
      obtain ⟨wx3, hwn⟩ : ∃ y0, y0 = wx2.alloc (.cells #[.int .u8 0] 5) := ⟨_, rfl⟩
      rw [← hwn] at A0 hHeld hbk ⊢
      replace A5 := A5.below hbk
      replace A10 := A10.below hbk
      replace Z0 := Z0.below hbk
      have hHeld0 := hHeld
      obtain ⟨g0, hg0⟩ : ∃ y0, y0 = wx2.heap.size := ⟨_, rfl⟩
      rw [← hg0] at A0 ⊢
      clear hwn hg0 hbk
      refine wpAnyH_ready (rs := [11]) (by kernel_rfl) (by simp) ?_
      refine AllReadyH.cons rfl (fun K hK => ?_) AllReadyH.nil
      go_simp
      go_wp2_with fail
      refine hK.out _ _ (hHeld.alloc hHeld.size _) (fun hHeld => ?_)
      clear hK K
      have HAL := Lib.hid (HALL.out wx3 g0 p5 c5 g10 c10 hHeld0 A0 A5 R5 A10 hcp)
      have ZB := Lib.hid (blk_old Z0 (.cells #[.slice (some ⟨g0, 0, none⟩) 1 1, .slice p5 (sized x.n).length c5, .slice (some ⟨g10, 0, none⟩) x.v.length c10] 66))
      change wpAnyH _ _ _ _ _ _ _ _ (wx3.alloc (.cells #[.slice (some ⟨g0, 0, none⟩) 1 1, .slice p5 (sized x.n).length c5, .slice (some ⟨g10, 0, none⟩) x.v.length c10] 66))
      replace hHeld : Below w.heap.size w (wx3.alloc (.cells #[.slice (some ⟨g0, 0, none⟩) 1 1, .slice p5 (sized x.n).length c5, .slice (some ⟨g10, 0, none⟩) x.v.length c10] 66)) := hHeld
      clear A0 A5 R5 A10 hcp Z0 hHeld0
      obtain ⟨wx4, hwn⟩ : ∃ y0, y0 = wx3.alloc (.cells #[.slice (some ⟨g0, 0, none⟩) 1 1, .slice p5 (sized x.n).length c5, .slice (some ⟨g10, 0, none⟩) x.v.length c10] 66) := ⟨_, rfl⟩
      rw [← hwn] at HAL hHeld ZB ⊢
      obtain ⟨ga, hga⟩ : ∃ y0, y0 = wx3.heap.size := ⟨_, rfl⟩
      rw [← hga] at HAL ⊢
      clear hwn hga
      refine wpAnyH_ready (rs := [12]) (by kernel_rfl) (by simp) ?_
      refine AllReadyH.cons rfl (fun K hK => ?_) AllReadyH.nil
      go_simp
      go_wp2_with (go_at_call 38; refine HAL.out.mono ?_; rintro e wx5 ⟨rfl, hbk⟩)
      refine hK.out _ _ (bnext hHeld hbk) (fun hHeld => ?_)
      have ZC := Lib.hid (ZB.out.below hbk)
      clear hK K hbk HAL ZB
      refine wpAnyH_ready (rs := [13]) (by kernel_rfl) (by simp) ?_
      refine AllReadyH.cons rfl (fun K hK => ?_) AllReadyH.nil
      refine step_store_blk rfl 32 (.tmp 2) (.tmp 21) rfl w.heap.size D Z 32 ZC.out rfl rfl hDi.out HZL.out HDO.out ?_
      intro wa hA hW
      have hfin := hW.below _ _ hHeld (Nat.le_refl _)
      refine hK.out _ _ hfin (fun hHeld => ?_)
      have HA := Lib.hid hA
      have HF := Lib.hid hfin
      clear hK K hW ZC hA hfin
      refine wpAnyH_done (by kernel_rfl) ?_ _
      refine NoPanic.normal ?_
      go_wp2_with fail
      exact bodyPost_ret (v := .agg D.toArray) (results_blk Tryd.results100 _ _ w.heap.size 32 D _ rfl HA.out Tryd.underlying32 rfl hDi.out) rfl ⟨by unfold dval; rw [HDE.out], HF.out⟩
  · skip
    obtain ⟨wx1, c10, hcv, A10, hcp, hbk⟩ := conv_row x.v wx0
    go_simp
    try go_wp2_with fail
    refine hK.out _ _ (bnext hHeld hbk) (fun hHeld => ?_)
    replace Z0 := Z0.below hbk
    have hHeld0 := hHeld
    obtain ⟨g10, hg10⟩ : ∃ y0, y0 = wx0.heap.size := ⟨_, rfl⟩
    rw [← hg10] at A10 ⊢
    clear hK K hbk hcv hg10
    refine wpAnyH_ready (rs := [0, 5]) (by kernel_rfl) (by simp) ?_
    refine AllReadyH.cons rfl (fun K hK => ?_) (AllReadyH.cons rfl (fun K hK => ?_) AllReadyH.nil)
    · skip
      go_simp
      go_wp2_with fail
      refine hK.out _ _ (hHeld.alloc hHeld.size _) (fun hHeld => ?_)
      clear hK K
      have hbk := (Below.refl wx1.heap.size wx1).alloc (Nat.le_refl _) (.cells #[.int .u8 0] 5)
      have A0 := one_row wx1 0
      change wpAnyH _ _ _ _ _ _ _ _ (wx1.alloc (.cells #[.int .u8 0] 5))
      replace hHeld : Below w.heap.size w (wx1.alloc (.cells #[.int .u8 0] 5)) := hHeld
      replace A0 : In8 (wx1.alloc (.cells #[.int .u8 0] 5)) (some ⟨wx1.heap.size, 0, none⟩) [0] := A0
      obtain ⟨wx2, hwn⟩ : ∃ y0, y0 = wx1.alloc (.cells #[.int .u8 0] 5) := ⟨_, rfl⟩
      rw [← hwn] at A0 hHeld hbk ⊢
      replace A10 := A10.below hbk
      replace Z0 := Z0.below hbk
      have hHeld0 := hHeld
      obtain ⟨g0, hg0⟩ : ∃ y0, y0 = wx1.heap.size := ⟨_, rfl⟩
      rw [← hg0] at A0 ⊢
      clear hwn hg0 hbk
      refine wpAnyH_ready (rs := [5]) (by kernel_rfl) (by simp) ?_
      refine AllReadyH.cons rfl (fun K hK => ?_) AllReadyH.nil
      go_simp
      go_wp2_with (go_at_call 112; refine (HME.out _).mono ?_; rintro e wx3 ⟨p5, c5, rfl, A5, R5, hbk⟩)
      refine hK.out _ _ (bnext hHeld hbk) (fun hHeld => ?_)
      replace A0 := A0.below hbk
      replace A10 := A10.below hbk
      replace Z0 := Z0.below hbk
      have hHeld0 := hHeld
      clear hK K hbk
      refine wpAnyH_ready (rs := [11]) (by kernel_rfl) (by simp) ?_
      refine AllReadyH.cons rfl (fun K hK => ?_) AllReadyH.nil
      go_simp
      go_wp2_with fail
      refine hK.out _ _ (hHeld.alloc hHeld.size _) (fun hHeld => ?_)
      clear hK K
      have HAL := Lib.hid (HALL.out wx3 g0 p5 c5 g10 c10 hHeld0 A0 A5 R5 A10 hcp)
      have ZB := Lib.hid (blk_old Z0 (.cells #[.slice (some ⟨g0, 0, none⟩) 1 1, .slice p5 (sized x.n).length c5, .slice (some ⟨g10, 0, none⟩) x.v.length c10] 66))
      change wpAnyH _ _ _ _ _ _ _ _ (wx3.alloc (.cells #[.slice (some ⟨g0, 0, none⟩) 1 1, .slice p5 (sized x.n).length c5, .slice (some ⟨g10, 0, none⟩) x.v.length c10] 66))
      replace hHeld : Below w.heap.size w (wx3.alloc (.cells #[.slice (some ⟨g0, 0, none⟩) 1 1, .slice p5 (sized x.n).length c5, .slice (some ⟨g10, 0, none⟩) x.v.length c10] 66)) := hHeld
      clear A0 A5 R5 A10 hcp Z0 hHeld0
      obtain ⟨wx4, hwn⟩ : ∃ y0, y0 = wx3.alloc (.cells #[.slice (some ⟨g0, 0, none⟩) 1 1, .slice p5 (sized x.n).length c5, .slice (some ⟨g10, 0, none⟩) x.v.length c10] 66) := ⟨_, rfl⟩
      rw [← hwn] at HAL hHeld ZB ⊢
      obtain ⟨ga, hga⟩ : ∃ y0, y0 = wx3.heap.size := ⟨_, rfl⟩
      rw [← hga] at HAL ⊢
      clear hwn hga
      refine wpAnyH_ready (rs := [12]) (by kernel_rfl) (by simp) ?_
      refine AllReadyH.cons rfl (fun K hK => ?_) AllReadyH.nil
      go_simp
      go_wp2_with (go_at_call 38; refine HAL.out.mono ?_; rintro e wx5 ⟨rfl, hbk⟩)
      refine hK.out _ _ (bnext hHeld hbk) (fun hHeld => ?_)
      have ZC := Lib.hid (ZB.out.below hbk)
      clear hK K hbk HAL ZB
      refine wpAnyH_ready (rs := [13]) (by kernel_rfl) (by simp) ?_
      refine AllReadyH.cons rfl (fun K hK => ?_) AllReadyH.nil
      refine step_store_blk rfl 32 (.tmp 2) (.tmp 21) rfl w.heap.size D Z 32 ZC.out rfl rfl hDi.out HZL.out HDO.out ?_
      intro wa hA hW
      have hfin := hW.below _ _ hHeld (Nat.le_refl _)
      refine hK.out _ _ hfin (fun hHeld => ?_)
      have HA := Lib.hid hA
      have HF := Lib.hid hfin
      clear hK K hW ZC hA hfin
      refine wpAnyH_done (by kernel_rfl) ?_ _
      refine NoPanic.normal ?_
      go_wp2_with fail
      exact bodyPost_ret (v := .agg D.toArray) (results_blk Tryd.results100 _ _ w.heap.size 32 D _ rfl HA.out Tryd.underlying32 rfl hDi.out) rfl ⟨by unfold dval; rw [HDE.out], HF.out⟩
    · skip
      go_simp
      go_wp2_with (go_at_call 112; refine (HME.out _).mono ?_; rintro e wx2 ⟨p5, c5, rfl, A5, R5, hbk⟩)
      refine hK.out _ _ (bnext hHeld hbk) (fun hHeld => ?_)
      replace A10 := A10.below hbk
      replace Z0 := Z0.below hbk
      have hHeld0 := hHeld
      clear hK K hbk
      refine wpAnyH_ready (rs := [0]) (by kernel_rfl) (by simp) ?_
      refine AllReadyH.cons rfl (fun K hK => ?_) AllReadyH.nil
      go_simp
      go_wp2_with fail
      refine hK.out _ _ (hHeld.alloc hHeld.size _) (fun hHeld => ?_)
      clear hK K
      have hbk := (Below.refl wx2.heap.size wx2).alloc (Nat.le_refl _) (.cells #[.int .u8 0] 5)
      have A0 := one_row wx2 0
      change wpAnyH _ _ _ _ _ _ _ _ (wx2.alloc (.cells #[.int .u8 0] 5))
      replace hHeld : Below w.heap.size w (wx2.alloc (.cells #[.int .u8 0] 5)) := hHeld
      replace A0 : In8 (wx2.alloc (.cells #[.int .u8 0] 5)) (some ⟨wx2.heap.size, 0, none⟩) [0] := A0
      obtain ⟨wx3, hwn⟩ : ∃ y0, y0 = wx2.alloc (.cells #[.int .u8 0] 5) := ⟨_, rfl⟩
      rw [← hwn] at A0 hHeld hbk ⊢
      replace A5 := A5.below hbk
      replace A10 := A10.below hbk
      replace Z0 := Z0.below hbk
      have hHeld0 := hHeld
      obtain ⟨g0, hg0⟩ : ∃ y0, y0 = wx2.heap.size := ⟨_, rfl⟩
      rw [← hg0] at A0 ⊢
      clear hwn hg0 hbk
      refine wpAnyH_ready (rs := [11]) (by kernel_rfl) (by simp) ?_
      refine AllReadyH.cons rfl (fun K hK => ?_) AllReadyH.nil
      go_simp
      go_wp2_with fail
      refine hK.out _ _ (hHeld.alloc hHeld.size _) (fun hHeld => ?_)
      clear hK K
      have HAL := Lib.hid (HALL.out wx3 g0 p5 c5 g10 c10 hHeld0 A0 A5 R5 A10 hcp)
      have ZB := Lib.hid (blk_old Z0 (.cells #[.slice (some ⟨g0, 0, none⟩) 1 1, .slice p5 (sized x.n).length c5, .slice (some ⟨g10, 0, none⟩) x.v.length c10] 66))
      change wpAnyH _ _ _ _ _ _ _ _ (wx3.alloc (.cells #[.slice (some ⟨g0, 0, none⟩) 1 1, .slice p5 (sized x.n).length c5, .slice (some ⟨g10, 0, none⟩) x.v.length c10] 66))
      replace hHeld : Below w.heap.size w (wx3.alloc (.cells #[.slice (some ⟨g0, 0, none⟩) 1 1, .slice p5 (sized x.n).length c5, .slice (some ⟨g10, 0, none⟩) x.v.length c10] 66)) := hHeld
      clear A0 A5 R5 A10 hcp Z0 hHeld0
      obtain ⟨wx4, hwn⟩ : ∃ y0, y0 = wx3.alloc (.cells #[.slice (some ⟨g0, 0, none⟩) 1 1, .slice p5 (sized x.n).length c5, .slice (some ⟨g10, 0, none⟩) x.v.length c10] 66) := ⟨_, rfl⟩
      rw [← hwn] at HAL hHeld ZB ⊢
      obtain ⟨ga, hga⟩ : ∃ y0, y0 = wx3.heap.size := ⟨_, rfl⟩
      rw [← hga] at HAL ⊢
      clear hwn hga
      refine wpAnyH_ready (rs := [12]) (by kernel_rfl) (by simp) ?_
      refine AllReadyH.cons rfl (fun K hK => ?_) AllReadyH.nil
      go_simp
      go_wp2_with (go_at_call 38; refine HAL.out.mono ?_; rintro e wx5 ⟨rfl, hbk⟩)
      refine hK.out _ _ (bnext hHeld hbk) (fun hHeld => ?_)
      have ZC := Lib.hid (ZB.out.below hbk)
      clear hK K hbk HAL ZB
      refine wpAnyH_ready (rs := [13]) (by kernel_rfl) (by simp) ?_
      refine AllReadyH.cons rfl (fun K hK => ?_) AllReadyH.nil
      refine step_store_blk rfl 32 (.tmp 2) (.tmp 21) rfl w.heap.size D Z 32 ZC.out rfl rfl hDi.out HZL.out HDO.out ?_
      intro wa hA hW
      have hfin := hW.below _ _ hHeld (Nat.le_refl _)
      refine hK.out _ _ hfin (fun hHeld => ?_)
      have HA := Lib.hid hA
      have HF := Lib.hid hfin
      clear hK K hW ZC hA hfin
      refine wpAnyH_done (by kernel_rfl) ?_ _
      refine NoPanic.normal ?_
      go_wp2_with fail
      exact bodyPost_ret (v := .agg D.toArray) (results_blk Tryd.results100 _ _ w.heap.size 32 D _ rfl HA.out Tryd.underlying32 rfl hDi.out) rfl ⟨by unfold dval; rw [HDE.out], HF.out⟩
end Go.Proofs.YtpijnkfbgieabaaDoor.tri
