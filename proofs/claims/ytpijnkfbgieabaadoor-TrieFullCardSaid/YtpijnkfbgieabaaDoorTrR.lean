/- The law's example 1: known. Condition: sha's package variables (Tabs). -/
import Derived.Test.YtpijnkfbgieabaaDoorTrQ
import Derived.Test.YtpijnkfbgieabaaDoorTrP
import Derived.Test.YtpijnkfbgieabaaDoorShaA
namespace Go.Proofs.YtpijnkfbgieabaaDoor.tri
open Go.RowKit
open Go.Proofs.YtpijnkfbgieabaaDoor.oct Go.Proofs.YtpijnkfbgieabaaDoor.ref Go.Proofs.YtpijnkfbgieabaaDoor.rows Go.Proofs.YtpijnkfbgieabaaDoor.rowg Go.Proofs.YtpijnkfbgieabaaDoor.trn Go.Proofs.YtpijnkfbgieabaaDoor.qut
open Go.Proofs.YtpijnkfbgieabaaDoor.sha (digest digest_len dval Tabs step_store_blk wpList_index_row digest_eq sum_top Rm)
open Go.Lib (byteCells)

def xa : Pr := ⟨[97], [49]⟩
theorem news_xa : news [] [xa] = (0, [xa]) := by
  unfold news
  rw [if_pos (by decide)]
  rfl
theorem und_xa2 : undI [xa] [12, 10] 2 = [xa] := by
  show sub (sub [xa] 0 12) 1 10 = [xa]
  have e0 : nib xa.n 0 = 12 := a_nib0
  have e1 : nib xa.n 1 = 10 := a_nib1
  rw [sub_one, if_pos e0, sub_one, if_pos e1]
theorem und_xa1 : undI [xa] [3] 1 = [] := by
  show sub [xa] 0 3 = []
  rw [sub_one, if_neg (by rw [show nib xa.n 0 = 12 from a_nib0]; decide)]
theorem leaf_xa : leafD [xa] = digest [0, 0, 0, 0, 1, 97, 49] := by
  show digest _ = digest _
  rfl
theorem pair_row (w : World) (x : Pr) : (w.alloc (.cells #[.string ⟨x.n.toArray⟩, .string ⟨x.v.toArray⟩] 44)).ownsRow 0 44 2 (.slice (some ⟨w.heap.size, 0, none⟩) 1 1) 1 (cells penc [x]) :=
  ⟨rfl, Or.inr ⟨w.heap.size, 1, _, rfl, Nat.zero_le _, heap_alloc_new w _, Nat.le_refl _, by decide, rfl, rfl⟩⟩
theorem node_two {w : World} {F : Nat → Prop} {g : Nat} (h : Tri w F g [xa]) :
    Calls Tryd.prog 12 #[.pointer (some ⟨g, 0, none⟩), .slice (some ⟨w.heap.size, 0, none⟩) 2 2] (w.alloc (.cells #[.int .i64 12, .int .i64 10] 3)) fun e w' => e = .returned (.tuple #[.agg (byteCells (leafD [xa])).toArray, .int .i64 0]) ∧ Below w.heap.size w w' := by
  have hb := (Below.refl w.heap.size w).alloc (Nat.le_refl _) (.cells #[.int .i64 12, .int .i64 10] 3)
  have hB := blk_new w #[.int .i64 12, .int .i64 10] 3 [.int .i64 12, .int .i64 10] rfl
  have h1 := node_c (n := 2) (cp := 2) (h.below hb) [12, 10] (b := w.heap.size) (o := 0) rfl (by decide) (by decide) (fun _ => rfl) (fun W hb i hi => by
    rw [Nat.zero_add, (hB.below hb).cell i]
    rcases i with _ | _ | i
    · rfl
    · rfl
    · exact absurd hi (by simp))
  rw [und_xa2, digP_one] at h1
  exact h1.mono fun _ _ ⟨a, b⟩ => ⟨a, bnext hb b⟩
theorem node_one {w : World} {F : Nat → Prop} {g : Nat} (h : Tri w F g [xa]) :
    Calls Tryd.prog 12 #[.pointer (some ⟨g, 0, none⟩), .slice (some ⟨w.heap.size, 0, none⟩) 1 1] (w.alloc (.cells #[.int .i64 3] 3)) fun e w' => e = .returned (.tuple #[.agg (byteCells zeros).toArray, .int .i64 0]) ∧ Below w.heap.size w w' := by
  have hb := (Below.refl w.heap.size w).alloc (Nat.le_refl _) (.cells #[.int .i64 3] 3)
  have hB := blk_new w #[.int .i64 3] 3 [.int .i64 3] rfl
  have h1 := node_c (n := 1) (cp := 1) (h.below hb) [3] (b := w.heap.size) (o := 0) rfl (by decide) (by decide) (fun _ => rfl) (fun W hb i hi => by
    rw [Nat.zero_add, (hB.below hb).cell i]
    rcases i with _ | i
    · rfl
    · exact absurd hi (by simp))
  rw [und_xa1, digP_nil] at h1
  exact h1.mono fun _ _ ⟨a, b⟩ => ⟨a, bnext hb b⟩
theorem bytes_at (l : T) (i : Nat) (h : i < l.length) : (byteCells l)[i]? = some (.int .u8 ((l.getD i 0).toNat : Int)) := by
  unfold byteCells
  rw [List.getElem?_map, List.getElem?_eq_getElem h]
  simp [List.getD, List.getElem?_eq_getElem h]
theorem seven (w : World) (ht : Tabs w) : Calls Tryd.prog 32 #[.slice (some ⟨w.heap.size, 0, none⟩) 7 7] (w.alloc (.cells #[.int .u8 0, .int .u8 0, .int .u8 0, .int .u8 0, .int .u8 1, .int .u8 97, .int .u8 49] 5)) fun e w' => e = .returned (.agg (byteCells (leafD [xa])).toArray) ∧ Below w.heap.size w w' := by
  have hb := (Below.refl w.heap.size w).alloc (Nat.le_refl _) (.cells #[.int .u8 0, .int .u8 0, .int .u8 0, .int .u8 0, .int .u8 1, .int .u8 97, .int .u8 49] 5)
  have hB := blk_new w #[.int .u8 0, .int .u8 0, .int .u8 0, .int .u8 0, .int .u8 1, .int .u8 97, .int .u8 49] 5 (byteCells [0, 0, 0, 0, 1, 97, 49]) rfl
  have h1 := sum_top (some ⟨w.heap.size, 0, none⟩) 7 [0, 0, 0, 0, 1, 97, 49] _ (ht.below hb) (fun _ => ⟨w.heap.size, 0, rfl, fun i hi => by
    rw [Nat.zero_add, hB.cell i]
    exact bytes_at _ i hi⟩) (by decide) ⟨(fun h => by cases h), by decide⟩
  rw [← leaf_xa] at h1
  exact h1.mono fun _ _ ⟨a, b⟩ => ⟨a, bnext hb b⟩
set_option maxRecDepth 100000 in
set_option maxHeartbeats 16000000 in
theorem known13_c (w : World) (ht : Tabs w) : Calls Tryd.prog 9 #[] w fun e w' => e = .returned (.bool true) ∧ Below w.heap.size w w' := by
  have hb1 := (Below.refl w.heap.size w).alloc (Nat.le_refl _) (.cells #[.string ⟨#[97]⟩, .string ⟨#[49]⟩] 44)
  have hnew : Calls Tryd.prog 17 #[.slice (some ⟨w.heap.size, 0, none⟩) 1 1] (w.alloc (.cells #[.string ⟨#[97]⟩, .string ⟨#[49]⟩] 44)) fun e w' => e = .returned (.tuple #[.pointer (some ⟨w.heap.size + 1, 0, none⟩), .int .i64 0]) ∧ Below (w.heap.size + 1) (w.alloc (.cells #[.string ⟨#[97]⟩, .string ⟨#[49]⟩] 44)) w' ∧ Tri w' (From (w.heap.size + 1 + 1) w') (w.heap.size + 1) [xa] := by
    have h := new_c (pair_row w xa) rfl (ht.below hb1) (by decide) (fun x hx => by rw [List.mem_singleton.1 hx]; exact ⟨by decide, by decide⟩)
    rw [news_xa, show (w.alloc (.cells #[.string ⟨xa.n.toArray⟩, .string ⟨xa.v.toArray⟩] 44)).heap.size = w.heap.size + 1 by simp] at h
    exact h
  obtain ⟨w1, hw1⟩ : ∃ w1, w.alloc (.cells #[.string ⟨#[97]⟩, .string ⟨#[49]⟩] 44) = w1 := ⟨_, rfl⟩
  rw [hw1] at hb1 hnew
  have HNW := Lib.hid hnew
  have HB1 := Lib.hid hb1
  have HT := Lib.hid ht
  have hz := zeroD
  have hzl : (byteCells zeros).length = 32 := by rfl
  have hzo := bytes_one zeros
  have hdl : (byteCells (leafD [xa])).length = 32 := by rw [byteCells_len, leafD_len]
  have hdo := bytes_one (leafD [xa])
  have hez := fun w => digest_eq zeros zeros w rfl rfl
  have hed := fun w => digest_eq (leafD [xa]) (leafD [xa]) w (leafD_len _) (leafD_len _)
  rw [show (zeros == zeros) = true from rfl] at hez
  rw [beq_self_eq_true] at hed
  unfold dval at hez hed
  obtain ⟨Z, hZ⟩ : ∃ Z, byteCells zeros = Z := ⟨_, rfl⟩
  obtain ⟨D, hD⟩ : ∃ D, byteCells (leafD [xa]) = D := ⟨_, rfl⟩
  rw [hZ] at hz hzl hzo hez
  rw [hD] at hdl hdo hed
  have HZE := Lib.hid hZ
  have HDE := Lib.hid hD
  have HZO := Lib.hid hzo
  have HDO := Lib.hid hdo
  have hzi : Hid ((Tryd.prog.info? 32).map (·.size) = some Z.length) := by show _ = _; rw [hzl]; exact infoDg
  have hdi : Hid ((Tryd.prog.info? 32).map (·.size) = some D.length) := by show _ = _; rw [hdl]; exact infoDg
  have HZD : Hid (Z.length = D.length) := by show _ = _; rw [hzl, hdl]
  clear hnew hb1 ht hzl hzo hdl hdo hZ hD
  go_enter Tryd.func9, Tryd.ntmps9
  go_wp2_with fail
  refine HNW.out.mono ?_
  rintro e w2 ⟨rfl, hb2, htr⟩
  obtain ⟨g, hg⟩ : ∃ g, w.heap.size + 1 = g := ⟨_, rfl⟩
  rw [hg] at htr ⊢
  have HB2 := Lib.hid (HB1.out.trans (hb2.mono (Nat.le_of_lt (by omega))))
  have HTR := Lib.hid htr
  clear hb2 htr HNW hw1 hg
  have h1 := node_two HTR.out
  rw [HDE.out] at h1
  have HN1 := Lib.hid h1
  clear h1
  go_wp2_with fail
  refine HN1.out.mono ?_
  rintro e w3 ⟨rfl, hb3⟩
  have HB3 := Lib.hid (bnext HB2.out hb3)
  have HT3 := Lib.hid (HTR.out.below hb3)
  have hBz := blk_new w3 Z.toArray 32 Z rfl
  have hbz := (Below.refl w3.heap.size w3).alloc (Nat.le_refl _) (.cells Z.toArray 32)
  have HBZ := Lib.hid hBz
  have HBz := Lib.hid hbz
  clear hb3 hBz hbz HN1 HTR HB2
  go_wp2_with (with_reducible refine wpList_store_blk rfl 32 (.tmp 3) (.tmp 23) rfl w3.heap.size D Z 32 HBZ.out rfl rfl hdi.out HZD.out HDO.out ?_; intro w4 hR hW)
  have hb4 : Below w3.heap.size w3 w4 := hW.below _ _ HBz.out (Nat.le_refl _)
  have h2 := node_one (HT3.out.below hb4)
  rw [HZE.out] at h2
  have HN2 := Lib.hid h2
  have HB4 := Lib.hid (bnext HB3.out hb4)
  have HR4 := Lib.hid hR
  obtain ⟨g3, hg3⟩ : ∃ g3, w3.heap.size = g3 := ⟨_, rfl⟩
  rw [hg3] at HR4 ⊢
  clear h2 hb4 hR hW hg3 HBZ HBz HT3 HB3
  refine HN2.out.mono ?_
  rintro e w5 ⟨rfl, hb5⟩
  have HB5 := Lib.hid (bnext HB4.out hb5)
  have HR5 := Lib.hid (HR4.out.below hb5)
  have HBZ := Lib.hid (blk_new w5 Z.toArray 32 Z rfl)
  have HBz := Lib.hid ((Below.refl w5.heap.size w5).alloc (Nat.le_refl _) (.cells Z.toArray 32))
  clear hb5 HN2 HB4 HR4
  go_wp2_with (with_reducible refine wpList_store_blk rfl 32 (.tmp 5) (.tmp 29) rfl w5.heap.size Z Z 32 HBZ.out rfl rfl hzi.out rfl HZO.out ?_; intro w6 hR hW)
  have hb6 : Below w5.heap.size w5 w6 := hW.below _ _ HBz.out (Nat.le_refl _)
  have HB6 := Lib.hid (bnext HB5.out hb6)
  have S0 : Blk w6.drew g3 32 D ∧ Blk w6.drew w5.heap.size 32 Z := ⟨(HR5.out.below hb6).below (Below.refl _ _).drew, hR.below (Below.refl _ _).drew⟩
  obtain ⟨g5, hg5⟩ : ∃ g5, w5.heap.size = g5 := ⟨_, rfl⟩
  rw [hg5] at S0 ⊢
  have HB7 := Lib.hid HB6.out.drew
  clear hb6 hR hW hg5 HBZ HBz HB5 HR5
  go_upto_region 6 with fail
  refine wp_region_noPanic ?_
  refine wp_region_held_drew (S := fun W => Blk W g3 32 D ∧ Blk W g5 32 Z) (by kernel_rfl) S0 (fun hHeld => ?_)
  refine wpAnyH_take (i := 0) (oi := ⟨some 31, _, _, _, _, _⟩) (v := ?_) rfl (by kernel_rfl) (by kernel_rfl) (by kernel_rfl) (fun _ _ _ h => h) (Or.inl ⟨by rfl, ?_⟩) (by assumption) ?_
  rotate_left
  · intro w hSw; (first | (go_simp; done) | (go_simp; with_reducible rfl))
  simp only [Act.put, List.setIfInBounds_toArray, List.set_cons_zero, List.set_cons_succ]
  refine wpAnyH_take (i := 1) (oi := ⟨some 32, _, _, _, _, _⟩) (v := ?_) rfl (by kernel_rfl) (by kernel_rfl) (by kernel_rfl) (fun _ _ _ h => h) (Or.inl ⟨by rfl, ?_⟩) (by assumption) ?_
  rotate_left
  · intro w hSw; (first | (go_simp; done) | (go_simp; with_reducible rfl))
  simp only [Act.put, List.setIfInBounds_toArray, List.set_cons_zero, List.set_cons_succ]
  refine wpAnyH_take (i := 2) (oi := ⟨some 33, _, _, _, _, _⟩) (v := ?_) rfl (by kernel_rfl) (by kernel_rfl) (by kernel_rfl) (fun _ _ _ h => h) (Or.inl ⟨by rfl, ?_⟩) (by assumption) ?_
  rotate_left
  · intro w hSw; (first | (go_simp; done) | (go_simp; with_reducible rfl))
  simp only [Act.put, List.setIfInBounds_toArray, List.set_cons_zero, List.set_cons_succ]
  refine wpAnyH_take (i := 3) (oi := ⟨some 34, _, _, _, _, _⟩) rfl (by kernel_rfl) (by kernel_rfl) (by kernel_rfl) (fun _ _ _ h => h) (yieldsIf_load_mid (by rfl) _ _ rfl _ _ rfl D _ (fun w hSw => blk_range0 hSw.1) Tryd.underlying32 rfl hdi.out) (by assumption) ?_
  simp only [Act.put, List.setIfInBounds_toArray, List.set_cons_zero, List.set_cons_succ]
  obtain ⟨wx0, hwx⟩ : ∃ y0, y0 = w6.drew := ⟨_, rfl⟩
  rw [← hwx] at hHeld HB7 ⊢
  clear hwx S0
  have HT7 := Lib.hid (HT.out.below HB7.out)
  refine wpAnyH_ready (rs := [4]) (by kernel_rfl) (by simp) ?_
  refine AllReadyH.cons rfl (fun K hK => ?_) AllReadyH.nil
  go_simp
  refine hK.out _ _ ⟨hHeld.1.below ((Below.refl _ _).alloc (Nat.le_refl _) _), hHeld.2.below ((Below.refl _ _).alloc (Nat.le_refl _) _)⟩ (fun hHeld2 => ?_)
  have h7 := seven wx0 HT7.out
  rw [HDE.out] at h7
  have HS7 := Lib.hid h7
  clear hK K h7 hHeld2
  refine wpAnyH_ready (rs := [5]) (by kernel_rfl) (by simp) ?_
  refine AllReadyH.cons rfl (fun K hK => ?_) AllReadyH.nil
  go_simp
  go_wp2_with (go_at_call 32; refine HS7.out.mono ?_; rintro e wx2 ⟨rfl, hbk⟩)
  have HB8 := Lib.hid (bnext HB7.out hbk)
  refine hK.out _ _ ⟨hHeld.1.below hbk, hHeld.2.below hbk⟩ (fun hHeld2 => ?_)
  clear hK K hHeld hbk HB7
  refine wpAnyH_take (i := 6) (oi := ⟨some 37, _, _, _, _, _⟩) (v := ?_) rfl (by kernel_rfl) (by kernel_rfl) (by kernel_rfl) (fun _ _ _ h => h) (Or.inl ⟨by rfl, ?_⟩) (by assumption) ?_
  rotate_left
  · intro w hSw; (first | (go_simp; done) | (go_simp; with_reducible rfl))
  simp only [Act.put, List.setIfInBounds_toArray, List.set_cons_zero, List.set_cons_succ]
  refine wpAnyH_take (i := 7) (oi := ⟨some 38, _, _, _, _, _⟩) (v := ?_) rfl (by kernel_rfl) (by kernel_rfl) (by kernel_rfl) (fun _ _ _ h => h) (Or.inl ⟨by rfl, ?_⟩) (by assumption) ?_
  rotate_left
  · intro w hSw; (first | (go_simp; done) | (go_simp; with_reducible rfl))
  simp only [Act.put, List.setIfInBounds_toArray, List.set_cons_zero, List.set_cons_succ]
  refine wpAnyH_take (i := 8) (oi := ⟨some 39, _, _, _, _, _⟩) (v := ?_) rfl (by kernel_rfl) (by kernel_rfl) (by kernel_rfl) (fun _ _ _ h => h) (Or.inl ⟨by rfl, ?_⟩) (by assumption) ?_
  rotate_left
  · intro w hSw; (first | (go_simp; done) | (go_simp; with_reducible rfl))
  simp only [Act.put, List.setIfInBounds_toArray, List.set_cons_zero, List.set_cons_succ]
  refine wpAnyH_take (i := 9) (oi := ⟨some 40, _, _, _, _, _⟩) rfl (by kernel_rfl) (by kernel_rfl) (by kernel_rfl) (fun _ _ _ h => h) (yieldsIf_load_mid (by rfl) _ _ rfl _ _ rfl Z _ (fun w hSw => blk_range0 hSw.2) Tryd.underlying32 rfl hzi.out) (by assumption) ?_
  simp only [Act.put, List.setIfInBounds_toArray, List.set_cons_zero, List.set_cons_succ]
  refine wpAnyH_take (i := 10) (oi := ⟨some 41, _, _, _, _, _⟩) (v := ?_) rfl (by kernel_rfl) (by kernel_rfl) (by kernel_rfl) (fun _ _ _ h => h) (Or.inl ⟨by rfl, ?_⟩) (by assumption) ?_
  rotate_left
  · intro w hSw; (first | (go_simp; done) | (go_simp; with_reducible rfl))
  simp only [Act.put, List.setIfInBounds_toArray, List.set_cons_zero, List.set_cons_succ]
  refine wpAnyH_take (i := 11) (oi := ⟨some 42, _, _, _, _, _⟩) (v := ?_) rfl (by kernel_rfl) (by kernel_rfl) (by kernel_rfl) (fun _ _ _ h => h) (Or.inl ⟨by rfl, ?_⟩) (by assumption) ?_
  rotate_left
  · intro w hSw; (first | (go_simp; done) | (go_simp; with_reducible rfl))
  simp only [Act.put, List.setIfInBounds_toArray, List.set_cons_zero, List.set_cons_succ]
  refine wpAnyH_take (i := 12) (oi := ⟨some 43, _, _, _, _, _⟩) (v := ?_) rfl (by kernel_rfl) (by kernel_rfl) (by kernel_rfl) (fun _ _ _ h => h) (Or.inl ⟨by rfl, ?_⟩) (by assumption) ?_
  rotate_left
  · intro w hSw; (first | (go_simp; done) | (go_simp; with_reducible rfl))
  simp only [Act.put, List.setIfInBounds_toArray, List.set_cons_zero, List.set_cons_succ]
  refine wpAnyH_take (i := 13) (oi := ⟨some 0, _, _, _, _, _⟩) (v := ?_) rfl (by kernel_rfl) (by kernel_rfl) (by kernel_rfl) (fun _ _ _ h => h) (Or.inl ⟨by rfl, ?_⟩) (by assumption) ?_
  rotate_left
  · intro w hSw; (first | (go_simp; done) | (go_simp; with_reducible rfl))
  simp only [Act.put, List.setIfInBounds_toArray, List.set_cons_zero]
  refine wpAnyH_done (by kernel_rfl) ?_ _
  refine NoPanic.normal ?_
  go_wp2_with fail
  go_ret
  exact ⟨rfl, HB8.out⟩
end Go.Proofs.YtpijnkfbgieabaaDoor.tri
