/- The calls of a nil hash; sha's interfaces for the laws (Api, Hashes, NilHash). Condition: the two tables hold what the program's text lays. -/
import Derived.Test.YtohmhcglmaifpaaDoorDevA
import Derived.Test.YtohmhcglmaifpaaDoorShaNK
import Derived.Lib.LaidTab
import Derived.LaidSub
import Derived.Test.YtohmhcglmaifpaaDoorRows
namespace Go.Proofs.YtohmhcglmaifpaaDoor.sha
open Go.RowKit
open Go.Proofs.YtohmhcglmaifpaaDoor.oct Go.Proofs.YtohmhcglmaifpaaDoor.ref Go.Proofs.YtohmhcglmaifpaaDoor.rows
open Go.Lib (byteCells)

set_option maxHeartbeats 1000000 in
theorem nwrite_c (p : Option Addr) (cp : Nat) (l : List UInt8) (w : World) : Calls Tryd.prog 19 #[.pointer none, .slice p l.length cp] w fun e w' => (∃ v, e = .returned v) ∧ Below w.heap.size w w' := by
  go_enter Tryd.func19, Tryd.ntmps19
  go_wp2_with fail
  refine bodyPost_ret (results_none rfl _ _ _) rfl ?_
  exact ⟨⟨_, rfl⟩, Below.refl _ _⟩
set_option maxHeartbeats 1000000 in
theorem nlen_c (w : World) : Calls Tryd.prog 20 #[.pointer none] w fun e w' => e = .returned (.int .i64 0) ∧ Below w.heap.size w w' := by
  go_enter Tryd.func20, Tryd.ntmps20
  go_wp2_with fail
  go_ret
  exact ⟨rfl, Below.refl _ _⟩

set_option maxHeartbeats 4000000 in
theorem nsum_c (w : World) (ht : Tabs w) : Calls Tryd.prog 21 #[.pointer none] w fun e w' => e = .returned (dval (digest [])) ∧ Below w.heap.size w w' := by
  have HT := Lib.hid ht
  have HGL := Lib.hid ht.lt
  have hz52 := zero_hash
  obtain ⟨Z, hZ⟩ : ∃ Z, hrow (fun _ => 0) (fun _ => 0) 0 = Z := ⟨_, rfl⟩
  rw [hZ] at hz52
  have HZ := Lib.hid hZ
  have hE : Blk (w.alloc (.cells (byteCells (brow 32 fun _ => 0)).toArray 26)) w.heap.size 26 (byteCells (brow 32 fun _ => 0)) := blk_new w _ _ _ rfl
  have hb0 := (Below.refl w.heap.size w).alloc (Nat.le_refl _) (.cells (byteCells (brow 32 fun _ => 0)).toArray 26)
  have hb1 := hb0.alloc hb0.size (.cells Z.toArray 52)
  have hE1 := blk_old hE (.cells Z.toArray 52)
  have hS1 : Blk ((w.alloc (.cells (byteCells (brow 32 fun _ => 0)).toArray 26)).alloc (.cells Z.toArray 52)) (w.heap.size + 1) 52 Z := by
    have := blk_new (w.alloc (.cells (byteCells (brow 32 fun _ => 0)).toArray 26)) Z.toArray 52 Z rfl
    simpa using this
  have HW : Hid (∃ w1, w1 = (w.alloc (.cells (byteCells (brow 32 fun _ => 0)).toArray 26)).alloc (.cells Z.toArray 52)) := ⟨_, rfl⟩
  have HB1 := Lib.hid hb1
  have HE1 := Lib.hid hE1
  have HS1 := Lib.hid hS1
  clear ht hZ hE hb0 hb1 hE1 hS1
  go_enter Tryd.func21, Tryd.ntmps21
  go_wp2_with fail
  change Calls _ _ _ ((w.alloc (.cells (byteCells (brow 32 fun _ => 0)).toArray 26)).alloc (.cells Z.toArray 52)) _
  obtain ⟨w1, hw1⟩ := HW.out
  rw [← hw1] at HB1 HE1 HS1 ⊢
  have hbw := HB1
  have hEw := HE1
  have htw := Lib.hid (HT.out.below hbw.out)
  have hhw : Hid (Holds w1 (w.heap.size + 1) []) := holds_zero (by have := HGL.out; omega) (by have := HGL.out; omega) (HZ.out ▸ HS1.out)
  clear hz52 hw1 HW HS1 HB1 HE1
  refine (hpad_c (w.heap.size + 1) [] w1 htw.out hhw.out (by decide)).mono ?_
  rintro e w2 ⟨⟨v2, rfl⟩, hh2, hg2⟩
  have hE2 : Blk w2 w.heap.size 26 (byteCells (brow 32 fun _ => 0)) := (hg2.block _ hEw.out.lt (fun e => by injection e with e; omega)).trans hEw.out
  have hbw2 := grown_below hbw.out hg2 (by omega) hbw.out.size
  have hlt := hh2.lt
  have hbx := Lib.hid (hbw2.alloc hbw2.size (.cells (byteCells (brow 32 fun _ => 0)).toArray 26))
  have hEx := Lib.hid (blk_old hE2 (.cells (byteCells (brow 32 fun _ => 0)).toArray 26))
  have hOx : Hid (Blk (w2.alloc (.cells (byteCells (brow 32 fun _ => 0)).toArray 26)) w2.heap.size 26 (byteCells (brow 32 fun _ => 0))) := blk_new w2 _ _ _ rfl
  have hhx := hh2.keep (((Below.refl w2.heap.size w2).alloc (Nat.le_refl _) (.cells (byteCells (brow 32 fun _ => 0)).toArray 26)).block _ hlt)
  have HTX := Lib.hid (HT.out.below hbx.out)
  obtain ⟨_, _, f2, b2, hB2, hf2, hs2, _⟩ := hhx
  have HLT : Hid (w.heap.size + 1 < w2.heap.size) := hlt
  have HCW := Lib.hid (hwords_c (w.heap.size + 1) f2 b2 _ _ HTX.out hf2 hB2)
  obtain ⟨v, hv⟩ : ∃ v, blocks st0 (pad []) ((pad []).length / 64) = v := ⟨_, rfl⟩
  have HDG : Hid (digest [] = out v) := by show _ = _; unfold digest; rw [hv]
  have HVR : Hid (row 8 (wsum f2) = row 8 v.at) := by show _ = _; rw [← hv, ← hs2]; exact row_eq fun i hi => (stOf_at _ i hi).symm
  rw [HVR.out] at HCW
  have HAT : Hid (∀ i, i < 8 → (wcells (row 8 v.at))[i]? = some (.int .u32 ((v.at i : Nat) : Int))) := fun i hi => row_at v.at hi
  have HVL : Hid (∀ i, i < 8 → v.at i < 4294967296) := fun i hi => by rw [← hv]; exact st_at (blocks_ok st0_ok _ _) i hi
  obtain ⟨X, hXe⟩ : ∃ X, wcells (row 8 v.at) = X := ⟨_, rfl⟩
  rw [hXe] at HCW HAT
  clear hhw htw hbw hEw hh2 hg2 hE2 hbw2 hlt hB2 hf2 hs2 hv hXe
  go_wp2_with fail
  refine HCW.out.mono ?_
  rintro e w3 ⟨rfl, hb3⟩
  have hE3 := hEx.out.below hb3
  have hO3 := hOx.out.below hb3
  have hbx3 := bnext hbx.out hb3
  rw [← outF_zero v] at hO3
  obtain ⟨go, hgo⟩ : ∃ go, go = w2.heap.size := ⟨_, rfl⟩
  rw [← hgo] at hO3 HLT ⊢
  clear hgo hb3 hEx hOx hbx HTX HCW
  have hlo : w.heap.size ≤ go ∧ go ≠ w.heap.size := by have := HLT.out; omega
  go_wp2_with fail
  go_loopg [14] 8 (fun k s14 wy => ∃ i : Nat, i + k = 8 ∧ s14 = .int .i64 i ∧ Blk wy go 26 (byteCells (brow 32 (outF v i))) ∧ Blk wy w.heap.size 26 (byteCells (brow 32 fun _ => 0)) ∧ Below w.heap.size w wy)
  case atStart => exact ⟨0, rfl, rfl, hO3, hE3, hbx3⟩
  case round =>
    clear hO3 hE3 hbx3
    obtain ⟨i, hik, rfl, hO, hE, hbx⟩ := hrel
    rcases gk with _ | k
    · obtain rfl : i = 8 := by omega
      rw [outF_end] at hO
      have hDl : (byteCells (out v)).length = 32 := by rw [byteCells_len, out_len]
      have hD1 := bytes_one (out v)
      have hDi : Hid ((Tryd.prog.info? 26).map (·.size) = some (byteCells (out v)).length) := by show _ = _; rw [hDl]; exact infoDS
      have hOl : (byteCells (brow 32 fun _ => 0)).length = (byteCells (out v)).length := by rw [bcells_len, hDl]
      have HO := Lib.hid hO
      have HE := Lib.hid hE
      obtain ⟨D, hDe⟩ : ∃ D, byteCells (out v) = D := ⟨_, rfl⟩
      rw [hDe] at HO hD1 hDi hOl
      have HDE := Lib.hid hDe
      generalize byteCells (brow 32 fun _ => 0) = O at HE hOl
      clear hDe hO hE hDl
      go_wp2_with (first
        | (with_reducible refine wpList_load_blk rfl 26 (.tmp 4) rfl go D 26 HO.out rfl _ Tryd.underlying26 rfl hDi.out ?_)
        | (with_reducible refine wpList_store_blk rfl 26 (.tmp 2) (.tmp 45) rfl w.heap.size D O 26 HE.out rfl rfl hDi.out hOl hD1 ?_; intro wf hR hW))
      refine bodyPost_ret (v := .agg D.toArray) (results_blk Tryd.results21 _ _ w.heap.size 26 D _ rfl hR Tryd.underlying26 rfl hDi.out) rfl ⟨by unfold dval; rw [HDG.out, HDE.out], hW.below _ _ hbx (Nat.le_refl _)⟩
    · have hi8 : i < 8 := by omega
      have hiI : (i : Int) < 8 := by omega
      have HXI := Lib.hid (HAT.out i hi8)
      have hx32 := HVL.out i hi8
      have o0 := out_val v i 0 _ rfl (by decide)
      have o1 := out_val v i 1 _ rfl (by decide)
      have o2 := out_val v i 2 _ rfl (by decide)
      have o3 := out_val v i 3 _ rfl (by decide)
      obtain ⟨x, hx⟩ : ∃ x, v.at i = x := ⟨_, rfl⟩
      rw [hx] at HXI hx32 o0 o1 o2 o3
      rw [show (2 : Int) ^ (24 - 8 * 0) = 16777216 from by decide, Nat.add_zero] at o0
      rw [show (2 : Int) ^ (24 - 8 * 1) = 65536 from by decide] at o1
      rw [show (2 : Int) ^ (24 - 8 * 2) = 256 from by decide] at o2
      rw [show (2 : Int) ^ (24 - 8 * 3) = 1 from by decide] at o3
      have V0 : Hid ((x : Int) / 16777216 = ((outB v (4 * i)).toNat : Int)) := by show _ = _; omega
      have V1 : Hid ((x : Int) / 65536 % 256 = ((outB v (4 * i + 1)).toNat : Int)) := by show _ = _; omega
      have V2 : Hid ((x : Int) / 256 % 256 = ((outB v (4 * i + 2)).toNat : Int)) := by show _ = _; omega
      have V3 : Hid ((x : Int) % 256 = ((outB v (4 * i + 3)).toNat : Int)) := by show _ = _; omega
      have c0 := (hO.cell (4 * i)).trans (brow_at _ (by omega))
      have c1 := (hO.cell (4 * i + 1)).trans (brow_at _ (by omega))
      have c2 := (hO.cell (4 * i + 2)).trans (brow_at _ (by omega))
      have c3 := (hO.cell (4 * i + 3)).trans (brow_at _ (by omega))
      have f0 := hO.frozen (4 * i)
      have f1 := hO.frozen (4 * i + 1)
      have f2 := hO.frozen (4 * i + 2)
      have f3 := hO.frozen (4 * i + 3)
      clear hx o0 o1 o2 o3
      go_wp2_with (with_reducible refine wpList_index_row rfl 46 (.tmp 13) (.tmp 14) rfl 45 8 _ X i _ rfl rfl Tryd.underlying46 Tryd.underlying45 rfl infoW hi8 HXI.out ?_)
      rw [V0.out, V1.out, V2.out, V3.out]
      have hS := (((hO.set (4 * i) (.int .u8 ((outB v (4 * i)).toNat : Int))).set (4 * i + 1) (.int .u8 ((outB v (4 * i + 1)).toNat : Int))).set (4 * i + 2) (.int .u8 ((outB v (4 * i + 2)).toNat : Int))).set (4 * i + 3) (.int .u8 ((outB v (4 * i + 3)).toNat : Int))
      rw [brow_set, brow_set, brow_set, brow_set, outF_next] at hS
      have hE2 := (((hE.set_other hlo.2 (4 * i) (.int .u8 ((outB v (4 * i)).toNat : Int))).set_other hlo.2 (4 * i + 1) (.int .u8 ((outB v (4 * i + 1)).toNat : Int))).set_other hlo.2 (4 * i + 2) (.int .u8 ((outB v (4 * i + 2)).toNat : Int))).set_other hlo.2 (4 * i + 3) (.int .u8 ((outB v (4 * i + 3)).toNat : Int))
      have hb2 := (((hbx.setCell (p := ⟨go, 4 * i, none⟩) hlo.1 (.int .u8 ((outB v (4 * i)).toNat : Int))).setCell (p := ⟨go, 4 * i + 1, none⟩) hlo.1 (.int .u8 ((outB v (4 * i + 1)).toNat : Int))).setCell (p := ⟨go, 4 * i + 2, none⟩) hlo.1 (.int .u8 ((outB v (4 * i + 2)).toNat : Int))).setCell (p := ⟨go, 4 * i + 3, none⟩) hlo.1 (.int .u8 ((outB v (4 * i + 3)).toNat : Int))
      go_roundg k
      case measure => omega
      case rel => exact ⟨i + 1, by omega, by go_num, hS, hE2, hb2⟩

theorem tabs_of_laid {W : World} (h : laidMet Tryd.prog [("signet/sha.constants", Rows.laid_signet_sha_constants), ("signet/sha.beginning", Rows.laid_signet_sha_beginning)] W) : Tabs W := by
  have hK := Lib.tabIs_of_head (P := Tryd.prog) (name := "signet/sha.constants") (k := .u32) (zs := kt.map fun (n : Nat) => (n : Int)) (g := 0) (t := 57) (e := 45) (n := 64) (by kernel_rfl) (by kernel_rfl) Tryd.underlying57 Tryd.underlying45 (by kernel_rfl) (by kernel_rfl) (rest := [("signet/sha.beginning", Rows.laid_signet_sha_beginning)]) h
  have h2 := laidMet.filter (fun x => x.1 == "signet/sha.beginning") h
  rw [show List.filter (fun x : String × DataW Unit => x.1 == "signet/sha.beginning") [("signet/sha.constants", Rows.laid_signet_sha_constants), ("signet/sha.beginning", Rows.laid_signet_sha_beginning)] = [("signet/sha.beginning", Rows.laid_signet_sha_beginning)] from by simp] at h2
  have hH := Lib.tabIs_of_head (P := Tryd.prog) (name := "signet/sha.beginning") (k := .u32) (zs := st0.list.map fun (n : Nat) => (n : Int)) (g := 1) (t := 46) (e := 45) (n := 8) (by kernel_rfl) (by kernel_rfl) Tryd.underlying46 Tryd.underlying45 (by kernel_rfl) (by kernel_rfl) (rest := []) h2
  refine ⟨fun i hi => ?_, fun i hi => ?_⟩
  · have hc := hK.cell (g := 0) (by kernel_rfl) i (by rw [List.length_map, kt_len]; exact hi)
    rw [hc]
    have hl : i < kt.length := by rw [kt_len]; exact hi
    simp [List.getD, List.getElem?_map, List.getElem?_eq_getElem hl]
  · have hc := hH.cell (g := 1) (by kernel_rfl) i (by rw [List.length_map]; exact hi)
    rw [hc]
    have hl : i < st0.list.length := hi
    simp [St.at, List.getD, List.getElem?_map, List.getElem?_eq_getElem hl]

theorem the_api : Api Tabs Holds where
  tbelow := fun _ _ h hb => h.below hb
  keep := fun _ _ _ _ h he => h.keep he
  lt := fun _ _ _ h => h.lt
  sum := fun p cp l w ht hp hl hr => sum_top p cp l w ht hp hl hr
  mac := fun p cp k P C ps w ht hp hk hr hP hn hl => mac_c p cp k P C ps w ht hp hk hr hP hn hl
  all := fun P C ps w ht hP hn hl => all_c P C ps w ht hP hn (by omega)
theorem the_hashes : Hashes Tabs Holds where
  new := fun w ht => hnew_c w ht
  write := fun g L p cp l w ht h hp hne hr hl => hwrite_c g L p cp l w ht h hp hne hr (by omega)
  told := fun g L w ht h hl => hsum_c g L w ht h (by omega)
  len := fun g L w _ h _ => hlen_c g L w h
theorem the_nil : NilHash Tabs where
  write := fun p cp l w _ _ => nwrite_c p cp l w
  len := fun w _ => nlen_c w
  told := fun w ht => nsum_c w ht
end Go.Proofs.YtohmhcglmaifpaaDoor.sha
