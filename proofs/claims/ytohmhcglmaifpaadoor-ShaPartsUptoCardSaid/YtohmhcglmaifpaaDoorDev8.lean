/- The contract of Hash.Sum: the digest of all that was told. Condition: the two tables hold what the program's text lays. -/
import Derived.Test.YtohmhcglmaifpaaDoorDev7
import Derived.Test.YtohmhcglmaifpaaDoorShaHash
namespace Go.Proofs.YtohmhcglmaifpaaDoor.sha
open Go.RowKit
open Go.Proofs.YtohmhcglmaifpaaDoor.oct Go.Proofs.YtohmhcglmaifpaaDoor.ref Go.Proofs.YtohmhcglmaifpaaDoor.rows
open Go.Lib (byteCells)

/-- the digest's bytes, laid up to the word i -/
def outF (v : St) (i : Nat) : Nat → UInt8 := fun j => if j < 4 * i then outB v j else 0
theorem outF_next (v : St) (i : Nat) : updB (updB (updB (updB (outF v i) (4 * i) (outB v (4 * i))) (4 * i + 1) (outB v (4 * i + 1))) (4 * i + 2) (outB v (4 * i + 2))) (4 * i + 3) (outB v (4 * i + 3)) = outF v (i + 1) := by
  funext j
  unfold updB outF
  by_cases h3 : j = 4 * i + 3
  · rw [if_pos h3, if_pos (by omega), h3]
  · rw [if_neg h3]
    by_cases h2 : j = 4 * i + 2
    · rw [if_pos h2, if_pos (by omega), h2]
    · rw [if_neg h2]
      by_cases h1 : j = 4 * i + 1
      · rw [if_pos h1, if_pos (by omega), h1]
      · rw [if_neg h1]
        by_cases h0 : j = 4 * i
        · rw [if_pos h0, if_pos (by omega), h0]
        · rw [if_neg h0]
          by_cases h : j < 4 * i
          · rw [if_pos h, if_pos (by omega)]
          · rw [if_neg h, if_neg (by omega)]
theorem outF_zero (v : St) : outF v 0 = fun _ => 0 := by
  funext j; unfold outF; rw [if_neg (by omega)]
theorem outF_end (v : St) : brow 32 (outF v 8) = out v := by
  refine List.map_congr_left fun j hj => ?_
  have := List.mem_range.1 hj
  unfold outF
  rw [if_pos (by omega)]
theorem out_val (v : St) (i k x : Nat) (hx : v.at i = x) (hk : k < 4) : ((outB v (4 * i + k)).toNat : Int) = (x : Int) / 2 ^ (24 - 8 * k) % 256 := by
  unfold outB
  rw [show (4 * i + k) % 4 = k by omega, show (4 * i + k) / 4 = i by omega, show v.list.getD i 0 = x from hx, UInt8.toNat_ofNat', dwn_eq, Int.natCast_emod, Int.natCast_ediv, Int.natCast_pow]
  rfl
theorem info52 : (Tryd.prog.info? 52).map (·.size) = some 73 := by kernel_rfl

set_option maxHeartbeats 4000000 in
theorem hsum_c (g : Nat) (L : List UInt8) (w : World) (ht : Tabs w) (h : Holds w g L) (hlen : L.length ≤ 140737488354500) :
    Calls Tryd.prog 21 #[.pointer (some ⟨g, 0, none⟩)] w fun e w' => e = .returned (dval (digest L)) ∧ Below w.heap.size w w' := by
  have HT := Lib.hid ht
  have HGL := Lib.hid ht.lt
  obtain ⟨_, _, f, b, hB, hf, hs, hb⟩ := h
  have HF := Lib.hid hf
  have HS := Lib.hid hs
  have HBY := Lib.hid hb
  have hR1 := hrow_one f b L.length
  have hRl := hrow_len f b L.length
  have hRi : Hid ((Tryd.prog.info? 52).map (·.size) = some (hrow f b L.length).length) := by show _ = _; rw [hRl]; exact info52
  obtain ⟨R, hR⟩ : ∃ R, hrow f b L.length = R := ⟨_, rfl⟩
  rw [hR] at hB hR1 hRi hRl
  have HR := Lib.hid hR
  have HRL := Lib.hid hRl
  have hz52 := zero_hash
  have hZl := hrow_len (fun _ => 0) (fun _ => 0) 0
  obtain ⟨Z, hZ⟩ : ∃ Z, hrow (fun _ => 0) (fun _ => 0) 0 = Z := ⟨_, rfl⟩
  rw [hZ] at hz52 hZl
  have HZL := Lib.hid hZl
  have hE : Blk (w.alloc (.cells (byteCells (brow 32 fun _ => 0)).toArray 26)) w.heap.size 26 (byteCells (brow 32 fun _ => 0)) := blk_new w _ _ _ rfl
  have hb0 := (Below.refl w.heap.size w).alloc (Nat.le_refl _) (.cells (byteCells (brow 32 fun _ => 0)).toArray 26)
  have hb1 := hb0.alloc hb0.size (.cells Z.toArray 52)
  have HB1 := Lib.hid (hB.below hb1)
  have HE := Lib.hid hE
  have HBB := Lib.hid hb0
  clear ht hf hs hb hB hR hRl hZ hZl hE hb0 hb1
  go_enter Tryd.func21, Tryd.ntmps21
  go_wp2_with (first
    | (refine wpList_load_blk rfl 52 (.tmp 10) rfl g R 52 HB1.out rfl _ Tryd.underlying52 rfl hRi.out ?_)
    | ((with_reducible refine wpList_store_new_at rfl 52 (.tmp 3) (.tmp 11) rfl (w.heap.size + 1) (by simp) R 52 _ rfl rfl hRi.out (by rw [List.size_toArray, HZL.out, HRL.out]) hR1 ?_); intro w1 hS hSb))
  have hbw := Lib.hid (bnext HBB.out hSb)
  have hEw := Lib.hid (HE.out.below hSb)
  have htw := Lib.hid (HT.out.below hbw.out)
  have hhw : Hid (Holds w1 (w.heap.size + 1) L) := ⟨by have := HGL.out; omega, by have := HGL.out; omega, f, b, HR.out ▸ hS, HF.out, HS.out, HBY.out⟩
  clear hS hSb hz52
  refine (hpad_c (w.heap.size + 1) L w1 htw.out hhw.out hlen).mono ?_
  rintro e w2 ⟨⟨v2, rfl⟩, hh2, hg2⟩
  have hE2 : Blk w2 w.heap.size 26 (byteCells (brow 32 fun _ => 0)) := (hg2.block _ hEw.out.lt (fun e => by injection e with e; omega)).trans hEw.out
  have hbw2 := grown_below hbw.out hg2 (by omega) hbw.out.size
  have hlt := hh2.lt
  have hbx := Lib.hid (hbw2.alloc hbw2.size (.cells (byteCells (brow 32 fun _ => 0)).toArray 26))
  have hEx := Lib.hid (blk_old hE2 (.cells (byteCells (brow 32 fun _ => 0)).toArray 26))
  have hOx : Hid (Blk (w2.alloc (.cells (byteCells (brow 32 fun _ => 0)).toArray 26)) w2.heap.size 26 (byteCells (brow 32 fun _ => 0))) := blk_new w2 _ _ _ rfl
  have hhx := hh2.keep (((Below.refl w2.heap.size w2).alloc (Nat.le_refl _) (.cells (byteCells (brow 32 fun _ => 0)).toArray 26)).block _ hlt)
  have HTX := Lib.hid (HT.out.below hbx.out)
  obtain ⟨_, _, f2, b2, hB2, hf2, hs2, _⟩ := hhx
  have HLT : Hid (w.heap.size + 1 < w2.heap.size) := hlt
  have HCW := Lib.hid (hwords_c (w.heap.size + 1) f2 b2 _ _ HTX.out hf2 hB2)
  obtain ⟨v, hv⟩ : ∃ v, blocks st0 (pad L) ((pad L).length / 64) = v := ⟨_, rfl⟩
  have HDG : Hid (digest L = out v) := by show _ = _; unfold digest; rw [hv]
  have HVR : Hid (row 8 (wsum f2) = row 8 v.at) := by show _ = _; rw [← hv, ← hs2]; exact row_eq fun i hi => (stOf_at _ i hi).symm
  rw [HVR.out] at HCW
  have HAT : Hid (∀ i, i < 8 → (wcells (row 8 v.at))[i]? = some (.int .u32 ((v.at i : Nat) : Int))) := fun i hi => row_at v.at hi
  have HVL : Hid (∀ i, i < 8 → v.at i < 4294967296) := fun i hi => by rw [← hv]; exact st_at (blocks_ok st0_ok _ _) i hi
  obtain ⟨X, hXe⟩ : ∃ X, wcells (row 8 v.at) = X := ⟨_, rfl⟩
  rw [hXe] at HCW HAT
  clear hhw htw hbw hEw hh2 hg2 hE2 hbw2 hlt hB2 hf2 hs2 hv hXe
  go_wp2_with fail
  refine HCW.out.mono ?_
  rintro e w3 ⟨rfl, hb3⟩
  have hE3 := hEx.out.below hb3
  have hO3 := hOx.out.below hb3
  have hbx3 := bnext hbx.out hb3
  rw [← outF_zero v] at hO3
  obtain ⟨go, hgo⟩ : ∃ go, go = w2.heap.size := ⟨_, rfl⟩
  rw [← hgo] at hO3 HLT ⊢
  clear hgo hb3 hEx hOx hbx HTX HCW
  have hlo : w.heap.size ≤ go ∧ go ≠ w.heap.size := by have := HLT.out; omega
  go_wp2_with fail
  go_loopg [14] 8 (fun k s14 wy => ∃ i : Nat, i + k = 8 ∧ s14 = .int .i64 i ∧ Blk wy go 26 (byteCells (brow 32 (outF v i))) ∧ Blk wy w.heap.size 26 (byteCells (brow 32 fun _ => 0)) ∧ Below w.heap.size w wy)
  case atStart => exact ⟨0, rfl, rfl, hO3, hE3, hbx3⟩
  case round =>
    clear hO3 hE3 hbx3
    obtain ⟨i, hik, rfl, hO, hE, hbx⟩ := hrel
    rcases gk with _ | k
    · obtain rfl : i = 8 := by omega
      rw [outF_end] at hO
      have hDl : (byteCells (out v)).length = 32 := by rw [byteCells_len, out_len]
      have hD1 := bytes_one (out v)
      have hDi : Hid ((Tryd.prog.info? 26).map (·.size) = some (byteCells (out v)).length) := by show _ = _; rw [hDl]; exact infoDS
      have hOl : (byteCells (brow 32 fun _ => 0)).length = (byteCells (out v)).length := by rw [bcells_len, hDl]
      have HO := Lib.hid hO
      have HE := Lib.hid hE
      obtain ⟨D, hDe⟩ : ∃ D, byteCells (out v) = D := ⟨_, rfl⟩
      rw [hDe] at HO hD1 hDi hOl
      have HDE := Lib.hid hDe
      generalize byteCells (brow 32 fun _ => 0) = O at HE hOl
      clear hDe hO hE hDl
      go_wp2_with (first
        | (with_reducible refine wpList_load_blk rfl 26 (.tmp 4) rfl go D 26 HO.out rfl _ Tryd.underlying26 rfl hDi.out ?_)
        | (with_reducible refine wpList_store_blk rfl 26 (.tmp 2) (.tmp 45) rfl w.heap.size D O 26 HE.out rfl rfl hDi.out hOl hD1 ?_; intro wf hR hW))
      refine bodyPost_ret (v := .agg D.toArray) (results_blk Tryd.results21 _ _ w.heap.size 26 D _ rfl hR Tryd.underlying26 rfl hDi.out) rfl ⟨by unfold dval; rw [HDG.out, HDE.out], hW.below _ _ hbx (Nat.le_refl _)⟩
    · have hi8 : i < 8 := by omega
      have hiI : (i : Int) < 8 := by omega
      have HXI := Lib.hid (HAT.out i hi8)
      have hx32 := HVL.out i hi8
      have o0 := out_val v i 0 _ rfl (by decide)
      have o1 := out_val v i 1 _ rfl (by decide)
      have o2 := out_val v i 2 _ rfl (by decide)
      have o3 := out_val v i 3 _ rfl (by decide)
      obtain ⟨x, hx⟩ : ∃ x, v.at i = x := ⟨_, rfl⟩
      rw [hx] at HXI hx32 o0 o1 o2 o3
      rw [show (2 : Int) ^ (24 - 8 * 0) = 16777216 from by decide, Nat.add_zero] at o0
      rw [show (2 : Int) ^ (24 - 8 * 1) = 65536 from by decide] at o1
      rw [show (2 : Int) ^ (24 - 8 * 2) = 256 from by decide] at o2
      rw [show (2 : Int) ^ (24 - 8 * 3) = 1 from by decide] at o3
      have V0 : Hid ((x : Int) / 16777216 = ((outB v (4 * i)).toNat : Int)) := by show _ = _; omega
      have V1 : Hid ((x : Int) / 65536 % 256 = ((outB v (4 * i + 1)).toNat : Int)) := by show _ = _; omega
      have V2 : Hid ((x : Int) / 256 % 256 = ((outB v (4 * i + 2)).toNat : Int)) := by show _ = _; omega
      have V3 : Hid ((x : Int) % 256 = ((outB v (4 * i + 3)).toNat : Int)) := by show _ = _; omega
      have c0 := (hO.cell (4 * i)).trans (brow_at _ (by omega))
      have c1 := (hO.cell (4 * i + 1)).trans (brow_at _ (by omega))
      have c2 := (hO.cell (4 * i + 2)).trans (brow_at _ (by omega))
      have c3 := (hO.cell (4 * i + 3)).trans (brow_at _ (by omega))
      have f0 := hO.frozen (4 * i)
      have f1 := hO.frozen (4 * i + 1)
      have f2 := hO.frozen (4 * i + 2)
      have f3 := hO.frozen (4 * i + 3)
      clear hx o0 o1 o2 o3
      go_wp2_with (with_reducible refine wpList_index_row rfl 46 (.tmp 13) (.tmp 14) rfl 45 8 _ X i _ rfl rfl Tryd.underlying46 Tryd.underlying45 rfl infoW hi8 HXI.out ?_)
      rw [V0.out, V1.out, V2.out, V3.out]
      have hS := (((hO.set (4 * i) (.int .u8 ((outB v (4 * i)).toNat : Int))).set (4 * i + 1) (.int .u8 ((outB v (4 * i + 1)).toNat : Int))).set (4 * i + 2) (.int .u8 ((outB v (4 * i + 2)).toNat : Int))).set (4 * i + 3) (.int .u8 ((outB v (4 * i + 3)).toNat : Int))
      rw [brow_set, brow_set, brow_set, brow_set, outF_next] at hS
      have hE2 := (((hE.set_other hlo.2 (4 * i) (.int .u8 ((outB v (4 * i)).toNat : Int))).set_other hlo.2 (4 * i + 1) (.int .u8 ((outB v (4 * i + 1)).toNat : Int))).set_other hlo.2 (4 * i + 2) (.int .u8 ((outB v (4 * i + 2)).toNat : Int))).set_other hlo.2 (4 * i + 3) (.int .u8 ((outB v (4 * i + 3)).toNat : Int))
      have hb2 := (((hbx.setCell (p := ⟨go, 4 * i, none⟩) hlo.1 (.int .u8 ((outB v (4 * i)).toNat : Int))).setCell (p := ⟨go, 4 * i + 1, none⟩) hlo.1 (.int .u8 ((outB v (4 * i + 1)).toNat : Int))).setCell (p := ⟨go, 4 * i + 2, none⟩) hlo.1 (.int .u8 ((outB v (4 * i + 2)).toNat : Int))).setCell (p := ⟨go, 4 * i + 3, none⟩) hlo.1 (.int .u8 ((outB v (4 * i + 3)).toNat : Int))
      go_roundg k
      case measure => omega
      case rel => exact ⟨i + 1, by omega, by go_num, hS, hE2, hb2⟩
end Go.Proofs.YtohmhcglmaifpaaDoor.sha
