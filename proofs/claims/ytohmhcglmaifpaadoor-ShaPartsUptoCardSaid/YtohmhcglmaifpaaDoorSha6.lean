/- The contract of the reference's Sum: the digest (rows within the reach). -/
import Derived.Test.YtohmhcglmaifpaaDoorSha4
import Derived.Test.YtohmhcglmaifpaaDoorSha5
namespace Go.Proofs.YtohmhcglmaifpaaDoor.sha
open Go.RowKit
open Go.Proofs.YtohmhcglmaifpaaDoor.oct Go.Proofs.YtohmhcglmaifpaaDoor.ref Go.Proofs.YtohmhcglmaifpaaDoor.rows
open Go.Lib (byteCells)

theorem in8_wrote {w w1 : World} {g b o : Nat} {l : List UInt8} (h : In8 w (some ⟨b, o, none⟩) l) (k : Wrote w w1 g) (hb : b ≠ g) : In8 w1 (some ⟨b, o, none⟩) l := by
  intro hl
  obtain ⟨b2, o2, he, hc⟩ := h hl
  cases he
  refine ⟨b, o, rfl, fun i hi => ?_⟩
  rw [← hc i hi]
  simp only [World.cell?, k.other b hb]
theorem in8_sub {w : World} {b o : Nat} {l : List UInt8} (h : In8 w (some ⟨b, o, none⟩) l) (k m : Nat) : In8 w (some ⟨b, o + k, none⟩) ((l.drop k).take m) := by
  intro hl
  rw [List.length_take, List.length_drop] at hl
  obtain ⟨b2, o2, he, hc⟩ := h (by omega)
  cases he
  refine ⟨b, o + k, rfl, fun i hi => ?_⟩
  rw [List.length_take, List.length_drop] at hi
  rw [Nat.add_assoc, hc (k + i) (by omega)]
  simp [List.getD, show i < m by omega]
/-- the parts of an own row that is not empty -/
theorem own_parts {w : World} {B e n : Nat} {v : Value} {xs : List Value} (h : w.ownsRow B e 1 v n xs) (hn : 0 < n) : ∃ g cap, v = .slice (some ⟨g, 0, none⟩) n cap ∧ B ≤ g ∧ n ≤ cap := by
  rcases h.2 with ⟨_, h0⟩ | ⟨g, cap, cur, hv, hB, _, hc, _⟩
  · omega
  · exact ⟨g, cap, hv, hB, hc⟩

theorem out_row (v : St) : out v = brow 32 (outB v) := rfl
theorem infoD : (Tryd.prog.info? 28).map (·.size) = some 32 := by kernel_rfl
theorem words0 : (wcells st0.list) = [.int .u32 1779033703, .int .u32 3144134277, .int .u32 1013904242, .int .u32 2773480762, .int .u32 1359893119, .int .u32 2600822924, .int .u32 528734635, .int .u32 1541459225] := by kernel_rfl

set_option maxRecDepth 8000 in
set_option maxHeartbeats 2000000 in
theorem rsum_c (p : Option Addr) (cp : Nat) (l : List UInt8) (w : World) (hp : In8 w p l) (hl : l.length ≤ 140737488355000) (hnil : p = none → cp = 0) :
    Calls Tryd.prog 14 #[.slice p l.length cp] w fun e w' => e = .returned (.agg (byteCells (digest l)).toArray) ∧ Below w.heap.size w w' := by
  have HP := Lib.hid hp
  have HJ : Hid ((Tryd.prog.info? 46).map (·.size) = some 8) := info8
  clear hp
  have hXl := st_len st0
  have h1 := wcells_one st0.list
  have hXi : Hid ((Tryd.prog.info? 46).map (·.size) = some (wcells st0.list).length) := info8
  obtain ⟨X, hX⟩ : ∃ X, wcells st0.list = X := ⟨_, rfl⟩
  rw [hX] at hXl h1 hXi
  have HX := Lib.hid hX
  clear hX
  go_enter Tryd.func14, Tryd.ntmps14
  have hD : Blk (w.alloc (.cells (byteCells (brow 32 fun _ => 0)).toArray 28)) w.heap.size 28 (byteCells (brow 32 fun _ => 0)) := blk_new _ _ _ _ rfl
  go_wp2_with (first
    | (refine wpList_build_to rfl 46 _ rfl X.toArray (by rw [← HX.out]; kernel_rfl) ?_)
    | (with_reducible refine wpList_store_new_at rfl 46 (.tmp 3) (.tmp 8) rfl (w.heap.size + 1) (by simp) X 46 _ rfl rfl hXi.out (Eq.trans (by decide) hXl.symm) h1 ?_; intro wA hA hAb))
  have hb1 := bnext ((Below.refl w.heap.size w).alloc (Nat.le_refl _) _) hAb
  have hDA := hD.below hAb
  have hsA := hA.lt
  clear hD hAb
  refine (padded_c p cp l wA (HP.out.below hb1) hl hnil).mono ?_
  rintro e wP ⟨v, rfl, hown, hbP⟩
  have hPl := pad_len l
  have hP64 := pad_64 l
  have hPz := zeros_lt l.length
  obtain ⟨gP, cP, rfl, hgP, hcP⟩ := own_parts hown (by omega)
  have h8 : In8 wP (some ⟨gP, 0, none⟩) (pad l) := (own_in8' hown).elim fun p' h => h.elim fun c' h => by
    have := h.1
    simp only [Value.slice.injEq] at this
    rw [this.1]; exact h.2
  have hDP := hDA.below hbP
  have hAP := hA.below hbP
  have hbx := bnext hb1 hbP
  have hcb : (pad l).length ≤ 140737488355200 := by omega
  obtain ⟨NB, hNB⟩ : ∃ NB, (pad l).length / 64 = NB := ⟨_, rfl⟩
  have hn : (pad l).length = 64 * NB := by omega
  obtain ⟨P, hPe⟩ : ∃ P, pad l = P := ⟨_, rfl⟩
  rw [hPe] at hn h8 hcP hcb
  rw [hPe]
  have HDG : Hid (digest l = out (blocks st0 P NB)) := by show _ = _; unfold digest; rw [hNB, hPe]
  rw [hn] at hcP hcb ⊢
  have HPL := Lib.hid hn
  rw [← HX.out] at hAP
  have HNE : Hid (gP ≠ w.heap.size + 1 ∧ gP ≠ w.heap.size) := ⟨by omega, by omega⟩
  clear hown hb1 hDA hA hbP hPl hP64 hPz hNB hPe hn hgP hsA hXl h1 hXi
  go_wp2_with fail
  go_loopg [5] NB (fun g s5 wy => ∃ k : Nat, k + g = NB ∧ s5 = .int .i64 (64 * (k : Int)) ∧ Blk wy (w.heap.size + 1) 46 (wcells (blocks st0 P k).list) ∧ Blk wy w.heap.size 28 (byteCells (brow 32 fun _ => 0)) ∧ In8 wy (some ⟨gP, 0, none⟩) P ∧ Below w.heap.size w wy)
  case atStart => exact ⟨0, by omega, rfl, hAP, hDP, h8, hbx⟩
  case round =>
    clear hAP hDP h8 hbx
    obtain ⟨k, hkg, rfl, hA, hD, h8, hbx⟩ := hrel
    rcases gk with _ | g
    · obtain rfl : k = NB := by omega
      go_wp2_with fail
      have hok := blocks_ok st0_ok P k
      obtain ⟨u, hu⟩ : ∃ u, blocks st0 P k = u := ⟨_, rfl⟩
      rw [hu] at hok hA HDG
      have hB : Blk (wr.alloc (.cells (byteCells (brow 32 fun _ => 0)).toArray 28)) wr.heap.size 28 (byteCells (brow 32 fun _ => 0)) := blk_new _ _ _ _ rfl
      have hA2 := blk_old hA (.cells (byteCells (brow 32 fun _ => 0)).toArray 28)
      have hD2 := blk_old hD (.cells (byteCells (brow 32 fun _ => 0)).toArray 28)
      have hbx2 := hbx.alloc hbx.size (.cells (byteCells (brow 32 fun _ => 0)).toArray 28)
      have HG : Hid (w.heap.size + 1 < wr.heap.size) := hA.lt
      obtain ⟨wz, hwz⟩ : ∃ wz, wz = wr.alloc (.cells (byteCells (brow 32 fun _ => 0)).toArray 28) := ⟨_, rfl⟩
      rw [← hwz] at hB hA2 hD2 hbx2
      change Code.wp _ _ _ _ (wr.alloc (.cells (byteCells (brow 32 fun _ => 0)).toArray 28))
      rw [← hwz]
      obtain ⟨g6, hg6⟩ : ∃ g6, g6 = wr.heap.size := ⟨_, rfl⟩
      rw [← hg6] at hB HG ⊢
      clear hwz hu hA hD hbx hg6 h8
      go_loopg [7] 32 (fun g s7 wy => ∃ (j : Nat) (f : Nat → UInt8), j + g = 32 ∧ s7 = .int .i64 j ∧ Hid (∀ i, i < j → f i = outB u i) ∧ Blk wy g6 28 (byteCells (brow 32 f)) ∧ Blk wy (w.heap.size + 1) 46 (wcells u.list) ∧ Blk wy w.heap.size 28 (byteCells (brow 32 fun _ => 0)) ∧ Below w.heap.size w wy)
      case atStart => exact ⟨0, _, rfl, rfl, fun i h => by omega, hB, hA2, hD2, hbx2⟩
      case round =>
        clear hB hA2 hD2 hbx2
        obtain ⟨j, f, hjg, rfl, HF, hB, hA, hD, hbx⟩ := hrel
        rcases gk with _ | g
        · obtain rfl : j = 32 := by omega
          have he : brow 32 f = digest l := by rw [HDG.out, out_row]; exact brow_eq HF.out
          rw [he] at hB
          have hXl : (byteCells (digest l)).length = 32 := by rw [byteCells_len, digest_len]
          have h1 := bytes_one (digest l)
          have hYi : Hid ((Tryd.prog.info? 28).map (·.size) = some (byteCells (digest l)).length) := by show _ = _; rw [hXl]; exact infoD
          have hO : (byteCells (brow 32 fun _ => 0)).length = (byteCells (digest l)).length := by rw [bcells_len, hXl]
          have HB := Lib.hid hB
          have HD := Lib.hid hD
          obtain ⟨Y, hYe⟩ : ∃ Y, byteCells (digest l) = Y := ⟨_, rfl⟩
          rw [hYe] at HB h1 hYi hO
          have HYE := Lib.hid hYe
          generalize byteCells (brow 32 fun _ => 0) = O at HD hO
          clear hB hA hD he HF hXl hYe
          go_wp2_with (first
            | (with_reducible refine wpList_load_blk rfl 28 (.tmp 6) rfl g6 Y 28 HB.out rfl _ Tryd.underlying28 rfl hYi.out ?_)
            | (with_reducible refine wpList_store_blk rfl 28 (.tmp 2) (.tmp 41) rfl w.heap.size Y O 28 HD.out rfl rfl hYi.out hO h1 ?_; intro wf hR hW))
          refine bodyPost_ret (v := .agg Y.toArray) (results_blk Tryd.results14 _ _ w.heap.size 28 Y _ rfl hR Tryd.underlying28 rfl hYi.out) rfl ⟨by rw [HYE.out], hW.below _ _ hbx (Nat.le_refl _)⟩
        · have hjI : (j : Int) < 32 := by omega
          have hj32 : j < 32 := by omega
          have c1 := (hA.cell (j / 4)).trans ((st_row u).symm ▸ row_at u.at (by omega : j / 4 < 8))
          have k1 := st_at hok (j / 4) (by omega)
          have c2 := (hB.cell j).trans (brow_at f hj32)
          have f2 := hB.frozen j
          have HV : Hid (outB u j = UInt8.ofNat (dwn (24 - 8 * (j % 4)) (u.at (j / 4)))) := rfl
          obtain ⟨x, hx⟩ : ∃ x, u.at (j / 4) = x := ⟨_, rfl⟩
          rw [hx] at c1 k1 HV
          obtain ⟨q, hq⟩ : ∃ q, j / 4 = q := ⟨_, rfl⟩
          rw [hq] at c1
          obtain ⟨m, hm⟩ : ∃ m, 24 - 8 * (j % 4) = m := ⟨_, rfl⟩
          rw [hm] at HV
          have hM := dwn_lt m k1
          have HDN := Lib.hid (down_c x m k1 (by omega) wr)
          obtain ⟨M, hMe⟩ : ∃ M, dwn m x = M := ⟨_, rfl⟩
          rw [hMe] at HV HDN hM
          have hMv : ((UInt8.ofNat M).toNat : Int) = (M : Int) % 256 := by simp
          have r1 : (j : Int) / 4 = (q : Int) := by omega
          have r2 : (24 : Int) - 8 * ((j : Int) % 4) = (m : Int) := by omega
          have r3 : (q : Int) < 8 := by omega
          have HSET : Hid (Blk (wr.setCell ⟨g6, j, none⟩ (.int .u8 ((M : Int) % 256))) g6 28 (byteCells (brow 32 (updB f j (UInt8.ofNat M))))) := by
            have h := hB.set j (.int .u8 ((UInt8.ofNat M).toNat : Int))
            rw [brow_set, hMv] at h
            exact h
          have hne1 : g6 ≠ w.heap.size + 1 := by have := HG.out; omega
          have hne2 : g6 ≠ w.heap.size := by have := HG.out; omega
          have HA2 : Hid (Blk (wr.setCell ⟨g6, j, none⟩ (.int .u8 ((M : Int) % 256))) (w.heap.size + 1) 46 (wcells u.list)) := hA.set_other hne1 j _
          have HD2 : Hid (Blk (wr.setCell ⟨g6, j, none⟩ (.int .u8 ((M : Int) % 256))) w.heap.size 28 (byteCells (brow 32 fun _ => 0))) := hD.set_other hne2 j _
          have HBX : Hid (Below w.heap.size w (wr.setCell ⟨g6, j, none⟩ (.int .u8 ((M : Int) % 256)))) := hbx.setCell (by have := HG.out; show _ ≤ g6; omega) _
          have HS : Hid (∀ i, i < j + 1 → updB f j (UInt8.ofNat M) i = outB u i) := by
            intro i hi
            by_cases he : i = j
            · rw [he, updB_at, HV.out]
            · rw [updB_ne he]; exact HF.out i (by omega)
          clear hB hA hD hbx HF hx hm hMe hMv hq
          go_wp2_with fail
          refine HDN.out.mono ?_
          rintro e w' ⟨rfl, rfl⟩
          go_wp2_with fail
          go_roundg g
          case measure => omega
          case rel => exact ⟨j + 1, _, by omega, by go_num, HS, HSET.out, HA2.out, HD2.out, HBX.out⟩
    · have hkN : k < NB := by omega
      have kI : 64 * (k : Int) < 64 * (NB : Int) := by omega
      have hok := blocks_ok st0_ok P k
      have hT : blocks st0 P (k + 1) = takeB (blocks st0 P k) ((P.drop (64 * k)).take 64) := rfl
      have hq := in8_sub h8 (64 * k) 64
      rw [Nat.zero_add] at hq
      have hql : ((P.drop (64 * k)).take 64).length = 64 := by rw [List.length_take, List.length_drop, HPL.out]; omega
      obtain ⟨u, hu⟩ : ∃ u, blocks st0 P k = u := ⟨_, rfl⟩
      rw [hu] at hok hT hA
      have HT := Lib.hid hT
      have HTK := Lib.hid (take_c u hok (some ⟨gP, 64 * k, none⟩) (cP - 64 * k) _ wr.drew (In8.below hq (Below.refl _ _).drew) hql)
      clear hT hu hq
      have c0 : wr.cell? ⟨w.heap.size + 1, 0, none⟩ = some (.int .u32 (u.a : Int)) := hA.cell 0
      have c1 : wr.cell? ⟨w.heap.size + 1, 1, none⟩ = some (.int .u32 (u.b : Int)) := hA.cell 1
      have c2 : wr.cell? ⟨w.heap.size + 1, 2, none⟩ = some (.int .u32 (u.c : Int)) := hA.cell 2
      have c3 : wr.cell? ⟨w.heap.size + 1, 3, none⟩ = some (.int .u32 (u.d : Int)) := hA.cell 3
      have c4 : wr.cell? ⟨w.heap.size + 1, 4, none⟩ = some (.int .u32 (u.e : Int)) := hA.cell 4
      have c5 : wr.cell? ⟨w.heap.size + 1, 5, none⟩ = some (.int .u32 (u.f : Int)) := hA.cell 5
      have c6 : wr.cell? ⟨w.heap.size + 1, 6, none⟩ = some (.int .u32 (u.g : Int)) := hA.cell 6
      have c7 : wr.cell? ⟨w.heap.size + 1, 7, none⟩ = some (.int .u32 (u.i : Int)) := hA.cell 7
      have r1 : IntKind.i64.wrap (64 * (k : Int) + 64) = 64 * (k : Int) + 64 := by rw [IntKind.wrap_i64]; omega
      have r2 : (64 * (k : Int)).toNat = 64 * k := by omega
      have r3 : (64 * (k : Int) + 64).toNat = 64 * k + 64 := by omega
      have r4 : (0 : Int) ≤ 64 * (k : Int) := by omega
      have r5 : 64 * (k : Int) ≤ 64 * (k : Int) + 64 := by omega
      have r6 : 64 * (k : Int) + 64 ≤ (cP : Int) := by omega
      go_wp2_with fail
      go_still_tail 6, (by kernel_rfl)
      change wpList _ _ _ _ _ wr.drew
      have hA2 : Blk wr.drew (w.heap.size + 1) 46 (wcells u.list) := hA
      have hD2 : Blk wr.drew w.heap.size 28 (byteCells (brow 32 fun _ => 0)) := hD
      have h82 : In8 wr.drew (some ⟨gP, 0, none⟩) P := In8.below h8 (Below.refl _ _).drew
      have hbx2 := hbx.drew
      obtain ⟨wd', hwd⟩ : ∃ wd', wr.drew = wd' := ⟨_, rfl⟩
      rw [hwd] at HTK hA2 hD2 h82 hbx2 ⊢
      clear hwd hA hD h8 hbx c0 c1 c2 c3 c4 c5 c6 c7
      go_wp2_with fail
      refine HTK.out.mono ?_
      rintro e w2 ⟨rfl, hb2⟩
      have hA3 := Lib.hid (hA2.below hb2)
      have hD3 := Lib.hid (hD2.below hb2)
      have h83 := Lib.hid (h82.below hb2)
      have hbx3 := Lib.hid (bnext hbx2 hb2)
      have hY1 := wcells_one (takeB u ((P.drop (64 * k)).take 64)).list
      have hYi : Hid ((Tryd.prog.info? 46).map (·.size) = some (wcells (takeB u ((P.drop (64 * k)).take 64)).list).length) := info8
      have hYo : (wcells u.list).length = (wcells (takeB u ((P.drop (64 * k)).take 64)).list).length := by rw [st_len, st_len]
      rw [← HT.out] at hY1 hYi hYo ⊢
      clear hA2 hD2 h82 hbx2 hb2
      go_wp2_with (with_reducible refine wpList_store_blk rfl 46 (.tmp 3) (.tmp 23) rfl (w.heap.size + 1) _ _ 46 hA3.out rfl rfl hYi.out hYo hY1 ?_; intro wf hR hW)
      go_roundg g
      case measure => omega
      case rel => exact ⟨k + 1, by omega, by go_num, hR, hW.blk hD3.out (by omega), in8_wrote h83.out hW HNE.out.1, hW.below _ _ hbx3.out (by omega)⟩
end Go.Proofs.YtohmhcglmaifpaaDoor.sha
