/- The contracts of the developers' Quote and Print. Bounds as each theorem says. -/
import Derived.Test.YtfgenbmobfbifaaFdv4
import Derived.Test.YtfgenbmobfbifaaFld8
namespace Go.Proofs.Ytfgenbmobfbifaa.fdv
open Go.RowKit
open Go.Proofs.Ytfgenbmobfbifaa.oct Go.Proofs.Ytfgenbmobfbifaa.ref Go.Proofs.Ytfgenbmobfbifaa.fld
open Go.Lib (byteCells)

set_option maxHeartbeats 400000 in
theorem dquote_c (l : List UInt8) (w : World) (hs : l.length ≤ 1048576) : Calls Try.prog 13 #[.string ⟨l.toArray⟩] w fun e w' => e = .returned (.string ⟨(quote l).toArray⟩) ∧ Below w.heap.size w w' := by
  have hsz : (⟨l.toArray⟩ : ByteArray).size = l.length := by show l.toArray.size = _; simp
  have HQ := Lib.hid (quoteQ_c w.heap.size w.heap.size [] ⟨l.toArray⟩ _ (isB_new w) (by simp) (by rw [hsz]; omega) (by have := quote_len l; show 0 + (quote l.toArray.toList).length ≤ _; rw [List.toList_toArray]; omega))
  clear hsz
  go_enter Try.func13, Try.ntmps13
  go_wp2_with (go_at_call 24; refine HQ.out.mono ?_; rintro e w2 ⟨rfl, hB, hb⟩)
  rw [List.nil_append] at hB
  have HS := Lib.hid (sh.bstring w.heap.size w.heap.size (quote l) _ hB (Nat.le_trans (by simp) hb.size))
  have HB := Lib.hid (((Below.refl _ w).alloc (Nat.le_refl _) _).trans hb.below)
  clear hB hb
  refine HS.out.mono ?_
  rintro e w3 ⟨rfl, _, hb3, _⟩
  go_wp2_with fail
  go_ret
  exact ⟨rfl, HB.out.trans hb3⟩
theorem quoteP_l (B b : Nat) (acc : List UInt8) (x : List UInt8) (w : World) (h : IsB B b acc w) (hBw : B ≤ w.heap.size) (hsz : x.length ≤ 140737488351232) (hs : acc.length + (quote x).length ≤ 16384) :
    Calls Try.prog 24 #[.string ⟨x.toArray⟩, .func (.func 33) #[] #[.pointer (some ⟨b, 0, none⟩)]] w fun e w' => e = .returned (.bool true) ∧ IsB B b (acc ++ quote x) w' ∧ BK B b w w' :=
  quoteP_c B b acc ⟨x.toArray⟩ w h hBw (by rw [size_mk]; omega) hs
theorem quoteP_nol (B b : Nat) (acc : List UInt8) (x : List UInt8) (w : World) (h : IsB B b acc w) (hBw : B ≤ w.heap.size) (hsz : x.length ≤ 140737488351232) (ha : acc.length ≤ 16384) (hs : 16384 < acc.length + (quote x).length) :
    Calls Try.prog 24 #[.string ⟨x.toArray⟩, .func (.func 33) #[] #[.pointer (some ⟨b, 0, none⟩)]] w fun e w' => e = .returned (.bool false) ∧ BK B b w w' :=
  quoteP_no B b acc ⟨x.toArray⟩ w h hBw (by rw [size_mk]; omega) ha hs
set_option maxRecDepth 8000 in
set_option maxHeartbeats 4000000 in
theorem dprint_c (P : Option Addr) (C : Nat) (ps : List Pr) (w : World) (hp : InPr w P ps) (hl : ps.length ≤ 140737488355328) (hs : ∀ x ∈ ps, x.1.length ≤ 140737488351232 ∧ x.2.length ≤ 140737488351232) :
    Calls Try.prog 17 #[.slice P ps.length C] w fun e w' => e = .returned (.tuple #[tx (printR ps).2, .int .i64 ((printR ps).1 : Nat)]) ∧ Below w.heap.size w w' := by
  by_cases h64 : 64 < ps.length
  · have hI : (ps.length : Int) > 64 := by omega
    have HR : Hid (printR ps = (2, [])) := by show _ = _; unfold printR; rw [if_pos h64]
    clear h64 hp hs
    go_enter Try.func17, Try.ntmps17
    go_wp2_with fail
    go_ret2
    exact ⟨by rw [HR.out]; rfl, Below.refl _ _⟩
  · have hI : ¬ ((ps.length : Int) > 64) := by omega
    have HP := Lib.hid hp
    have HS := Lib.hid hs
    have HLONG : Hid (16384 < (prt ps).length → printR ps = (2, [])) := fun h => by unfold printR; rw [if_neg h64, if_pos h]
    have HOK : Hid ((prt ps).length ≤ 16384 → printR ps = (0, prt ps)) := fun h => by unfold printR; rw [if_neg h64, if_neg (by omega)]
    clear hp hs
    obtain ⟨N, hN⟩ : ∃ N, ps.length = N := ⟨_, rfl⟩
    rw [hN] at hI h64 ⊢
    have HN := Lib.hid hN
    clear hN hl
    go_enter Try.func17, Try.ntmps17
    go_wp2_with fail
    go_loopg [15] N (fun g s15 wy => ∃ k : Nat, k + g = N ∧ s15 = .int .i64 k ∧ IsB w.heap.size w.heap.size (prt (ps.take k)) wy ∧ (prt (ps.take k)).length ≤ 16384 ∧ Below w.heap.size w wy)
    case atStart => exact ⟨0, by omega, rfl, isB_new w, by simp [prt], (Below.refl _ _).alloc (Nat.le_refl _) _⟩
    case round =>
      obtain ⟨k, hkg, rfl, hB, hpl, hbx⟩ := hrel
      have HBX := Lib.hid hbx
      rcases gk with _ | g
      · obtain rfl : k = N := by omega
        have e : ps.take k = ps := List.take_of_length_le (by rw [HN.out]; exact Nat.le_refl _)
        rw [e] at hpl hB
        have HR := Lib.hid (HOK.out hpl)
        have HS := Lib.hid (sh.bstring w.heap.size w.heap.size _ _ hB hbx.size)
        clear e hpl hbx hB
        go_wp2_with (go_at_call 27; refine HS.out.mono ?_; rintro e w3 ⟨rfl, _, hb3, _⟩)
        go_ret2
        exact ⟨by rw [HR.out]; rfl, HBX.out.trans hb3⟩
      · have hk : k < N := by omega
        have hkp : k < ps.length := by rw [HN.out]; exact hk
        obtain ⟨b, o, rfl, hc⟩ := (HP.out.below hbx) (by omega)
        obtain ⟨c1, c2⟩ := hc k hkp
        have HT := Lib.hid (show ps.take (k + 1) = ps.take k ++ [ps[k]] from List.take_succ_eq_append_getElem hkp)
        have HPS := Lib.hid (prt_snoc (ps.take k) ps[k])
        have HTL := Lib.hid (prt_take_le ps (k + 1) (by omega))
        have hsm := HS.out _ (List.getElem_mem hkp)
        have HE : Hid ((ps.take k).isEmpty = decide (k = 0)) := by
          show _ = _
          rcases k with _ | k
          · simp
          · rw [decide_eq_false (by omega)]
            cases ps with
            | nil => simp at hkp
            | cons a l => rfl
        rw [← HT.out] at HPS
        obtain ⟨x, hx⟩ : ∃ x, ps[k] = x := ⟨_, rfl⟩
        rw [hx] at c1 c2 HPS hsm
        obtain ⟨x1, x2⟩ := x
        unfold tx at c1 c2
        dsimp only at c1 c2 hsm
        have hkI : (k : Int) < (N : Int) := by omega
        clear hc hx
        have hP1 : prPair (x1, x2) = quote x1 ++ 61 :: quote x2 := rfl
        rw [hP1] at HPS
        obtain ⟨L, hL⟩ : ∃ L, prt (ps.take k) = L := ⟨_, rfl⟩
        have HL0 : Hid (k = 0 → L = []) := fun h => by rw [← hL, h]; simp [prt]
        rw [hL] at hpl HPS hB
        obtain ⟨hsm1, hsm2⟩ := hsm
        obtain ⟨wp, hwp⟩ : ∃ wp, wp = wr.alloc (.cells #[.string ⟨x1.toArray⟩, .string ⟨x2.toArray⟩] 44) := ⟨_, rfl⟩
        have hblk : wp.heap[wr.heap.size]? = some (.cells #[.string ⟨x1.toArray⟩, .string ⟨x2.toArray⟩] 44 (0, 0)) := by rw [hwp]; exact heap_alloc_new wr _
        have hBp : IsB w.heap.size w.heap.size L wp := by rw [hwp]; exact Lib.IsBuilderF.alloc hB _
        have hbp : Below w.heap.size w wp := by rw [hwp]; exact hbx.alloc hbx.size _
        have hne : wr.heap.size ≠ w.heap.size := by have := hB.elim (fun h => h.lt) (fun h => h.lt); omega
        have HBLK := Lib.hid hblk
        have HBP := Lib.hid hbp
        have HBP2 := Lib.hid hBp
        have HNE := Lib.hid hne
        clear hP1 hL hblk hBp hbp hne hB
        by_cases hk0 : k = 0
        · obtain rfl : L = [] := HL0.out hk0
          have hk0I : ((k : Int) == 0) = true := by rw [hk0]; rfl
          have HPV : Hid (prt (ps.take (k + 1)) = quote x1 ++ 61 :: quote x2) := by show _ = _; rw [HPS.out, HE.out, decide_eq_true hk0, if_pos rfl]
          have HPL : Hid ((prt (ps.take (k + 1))).length = (quote x1).length + 1 + (quote x2).length) := by show _ = _; rw [HPV.out]; simp; omega
          clear hk0 HPS
          go_wp2_with fail
          rw [← hwp]
          clear hwp
          by_cases hz0 : 0 + (quote x1).length ≤ 16384
          · refine (quoteP_l w.heap.size w.heap.size [] x1 wp HBP2.out (HBP.out).size hsm1 (by first | omega | (simp; omega))).mono ?_
            rintro e w1 ⟨rfl, hB1, hb1⟩
            have hk1 := hb1
            clear hb1
            have hq1 := hk1.blk HBLK.out HNE.out (by decide)
            have p1 : w1.cell? ⟨wr.heap.size, 0, none⟩ = some (.string ⟨x1.toArray⟩) := by rw [Lib.cell_of_heap hq1]; rfl
            have r1 : w1.cell? ⟨wr.heap.size, 1, none⟩ = some (.string ⟨x2.toArray⟩) := by rw [Lib.cell_of_heap hq1]; rfl
            clear hq1
            go_wp2_with fail
            by_cases hz1 : (quote x1).length + 1 ≤ 16384
            · refine (putP_c w.heap.size w.heap.size ([] ++ quote x1) 61 w1 hB1 (by first | omega | (simp; omega)) (HBP.out.trans hk1.below).size).mono ?_
              rintro e w2 ⟨rfl, hB2, hb2⟩
              have hk2 := hk1.trans hb2
              clear hb2
              have hq2 := hk2.blk HBLK.out HNE.out (by decide)
              have p2 : w2.cell? ⟨wr.heap.size, 0, none⟩ = some (.string ⟨x1.toArray⟩) := by rw [Lib.cell_of_heap hq2]; rfl
              have r2 : w2.cell? ⟨wr.heap.size, 1, none⟩ = some (.string ⟨x2.toArray⟩) := by rw [Lib.cell_of_heap hq2]; rfl
              clear hq2
              go_wp2_with fail
              by_cases hz2 : (quote x1).length + 1 + (quote x2).length ≤ 16384
              · refine (quoteP_l w.heap.size w.heap.size ([] ++ quote x1 ++ [61]) x2 w2 hB2 (HBP.out.trans hk2.below).size hsm2 (by first | omega | (simp; omega))).mono ?_
                rintro e w3 ⟨rfl, hB3, hb3⟩
                have hk3 := hk2.trans hb3
                clear hb3
                go_wp2_with fail
                go_roundg g
                case measure => omega
                case rel => exact ⟨k + 1, by omega, by go_num, by rw [HPV.out]; simpa using hB3, by rw [HPL.out]; omega, HBP.out.trans hk3.below⟩
              · have HR := Lib.hid (HLONG.out (Nat.lt_of_lt_of_le (by rw [HPL.out]; omega) HTL.out))
                refine (quoteP_nol w.heap.size w.heap.size ([] ++ quote x1 ++ [61]) x2 w2 hB2 (HBP.out.trans hk2.below).size hsm2 (by first | omega | (simp; omega)) (by first | omega | (simp; omega))).mono ?_
                rintro e w9 ⟨rfl, hb9⟩
                have HZ := Lib.hid ((HBP.out.trans hk2.below).trans hb9.below)
                clear hb9
                go_wp2_with fail
                go_ret2
                exact ⟨by rw [HR.out]; rfl, HZ.out⟩
            · have HR := Lib.hid (HLONG.out (Nat.lt_of_lt_of_le (by rw [HPL.out]; omega) HTL.out))
              refine (putP_full w.heap.size w.heap.size ([] ++ quote x1) 61 w1 hB1 (by first | omega | (simp; omega))).mono ?_
              rintro e w9 ⟨rfl, rfl⟩
              go_wp2_with fail
              go_ret2
              exact ⟨by rw [HR.out]; rfl, HBP.out.trans hk1.below⟩
          · have HR := Lib.hid (HLONG.out (Nat.lt_of_lt_of_le (by rw [HPL.out]; omega) HTL.out))
            refine (quoteP_nol w.heap.size w.heap.size [] x1 wp HBP2.out (HBP.out).size hsm1 (by first | omega | (simp; omega)) (by first | omega | (simp; omega))).mono ?_
            rintro e w9 ⟨rfl, hb9⟩
            have HZ := Lib.hid ((HBP.out).trans hb9.below)
            clear hb9
            go_wp2_with fail
            go_ret2
            exact ⟨by rw [HR.out]; rfl, HZ.out⟩
        · have hk0I : ((k : Int) == 0) = false := by rw [beq_eq_false_iff_ne]; omega
          have HPV : Hid (prt (ps.take (k + 1)) = L ++ 38 :: (quote x1 ++ 61 :: quote x2)) := by show _ = _; rw [HPS.out, HE.out, decide_eq_false hk0, if_neg (by decide)]
          have HPL : Hid ((prt (ps.take (k + 1))).length = L.length + 1 + (quote x1).length + 1 + (quote x2).length) := by show _ = _; rw [HPV.out]; simp; omega
          clear hk0 HPS
          go_wp2_with fail
          rw [← hwp]
          clear hwp
          by_cases hz0 : L.length + 1 ≤ 16384
          · refine (putP_c w.heap.size w.heap.size L 38 wp HBP2.out (by first | omega | (simp; omega)) (HBP.out).size).mono ?_
            rintro e w1 ⟨rfl, hB1, hb1⟩
            have hk1 := hb1
            clear hb1
            have hq1 := hk1.blk HBLK.out HNE.out (by decide)
            have p1 : w1.cell? ⟨wr.heap.size, 0, none⟩ = some (.string ⟨x1.toArray⟩) := by rw [Lib.cell_of_heap hq1]; rfl
            have r1 : w1.cell? ⟨wr.heap.size, 1, none⟩ = some (.string ⟨x2.toArray⟩) := by rw [Lib.cell_of_heap hq1]; rfl
            clear hq1
            go_wp2_with fail
            by_cases hz1 : L.length + 1 + (quote x1).length ≤ 16384
            · refine (quoteP_l w.heap.size w.heap.size (L ++ [38]) x1 w1 hB1 (HBP.out.trans hk1.below).size hsm1 (by first | omega | (simp; omega))).mono ?_
              rintro e w2 ⟨rfl, hB2, hb2⟩
              have hk2 := hk1.trans hb2
              clear hb2
              have hq2 := hk2.blk HBLK.out HNE.out (by decide)
              have p2 : w2.cell? ⟨wr.heap.size, 0, none⟩ = some (.string ⟨x1.toArray⟩) := by rw [Lib.cell_of_heap hq2]; rfl
              have r2 : w2.cell? ⟨wr.heap.size, 1, none⟩ = some (.string ⟨x2.toArray⟩) := by rw [Lib.cell_of_heap hq2]; rfl
              clear hq2
              go_wp2_with fail
              by_cases hz2 : L.length + 1 + (quote x1).length + 1 ≤ 16384
              · refine (putP_c w.heap.size w.heap.size (L ++ [38] ++ quote x1) 61 w2 hB2 (by first | omega | (simp; omega)) (HBP.out.trans hk2.below).size).mono ?_
                rintro e w3 ⟨rfl, hB3, hb3⟩
                have hk3 := hk2.trans hb3
                clear hb3
                have hq3 := hk3.blk HBLK.out HNE.out (by decide)
                have p3 : w3.cell? ⟨wr.heap.size, 0, none⟩ = some (.string ⟨x1.toArray⟩) := by rw [Lib.cell_of_heap hq3]; rfl
                have r3 : w3.cell? ⟨wr.heap.size, 1, none⟩ = some (.string ⟨x2.toArray⟩) := by rw [Lib.cell_of_heap hq3]; rfl
                clear hq3
                go_wp2_with fail
                by_cases hz3 : L.length + 1 + (quote x1).length + 1 + (quote x2).length ≤ 16384
                · refine (quoteP_l w.heap.size w.heap.size (L ++ [38] ++ quote x1 ++ [61]) x2 w3 hB3 (HBP.out.trans hk3.below).size hsm2 (by first | omega | (simp; omega))).mono ?_
                  rintro e w4 ⟨rfl, hB4, hb4⟩
                  have hk4 := hk3.trans hb4
                  clear hb4
                  go_wp2_with fail
                  go_roundg g
                  case measure => omega
                  case rel => exact ⟨k + 1, by omega, by go_num, by rw [HPV.out]; simpa using hB4, by rw [HPL.out]; omega, HBP.out.trans hk4.below⟩
                · have HR := Lib.hid (HLONG.out (Nat.lt_of_lt_of_le (by rw [HPL.out]; omega) HTL.out))
                  refine (quoteP_nol w.heap.size w.heap.size (L ++ [38] ++ quote x1 ++ [61]) x2 w3 hB3 (HBP.out.trans hk3.below).size hsm2 (by first | omega | (simp; omega)) (by first | omega | (simp; omega))).mono ?_
                  rintro e w9 ⟨rfl, hb9⟩
                  have HZ := Lib.hid ((HBP.out.trans hk3.below).trans hb9.below)
                  clear hb9
                  go_wp2_with fail
                  go_ret2
                  exact ⟨by rw [HR.out]; rfl, HZ.out⟩
              · have HR := Lib.hid (HLONG.out (Nat.lt_of_lt_of_le (by rw [HPL.out]; omega) HTL.out))
                refine (putP_full w.heap.size w.heap.size (L ++ [38] ++ quote x1) 61 w2 hB2 (by first | omega | (simp; omega))).mono ?_
                rintro e w9 ⟨rfl, rfl⟩
                go_wp2_with fail
                go_ret2
                exact ⟨by rw [HR.out]; rfl, HBP.out.trans hk2.below⟩
            · have HR := Lib.hid (HLONG.out (Nat.lt_of_lt_of_le (by rw [HPL.out]; omega) HTL.out))
              refine (quoteP_nol w.heap.size w.heap.size (L ++ [38]) x1 w1 hB1 (HBP.out.trans hk1.below).size hsm1 (by first | omega | (simp; omega)) (by first | omega | (simp; omega))).mono ?_
              rintro e w9 ⟨rfl, hb9⟩
              have HZ := Lib.hid ((HBP.out.trans hk1.below).trans hb9.below)
              clear hb9
              go_wp2_with fail
              go_ret2
              exact ⟨by rw [HR.out]; rfl, HZ.out⟩
          · have HR := Lib.hid (HLONG.out (Nat.lt_of_lt_of_le (by rw [HPL.out]; omega) HTL.out))
            refine (putP_full w.heap.size w.heap.size L 38 wp HBP2.out (by first | omega | (simp; omega))).mono ?_
            rintro e w9 ⟨rfl, rfl⟩
            go_wp2_with fail
            go_ret2
            exact ⟨by rw [HR.out]; rfl, HBP.out⟩
end Go.Proofs.Ytfgenbmobfbifaa.fdv
