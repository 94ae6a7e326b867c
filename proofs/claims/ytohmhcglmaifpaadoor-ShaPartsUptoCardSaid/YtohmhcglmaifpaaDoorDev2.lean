/- The contract of sha.spread: the sixty-four words of a block (an array of bytes by value). No condition. -/
import Derived.Test.YtohmhcglmaifpaaDoorDev1
import Derived.StillTailTactics
namespace Go.Proofs.YtohmhcglmaifpaaDoor.sha
open Go.RowKit
open Go.Proofs.YtohmhcglmaifpaaDoor.oct Go.Proofs.YtohmhcglmaifpaaDoor.ref Go.Proofs.YtohmhcglmaifpaaDoor.rows
open Go.Lib (byteCells)

theorem or_add {a b : Nat} (k : Nat) (ha : a % 2 ^ k = 0) (hb : b < 2 ^ k) (h : a + b < 4294967296) : bits .or .u32 (a : Int) (b : Int) = (a : Int) + (b : Int) := by
  rw [or_u32 a b (by omega) (by omega), show a = 2 ^ k * (a / 2 ^ k) from by have := Nat.div_add_mod a (2 ^ k); omega, ← Nat.two_pow_add_eq_or_of_lt hb]
  rfl
theorem wrap_small {x : Int} (h0 : 0 ≤ x) (h1 : x < 4294967296) : IntKind.u32.wrap x = x := by rw [IntKind.wrap_u32]; omega

set_option maxRecDepth 8000 in
set_option maxHeartbeats 2000000 in
theorem spread_c (l : List UInt8) (w : World) (hl : l.length = 64) :
    Calls Tryd.prog 36 #[.agg (byteCells l).toArray] w fun e w' => e = .returned (.agg (wcells (row 64 (wd l))).toArray) ∧ Below w.heap.size w w' := by
  have HL := Lib.hid hl
  have HI : Hid ((Tryd.prog.info? 57).map (·.size) = some 64) := info64
  have HC := Lib.hid (show (byteCells l).length = 64 by rw [byteCells_len, hl])
  have HAT : Hid (∀ i, i < 64 → (byteCells l)[i]? = some (.int .u8 ((l.getD i 0).toNat : Int))) := by
    intro i hi
    simp [byteCells, List.getD, List.getElem?_eq_getElem (show i < l.length by omega)]
  obtain ⟨L, hL⟩ : ∃ L, byteCells l = L := ⟨_, rfl⟩
  rw [hL] at HC HAT ⊢
  clear hl hL
  go_enter Tryd.func36, Tryd.ntmps36
  go_wp2_with fail
  have hB1 : Blk (w.alloc (.cells L.toArray 50)) w.heap.size 50 L := blk_new w _ _ _ rfl
  have hb1 := (Below.refl w.heap.size w).alloc (Nat.le_refl _) (.cells L.toArray 50)
  obtain ⟨w1, hw1⟩ : ∃ w1, w1 = w.alloc (.cells L.toArray 50) := ⟨_, rfl⟩
  have hs1 : w1.heap.size = w.heap.size + 1 := by rw [hw1]; simp
  rw [← hw1] at hB1 hb1
  have hB2 : Blk (w1.alloc (.cells (wcells (row 64 fun _ => 0)).toArray 57)) w1.heap.size 57 (wcells (row 64 fun _ => 0)) := blk_new w1 _ _ _ rfl
  have hB1' := blk_old hB1 (.cells (wcells (row 64 fun _ => 0)).toArray 57)
  have hb2 := hb1.alloc hb1.size (.cells (wcells (row 64 fun _ => 0)).toArray 57)
  obtain ⟨w2, hw2⟩ : ∃ w2, w2 = w1.alloc (.cells (wcells (row 64 fun _ => 0)).toArray 57) := ⟨_, rfl⟩
  have hs2 : w2.heap.size = w.heap.size + 1 + 1 := by rw [hw2]; simp [hs1]
  rw [← hw2] at hB2 hB1' hb2
  have hB3 : Blk (w2.alloc (.cells (wcells (row 64 fun _ => 0)).toArray 57)) w2.heap.size 57 (wcells (row 64 fun _ => 0)) := blk_new w2 _ _ _ rfl
  have hB2' := blk_old hB2 (.cells (wcells (row 64 fun _ => 0)).toArray 57)
  have hB1'' := blk_old hB1' (.cells (wcells (row 64 fun _ => 0)).toArray 57)
  have hb3 := hb2.alloc hb2.size (.cells (wcells (row 64 fun _ => 0)).toArray 57)
  change Code.wp _ _ _ _ (((w.alloc (.cells L.toArray 50)).alloc (.cells (wcells (row 64 fun _ => 0)).toArray 57)).alloc (.cells (wcells (row 64 fun _ => 0)).toArray 57))
  rw [← hw1, ← hw2]
  obtain ⟨w3, hw3⟩ : ∃ w3, w3 = w2.alloc (.cells (wcells (row 64 fun _ => 0)).toArray 57) := ⟨_, rfl⟩
  rw [← hw3] at hB3 hB2' hB1'' hb3 ⊢
  rw [hs1] at hB2'
  rw [hs2] at hB3
  clear hw1 hw2 hw3 hB1 hB2 hB1' hb1 hb2 hs1 hs2
  obtain ⟨g3, hg3⟩ : ∃ g3, g3 = w.heap.size + 1 + 1 := ⟨_, rfl⟩
  rw [← hg3] at hB3 ⊢
  obtain ⟨g2, hg2⟩ : ∃ g2, g2 = w.heap.size + 1 := ⟨_, rfl⟩
  rw [← hg2] at hB2' ⊢
  have HN : Hid (g3 = w.heap.size + 1 + 1 ∧ g2 = w.heap.size + 1) := ⟨hg3, hg2⟩
  clear hg3 hg2
  generalize hZ : wcells (row 64 fun _ => 0) = Z at hB2'
  have HZ := Lib.hid hZ
  clear hZ
  go_loopg [8] 16 (fun g s8 wy => ∃ (t : Nat) (f : Nat → Nat), t + g = 16 ∧ s8 = .int .i64 t ∧ Hid (∀ j, j < t → f j = word l j) ∧ Blk wy g3 57 (wcells (row 64 f)) ∧ Blk wy g2 57 Z ∧ Blk wy w.heap.size 50 L ∧ Below w.heap.size w wy)
  case atStart => exact ⟨0, _, rfl, rfl, fun j h => by omega, hB3, hB2', hB1'', hb3⟩
  case round =>
    clear hB3 hB2' hB1'' hb3
    obtain ⟨t, f, htg, rfl, HF, hB3, hB2, hB1, hbx⟩ := hrel
    rcases gk with _ | g
    · obtain rfl : t = 16 := by omega
      have HF2 : Hid (∀ j, j < 16 → f j = wd l j) := fun j hj => by rw [HF.out j hj, wd_lo l hj]
      clear HF
      go_wp2_with fail
      go_loopg [5] 48 (fun g s5 wy => ∃ (t : Nat) (f : Nat → Nat), t + g = 64 ∧ 16 ≤ t ∧ s5 = .int .i64 t ∧ Hid (∀ j, j < t → f j = wd l j) ∧ Blk wy g3 57 (wcells (row 64 f)) ∧ Blk wy g2 57 Z ∧ Below w.heap.size w wy)
      case atStart => exact ⟨16, f, rfl, Nat.le_refl _, rfl, HF2, hB3, hB2, hbx⟩
      case round =>
        clear HF2 hB3 hB2 hB1 hbx
        obtain ⟨t, f, htg, h16, rfl, HF, hB3, hB2, hbx⟩ := hrel
        rcases gk with _ | g
        · obtain rfl : t = 64 := by omega
          have he : row 64 f = row 64 (wd l) := row_eq HF.out
          rw [he] at hB3
          have hX := row_len 64 (wd l)
          have h1 := row_one 64 (wd l)
          have hXi : Hid ((Tryd.prog.info? 57).map (·.size) = some (wcells (row 64 (wd l))).length) := by show _ = _; rw [hX]; exact info64
          have hO : Z.length = (wcells (row 64 (wd l))).length := by rw [← HZ.out, row_len, row_len]
          have HB3 := Lib.hid hB3
          have HB2 := Lib.hid hB2
          obtain ⟨X, hXe⟩ : ∃ X, wcells (row 64 (wd l)) = X := ⟨_, rfl⟩
          rw [hXe] at HB3 h1 hXi hO
          have HXE := Lib.hid hXe
          have hle : w.heap.size ≤ g2 := by have := HN.out; omega
          clear hXe hB3 hB2 he HF hX
          go_wp2_with (first
            | (with_reducible refine wpList_load_blk rfl 57 (.tmp 3) rfl g3 X 57 HB3.out rfl _ Tryd.underlying57 rfl hXi.out ?_)
            | (with_reducible refine wpList_store_blk rfl 57 (.tmp 2) (.tmp 86) rfl g2 X Z 57 HB2.out rfl rfl hXi.out hO h1 ?_; intro w1 hR hW))
          refine bodyPost_ret (v := .agg X.toArray) (results_blk Tryd.results36 _ _ g2 57 X _ rfl hR Tryd.underlying57 rfl hXi.out) rfl ⟨by rw [HXE.out], hW.below _ _ hbx hle⟩
        · have htI : (t : Int) < 64 := by omega
          have e2 := HF.out (t - 2) (by omega)
          have e7 := HF.out (t - 7) (by omega)
          have e15 := HF.out (t - 15) (by omega)
          have e16 := HF.out (t - 16) (by omega)
          have l2 := wd_lt l (t - 2)
          have l7 := wd_lt l (t - 7)
          have l15 := wd_lt l (t - 15)
          have l16 := wd_lt l (t - 16)
          have hW := wd_hi l h16
          have c2 := (hB3.cell (t - 2)).trans (row_at f (by omega))
          have c7 := (hB3.cell (t - 7)).trans (row_at f (by omega))
          have c15 := (hB3.cell (t - 15)).trans (row_at f (by omega))
          have c16 := (hB3.cell (t - 16)).trans (row_at f (by omega))
          have ct := (hB3.cell t).trans (row_at f (by omega))
          have ft := hB3.frozen t
          rw [e2] at c2
          rw [e7] at c7
          rw [e15] at c15
          rw [e16] at c16
          obtain ⟨X, hX⟩ : ∃ X, wd l (t - 2) = X := ⟨_, rfl⟩
          obtain ⟨Y, hY⟩ : ∃ Y, wd l (t - 15) = Y := ⟨_, rfl⟩
          obtain ⟨U, hU⟩ : ∃ U, wd l (t - 7) = U := ⟨_, rfl⟩
          obtain ⟨V, hV⟩ : ∃ V, wd l (t - 16) = V := ⟨_, rfl⟩
          rw [hX] at c2 l2 hW
          rw [hY] at c15 l15 hW
          rw [hU] at c7 l7 hW
          rw [hV] at c16 l16 hW
          clear e2 e7 e15 e16 hX hY hU hV
          have x1 := xor3 _ _ _ (rotN_lt 17 l2) (rotN_lt 19 l2) (dwn_lt 10 l2)
          have x0 := xor3 _ _ _ (rotN_lt 7 l15) (rotN_lt 18 l15) (dwn_lt 3 l15)
          rw [show rotN 17 X ^^^ rotN 19 X ^^^ dwn 10 X = s1 X from rfl] at x1
          rw [show rotN 7 Y ^^^ rotN 18 Y ^^^ dwn 3 Y = s0 Y from rfl] at x0
          have d1 : ((dwn 10 X : Nat) : Int) = (X : Int) / 1024 := by rw [dwn_eq]; omega
          have d0 : ((dwn 3 Y : Nat) : Int) = (Y : Int) / 8 := by rw [dwn_eq]; omega
          rw [d1] at x1
          rw [d0] at x0
          have y1 := s1_lt l2
          have y0 := s0_lt l15
          obtain ⟨A1, q1, a1⟩ := add32 y1 l7
          obtain ⟨A2, q2, a2⟩ := add32 a1.1 y0
          obtain ⟨A3, q3, a3⟩ := add32 a2.1 l16
          have HW : Hid (A3 = wd l t) := by show _ = _; rw [hW, a3.2, a2.2, a1.2]; omega
          have r1 : IntKind.i64.wrap ((t : Int) - 7) = (t : Int) - 7 := by rw [IntKind.wrap_i64]; omega
          have r2 : ((t : Int) - 7).toNat = t - 7 := by omega
          have r3 : (0 : Int) ≤ (t : Int) - 7 := by omega
          have r4 : (t : Int) - 7 < 64 := by omega
          have r5 : IntKind.i64.wrap ((t : Int) - 16) = (t : Int) - 16 := by rw [IntKind.wrap_i64]; omega
          have r6 : ((t : Int) - 16).toNat = t - 16 := by omega
          have r7 : (0 : Int) ≤ (t : Int) - 16 := by omega
          have r8 : (t : Int) - 16 < 64 := by omega
          have r21 : IntKind.i64.wrap ((t : Int) - 2) = (t : Int) - 2 := by rw [IntKind.wrap_i64]; omega
          have r22 : ((t : Int) - 2).toNat = t - 2 := by omega
          have r23 : (0 : Int) ≤ (t : Int) - 2 := by omega
          have r24 : (t : Int) - 2 < 64 := by omega
          have r25 : IntKind.i64.wrap ((t : Int) - 15) = (t : Int) - 15 := by rw [IntKind.wrap_i64]; omega
          have r26 : ((t : Int) - 15).toNat = t - 15 := by omega
          have r27 : (0 : Int) ≤ (t : Int) - 15 := by omega
          have r28 : (t : Int) - 15 < 64 := by omega
          have r9 : (7 : Int) ≤ (t : Int) := by omega
          have r10 : (16 : Int) ≤ (t : Int) := by omega
          have r11 : (t : Int) < 71 := by omega
          have r12 : (t : Int) < 80 := by omega
          clear hW a1 a2 a3
          go_wp2_with fail
          go_quiet (fail)
          have hB3n := hB3.drewN nq
          have hB2n := hB2.drewN nq
          have hbn := below_drewN hbx nq
          obtain ⟨wn, hwn⟩ : ∃ wn, wn = wr.drewN nq := ⟨_, rfl⟩
          rw [← hwn] at hB3n hB2n hbn ⊢
          have k7 : wn.cell? ⟨g3, t - 7, none⟩ = some (.int .u32 (U : Int)) := by rw [hwn]; exact c7
          have k16 : wn.cell? ⟨g3, t - 16, none⟩ = some (.int .u32 (V : Int)) := by rw [hwn]; exact c16
          have kt' : wn.cell? ⟨g3, t, none⟩ = some (.int .u32 (f t : Nat)) := by rw [hwn]; exact ct
          have kf : wn.frozen? ⟨g3, t, none⟩ = false := by rw [hwn]; exact ft
          have z1 := Lib.hid (turned_c X 17 17 rfl l2 turnOk_all.2.2.2.2.2.1 wn)
          have z2 := Lib.hid (turned_c X 19 19 rfl l2 turnOk_all.2.2.2.2.2.2.2.1 wn)
          have z4 := Lib.hid (turned_c Y 7 7 rfl l15 turnOk_all.2.2.1 wn)
          have z5 := Lib.hid (turned_c Y 18 18 rfl l15 turnOk_all.2.2.2.2.2.2.1 wn)
          clear hB3 hB2 hbx c2 c7 c15 c16 ct ft hwn
          go_wp2_with fail
          refine z1.out.mono ?_
          rintro e w' ⟨rfl, rfl⟩
          go_wp2_with fail
          refine z2.out.mono ?_
          rintro e w' ⟨rfl, rfl⟩
          go_wp2_with fail
          refine z4.out.mono ?_
          rintro e w' ⟨rfl, rfl⟩
          go_wp2_with fail
          refine z5.out.mono ?_
          rintro e w' ⟨rfl, rfl⟩
          have hne : g3 ≠ g2 ∧ w.heap.size ≤ g3 := by have := HN.out; omega
          have HSET : Hid (Blk (wn.drew.setCell ⟨g3, t, none⟩ (.int .u32 (A3 : Int))) g3 57 (wcells (row 64 (upd f t (wd l t))))) := by
            have h := Blk.set (w := wn.drew) hB3n t (.int .u32 ((wd l t : Nat) : Int))
            rw [row_set, ← HW.out] at h
            rw [← HW.out]
            exact h
          have HB2 : Hid (Blk (wn.drew.setCell ⟨g3, t, none⟩ (.int .u32 (A3 : Int))) g2 57 Z) := Blk.set_other (w := wn.drew) hB2n hne.1 t _
          have HBX : Hid (Below w.heap.size w (wn.drew.setCell ⟨g3, t, none⟩ (.int .u32 (A3 : Int)))) := hbn.drew.setCell hne.2 _
          have HF2 : Hid (∀ j, j < t + 1 → upd f t (wd l t) j = wd l j) := by
            intro j hj
            by_cases he : j = t
            · rw [he, upd_at]
            · rw [upd_ne he]; exact HF.out j (by omega)
          clear hB3n hB2n hbn HF HW hne z1 z2 z4 z5
          go_wp2_with fail
          go_still_tail 15, (by kernel_rfl)
          change wpList _ _ _ _ _ wn.drew
          obtain ⟨wd', hwd⟩ : ∃ wd', wd' = wn.drew := ⟨_, rfl⟩
          rw [← hwd] at HSET HB2 HBX ⊢
          have f3 : wd'.frozen? ⟨g3, t, none⟩ = false := by rw [hwd]; exact kf
          have d3 : wd'.cell? ⟨g3, t, none⟩ = some (.int .u32 (f t : Nat)) := by rw [hwd]; exact kt'
          clear hwd kf kt' k7 k16
          go_wp2_with fail
          go_roundg g
          case measure => omega
          case rel => exact ⟨t + 1, _, by omega, by omega, by go_num, HF2, HSET.out, HB2.out, HBX.out⟩
    · have ht : t < 16 := by omega
      have htI : (t : Int) < 16 := by omega
      go_wp2_with fail
      have c0 := (hB1.cell (4 * t)).trans (HAT.out _ (by omega))
      have c1 := (hB1.cell (4 * t + 1)).trans (HAT.out _ (by omega))
      have c2 := (hB1.cell (4 * t + 2)).trans (HAT.out _ (by omega))
      have c3 := (hB1.cell (4 * t + 3)).trans (HAT.out _ (by omega))
      have ct := (hB3.cell t).trans (row_at f (by omega))
      have ft := hB3.frozen t
      have b0 := (l.getD (4 * t) 0).toNat_lt
      have b1 := (l.getD (4 * t + 1) 0).toNat_lt
      have b2 := (l.getD (4 * t + 2) 0).toNat_lt
      have b3 := (l.getD (4 * t + 3) 0).toNat_lt
      have HW : Hid (word l t = 16777216 * (l.getD (4 * t) 0).toNat + 65536 * (l.getD (4 * t + 1) 0).toNat + 256 * (l.getD (4 * t + 2) 0).toNat + (l.getD (4 * t + 3) 0).toNat) := rfl
      obtain ⟨y0, e0⟩ : ∃ y, (l.getD (4 * t) 0).toNat = y := ⟨_, rfl⟩
      obtain ⟨y1, e1⟩ : ∃ y, (l.getD (4 * t + 1) 0).toNat = y := ⟨_, rfl⟩
      obtain ⟨y2, e2⟩ : ∃ y, (l.getD (4 * t + 2) 0).toNat = y := ⟨_, rfl⟩
      obtain ⟨y3, e3⟩ : ∃ y, (l.getD (4 * t + 3) 0).toNat = y := ⟨_, rfl⟩
      rw [e0] at c0 b0 HW
      rw [e1] at c1 b1 HW
      rw [e2] at c2 b2 HW
      rw [e3] at c3 b3 HW
      clear e0 e1 e2 e3
      have s1 : IntKind.i64.wrap (4 * (t : Int)) = 4 * (t : Int) := by rw [IntKind.wrap_i64]; omega
      have s2 : IntKind.i64.wrap (4 * (t : Int) + 1) = 4 * (t : Int) + 1 := by rw [IntKind.wrap_i64]; omega
      have s3 : IntKind.i64.wrap (4 * (t : Int) + 2) = 4 * (t : Int) + 2 := by rw [IntKind.wrap_i64]; omega
      have s4 : IntKind.i64.wrap (4 * (t : Int) + 3) = 4 * (t : Int) + 3 := by rw [IntKind.wrap_i64]; omega
      have t1 : (4 * (t : Int)).toNat = 4 * t := by omega
      have t2 : (4 * (t : Int) + 1).toNat = 4 * t + 1 := by omega
      have t3 : (4 * (t : Int) + 2).toNat = 4 * t + 2 := by omega
      have t4 : (4 * (t : Int) + 3).toNat = 4 * t + 3 := by omega
      have p1 : (0 : Int) ≤ 4 * (t : Int) := by omega
      have p2 : (0 : Int) ≤ 4 * (t : Int) + 1 := by omega
      have p3 : (0 : Int) ≤ 4 * (t : Int) + 2 := by omega
      have p4 : (0 : Int) ≤ 4 * (t : Int) + 3 := by omega
      have q1 : 4 * (t : Int) < 64 := by omega
      have q2 : 4 * (t : Int) + 1 < 64 := by omega
      have q3 : 4 * (t : Int) + 2 < 64 := by omega
      have q4 : 4 * (t : Int) + 3 < 64 := by omega
      have q5 : (t : Int) < 64 := by omega
      have v0 : IntKind.u32.wrap (y0 : Int) = (y0 : Int) := wrap_small (by omega) (by omega)
      have v1 : IntKind.u32.wrap (y1 : Int) = (y1 : Int) := wrap_small (by omega) (by omega)
      have v2 : IntKind.u32.wrap (y2 : Int) = (y2 : Int) := wrap_small (by omega) (by omega)
      have v3 : IntKind.u32.wrap (y3 : Int) = (y3 : Int) := wrap_small (by omega) (by omega)
      have x0 : IntKind.u32.wrap ((y0 : Int) * 16777216) = (y0 : Int) * 16777216 := wrap_small (by omega) (by omega)
      have x1 : IntKind.u32.wrap ((y1 : Int) * 65536) = (y1 : Int) * 65536 := wrap_small (by omega) (by omega)
      have x2 : IntKind.u32.wrap ((y2 : Int) * 256) = (y2 : Int) * 256 := wrap_small (by omega) (by omega)
      have o1 : bits .or .u32 ((y0 : Int) * 16777216) ((y1 : Int) * 65536) = (y0 : Int) * 16777216 + (y1 : Int) * 65536 := by
        have h := or_add (a := y0 * 16777216) (b := y1 * 65536) 24 (by omega) (by omega) (by omega)
        rw [Int.natCast_mul, Int.natCast_mul] at h
        exact h
      have o2 : bits .or .u32 ((y0 : Int) * 16777216 + (y1 : Int) * 65536) ((y2 : Int) * 256) = (y0 : Int) * 16777216 + (y1 : Int) * 65536 + (y2 : Int) * 256 := by
        have h := or_add (a := y0 * 16777216 + y1 * 65536) (b := y2 * 256) 16 (by omega) (by omega) (by omega)
        rw [Int.natCast_add, Int.natCast_mul, Int.natCast_mul, Int.natCast_mul] at h
        exact h
      have o3 : bits .or .u32 ((y0 : Int) * 16777216 + (y1 : Int) * 65536 + (y2 : Int) * 256) (y3 : Int) = (y0 : Int) * 16777216 + (y1 : Int) * 65536 + (y2 : Int) * 256 + (y3 : Int) := by
        have h := or_add (a := y0 * 16777216 + y1 * 65536 + y2 * 256) (b := y3) 8 (by omega) (by omega) (by omega)
        rw [Int.natCast_add, Int.natCast_add, Int.natCast_mul, Int.natCast_mul, Int.natCast_mul] at h
        exact h
      have hne : g3 ≠ g2 ∧ g3 ≠ w.heap.size ∧ w.heap.size ≤ g3 := by have := HN.out; omega
      have HV : Hid ((y0 : Int) * 16777216 + (y1 : Int) * 65536 + (y2 : Int) * 256 + (y3 : Int) = ((word l t : Nat) : Int)) := by show _ = _; rw [HW.out]; omega
      have HSET : Hid (Blk (wr.drew.setCell ⟨g3, t, none⟩ (.int .u32 ((y0 : Int) * 16777216 + (y1 : Int) * 65536 + (y2 : Int) * 256 + (y3 : Int)))) g3 57 (wcells (row 64 (upd f t (word l t))))) := by
        have h := Blk.set (w := wr.drew) hB3 t (.int .u32 ((word l t : Nat) : Int))
        rw [row_set, ← HV.out] at h
        exact h
      have HB2 : Hid (Blk (wr.drew.setCell ⟨g3, t, none⟩ (.int .u32 ((y0 : Int) * 16777216 + (y1 : Int) * 65536 + (y2 : Int) * 256 + (y3 : Int)))) g2 57 Z) := Blk.set_other (w := wr.drew) hB2 hne.1 t _
      have HB1 : Hid (Blk (wr.drew.setCell ⟨g3, t, none⟩ (.int .u32 ((y0 : Int) * 16777216 + (y1 : Int) * 65536 + (y2 : Int) * 256 + (y3 : Int)))) w.heap.size 50 L) := Blk.set_other (w := wr.drew) hB1 hne.2.1 t _
      have HBX : Hid (Below w.heap.size w (wr.drew.setCell ⟨g3, t, none⟩ (.int .u32 ((y0 : Int) * 16777216 + (y1 : Int) * 65536 + (y2 : Int) * 256 + (y3 : Int))))) := hbx.drew.setCell hne.2.2 _
      have HF2 : Hid (∀ j, j < t + 1 → upd f t (word l t) j = word l j) := by
        intro j hj
        by_cases he : j = t
        · rw [he, upd_at]
        · rw [upd_ne he]; exact HF.out j (by omega)
      clear hB3 hB2 hB1 hbx HF HW HV hne
      go_still_tail 31, (by kernel_rfl)
      change wpList _ _ _ _ _ wr.drew
      obtain ⟨wd', hwd⟩ : ∃ wd', wd' = wr.drew := ⟨_, rfl⟩
      rw [← hwd] at HSET HB2 HB1 HBX ⊢
      have f3 : wd'.frozen? ⟨g3, t, none⟩ = false := by rw [hwd]; exact ft
      have d1 : ∃ x, wd'.cell? ⟨g3, t, none⟩ = some x := ⟨_, by rw [hwd]; exact ct⟩
      obtain ⟨xd, d1⟩ := d1
      clear hwd ct ft c0 c1 c2 c3
      go_wp2_with fail
      go_roundg g
      case measure => omega
      case rel => exact ⟨t + 1, _, by omega, by go_num, HF2, HSET.out, HB2.out, HB1.out, HBX.out⟩
end Go.Proofs.YtohmhcglmaifpaaDoor.sha
