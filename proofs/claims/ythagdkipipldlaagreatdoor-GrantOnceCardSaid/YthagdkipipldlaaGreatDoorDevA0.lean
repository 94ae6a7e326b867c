/- Several texts in one: Dev1, Dev2, Dev3, Dev4, Dev5, Dev6, Dev7, Dev8, Dev9. Conditions: as each theorem says. -/
import Derived.Test.YthagdkipipldlaaGreatDoorShaA
import Derived.StillTailTactics
import Derived.Deep.MidRow
import Derived.Deep.RegionHeld3
import Derived.Deep.DeepCutAuto
namespace Go.Proofs.YthagdkipipldlaaGreatDoor.sha
open Go.RowKit
open Go.Proofs.YthagdkipipldlaaGreatDoor.oct Go.Proofs.YthagdkipipldlaaGreatDoor.ref Go.Proofs.YthagdkipipldlaaGreatDoor.rows
open Go.Lib (byteCells)

theorem or_u32 (a b : Nat) (ha : a < 2 ^ 32) (hb : b < 2 ^ 32) : bits .or .u32 (a : Int) (b : Int) = ((a ||| b : Nat) : Int) := by
  have ha' : a % 2 ^ 32 = a := Nat.mod_eq_of_lt ha
  have hb' : b % 2 ^ 32 = b := Nat.mod_eq_of_lt hb
  have hk : IntKind.u32.bits = 32 := rfl
  simp only [bits, BitVec.ofInt_natCast, BitVec.toNat_or, BitVec.toNat_ofNat, hk, ha', hb']
  exact wraps_u32 _ (Int.natCast_nonneg _) (by have := Nat.or_lt_two_pow (n := 32) ha hb; omega)
theorem rot_nat (x n s : Nat) (hx : x < 4294967296) (hn : n + s = 32) : (x * 2 ^ s % 4294967296) ||| (x / 2 ^ n) = rotN n x := by
  have e : 4294967296 = 2 ^ n * 2 ^ s := by rw [← Nat.pow_add, hn]
  have h1 : x / 2 ^ n < 2 ^ s := by
    rw [Nat.div_lt_iff_lt_mul (Nat.two_pow_pos n), Nat.mul_comm, ← e]; exact hx
  rw [rotN_eq n (by omega) x, e, Nat.mul_mod_mul_right, show 32 - n = s from by omega, Nat.add_comm, Nat.mul_comm (x % 2 ^ n), Nat.two_pow_add_eq_or_of_lt h1]
theorem rot_val (x n s : Nat) (hx : x < 4294967296) (hn : n + s = 32) : bits .or .u32 ((x : Int) * 2 ^ s % 4294967296) ((x : Int) / 2 ^ n) = ((rotN n x : Nat) : Int) := by
  rw [← rot_nat x n s hx hn, ← or_u32 _ _ (Nat.mod_lt _ (by decide)) (Nat.lt_of_le_of_lt (Nat.div_le_self _ _) hx)]
  simp

set_option maxHeartbeats 400000 in
theorem rotl_c (x n s : Nat) (hx : x < 4294967296) (hn : n + s = 32) (h0 : 0 < n) (h1 : 0 < s) (hs : bits .and .u64 (IntKind.u64.wrap (-(n : Int))) 31 = (s : Int)) (w : World) :
    Calls Tryz.prog 193 #[.int .u32 x, .int .i64 (-(n : Int))] w fun e w' => e = .returned (.int .u32 (rotN n x : Nat)) ∧ w = w' := by
  have s1 : (s : Int) ≤ 31 := by omega
  have s2 : (0 : Int) ≤ s := by omega
  have s3 : IntKind.u64.wrap (32 - (s : Int)) = (n : Int) := by rw [IntKind.wrap_u64]; omega
  have s4 : (n : Int) ≤ 31 := by omega
  have s5 : 1 ≤ n := h0
  have HV := Lib.hid (rot_val x n s hx hn)
  clear hn h0
  go_enter Tryz.func193, Tryz.ntmps193
  go_wp2_with fail
  go_ret
  exact ⟨ret_int HV.out, rfl⟩

set_option maxHeartbeats 400000 in
theorem turned_n (x n s : Nat) (hx : x < 4294967296) (hn : n + s = 32) (h0 : 0 < n) (h1 : 0 < s) (hs : bits .and .u64 (IntKind.u64.wrap (-(n : Int))) 31 = (s : Int)) (w : World) :
    Calls Tryz.prog 192 #[.int .u32 x, .int .i64 n] w fun e w' => e = .returned (.int .u32 (rotN n x : Nat)) ∧ w = w' := by
  have H := Lib.hid (rotl_c x n s hx hn h0 h1 hs w)
  have s4 : (n : Int) ≤ 31 := by omega
  clear hs hn h0 h1
  go_enter Tryz.func192, Tryz.ntmps192
  go_wp2_with fail
  refine H.out.mono ?_
  rintro e w' ⟨rfl, rfl⟩
  go_wp2_with fail
  go_ret
  exact ⟨rfl, rfl⟩

/-- the turns that are asked for -/
def turnOk (n : Nat) : Bool := decide (0 < n) && decide (n < 32) && decide (bits .and .u64 (IntKind.u64.wrap (-(n : Int))) 31 = ((32 - n : Nat) : Int))
theorem turned_c (x n : Nat) (m : Int) (hm : m = n) (hx : x < 4294967296) (h : turnOk n = true) (w : World) :
    Calls Tryz.prog 192 #[.int .u32 x, .int .i64 m] w fun e w' => e = .returned (.int .u32 (rotN n x : Nat)) ∧ w = w' := by
  subst hm
  simp only [turnOk, Bool.and_eq_true, decide_eq_true_eq] at h
  exact turned_n x n (32 - n) hx (by omega) h.1.1 (by omega) h.2 w
theorem turnOk_all : turnOk 2 = true ∧ turnOk 6 = true ∧ turnOk 7 = true ∧ turnOk 11 = true ∧ turnOk 13 = true ∧ turnOk 17 = true ∧ turnOk 18 = true ∧ turnOk 19 = true ∧ turnOk 22 = true ∧ turnOk 25 = true := by
  decide +kernel
end Go.Proofs.YthagdkipipldlaaGreatDoor.sha

namespace Go.Proofs.YthagdkipipldlaaGreatDoor.sha
open Go.RowKit
open Go.Proofs.YthagdkipipldlaaGreatDoor.oct Go.Proofs.YthagdkipipldlaaGreatDoor.ref Go.Proofs.YthagdkipipldlaaGreatDoor.rows
open Go.Lib (byteCells)

theorem or_add {a b : Nat} (k : Nat) (ha : a % 2 ^ k = 0) (hb : b < 2 ^ k) (h : a + b < 4294967296) : bits .or .u32 (a : Int) (b : Int) = (a : Int) + (b : Int) := by
  rw [or_u32 a b (by omega) (by omega), show a = 2 ^ k * (a / 2 ^ k) from by have := Nat.div_add_mod a (2 ^ k); omega, ← Nat.two_pow_add_eq_or_of_lt hb]
  rfl
theorem wrap_small {x : Int} (h0 : 0 ≤ x) (h1 : x < 4294967296) : IntKind.u32.wrap x = x := by rw [IntKind.wrap_u32]; omega

set_option maxRecDepth 8000 in
set_option maxHeartbeats 2000000 in
theorem spread_c (l : List UInt8) (w : World) (hl : l.length = 64) :
    Calls Tryz.prog 191 #[.agg (byteCells l).toArray] w fun e w' => e = .returned (.agg (wcells (row 64 (wd l))).toArray) ∧ Below w.heap.size w w' := by
  have HL := Lib.hid hl
  have HI : Hid ((Tryz.prog.info? 199).map (·.size) = some 64) := info64
  have HC := Lib.hid (show (byteCells l).length = 64 by rw [byteCells_len, hl])
  have HAT : Hid (∀ i, i < 64 → (byteCells l)[i]? = some (.int .u8 ((l.getD i 0).toNat : Int))) := by
    intro i hi
    simp [byteCells, List.getD, List.getElem?_eq_getElem (show i < l.length by omega)]
  obtain ⟨L, hL⟩ : ∃ L, byteCells l = L := ⟨_, rfl⟩
  rw [hL] at HC HAT ⊢
  clear hl hL
  go_enter Tryz.func191, Tryz.ntmps191
  go_wp2_with fail
  have hB1 : Blk (w.alloc (.cells L.toArray 223)) w.heap.size 223 L := blk_new w _ _ _ rfl
  have hb1 := (Below.refl w.heap.size w).alloc (Nat.le_refl _) (.cells L.toArray 223)
  obtain ⟨w1, hw1⟩ : ∃ w1, w1 = w.alloc (.cells L.toArray 223) := ⟨_, rfl⟩
  have hs1 : w1.heap.size = w.heap.size + 1 := by rw [hw1]; simp
  rw [← hw1] at hB1 hb1
  have hB2 : Blk (w1.alloc (.cells (wcells (row 64 fun _ => 0)).toArray 199)) w1.heap.size 199 (wcells (row 64 fun _ => 0)) := blk_new w1 _ _ _ rfl
  have hB1' := blk_old hB1 (.cells (wcells (row 64 fun _ => 0)).toArray 199)
  have hb2 := hb1.alloc hb1.size (.cells (wcells (row 64 fun _ => 0)).toArray 199)
  obtain ⟨w2, hw2⟩ : ∃ w2, w2 = w1.alloc (.cells (wcells (row 64 fun _ => 0)).toArray 199) := ⟨_, rfl⟩
  have hs2 : w2.heap.size = w.heap.size + 1 + 1 := by rw [hw2]; simp [hs1]
  rw [← hw2] at hB2 hB1' hb2
  have hB3 : Blk (w2.alloc (.cells (wcells (row 64 fun _ => 0)).toArray 199)) w2.heap.size 199 (wcells (row 64 fun _ => 0)) := blk_new w2 _ _ _ rfl
  have hB2' := blk_old hB2 (.cells (wcells (row 64 fun _ => 0)).toArray 199)
  have hB1'' := blk_old hB1' (.cells (wcells (row 64 fun _ => 0)).toArray 199)
  have hb3 := hb2.alloc hb2.size (.cells (wcells (row 64 fun _ => 0)).toArray 199)
  change Code.wp _ _ _ _ (((w.alloc (.cells L.toArray 223)).alloc (.cells (wcells (row 64 fun _ => 0)).toArray 199)).alloc (.cells (wcells (row 64 fun _ => 0)).toArray 199))
  rw [← hw1, ← hw2]
  obtain ⟨w3, hw3⟩ : ∃ w3, w3 = w2.alloc (.cells (wcells (row 64 fun _ => 0)).toArray 199) := ⟨_, rfl⟩
  rw [← hw3] at hB3 hB2' hB1'' hb3 ⊢
  rw [hs1] at hB2'
  rw [hs2] at hB3
  clear hw1 hw2 hw3 hB1 hB2 hB1' hb1 hb2 hs1 hs2
  obtain ⟨g3, hg3⟩ : ∃ g3, g3 = w.heap.size + 1 + 1 := ⟨_, rfl⟩
  rw [← hg3] at hB3 ⊢
  obtain ⟨g2, hg2⟩ : ∃ g2, g2 = w.heap.size + 1 := ⟨_, rfl⟩
  rw [← hg2] at hB2' ⊢
  have HN : Hid (g3 = w.heap.size + 1 + 1 ∧ g2 = w.heap.size + 1) := ⟨hg3, hg2⟩
  clear hg3 hg2
  generalize hZ : wcells (row 64 fun _ => 0) = Z at hB2'
  have HZ := Lib.hid hZ
  clear hZ
  go_loopg [8] 16 (fun g s8 wy => ∃ (t : Nat) (f : Nat → Nat), t + g = 16 ∧ s8 = .int .i64 t ∧ Hid (∀ j, j < t → f j = word l j) ∧ Blk wy g3 199 (wcells (row 64 f)) ∧ Blk wy g2 199 Z ∧ Blk wy w.heap.size 223 L ∧ Below w.heap.size w wy)
  case atStart => exact ⟨0, _, rfl, rfl, fun j h => by omega, hB3, hB2', hB1'', hb3⟩
  case round =>
    clear hB3 hB2' hB1'' hb3
    obtain ⟨t, f, htg, rfl, HF, hB3, hB2, hB1, hbx⟩ := hrel
    rcases gk with _ | g
    · obtain rfl : t = 16 := by omega
      have HF2 : Hid (∀ j, j < 16 → f j = wd l j) := fun j hj => by rw [HF.out j hj, wd_lo l hj]
      clear HF
      go_wp2_with fail
      go_loopg [5] 48 (fun g s5 wy => ∃ (t : Nat) (f : Nat → Nat), t + g = 64 ∧ 16 ≤ t ∧ s5 = .int .i64 t ∧ Hid (∀ j, j < t → f j = wd l j) ∧ Blk wy g3 199 (wcells (row 64 f)) ∧ Blk wy g2 199 Z ∧ Below w.heap.size w wy)
      case atStart => exact ⟨16, f, rfl, Nat.le_refl _, rfl, HF2, hB3, hB2, hbx⟩
      case round =>
        clear HF2 hB3 hB2 hB1 hbx
        obtain ⟨t, f, htg, h16, rfl, HF, hB3, hB2, hbx⟩ := hrel
        rcases gk with _ | g
        · obtain rfl : t = 64 := by omega
          have he : row 64 f = row 64 (wd l) := row_eq HF.out
          rw [he] at hB3
          have hX := row_len 64 (wd l)
          have h1 := row_one 64 (wd l)
          have hXi : Hid ((Tryz.prog.info? 199).map (·.size) = some (wcells (row 64 (wd l))).length) := by show _ = _; rw [hX]; exact info64
          have hO : Z.length = (wcells (row 64 (wd l))).length := by rw [← HZ.out, row_len, row_len]
          have HB3 := Lib.hid hB3
          have HB2 := Lib.hid hB2
          obtain ⟨X, hXe⟩ : ∃ X, wcells (row 64 (wd l)) = X := ⟨_, rfl⟩
          rw [hXe] at HB3 h1 hXi hO
          have HXE := Lib.hid hXe
          have hle : w.heap.size ≤ g2 := by have := HN.out; omega
          clear hXe hB3 hB2 he HF hX
          go_wp2_with (first
            | (with_reducible refine wpList_load_blk rfl 199 (.tmp 3) rfl g3 X 199 HB3.out rfl _ Tryz.underlying199 rfl hXi.out ?_)
            | (with_reducible refine wpList_store_blk rfl 199 (.tmp 2) (.tmp 86) rfl g2 X Z 199 HB2.out rfl rfl hXi.out hO h1 ?_; intro w1 hR hW))
          refine bodyPost_ret (v := .agg X.toArray) (results_blk Tryz.results191 _ _ g2 199 X _ rfl hR Tryz.underlying199 rfl hXi.out) rfl ⟨by rw [HXE.out], hW.below _ _ hbx hle⟩
        · have htI : (t : Int) < 64 := by omega
          have e2 := HF.out (t - 2) (by omega)
          have e7 := HF.out (t - 7) (by omega)
          have e15 := HF.out (t - 15) (by omega)
          have e16 := HF.out (t - 16) (by omega)
          have l2 := wd_lt l (t - 2)
          have l7 := wd_lt l (t - 7)
          have l15 := wd_lt l (t - 15)
          have l16 := wd_lt l (t - 16)
          have hW := wd_hi l h16
          have c2 := (hB3.cell (t - 2)).trans (row_at f (by omega))
          have c7 := (hB3.cell (t - 7)).trans (row_at f (by omega))
          have c15 := (hB3.cell (t - 15)).trans (row_at f (by omega))
          have c16 := (hB3.cell (t - 16)).trans (row_at f (by omega))
          have ct := (hB3.cell t).trans (row_at f (by omega))
          have ft := hB3.frozen t
          rw [e2] at c2
          rw [e7] at c7
          rw [e15] at c15
          rw [e16] at c16
          obtain ⟨X, hX⟩ : ∃ X, wd l (t - 2) = X := ⟨_, rfl⟩
          obtain ⟨Y, hY⟩ : ∃ Y, wd l (t - 15) = Y := ⟨_, rfl⟩
          obtain ⟨U, hU⟩ : ∃ U, wd l (t - 7) = U := ⟨_, rfl⟩
          obtain ⟨V, hV⟩ : ∃ V, wd l (t - 16) = V := ⟨_, rfl⟩
          rw [hX] at c2 l2 hW
          rw [hY] at c15 l15 hW
          rw [hU] at c7 l7 hW
          rw [hV] at c16 l16 hW
          clear e2 e7 e15 e16 hX hY hU hV
          have x1 := xor3 _ _ _ (rotN_lt 17 l2) (rotN_lt 19 l2) (dwn_lt 10 l2)
          have x0 := xor3 _ _ _ (rotN_lt 7 l15) (rotN_lt 18 l15) (dwn_lt 3 l15)
          rw [show rotN 17 X ^^^ rotN 19 X ^^^ dwn 10 X = s1 X from rfl] at x1
          rw [show rotN 7 Y ^^^ rotN 18 Y ^^^ dwn 3 Y = s0 Y from rfl] at x0
          have d1 : ((dwn 10 X : Nat) : Int) = (X : Int) / 1024 := by rw [dwn_eq]; omega
          have d0 : ((dwn 3 Y : Nat) : Int) = (Y : Int) / 8 := by rw [dwn_eq]; omega
          rw [d1] at x1
          rw [d0] at x0
          have y1 := s1_lt l2
          have y0 := s0_lt l15
          obtain ⟨A1, q1, a1⟩ := add32 y1 l7
          obtain ⟨A2, q2, a2⟩ := add32 a1.1 y0
          obtain ⟨A3, q3, a3⟩ := add32 a2.1 l16
          have HW : Hid (A3 = wd l t) := by show _ = _; rw [hW, a3.2, a2.2, a1.2]; omega
          have r1 : IntKind.i64.wrap ((t : Int) - 7) = (t : Int) - 7 := by rw [IntKind.wrap_i64]; omega
          have r2 : ((t : Int) - 7).toNat = t - 7 := by omega
          have r3 : (0 : Int) ≤ (t : Int) - 7 := by omega
          have r4 : (t : Int) - 7 < 64 := by omega
          have r5 : IntKind.i64.wrap ((t : Int) - 16) = (t : Int) - 16 := by rw [IntKind.wrap_i64]; omega
          have r6 : ((t : Int) - 16).toNat = t - 16 := by omega
          have r7 : (0 : Int) ≤ (t : Int) - 16 := by omega
          have r8 : (t : Int) - 16 < 64 := by omega
          have r21 : IntKind.i64.wrap ((t : Int) - 2) = (t : Int) - 2 := by rw [IntKind.wrap_i64]; omega
          have r22 : ((t : Int) - 2).toNat = t - 2 := by omega
          have r23 : (0 : Int) ≤ (t : Int) - 2 := by omega
          have r24 : (t : Int) - 2 < 64 := by omega
          have r25 : IntKind.i64.wrap ((t : Int) - 15) = (t : Int) - 15 := by rw [IntKind.wrap_i64]; omega
          have r26 : ((t : Int) - 15).toNat = t - 15 := by omega
          have r27 : (0 : Int) ≤ (t : Int) - 15 := by omega
          have r28 : (t : Int) - 15 < 64 := by omega
          have r9 : (7 : Int) ≤ (t : Int) := by omega
          have r10 : (16 : Int) ≤ (t : Int) := by omega
          have r11 : (t : Int) < 71 := by omega
          have r12 : (t : Int) < 80 := by omega
          clear hW a1 a2 a3
          go_wp2_with fail
          go_quiet (fail)
          have hB3n := hB3.drewN nq
          have hB2n := hB2.drewN nq
          have hbn := below_drewN hbx nq
          obtain ⟨wn, hwn⟩ : ∃ wn, wn = wr.drewN nq := ⟨_, rfl⟩
          rw [← hwn] at hB3n hB2n hbn ⊢
          have k7 : wn.cell? ⟨g3, t - 7, none⟩ = some (.int .u32 (U : Int)) := by rw [hwn]; exact c7
          have k16 : wn.cell? ⟨g3, t - 16, none⟩ = some (.int .u32 (V : Int)) := by rw [hwn]; exact c16
          have kt' : wn.cell? ⟨g3, t, none⟩ = some (.int .u32 (f t : Nat)) := by rw [hwn]; exact ct
          have kf : wn.frozen? ⟨g3, t, none⟩ = false := by rw [hwn]; exact ft
          have z1 := Lib.hid (turned_c X 17 17 rfl l2 turnOk_all.2.2.2.2.2.1 wn)
          have z2 := Lib.hid (turned_c X 19 19 rfl l2 turnOk_all.2.2.2.2.2.2.2.1 wn)
          have z4 := Lib.hid (turned_c Y 7 7 rfl l15 turnOk_all.2.2.1 wn)
          have z5 := Lib.hid (turned_c Y 18 18 rfl l15 turnOk_all.2.2.2.2.2.2.1 wn)
          clear hB3 hB2 hbx c2 c7 c15 c16 ct ft hwn
          go_wp2_with fail
          refine z1.out.mono ?_
          rintro e w' ⟨rfl, rfl⟩
          go_wp2_with fail
          refine z2.out.mono ?_
          rintro e w' ⟨rfl, rfl⟩
          go_wp2_with fail
          refine z4.out.mono ?_
          rintro e w' ⟨rfl, rfl⟩
          go_wp2_with fail
          refine z5.out.mono ?_
          rintro e w' ⟨rfl, rfl⟩
          have hne : g3 ≠ g2 ∧ w.heap.size ≤ g3 := by have := HN.out; omega
          have HSET : Hid (Blk (wn.drew.setCell ⟨g3, t, none⟩ (.int .u32 (A3 : Int))) g3 199 (wcells (row 64 (upd f t (wd l t))))) := by
            have h := Blk.set (w := wn.drew) hB3n t (.int .u32 ((wd l t : Nat) : Int))
            rw [row_set, ← HW.out] at h
            rw [← HW.out]
            exact h
          have HB2 : Hid (Blk (wn.drew.setCell ⟨g3, t, none⟩ (.int .u32 (A3 : Int))) g2 199 Z) := Blk.set_other (w := wn.drew) hB2n hne.1 t _
          have HBX : Hid (Below w.heap.size w (wn.drew.setCell ⟨g3, t, none⟩ (.int .u32 (A3 : Int)))) := hbn.drew.setCell hne.2 _
          have HF2 : Hid (∀ j, j < t + 1 → upd f t (wd l t) j = wd l j) := by
            intro j hj
            by_cases he : j = t
            · rw [he, upd_at]
            · rw [upd_ne he]; exact HF.out j (by omega)
          clear hB3n hB2n hbn HF HW hne z1 z2 z4 z5
          go_wp2_with fail
          go_still_tail 15, (by kernel_rfl)
          change wpList _ _ _ _ _ wn.drew
          obtain ⟨wd', hwd⟩ : ∃ wd', wd' = wn.drew := ⟨_, rfl⟩
          rw [← hwd] at HSET HB2 HBX ⊢
          have f3 : wd'.frozen? ⟨g3, t, none⟩ = false := by rw [hwd]; exact kf
          have d3 : wd'.cell? ⟨g3, t, none⟩ = some (.int .u32 (f t : Nat)) := by rw [hwd]; exact kt'
          clear hwd kf kt' k7 k16
          go_wp2_with fail
          go_roundg g
          case measure => omega
          case rel => exact ⟨t + 1, _, by omega, by omega, by go_num, HF2, HSET.out, HB2.out, HBX.out⟩
    · have ht : t < 16 := by omega
      have htI : (t : Int) < 16 := by omega
      go_wp2_with fail
      have c0 := (hB1.cell (4 * t)).trans (HAT.out _ (by omega))
      have c1 := (hB1.cell (4 * t + 1)).trans (HAT.out _ (by omega))
      have c2 := (hB1.cell (4 * t + 2)).trans (HAT.out _ (by omega))
      have c3 := (hB1.cell (4 * t + 3)).trans (HAT.out _ (by omega))
      have ct := (hB3.cell t).trans (row_at f (by omega))
      have ft := hB3.frozen t
      have b0 := (l.getD (4 * t) 0).toNat_lt
      have b1 := (l.getD (4 * t + 1) 0).toNat_lt
      have b2 := (l.getD (4 * t + 2) 0).toNat_lt
      have b3 := (l.getD (4 * t + 3) 0).toNat_lt
      have HW : Hid (word l t = 16777216 * (l.getD (4 * t) 0).toNat + 65536 * (l.getD (4 * t + 1) 0).toNat + 256 * (l.getD (4 * t + 2) 0).toNat + (l.getD (4 * t + 3) 0).toNat) := rfl
      obtain ⟨y0, e0⟩ : ∃ y, (l.getD (4 * t) 0).toNat = y := ⟨_, rfl⟩
      obtain ⟨y1, e1⟩ : ∃ y, (l.getD (4 * t + 1) 0).toNat = y := ⟨_, rfl⟩
      obtain ⟨y2, e2⟩ : ∃ y, (l.getD (4 * t + 2) 0).toNat = y := ⟨_, rfl⟩
      obtain ⟨y3, e3⟩ : ∃ y, (l.getD (4 * t + 3) 0).toNat = y := ⟨_, rfl⟩
      rw [e0] at c0 b0 HW
      rw [e1] at c1 b1 HW
      rw [e2] at c2 b2 HW
      rw [e3] at c3 b3 HW
      clear e0 e1 e2 e3
      have s1 : IntKind.i64.wrap (4 * (t : Int)) = 4 * (t : Int) := by rw [IntKind.wrap_i64]; omega
      have s2 : IntKind.i64.wrap (4 * (t : Int) + 1) = 4 * (t : Int) + 1 := by rw [IntKind.wrap_i64]; omega
      have s3 : IntKind.i64.wrap (4 * (t : Int) + 2) = 4 * (t : Int) + 2 := by rw [IntKind.wrap_i64]; omega
      have s4 : IntKind.i64.wrap (4 * (t : Int) + 3) = 4 * (t : Int) + 3 := by rw [IntKind.wrap_i64]; omega
      have t1 : (4 * (t : Int)).toNat = 4 * t := by omega
      have t2 : (4 * (t : Int) + 1).toNat = 4 * t + 1 := by omega
      have t3 : (4 * (t : Int) + 2).toNat = 4 * t + 2 := by omega
      have t4 : (4 * (t : Int) + 3).toNat = 4 * t + 3 := by omega
      have p1 : (0 : Int) ≤ 4 * (t : Int) := by omega
      have p2 : (0 : Int) ≤ 4 * (t : Int) + 1 := by omega
      have p3 : (0 : Int) ≤ 4 * (t : Int) + 2 := by omega
      have p4 : (0 : Int) ≤ 4 * (t : Int) + 3 := by omega
      have q1 : 4 * (t : Int) < 64 := by omega
      have q2 : 4 * (t : Int) + 1 < 64 := by omega
      have q3 : 4 * (t : Int) + 2 < 64 := by omega
      have q4 : 4 * (t : Int) + 3 < 64 := by omega
      have q5 : (t : Int) < 64 := by omega
      have v0 : IntKind.u32.wrap (y0 : Int) = (y0 : Int) := wrap_small (by omega) (by omega)
      have v1 : IntKind.u32.wrap (y1 : Int) = (y1 : Int) := wrap_small (by omega) (by omega)
      have v2 : IntKind.u32.wrap (y2 : Int) = (y2 : Int) := wrap_small (by omega) (by omega)
      have v3 : IntKind.u32.wrap (y3 : Int) = (y3 : Int) := wrap_small (by omega) (by omega)
      have x0 : IntKind.u32.wrap ((y0 : Int) * 16777216) = (y0 : Int) * 16777216 := wrap_small (by omega) (by omega)
      have x1 : IntKind.u32.wrap ((y1 : Int) * 65536) = (y1 : Int) * 65536 := wrap_small (by omega) (by omega)
      have x2 : IntKind.u32.wrap ((y2 : Int) * 256) = (y2 : Int) * 256 := wrap_small (by omega) (by omega)
      have o1 : bits .or .u32 ((y0 : Int) * 16777216) ((y1 : Int) * 65536) = (y0 : Int) * 16777216 + (y1 : Int) * 65536 := by
        have h := or_add (a := y0 * 16777216) (b := y1 * 65536) 24 (by omega) (by omega) (by omega)
        rw [Int.natCast_mul, Int.natCast_mul] at h
        exact h
      have o2 : bits .or .u32 ((y0 : Int) * 16777216 + (y1 : Int) * 65536) ((y2 : Int) * 256) = (y0 : Int) * 16777216 + (y1 : Int) * 65536 + (y2 : Int) * 256 := by
        have h := or_add (a := y0 * 16777216 + y1 * 65536) (b := y2 * 256) 16 (by omega) (by omega) (by omega)
        rw [Int.natCast_add, Int.natCast_mul, Int.natCast_mul, Int.natCast_mul] at h
        exact h
      have o3 : bits .or .u32 ((y0 : Int) * 16777216 + (y1 : Int) * 65536 + (y2 : Int) * 256) (y3 : Int) = (y0 : Int) * 16777216 + (y1 : Int) * 65536 + (y2 : Int) * 256 + (y3 : Int) := by
        have h := or_add (a := y0 * 16777216 + y1 * 65536 + y2 * 256) (b := y3) 8 (by omega) (by omega) (by omega)
        rw [Int.natCast_add, Int.natCast_add, Int.natCast_mul, Int.natCast_mul, Int.natCast_mul] at h
        exact h
      have hne : g3 ≠ g2 ∧ g3 ≠ w.heap.size ∧ w.heap.size ≤ g3 := by have := HN.out; omega
      have HV : Hid ((y0 : Int) * 16777216 + (y1 : Int) * 65536 + (y2 : Int) * 256 + (y3 : Int) = ((word l t : Nat) : Int)) := by show _ = _; rw [HW.out]; omega
      have HSET : Hid (Blk (wr.drew.setCell ⟨g3, t, none⟩ (.int .u32 ((y0 : Int) * 16777216 + (y1 : Int) * 65536 + (y2 : Int) * 256 + (y3 : Int)))) g3 199 (wcells (row 64 (upd f t (word l t))))) := by
        have h := Blk.set (w := wr.drew) hB3 t (.int .u32 ((word l t : Nat) : Int))
        rw [row_set, ← HV.out] at h
        exact h
      have HB2 : Hid (Blk (wr.drew.setCell ⟨g3, t, none⟩ (.int .u32 ((y0 : Int) * 16777216 + (y1 : Int) * 65536 + (y2 : Int) * 256 + (y3 : Int)))) g2 199 Z) := Blk.set_other (w := wr.drew) hB2 hne.1 t _
      have HB1 : Hid (Blk (wr.drew.setCell ⟨g3, t, none⟩ (.int .u32 ((y0 : Int) * 16777216 + (y1 : Int) * 65536 + (y2 : Int) * 256 + (y3 : Int)))) w.heap.size 223 L) := Blk.set_other (w := wr.drew) hB1 hne.2.1 t _
      have HBX : Hid (Below w.heap.size w (wr.drew.setCell ⟨g3, t, none⟩ (.int .u32 ((y0 : Int) * 16777216 + (y1 : Int) * 65536 + (y2 : Int) * 256 + (y3 : Int))))) := hbx.drew.setCell hne.2.2 _
      have HF2 : Hid (∀ j, j < t + 1 → upd f t (word l t) j = word l j) := by
        intro j hj
        by_cases he : j = t
        · rw [he, upd_at]
        · rw [upd_ne he]; exact HF.out j (by omega)
      clear hB3 hB2 hB1 hbx HF HW HV hne
      go_still_tail 31, (by kernel_rfl)
      change wpList _ _ _ _ _ wr.drew
      obtain ⟨wd', hwd⟩ : ∃ wd', wd' = wr.drew := ⟨_, rfl⟩
      rw [← hwd] at HSET HB2 HB1 HBX ⊢
      have f3 : wd'.frozen? ⟨g3, t, none⟩ = false := by rw [hwd]; exact ft
      have d1 : ∃ x, wd'.cell? ⟨g3, t, none⟩ = some x := ⟨_, by rw [hwd]; exact ct⟩
      obtain ⟨xd, d1⟩ := d1
      clear hwd ct ft c0 c1 c2 c3
      go_wp2_with fail
      go_roundg g
      case measure => omega
      case rel => exact ⟨t + 1, _, by omega, by go_num, HF2, HSET.out, HB2.out, HB1.out, HBX.out⟩
end Go.Proofs.YthagdkipipldlaaGreatDoor.sha

namespace Go.Proofs.YthagdkipipldlaaGreatDoor.sha
open Go.RowKit
open Go.Proofs.YthagdkipipldlaaGreatDoor.oct Go.Proofs.YthagdkipipldlaaGreatDoor.ref Go.Proofs.YthagdkipipldlaaGreatDoor.rows
open Go.Lib (byteCells)

/-- an element of an array by value -/
theorem run_index_row {P : Program} (w : World) (t e : TypeId) (n : Nat) (d : TypeDesc) (cs : List Value) (i : Nat) (v : Value) (h : P.underlying t = some (.array n e)) (hd : P.underlying e = some d) (hda : (match d with | .struct _ | .array _ _ => true | _ => false) = false)
    (he : (P.info? e).map (·.size) = some 1) (hi : i < n) (hc : cs[i]? = some v) : (Instr.index t (.agg cs.toArray) (.int .i64 i)).run P w = .ok v w := by
  have hagg : (isAgg e).run P w = .ok false w := by
    unfold isAgg
    rw [Sem.run_bind, run_underlying hd w]
    cases d <;> simp_all
  cases hq : P.info? e with
  | none => simp [hq] at he
  | some j =>
    have hs : j.size = 1 := by simpa [hq] using he
    have hb : (0 : Int) ≤ (i : Int) ∧ (i : Int) < (n : Int) := by omega
    simp [Instr.index, run_underlying h, asIntOf, hb, sizeOf, typeInfo, hq, hs, Go.part, hagg, hc, hi, Sem.run_bind]
theorem wpList_index_row {P : Program} {ops : Array Oper} {rest : List Oper} {o : Oper} {a : Act} {w : World} {Q : Exit → Act → World → Prop} (hgd : o.guard = none) (t : TypeId) (x y : Operand) (ho : o.op = .index t x y)
    (e : TypeId) (n : Nat) (d : TypeDesc) (cs : List Value) (i : Nat) (v : Value) (hx : a.eval x = .agg cs.toArray) (hy : a.eval y = .int .i64 i)
    (h : P.underlying t = some (.array n e)) (hd : P.underlying e = some d) (hda : (match d with | .struct _ | .array _ _ => true | _ => false) = false) (he : (P.info? e).map (·.size) = some 1) (hi : i < n) (hc : cs[i]? = some v)
    (hk : wpList P ops Q rest (a.put o.dst v) w) : wpList P ops Q (o :: rest) a w :=
  wpList_plain hgd fun K hK => by
    unfold Oper.wp execOp
    simp only [ho, hx, hy, run_index_row w t e n d cs i v h hd hda he hi hc, Result.andThen_ok, Sem.run_bind, Sem.run_pure]
    exact hK _ _ hk

/-- what sha needs of the package's variables -/
structure Tabs (w : World) : Prop where
  k : ∀ i, i < 64 → w.cell? ⟨1, i, none⟩ = some (.int .u32 ((kt.getD i 0 : Nat) : Int))
  h : ∀ i, i < 8 → w.cell? ⟨2, i, none⟩ = some (.int .u32 ((st0.at i : Nat) : Int))
theorem Tabs.below {w w' : World} (h : Tabs w) (hb : Below w.heap.size w w') : Tabs w' :=
  ⟨fun i hi => (hb.cell (p := ⟨1, i, none⟩) (cell_lt (h.k i hi))).trans (h.k i hi), fun i hi => (hb.cell (p := ⟨2, i, none⟩) (cell_lt (h.h i hi))).trans (h.h i hi)⟩
theorem Tabs.lt {w : World} (h : Tabs w) : 1 < w.heap.size ∧ 2 < w.heap.size := ⟨cell_lt (h.k 0 (by decide)), cell_lt (h.h 0 (by decide))⟩
theorem Tabs.grown {w w' : World} {g : Nat} (h : Tabs w) (hg : w.grownBy w' (some g)) (h0 : g ≠ 1) (h1 : g ≠ 2) : Tabs w' := by
  have e0 := hg.block 1 h.lt.1 (fun e => h0 (by cases e; rfl))
  have e1 := hg.block 2 h.lt.2 (fun e => h1 (by cases e; rfl))
  refine ⟨fun i hi => ?_, fun i hi => ?_⟩
  · rw [← h.k i hi]; simp only [World.cell?, e0]
  · rw [← h.h i hi]; simp only [World.cell?, e1]

/-- the cells of a hash: eight words, a block, a number -/
def hrow (f : Nat → Nat) (b : Nat → UInt8) (n : Nat) : List Value := wcells (row 8 f) ++ (byteCells (brow 64 b) ++ [.int .i64 ((n : Nat) : Int)])
theorem hrow_len (f b n) : (hrow f b n).length = 73 := by simp [hrow, row_len, bcells_len]
theorem hrow_word (f b n) {i : Nat} (h : i < 8) : (hrow f b n)[i]? = some (.int .u32 ((f i : Nat) : Int)) := by
  unfold hrow
  rw [List.getElem?_append_left (by rw [row_len]; exact h), row_at f h]
theorem hrow_byte (f b n) {j : Nat} (h : j < 64) : (hrow f b n)[8 + j]? = some (.int .u8 ((b j).toNat : Int)) := by
  unfold hrow
  rw [List.getElem?_append_right (by rw [row_len]; omega), row_len, Nat.add_sub_cancel_left, List.getElem?_append_left (by rw [bcells_len]; exact h), brow_at b h]
theorem hrow_told (f b n) : (hrow f b n)[72]? = some (.int .i64 ((n : Nat) : Int)) := by
  unfold hrow
  rw [List.getElem?_append_right (by rw [row_len]; omega), row_len, List.getElem?_append_right (by rw [bcells_len]; omega), bcells_len]
  rfl
theorem hrow_one (f b n) : ∀ v ∈ hrow f b n, v.oneCell' = true := by
  intro v hv
  simp only [hrow, List.mem_append, List.mem_singleton] at hv
  rcases hv with h | h | rfl
  · exact row_one _ _ v h
  · exact bytes_one _ v h
  · rfl
theorem hrow_setw (f b n) {i : Nat} (h : i < 8) (v : Nat) : (hrow f b n).set i (.int .u32 ((v : Nat) : Int)) = hrow (upd f i v) b n := by
  unfold hrow
  rw [List.set_append_left _ _ (by rw [row_len]; exact h), row_set]
theorem hrow_sett (f b n) (m : Nat) : (hrow f b n).set 72 (.int .i64 ((m : Nat) : Int)) = hrow f b m := by
  unfold hrow
  rw [List.set_append_right _ _ (by rw [row_len]; omega), row_len, List.set_append_right _ _ (by rw [bcells_len]; omega), bcells_len]
  rfl
/-- m bytes laid into a block from r on -/
def lay (b : Nat → UInt8) (r : Nat) (m : List UInt8) : Nat → UInt8 := fun j => if r ≤ j ∧ j < r + m.length then m.getD (j - r) 0 else b j
theorem hrow_splice (f b n) (r : Nat) (m : List UInt8) (h : r + m.length ≤ 64) : splice (hrow f b n) (8 + r) (byteCells m) = hrow f (lay b r m) n := by
  have hm : (byteCells m).length = m.length := byteCells_len m
  apply List.ext_getElem?
  intro i
  unfold splice
  by_cases h1 : i < 8 + r
  · rw [List.getElem?_append_left (by rw [List.length_take, hrow_len]; omega), List.getElem?_take, if_pos h1]
    by_cases h8 : i < 8
    · rw [hrow_word _ _ _ h8, hrow_word _ _ _ h8]
    · obtain ⟨j, rfl⟩ : ∃ j, i = 8 + j := ⟨i - 8, by omega⟩
      rw [hrow_byte _ _ _ (by omega), hrow_byte _ _ _ (by omega)]
      unfold lay
      rw [if_neg (by omega)]
  · rw [List.getElem?_append_right (by rw [List.length_take, hrow_len]; omega), List.length_take, hrow_len, Nat.min_eq_left (by omega)]
    by_cases h2 : i < 8 + r + m.length
    · rw [List.getElem?_append_left (by rw [hm]; omega)]
      obtain ⟨j, rfl⟩ : ∃ j, i = 8 + j := ⟨i - 8, by omega⟩
      rw [hrow_byte _ _ _ (by omega)]
      unfold lay
      rw [if_pos (by omega)]
      have hj : 8 + j - (8 + r) = j - r := by omega
      have hj2 : j - r < m.length := by omega
      rw [hj]
      simp [byteCells, List.getD, List.getElem?_eq_getElem hj2]
    · rw [List.getElem?_append_right (by rw [hm]; omega), List.getElem?_drop, hm]
      have hi : 8 + r + m.length + (i - (8 + r) - m.length) = i := by omega
      rw [hi]
      by_cases h72 : i < 72
      · obtain ⟨j, rfl⟩ : ∃ j, i = 8 + j := ⟨i - 8, by omega⟩
        rw [hrow_byte _ _ _ (by omega), hrow_byte _ _ _ (by omega)]
        unfold lay
        rw [if_neg (by omega)]
      · by_cases he : i = 72
        · subst he; rw [hrow_told, hrow_told]
        · rw [List.getElem?_eq_none (by rw [hrow_len]; omega), List.getElem?_eq_none (by rw [hrow_len]; omega)]
theorem range_words {w : World} {g e : Nat} {f b n} (h : Blk w g e (hrow f b n)) : w.rangeAt g 0 (wcells (row 8 f)) := by
  intro j v hj
  have hl : j < 8 := by
    rcases Nat.lt_or_ge j 8 with h1 | h1
    · exact h1
    · rw [List.getElem?_eq_none (by rw [row_len]; exact h1)] at hj; cases hj
  rw [Nat.zero_add, h.cell j, hrow_word _ _ _ hl, ← hj, row_at f hl]
theorem range_bytes {w : World} {g e : Nat} {f b n} (h : Blk w g e (hrow f b n)) : w.rangeAt g 8 (byteCells (brow 64 b)) := by
  intro j v hj
  have hl : j < 64 := by
    rcases Nat.lt_or_ge j 64 with h1 | h1
    · exact h1
    · rw [List.getElem?_eq_none (by rw [bcells_len]; exact h1)] at hj; cases hj
  rw [h.cell (8 + j), hrow_byte _ _ _ hl, ← hj, brow_at b hl]
theorem range_h0 {w : World} (h : Tabs w) : w.rangeAt 2 0 (wcells (row 8 st0.at)) := by
  intro j v hj
  have hl : j < 8 := by
    rcases Nat.lt_or_ge j 8 with h1 | h1
    · exact h1
    · rw [List.getElem?_eq_none (by rw [row_len]; exact h1)] at hj; cases hj
  rw [Nat.zero_add, h.h j hl, ← hj, row_at _ hl]
theorem infoW : (Tryz.prog.info? 153).map (·.size) = some 1 := by kernel_rfl
/-- the words that a hash comes to -/
def wsum (f : Nat → Nat) (i : Nat) : Nat := (st0.at i + f i) % 4294967296

set_option maxHeartbeats 2000000 in
theorem hwords_c (g : Nat) (f : Nat → Nat) (b : Nat → UInt8) (n : Nat) (w : World) (ht : Tabs w) (hf : ∀ i, i < 8 → f i < 4294967296) (hB : Blk w g 225 (hrow f b n)) :
    Calls Tryz.prog 190 #[.pointer (some ⟨g, 0, none⟩)] w fun e w' => e = .returned (.agg (wcells (row 8 (wsum f))).toArray) ∧ Below w.heap.size w w' := by
  have HT := Lib.hid ht
  have HF := Lib.hid hf
  have HB := Lib.hid hB
  have hi8 : Hid ((Tryz.prog.info? 177).map (·.size) = some (wcells (row 8 st0.at)).length) := by show _ = _; rw [row_len]; exact info8
  have hi8f : Hid ((Tryz.prog.info? 177).map (·.size) = some (wcells (row 8 f)).length) := by show _ = _; rw [row_len]; exact info8
  have HLF : Hid ((wcells (row 8 f)).length = 8) := row_len 8 f
  have HF8 : Hid (∀ i, i < 8 → (wcells (row 8 f))[i]? = some (.int .u32 ((f i : Nat) : Int))) := fun i hi => row_at f hi
  obtain ⟨F, hFe⟩ : ∃ F, wcells (row 8 f) = F := ⟨_, rfl⟩
  have HFE := Lib.hid hFe
  rw [hFe] at hi8f HF8 HLF
  clear ht hf hB hFe
  have HL0 : Hid ((wcells (row 8 st0.at)).length = 8) := row_len 8 st0.at
  have HO0 : Hid (∀ v ∈ wcells (row 8 st0.at), v.oneCell' = true) := row_one _ _
  obtain ⟨S0, hS0⟩ : ∃ S0, wcells (row 8 st0.at) = S0 := ⟨_, rfl⟩
  have HS0 := Lib.hid hS0
  have HR0 : Hid (∀ w', Below w.heap.size w w' → w'.rangeAt 2 0 S0) := fun w' hb => hS0 ▸ range_h0 (HT.out.below hb)
  rw [hS0] at hi8 HL0 HO0
  clear hS0
  have hZ0 : Blk (w.alloc (.cells (wcells (row 8 fun _ => 0)).toArray 177)) w.heap.size 177 (wcells (row 8 fun _ => 0)) := blk_new w _ _ _ rfl
  have hb0 := (Below.refl w.heap.size w).alloc (Nat.le_refl _) (.cells (wcells (row 8 fun _ => 0)).toArray 177)
  have HZ0 := Lib.hid hZ0
  have HB0 := Lib.hid hb0
  clear hZ0 hb0
  go_enter Tryz.func190, Tryz.ntmps190
  go_wp2_with (first
    | (with_reducible refine wpList_load_mid rfl 177 (.global 2) rfl 2 0 rfl S0 _ (HR0.out _ ((Below.refl _ _).alloc (Nat.le_refl _) _)) Tryz.underlying177 rfl hi8.out ?_)
    | ((with_reducible refine wpList_store_new_at rfl 177 (.tmp 3) (.tmp 6) rfl (w.heap.size + 1) (by simp) S0 177 _ rfl rfl hi8.out (Eq.trans (by decide) HL0.out.symm) HO0.out ?_); intro w1 hS hSb; have hbw := bnext HB0.out hSb; have hBw := HB.out.below hbw; have hZw := HZ0.out.below hSb; have HRG := Lib.hid (HFE.out ▸ range_words hBw))
    | (with_reducible refine wpList_load_mid rfl 177 (.tmp 9) rfl g 0 rfl F _ HRG.out Tryz.underlying177 rfl hi8f.out ?_))
  rw [← HS0.out] at hS
  obtain ⟨g3, hg3⟩ : ∃ g3, g3 = w.heap.size + 1 := ⟨_, rfl⟩
  rw [← hg3] at hS ⊢
  have HG := Lib.hid hg3
  clear hg3 hSb hBw HRG
  go_loopg [11] 8 (fun k s11 wy => ∃ (i : Nat) (h : Nat → Nat), i + k = 8 ∧ s11 = .int .i64 i ∧ Hid ((∀ j, j < i → h j = wsum f j) ∧ (∀ j, i ≤ j → h j = st0.at j)) ∧ Blk wy g3 177 (wcells (row 8 h)) ∧ Blk wy w.heap.size 177 (wcells (row 8 fun _ => 0)) ∧ Below w.heap.size w wy)
  case atStart => exact ⟨0, st0.at, rfl, rfl, ⟨fun j h => by omega, fun j _ => rfl⟩, hS, hZw, hbw⟩
  case round =>
    clear hS hZw hbw
    obtain ⟨i, h, hik, rfl, HH, hS, hZ, hbx⟩ := hrel
    rcases gk with _ | k
    · obtain rfl : i = 8 := by omega
      have he : row 8 h = row 8 (wsum f) := row_eq HH.out.1
      rw [he] at hS
      have hX := row_len 8 (wsum f)
      have h1 := row_one 8 (wsum f)
      have hXi : Hid ((Tryz.prog.info? 177).map (·.size) = some (wcells (row 8 (wsum f))).length) := by show _ = _; rw [hX]; exact info8
      have hO : (wcells (row 8 fun _ => 0)).length = (wcells (row 8 (wsum f))).length := by rw [row_len, row_len]
      have HS := Lib.hid hS
      have HZ := Lib.hid hZ
      obtain ⟨X, hXe⟩ : ∃ X, wcells (row 8 (wsum f)) = X := ⟨_, rfl⟩
      rw [hXe] at HS h1 hXi hO
      have HXE := Lib.hid hXe
      generalize wcells (row 8 fun _ => 0) = O at HZ hO
      clear hXe hS hZ he HH hX
      go_wp2_with (first
        | (with_reducible refine wpList_load_blk rfl 177 (.tmp 3) rfl g3 X 177 HS.out rfl _ Tryz.underlying177 rfl hXi.out ?_)
        | (with_reducible refine wpList_store_blk rfl 177 (.tmp 2) (.tmp 22) rfl w.heap.size X O 177 HZ.out rfl rfl hXi.out hO h1 ?_; intro w2 hR hW))
      refine bodyPost_ret (v := .agg X.toArray) (results_blk Tryz.results190 _ _ w.heap.size 177 X _ rfl hR Tryz.underlying177 rfl hXi.out) rfl ⟨by rw [HXE.out], hW.below _ _ hbx (Nat.le_refl _)⟩
    · have hi8' : i < 8 := by omega
      have hiI : (i : Int) < 8 := by omega
      have c1 := (hS.cell i).trans (row_at h hi8')
      have f1 := hS.frozen i
      rw [HH.out.2 i (Nat.le_refl _)] at c1
      have k1 := st_at st0_ok i hi8'
      have k2 := HF.out i hi8'
      have HFI := Lib.hid (HF8.out i hi8')
      have hne : g3 ≠ w.heap.size ∧ w.heap.size ≤ g3 := by have := HG.out; omega
      have HS1 : Hid (∀ j, j < i + 1 → upd h i (wsum f i) j = wsum f j) := by
        intro j hj
        by_cases he : j = i
        · rw [he, upd_at]
        · rw [upd_ne he]; exact HH.out.1 j (by omega)
      have HS2 : Hid (∀ j, i + 1 ≤ j → upd h i (wsum f i) j = st0.at j) := fun j hj => by rw [upd_ne (by omega)]; exact HH.out.2 j (by omega)
      have HWS : Hid (wsum f i = (st0.at i + f i) % 4294967296) := rfl
      obtain ⟨a, ha⟩ : ∃ a, st0.at i = a := ⟨_, rfl⟩
      obtain ⟨c, hc⟩ : ∃ c, f i = c := ⟨_, rfl⟩
      rw [ha] at c1 k1 HWS
      rw [hc] at k2 HFI HWS
      obtain ⟨A, q, hA⟩ := add32 k1 k2
      have HWA : Hid (wsum f i = A) := by show _ = _; rw [HWS.out, hA.2]
      rw [HWA.out] at HS1 HS2
      clear ha hc hA HWS
      have HSET : Hid (Blk (wr.setCell ⟨g3, i, none⟩ (.int .u32 (A : Int))) g3 177 (wcells (row 8 (upd h i A)))) := by
        have h := Blk.set (w := wr) hS i (.int .u32 (A : Int))
        rw [row_set] at h
        exact h
      have HZ : Hid (Blk (wr.setCell ⟨g3, i, none⟩ (.int .u32 (A : Int))) w.heap.size 177 (wcells (row 8 fun _ => 0))) := Blk.set_other (w := wr) hZ hne.1 i _
      have HBX : Hid (Below w.heap.size w (wr.setCell ⟨g3, i, none⟩ (.int .u32 (A : Int)))) := hbx.setCell hne.2 _
      clear hS hZ hbx HH HWA hne
      go_wp2_with (with_reducible refine wpList_index_row rfl 177 (.tmp 10) (.tmp 11) rfl 153 8 _ F i _ rfl rfl Tryz.underlying177 Tryz.underlying153 rfl infoW hi8' HFI.out ?_)
      go_roundg k
      case measure => omega
      case rel => exact ⟨i + 1, _, by omega, by go_num, ⟨HS1.out, HS2.out⟩, HSET.out, HZ.out, HBX.out⟩
end Go.Proofs.YthagdkipipldlaaGreatDoor.sha

namespace Go.Proofs.YthagdkipipldlaaGreatDoor.sha
open Go.RowKit
open Go.Proofs.YthagdkipipldlaaGreatDoor.oct Go.Proofs.YthagdkipipldlaaGreatDoor.ref Go.Proofs.YthagdkipipldlaaGreatDoor.rows
open Go.Lib (byteCells)

theorem not_xor (e : Nat) (he : e < 4294967296) : 4294967295 ^^^ e = 4294967295 - e := by
  have h := BitVec.toNat_not (x := BitVec.ofNat 32 e)
  rw [← BitVec.allOnes_xor] at h
  simp only [BitVec.toNat_xor, BitVec.toNat_allOnes, BitVec.toNat_ofNat] at h
  rw [Nat.mod_eq_of_lt (show e < 2 ^ 32 from he)] at h
  simpa using h
theorem wp_store_blk {P : Program} {o : Oper} {a : Act} {w : World} {K : Act → World → Prop} {Q : Exit → Act → World → Prop} (ty : TypeId) (x y : Operand) (ho : o.op = .store ty x y)
    (g : Nat) (X old : List Value) (t : TypeId) (hB : Blk w g t old) (hx : a.eval x = .pointer (some ⟨g, 0, none⟩)) (hy : a.eval y = .agg X.toArray) (hi : (P.info? ty).map (·.size) = some X.length)
    (hold : old.length = X.length) (h1 : ∀ v ∈ X, v.oneCell' = true)
    (h : ∀ w1, Blk w1 g t X → Wrote w w1 g → K (a.put o.dst undef) w1) : o.wp P a w K Q := by
  refine wp_store_row ty x y ho g X.toArray hx hy t old.toArray hB (by rw [hi, List.size_toArray]) (by rw [List.size_toArray, List.size_toArray, hold]) (by rw [Array.all_eq_true]; intro i hi2; exact h1 _ (by simp)) ?_
  exact h _ (setRow_heap _ _ _ _ _ _ hB) ⟨by simp, fun k hk => setRow_other _ _ _ _ hk, fun B w0 hb hg => below_setRow hb hg _⟩
theorem step_store_blk {P : Program} {ops : Array Oper} {o : Oper} {a : Act} {w : World} {K : Act → World → Prop} {Q : Exit → Act → World → Prop} {E : Prop} (hgd : o.guard = none) (ty : TypeId) (x y : Operand) (ho : o.op = .store ty x y)
    (g : Nat) (X old : List Value) (t : TypeId) (hB : Blk w g t old) (hx : a.eval x = .pointer (some ⟨g, 0, none⟩)) (hy : a.eval y = .agg X.toArray) (hi : (P.info? ty).map (·.size) = some X.length)
    (hold : old.length = X.length) (h1 : ∀ v ∈ X, v.oneCell' = true)
    (h : ∀ w1, Blk w1 g t X → Wrote w w1 g → K (a.put o.dst undef) w1) : if Region.wanted o (yielded ops a.tmps) = true then Oper.wp P o a w K Q else E := by
  have hw : Region.wanted o (yielded ops a.tmps) = true := by simp [Region.wanted, hgd]
  rw [if_pos hw]
  exact wp_store_blk ty x y ho g X old t hB hx hy hi hold h1 h
theorem ch_val2 (e f g : Nat) (he : e < 4294967296) (hf : f < 4294967296) (hg : g < 4294967296) :
    bits .xor .u32 (bits .and .u32 (e : Int) (f : Int)) (bits .and .u32 (bits .xor .u32 (if IntKind.u32.signed = true then -1 else IntKind.u32.max) (e : Int)) (g : Int)) = ((ch e f g : Nat) : Int) := by
  have h : bits .xor .u32 (if IntKind.u32.signed = true then -1 else IntKind.u32.max) (e : Int) = 4294967295 - (e : Int) := by
    rw [show (if IntKind.u32.signed = true then (-1 : Int) else IntKind.u32.max) = ((4294967295 : Nat) : Int) from by decide, xor_u32 _ e (by decide) he]
    have hx : 4294967295 ^^^ e = 4294967295 - e := not_xor e he
    rw [hx]; omega
  rw [h]
  exact ch_val e f g he hf hg
theorem grown_of_below {w w' : World} (g : Nat) (h : Below w.heap.size w w') : w.grownBy w' (some g) := ⟨h.os, h.tape, h.output, h.size, fun i hi _ => h.block i hi⟩
theorem grown_set {w w' : World} {g : Nat} (h : w.grownBy w' (some g)) (i : Nat) (v : Value) : w.grownBy (w'.drew.setCell ⟨g, i, none⟩ v) (some g) :=
  ⟨h.os, h.tape, h.output, by simpa [World.setCell] using h.size, fun k hk hr => by
    rw [Below.heap_setCell _ _ _ _ (fun e => hr (congrArg some e))]
    exact h.block k hk hr⟩
/-- eight words, as a state -/
def stOf (h : Nat → Nat) : St := ⟨h 0, h 1, h 2, h 3, h 4, h 5, h 6, h 7⟩
theorem stOf_at (h : Nat → Nat) (j : Nat) (hj : j < 8) : (stOf h).at j = h j := by
  match j, hj with
  | 0, _ => rfl
  | 1, _ => rfl
  | 2, _ => rfl
  | 3, _ => rfl
  | 4, _ => rfl
  | 5, _ => rfl
  | 6, _ => rfl
  | 7, _ => rfl
theorem stOf_ok {h : Nat → Nat} (k : ∀ i, i < 8 → h i < 4294967296) : (stOf h).ok :=
  ⟨k 0 (by decide), k 1 (by decide), k 2 (by decide), k 3 (by decide), k 4 (by decide), k 5 (by decide), k 6 (by decide), k 7 (by decide)⟩
theorem wsum_lt (f : Nat → Nat) (i : Nat) : wsum f i < 4294967296 := Nat.mod_lt _ (by decide)
/-- what the words have been moved on by, behind the block -/
def moved (f : Nat → Nat) (b : Nat → UInt8) (i : Nat) : Nat := (f i + (rnds (stOf (wsum f)) (brow 64 b) 64).at i) % 4294967296
theorem moved_lt (f b i) : moved f b i < 4294967296 := Nat.mod_lt _ (by decide)
theorem moved_sum (f : Nat → Nat) (b : Nat → UInt8) : stOf (wsum (moved f b)) = takeB (stOf (wsum f)) (brow 64 b) := by
  have e : ∀ j, j < 8 → wsum (moved f b) j = (takeB (stOf (wsum f)) (brow 64 b)).at j := by
    intro j hj
    unfold takeB
    rw [plus_at _ _ _ hj, stOf_at _ _ hj]
    unfold wsum moved
    unfold wsum
    omega
  generalize takeB (stOf (wsum f)) (brow 64 b) = T at e ⊢
  unfold stOf
  rw [e 0 (by decide), e 1 (by decide), e 2 (by decide), e 3 (by decide), e 4 (by decide), e 5 (by decide), e 6 (by decide), e 7 (by decide)]
  cases T
  rfl
/-- what take's first statement holds to -/
theorem one_next {w0 W W' : World} {g o : Nat} {D : List Value} (hb : Below W.heap.size W W') (k : Below w0.heap.size w0 W ∧ W.rangeAt g o D) : Below w0.heap.size w0 W' ∧ W'.rangeAt g o D := by
  refine ⟨bnext k.1 hb, fun j v hv => ?_⟩
  have h1 := k.2 j v hv
  have h2 : W'.heap[g]? = W.heap[g]? := hb.block g (cell_lt h1)
  simpa [World.cell?, h2] using h1
theorem one_alloc {w0 W : World} {g o : Nat} {D : List Value} (k : Below w0.heap.size w0 W ∧ W.rangeAt g o D) (ob : Obj) : Below w0.heap.size w0 (W.alloc ob) ∧ (W.alloc ob).rangeAt g o D :=
  one_next ((Below.refl _ _).alloc (Nat.le_refl _) ob) k
theorem one_wrote {w0 W W' : World} {g o h : Nat} {D : List Value} (k : Below w0.heap.size w0 W ∧ W.rangeAt g o D) (hw : Wrote W W' h) (hg : g < w0.heap.size) (hh : w0.heap.size ≤ h) : Below w0.heap.size w0 W' ∧ W'.rangeAt g o D := by
  refine ⟨hw.below _ _ k.1 hh, fun j v hv => ?_⟩
  have h1 := k.2 j v hv
  have h2 : W'.heap[g]? = W.heap[g]? := hw.other g (by omega)
  simpa [World.cell?, h2] using h1
theorem info50 : (Tryz.prog.info? 223).map (·.size) = some 64 := by kernel_rfl

set_option maxRecDepth 100000 in
set_option maxHeartbeats 4000000 in
theorem htake_c (g : Nat) (f : Nat → Nat) (b : Nat → UInt8) (n : Nat) (w : World) (ht : Tabs w) (hf : ∀ i, i < 8 → f i < 4294967296) (hB : Blk w g 225 (hrow f b n)) :
    Calls Tryz.prog 188 #[.pointer (some ⟨g, 0, none⟩)] w fun e w' => (∃ v, e = .returned v) ∧ Blk w' g 225 (hrow (moved f b) b n) ∧ w.grownBy w' (some g) := by
  have HT := Lib.hid ht
  have HF := Lib.hid hf
  have HB := Lib.hid hB
  have HS : Hid ((stOf (wsum f)).ok) := stOf_ok fun i _ => wsum_lt f i
  have HMV : Hid (∀ i, i < 8 → moved f b i = (f i + (rnds (stOf (wsum f)) (brow 64 b) 64).at i) % 4294967296) := fun i _ => rfl
  have HAT : Hid (∀ i, i < 8 → wsum f i = (stOf (wsum f)).at i) := fun i hi => (stOf_at _ i hi).symm
  obtain ⟨v, hv⟩ : ∃ v, stOf (wsum f) = v := ⟨_, rfl⟩
  have HWS : Hid (row 8 (wsum f) = row 8 v.at) := by show _ = _; rw [← hv]; exact row_eq fun i hi => (stOf_at _ i hi).symm
  rw [hv] at HS HMV HAT
  have HL : Hid ((brow 64 b).length = 64) := brow_len 64 b
  obtain ⟨l, hl⟩ : ∃ l, brow 64 b = l := ⟨_, rfl⟩
  have HRB : Hid (∀ W, Below w.heap.size w W → W.rangeAt g 8 (byteCells l)) := fun W hb => hl ▸ range_bytes (hB.below hb)
  rw [hl] at HMV HL
  have hD0 : w.drew.rangeAt g 8 (byteCells l) := HRB.out _ (Below.refl _ _).drew
  have hin : (Tryz.prog.info? 223).map (·.size) = some (byteCells l).length := by rw [byteCells_len, HL.out]; exact info50
  have hun := Tryz.underlying223
  have hgl := Blk.lt hB
  have hd0 := (Below.refl w.heap.size w).drew
  obtain ⟨D, hD⟩ : ∃ D, byteCells l = D := ⟨_, rfl⟩
  rw [hD] at hD0 hin
  have HD := Lib.hid hD
  have hXl := row_len 8 v.at
  have hX1 := row_one 8 v.at
  have hXi : Hid ((Tryz.prog.info? 177).map (·.size) = some (wcells (row 8 v.at)).length) := by show _ = _; rw [hXl]; exact info8
  have hWl := row_len 64 (wd l)
  have hW1 := row_one 64 (wd l)
  have hWi : Hid ((Tryz.prog.info? 199).map (·.size) = some (wcells (row 64 (wd l))).length) := by show _ = _; rw [hWl]; exact info64
  obtain ⟨X, hXe⟩ : ∃ X, wcells (row 8 v.at) = X := ⟨_, rfl⟩
  obtain ⟨Y, hYe⟩ : ∃ Y, wcells (row 64 (wd l)) = Y := ⟨_, rfl⟩
  rw [hXe] at hXl hX1 hXi
  rw [hYe] at hWl hW1 hWi
  have HXl := Lib.hid hXl
  have HX1 := Lib.hid hX1
  have HWl := Lib.hid hWl
  have HW1 := Lib.hid hW1
  have HXE := Lib.hid hXe
  have HYE := Lib.hid hYe
  have CW : Hid (∀ W, Below w.heap.size w W → Calls Tryz.prog 190 #[.pointer (some ⟨g, 0, none⟩)] W fun e w' => e = .returned (.agg X.toArray) ∧ Below W.heap.size W w') := fun W hb => by
    have h := hwords_c g f b n W (ht.below hb) hf (hB.below hb)
    rw [HWS.out, hXe] at h
    exact h
  have CS : Hid (∀ W, Calls Tryz.prog 191 #[.agg D.toArray] W fun e w' => e = .returned (.agg Y.toArray) ∧ Below W.heap.size W w') := fun W => by
    have h := spread_c l W HL.out
    rw [hD, hYe] at h
    exact h
  clear ht hf hB hv hl hD hXe hYe hXl hX1 hWl hW1
  go_enter Tryz.func188, Tryz.ntmps188
  go_upto_region 0 with fail
  go_cut [2, 3] from 20 to 26 (fun s2 s3 wx => ∃ g2 g3 : Nat, s2 = .pointer (some ⟨g2, 0, none⟩) ∧ s3 = .pointer (some ⟨g3, 0, none⟩) ∧ Hid (w.heap.size ≤ g2 ∧ w.heap.size ≤ g3 ∧ g2 ≠ g3) ∧ Blk wx g2 177 X ∧ Blk wx g3 199 Y ∧ Below w.heap.size w wx)
  case first =>
    refine wp_region_noPanic ?_
    refine wp_region_held_drew (S := (fun W => Below w.heap.size w W ∧ W.rangeAt g 8 D)) (by kernel_rfl) ⟨hd0, hD0⟩ (fun hHeld => ?_)
    refine wpAnyH_take (i := 0) (oi := ⟨some 20, _, _, _, _, _⟩) (v := ?_) rfl (by kernel_rfl) (by kernel_rfl) (by kernel_rfl) (fun _ _ _ h => h) (Or.inl ⟨by rfl, ?_⟩) (by assumption) ?_
    rotate_left
    · intro w hSw; (first | (go_simp; done) | (go_simp; with_reducible rfl))
    simp only [Act.put, List.setIfInBounds_toArray, List.set_cons_zero, List.set_cons_succ]
    refine wpAnyH_take (i := 2) (oi := ⟨some 22, _, _, _, _, _⟩) (v := ?_) rfl (by kernel_rfl) (by kernel_rfl) (by kernel_rfl) (fun _ _ _ h => h) (Or.inl ⟨by rfl, ?_⟩) (by assumption) ?_
    rotate_left
    · intro w hSw; (first | (go_simp; done) | (go_simp; with_reducible rfl))
    simp only [Act.put, List.setIfInBounds_toArray, List.set_cons_zero, List.set_cons_succ]
    refine wpAnyH_take (i := 3) (oi := ⟨some 23, _, _, _, _, _⟩) (v := ?_) rfl (by kernel_rfl) (by kernel_rfl) (by kernel_rfl) (fun _ _ _ h => h) (Or.inl ⟨by rfl, ?_⟩) (by assumption) ?_
    rotate_left
    · intro w hSw; (first | (go_simp; done) | (go_simp; with_reducible rfl))
    simp only [Act.put, List.setIfInBounds_toArray, List.set_cons_zero, List.set_cons_succ]
    refine wpAnyH_take (i := 4) (oi := ⟨some 24, _, _, _, _, _⟩) (v := ?_) rfl (by kernel_rfl) (by kernel_rfl) (by kernel_rfl) (fun _ _ _ h => h) (Or.inl ⟨by rfl, ?_⟩) (by assumption) ?_
    rotate_left
    · intro w hSw; (first | (go_simp; done) | (go_simp; with_reducible rfl))
    simp only [Act.put, List.setIfInBounds_toArray, List.set_cons_zero, List.set_cons_succ]
    refine wpAnyH_take (i := 5) (oi := ⟨some 25, _, _, _, _, _⟩) rfl (by kernel_rfl) (by kernel_rfl) (by kernel_rfl) (fun _ _ _ h => h) (yieldsIf_load_mid (by rfl) _ _ rfl _ _ rfl D _ (fun w hSw => hSw.2) hun rfl hin) (by assumption) ?_
    simp only [Act.put, List.setIfInBounds_toArray, List.set_cons_zero, List.set_cons_succ]
    obtain ⟨wx0, hwx⟩ : ∃ x, x = w.drew := ⟨_, rfl⟩
    rw [← hwx] at hHeld ⊢
    clear hwx hd0 hD0
    refine wpAnyH_ready (rs := [1, 7, 8]) (by kernel_rfl) (by simp) ?_
    refine AllReadyH.cons rfl (fun K hK => ?_) (AllReadyH.cons rfl (fun K hK => ?_) (AllReadyH.cons rfl (fun K hK => ?_) AllReadyH.nil))
    · skip
      go_simp
      go_wp2_with (go_at_call 190; refine (CW.out _ hHeld.1).mono ?_; rintro e wx1 ⟨rfl, hbk⟩)
      refine hK.out _ _ (one_next hbk hHeld) (fun hHeld => ?_)
      clear hK K hbk
      refine wpAnyH_ready (rs := [6, 7, 8]) (by kernel_rfl) (by simp) ?_
      refine AllReadyH.cons rfl (fun K hK => ?_) (AllReadyH.cons rfl (fun K hK => ?_) (AllReadyH.cons rfl (fun K hK => ?_) AllReadyH.nil))
      · skip
        go_simp
        go_wp2_with (go_at_call 191; refine (CS.out _).mono ?_; rintro e wx2 ⟨rfl, hbk⟩)
        refine hK.out _ _ (one_next hbk hHeld) (fun hHeld => ?_)
        clear hK K hbk
        refine wpAnyH_ready (rs := [7, 8]) (by kernel_rfl) (by simp) ?_
        refine AllReadyH.cons rfl (fun K hK => ?_) (AllReadyH.cons rfl (fun K hK => ?_) AllReadyH.nil)
        · skip
          have hle2 := hHeld.1.size
          go_simp
          go_wp2_with fail
          refine hK.out _ _ (one_alloc hHeld _) (fun hHeld => ?_)
          clear hK K
          have A2 := blk_new wx2 _ 177 (wcells (row 8 fun _ => 0)) rfl
          change wpAnyH _ _ _ _ _ _ _ _ (wx2.alloc (.cells (wcells (row 8 fun _ => 0)).toArray 177))
          replace hHeld : Below w.heap.size w (wx2.alloc (.cells (wcells (row 8 fun _ => 0)).toArray 177)) ∧ World.rangeAt (wx2.alloc (.cells (wcells (row 8 fun _ => 0)).toArray 177)) g 8 D := hHeld
          obtain ⟨wx3, hwn⟩ : ∃ x, x = wx2.alloc (.cells (wcells (row 8 fun _ => 0)).toArray 177) := ⟨_, rfl⟩
          rw [← hwn] at A2 hHeld ⊢
          obtain ⟨g2, hg2⟩ : ∃ x, x = wx2.heap.size := ⟨_, rfl⟩
          rw [← hg2] at A2 hle2 ⊢
          clear hwn hg2
          refine wpAnyH_ready (rs := [8]) (by kernel_rfl) (by simp) ?_
          refine AllReadyH.cons rfl (fun K hK => ?_) AllReadyH.nil
          have hle3 := hHeld.1.size
          go_simp
          go_wp2_with fail
          refine hK.out _ _ (one_alloc hHeld _) (fun hHeld => ?_)
          clear hK K
          have A3 := blk_new wx3 _ 199 (wcells (row 64 fun _ => 0)) rfl
          have hlt := A2.lt
          replace A2 := blk_old A2 (.cells (wcells (row 64 fun _ => 0)).toArray 199)
          change wpAnyH _ _ _ _ _ _ _ _ (wx3.alloc (.cells (wcells (row 64 fun _ => 0)).toArray 199))
          replace hHeld : Below w.heap.size w (wx3.alloc (.cells (wcells (row 64 fun _ => 0)).toArray 199)) ∧ World.rangeAt (wx3.alloc (.cells (wcells (row 64 fun _ => 0)).toArray 199)) g 8 D := hHeld
          obtain ⟨wx4, hwn⟩ : ∃ x, x = wx3.alloc (.cells (wcells (row 64 fun _ => 0)).toArray 199) := ⟨_, rfl⟩
          rw [← hwn] at A2 A3 hHeld ⊢
          obtain ⟨g3, hg3⟩ : ∃ x, x = wx3.heap.size := ⟨_, rfl⟩
          rw [← hg3] at A3 hle3 ⊢
          rw [← hg3] at hlt
          clear hwn hg3
          have hne : g2 ≠ g3 := by omega
          refine wpAnyH_ready (rs := [9]) (by kernel_rfl) (by simp) ?_
          refine AllReadyH.cons rfl (fun K hK => ?_) AllReadyH.nil
          refine step_store_blk rfl 177 (.tmp 2) (.tmp 21) rfl g2 X (wcells (row 8 fun _ => 0)) 177 A2 rfl rfl hXi.out (by rw [row_len]; exact HXl.out.symm) HX1.out ?_
          intro wa hA hW
          refine hK.out _ _ (one_wrote hHeld hW hgl hle2) (fun hHeld => ?_)
          replace A3 := hW.blk A3 hne.symm
          clear hK K hW A2
          refine wpAnyH_ready (rs := [10]) (by kernel_rfl) (by simp) ?_
          refine AllReadyH.cons rfl (fun K hK => ?_) AllReadyH.nil
          refine step_store_blk rfl 199 (.tmp 3) (.tmp 26) rfl g3 Y (wcells (row 64 fun _ => 0)) 199 A3 rfl rfl hWi.out (by rw [row_len]; exact HWl.out.symm) HW1.out ?_
          intro wb hC hW
          refine hK.out _ _ (one_wrote hHeld hW hgl hle3) (fun hHeld => ?_)
          replace hA := hW.blk hA hne
          clear hK K hW A3
          refine wpAnyH_done (by kernel_rfl) ?_ _
          refine NoPanic.normal ?_
          go_wp2_with fail
          go_meet
          exact ⟨g2, g3, rfl, rfl, ⟨hle2, hle3, hne⟩, hA, hC, hHeld.1⟩
        · skip
          have hle3 := hHeld.1.size
          go_simp
          go_wp2_with fail
          refine hK.out _ _ (one_alloc hHeld _) (fun hHeld => ?_)
          clear hK K
          have A3 := blk_new wx2 _ 199 (wcells (row 64 fun _ => 0)) rfl
          change wpAnyH _ _ _ _ _ _ _ _ (wx2.alloc (.cells (wcells (row 64 fun _ => 0)).toArray 199))
          replace hHeld : Below w.heap.size w (wx2.alloc (.cells (wcells (row 64 fun _ => 0)).toArray 199)) ∧ World.rangeAt (wx2.alloc (.cells (wcells (row 64 fun _ => 0)).toArray 199)) g 8 D := hHeld
          obtain ⟨wx3, hwn⟩ : ∃ x, x = wx2.alloc (.cells (wcells (row 64 fun _ => 0)).toArray 199) := ⟨_, rfl⟩
          rw [← hwn] at A3 hHeld ⊢
          obtain ⟨g3, hg3⟩ : ∃ x, x = wx2.heap.size := ⟨_, rfl⟩
          rw [← hg3] at A3 hle3 ⊢
          clear hwn hg3
          refine wpAnyH_ready (rs := [7]) (by kernel_rfl) (by simp) ?_
          refine AllReadyH.cons rfl (fun K hK => ?_) AllReadyH.nil
          have hle2 := hHeld.1.size
          go_simp
          go_wp2_with fail
          refine hK.out _ _ (one_alloc hHeld _) (fun hHeld => ?_)
          clear hK K
          have A2 := blk_new wx3 _ 177 (wcells (row 8 fun _ => 0)) rfl
          have hlt := A3.lt
          replace A3 := blk_old A3 (.cells (wcells (row 8 fun _ => 0)).toArray 177)
          change wpAnyH _ _ _ _ _ _ _ _ (wx3.alloc (.cells (wcells (row 8 fun _ => 0)).toArray 177))
          replace hHeld : Below w.heap.size w (wx3.alloc (.cells (wcells (row 8 fun _ => 0)).toArray 177)) ∧ World.rangeAt (wx3.alloc (.cells (wcells (row 8 fun _ => 0)).toArray 177)) g 8 D := hHeld
          obtain ⟨wx4, hwn⟩ : ∃ x, x = wx3.alloc (.cells (wcells (row 8 fun _ => 0)).toArray 177) := ⟨_, rfl⟩
          rw [← hwn] at A2 A3 hHeld ⊢
          obtain ⟨g2, hg2⟩ : ∃ x, x = wx3.heap.size := ⟨_, rfl⟩
          rw [← hg2] at A2 hle2 ⊢
          rw [← hg2] at hlt
          clear hwn hg2
          have hne : g2 ≠ g3 := by omega
          refine wpAnyH_ready (rs := [9]) (by kernel_rfl) (by simp) ?_
          refine AllReadyH.cons rfl (fun K hK => ?_) AllReadyH.nil
          refine step_store_blk rfl 177 (.tmp 2) (.tmp 21) rfl g2 X (wcells (row 8 fun _ => 0)) 177 A2 rfl rfl hXi.out (by rw [row_len]; exact HXl.out.symm) HX1.out ?_
          intro wa hA hW
          refine hK.out _ _ (one_wrote hHeld hW hgl hle2) (fun hHeld => ?_)
          replace A3 := hW.blk A3 hne.symm
          clear hK K hW A2
          refine wpAnyH_ready (rs := [10]) (by kernel_rfl) (by simp) ?_
          refine AllReadyH.cons rfl (fun K hK => ?_) AllReadyH.nil
          refine step_store_blk rfl 199 (.tmp 3) (.tmp 26) rfl g3 Y (wcells (row 64 fun _ => 0)) 199 A3 rfl rfl hWi.out (by rw [row_len]; exact HWl.out.symm) HW1.out ?_
          intro wb hC hW
          refine hK.out _ _ (one_wrote hHeld hW hgl hle3) (fun hHeld => ?_)
          replace hA := hW.blk hA hne
          clear hK K hW A3
          refine wpAnyH_done (by kernel_rfl) ?_ _
          refine NoPanic.normal ?_
          go_wp2_with fail
          go_meet
          exact ⟨g2, g3, rfl, rfl, ⟨hle2, hle3, hne⟩, hA, hC, hHeld.1⟩
      · skip
        have hle2 := hHeld.1.size
        go_simp
        go_wp2_with fail
        refine hK.out _ _ (one_alloc hHeld _) (fun hHeld => ?_)
        clear hK K
        have A2 := blk_new wx1 _ 177 (wcells (row 8 fun _ => 0)) rfl
        change wpAnyH _ _ _ _ _ _ _ _ (wx1.alloc (.cells (wcells (row 8 fun _ => 0)).toArray 177))
        replace hHeld : Below w.heap.size w (wx1.alloc (.cells (wcells (row 8 fun _ => 0)).toArray 177)) ∧ World.rangeAt (wx1.alloc (.cells (wcells (row 8 fun _ => 0)).toArray 177)) g 8 D := hHeld
        obtain ⟨wx2, hwn⟩ : ∃ x, x = wx1.alloc (.cells (wcells (row 8 fun _ => 0)).toArray 177) := ⟨_, rfl⟩
        rw [← hwn] at A2 hHeld ⊢
        obtain ⟨g2, hg2⟩ : ∃ x, x = wx1.heap.size := ⟨_, rfl⟩
        rw [← hg2] at A2 hle2 ⊢
        clear hwn hg2
        refine wpAnyH_ready (rs := [6, 8]) (by kernel_rfl) (by simp) ?_
        refine AllReadyH.cons rfl (fun K hK => ?_) (AllReadyH.cons rfl (fun K hK => ?_) AllReadyH.nil)
        · skip
          go_simp
          go_wp2_with (go_at_call 191; refine (CS.out _).mono ?_; rintro e wx3 ⟨rfl, hbk⟩)
          refine hK.out _ _ (one_next hbk hHeld) (fun hHeld => ?_)
          replace A2 := A2.below hbk
          clear hK K hbk
          refine wpAnyH_ready (rs := [8]) (by kernel_rfl) (by simp) ?_
          refine AllReadyH.cons rfl (fun K hK => ?_) AllReadyH.nil
          have hle3 := hHeld.1.size
          go_simp
          go_wp2_with fail
          refine hK.out _ _ (one_alloc hHeld _) (fun hHeld => ?_)
          clear hK K
          have A3 := blk_new wx3 _ 199 (wcells (row 64 fun _ => 0)) rfl
          have hlt := A2.lt
          replace A2 := blk_old A2 (.cells (wcells (row 64 fun _ => 0)).toArray 199)
          change wpAnyH _ _ _ _ _ _ _ _ (wx3.alloc (.cells (wcells (row 64 fun _ => 0)).toArray 199))
          replace hHeld : Below w.heap.size w (wx3.alloc (.cells (wcells (row 64 fun _ => 0)).toArray 199)) ∧ World.rangeAt (wx3.alloc (.cells (wcells (row 64 fun _ => 0)).toArray 199)) g 8 D := hHeld
          obtain ⟨wx4, hwn⟩ : ∃ x, x = wx3.alloc (.cells (wcells (row 64 fun _ => 0)).toArray 199) := ⟨_, rfl⟩
          rw [← hwn] at A2 A3 hHeld ⊢
          obtain ⟨g3, hg3⟩ : ∃ x, x = wx3.heap.size := ⟨_, rfl⟩
          rw [← hg3] at A3 hle3 ⊢
          rw [← hg3] at hlt
          clear hwn hg3
          have hne : g2 ≠ g3 := by omega
          refine wpAnyH_ready (rs := [9]) (by kernel_rfl) (by simp) ?_
          refine AllReadyH.cons rfl (fun K hK => ?_) AllReadyH.nil
          refine step_store_blk rfl 177 (.tmp 2) (.tmp 21) rfl g2 X (wcells (row 8 fun _ => 0)) 177 A2 rfl rfl hXi.out (by rw [row_len]; exact HXl.out.symm) HX1.out ?_
          intro wa hA hW
          refine hK.out _ _ (one_wrote hHeld hW hgl hle2) (fun hHeld => ?_)
          replace A3 := hW.blk A3 hne.symm
          clear hK K hW A2
          refine wpAnyH_ready (rs := [10]) (by kernel_rfl) (by simp) ?_
          refine AllReadyH.cons rfl (fun K hK => ?_) AllReadyH.nil
          refine step_store_blk rfl 199 (.tmp 3) (.tmp 26) rfl g3 Y (wcells (row 64 fun _ => 0)) 199 A3 rfl rfl hWi.out (by rw [row_len]; exact HWl.out.symm) HW1.out ?_
          intro wb hC hW
          refine hK.out _ _ (one_wrote hHeld hW hgl hle3) (fun hHeld => ?_)
          replace hA := hW.blk hA hne
          clear hK K hW A3
          refine wpAnyH_done (by kernel_rfl) ?_ _
          refine NoPanic.normal ?_
          go_wp2_with fail
          go_meet
          exact ⟨g2, g3, rfl, rfl, ⟨hle2, hle3, hne⟩, hA, hC, hHeld.1⟩
        · skip
          have hle3 := hHeld.1.size
          go_simp
          go_wp2_with fail
          refine hK.out _ _ (one_alloc hHeld _) (fun hHeld => ?_)
          clear hK K
          have A3 := blk_new wx2 _ 199 (wcells (row 64 fun _ => 0)) rfl
          have hlt := A2.lt
          replace A2 := blk_old A2 (.cells (wcells (row 64 fun _ => 0)).toArray 199)
          change wpAnyH _ _ _ _ _ _ _ _ (wx2.alloc (.cells (wcells (row 64 fun _ => 0)).toArray 199))
          replace hHeld : Below w.heap.size w (wx2.alloc (.cells (wcells (row 64 fun _ => 0)).toArray 199)) ∧ World.rangeAt (wx2.alloc (.cells (wcells (row 64 fun _ => 0)).toArray 199)) g 8 D := hHeld
          obtain ⟨wx3, hwn⟩ : ∃ x, x = wx2.alloc (.cells (wcells (row 64 fun _ => 0)).toArray 199) := ⟨_, rfl⟩
          rw [← hwn] at A2 A3 hHeld ⊢
          obtain ⟨g3, hg3⟩ : ∃ x, x = wx2.heap.size := ⟨_, rfl⟩
          rw [← hg3] at A3 hle3 ⊢
          rw [← hg3] at hlt
          clear hwn hg3
          refine wpAnyH_ready (rs := [6]) (by kernel_rfl) (by simp) ?_
          refine AllReadyH.cons rfl (fun K hK => ?_) AllReadyH.nil
          go_simp
          go_wp2_with (go_at_call 191; refine (CS.out _).mono ?_; rintro e wx4 ⟨rfl, hbk⟩)
          refine hK.out _ _ (one_next hbk hHeld) (fun hHeld => ?_)
          replace A2 := A2.below hbk
          replace A3 := A3.below hbk
          clear hK K hbk
          have hne : g2 ≠ g3 := by omega
          refine wpAnyH_ready (rs := [9]) (by kernel_rfl) (by simp) ?_
          refine AllReadyH.cons rfl (fun K hK => ?_) AllReadyH.nil
          refine step_store_blk rfl 177 (.tmp 2) (.tmp 21) rfl g2 X (wcells (row 8 fun _ => 0)) 177 A2 rfl rfl hXi.out (by rw [row_len]; exact HXl.out.symm) HX1.out ?_
          intro wa hA hW
          refine hK.out _ _ (one_wrote hHeld hW hgl hle2) (fun hHeld => ?_)
          replace A3 := hW.blk A3 hne.symm
          clear hK K hW A2
          refine wpAnyH_ready (rs := [10]) (by kernel_rfl) (by simp) ?_
          refine AllReadyH.cons rfl (fun K hK => ?_) AllReadyH.nil
          refine step_store_blk rfl 199 (.tmp 3) (.tmp 26) rfl g3 Y (wcells (row 64 fun _ => 0)) 199 A3 rfl rfl hWi.out (by rw [row_len]; exact HWl.out.symm) HW1.out ?_
          intro wb hC hW
          refine hK.out _ _ (one_wrote hHeld hW hgl hle3) (fun hHeld => ?_)
          replace hA := hW.blk hA hne
          clear hK K hW A3
          refine wpAnyH_done (by kernel_rfl) ?_ _
          refine NoPanic.normal ?_
          go_wp2_with fail
          go_meet
          exact ⟨g2, g3, rfl, rfl, ⟨hle2, hle3, hne⟩, hA, hC, hHeld.1⟩
      · skip
        have hle3 := hHeld.1.size
        go_simp
        go_wp2_with fail
        refine hK.out _ _ (one_alloc hHeld _) (fun hHeld => ?_)
        clear hK K
        have A3 := blk_new wx1 _ 199 (wcells (row 64 fun _ => 0)) rfl
        change wpAnyH _ _ _ _ _ _ _ _ (wx1.alloc (.cells (wcells (row 64 fun _ => 0)).toArray 199))
        replace hHeld : Below w.heap.size w (wx1.alloc (.cells (wcells (row 64 fun _ => 0)).toArray 199)) ∧ World.rangeAt (wx1.alloc (.cells (wcells (row 64 fun _ => 0)).toArray 199)) g 8 D := hHeld
        obtain ⟨wx2, hwn⟩ : ∃ x, x = wx1.alloc (.cells (wcells (row 64 fun _ => 0)).toArray 199) := ⟨_, rfl⟩
        rw [← hwn] at A3 hHeld ⊢
        obtain ⟨g3, hg3⟩ : ∃ x, x = wx1.heap.size := ⟨_, rfl⟩
        rw [← hg3] at A3 hle3 ⊢
        clear hwn hg3
        refine wpAnyH_ready (rs := [6, 7]) (by kernel_rfl) (by simp) ?_
        refine AllReadyH.cons rfl (fun K hK => ?_) (AllReadyH.cons rfl (fun K hK => ?_) AllReadyH.nil)
        · skip
          go_simp
          go_wp2_with (go_at_call 191; refine (CS.out _).mono ?_; rintro e wx3 ⟨rfl, hbk⟩)
          refine hK.out _ _ (one_next hbk hHeld) (fun hHeld => ?_)
          replace A3 := A3.below hbk
          clear hK K hbk
          refine wpAnyH_ready (rs := [7]) (by kernel_rfl) (by simp) ?_
          refine AllReadyH.cons rfl (fun K hK => ?_) AllReadyH.nil
          have hle2 := hHeld.1.size
          go_simp
          go_wp2_with fail
          refine hK.out _ _ (one_alloc hHeld _) (fun hHeld => ?_)
          clear hK K
          have A2 := blk_new wx3 _ 177 (wcells (row 8 fun _ => 0)) rfl
          have hlt := A3.lt
          replace A3 := blk_old A3 (.cells (wcells (row 8 fun _ => 0)).toArray 177)
          change wpAnyH _ _ _ _ _ _ _ _ (wx3.alloc (.cells (wcells (row 8 fun _ => 0)).toArray 177))
          replace hHeld : Below w.heap.size w (wx3.alloc (.cells (wcells (row 8 fun _ => 0)).toArray 177)) ∧ World.rangeAt (wx3.alloc (.cells (wcells (row 8 fun _ => 0)).toArray 177)) g 8 D := hHeld
          obtain ⟨wx4, hwn⟩ : ∃ x, x = wx3.alloc (.cells (wcells (row 8 fun _ => 0)).toArray 177) := ⟨_, rfl⟩
          rw [← hwn] at A2 A3 hHeld ⊢
          obtain ⟨g2, hg2⟩ : ∃ x, x = wx3.heap.size := ⟨_, rfl⟩
          rw [← hg2] at A2 hle2 ⊢
          rw [← hg2] at hlt
          clear hwn hg2
          have hne : g2 ≠ g3 := by omega
          refine wpAnyH_ready (rs := [9]) (by kernel_rfl) (by simp) ?_
          refine AllReadyH.cons rfl (fun K hK => ?_) AllReadyH.nil
          refine step_store_blk rfl 177 (.tmp 2) (.tmp 21) rfl g2 X (wcells (row 8 fun _ => 0)) 177 A2 rfl rfl hXi.out (by rw [row_len]; exact HXl.out.symm) HX1.out ?_
          intro wa hA hW
          refine hK.out _ _ (one_wrote hHeld hW hgl hle2) (fun hHeld => ?_)
          replace A3 := hW.blk A3 hne.symm
          clear hK K hW A2
          refine wpAnyH_ready (rs := [10]) (by kernel_rfl) (by simp) ?_
          refine AllReadyH.cons rfl (fun K hK => ?_) AllReadyH.nil
          refine step_store_blk rfl 199 (.tmp 3) (.tmp 26) rfl g3 Y (wcells (row 64 fun _ => 0)) 199 A3 rfl rfl hWi.out (by rw [row_len]; exact HWl.out.symm) HW1.out ?_
          intro wb hC hW
          refine hK.out _ _ (one_wrote hHeld hW hgl hle3) (fun hHeld => ?_)
          replace hA := hW.blk hA hne
          clear hK K hW A3
          refine wpAnyH_done (by kernel_rfl) ?_ _
          refine NoPanic.normal ?_
          go_wp2_with fail
          go_meet
          exact ⟨g2, g3, rfl, rfl, ⟨hle2, hle3, hne⟩, hA, hC, hHeld.1⟩
        · skip
          have hle2 := hHeld.1.size
          go_simp
          go_wp2_with fail
          refine hK.out _ _ (one_alloc hHeld _) (fun hHeld => ?_)
          clear hK K
          have A2 := blk_new wx2 _ 177 (wcells (row 8 fun _ => 0)) rfl
          have hlt := A3.lt
          replace A3 := blk_old A3 (.cells (wcells (row 8 fun _ => 0)).toArray 177)
          change wpAnyH _ _ _ _ _ _ _ _ (wx2.alloc (.cells (wcells (row 8 fun _ => 0)).toArray 177))
          replace hHeld : Below w.heap.size w (wx2.alloc (.cells (wcells (row 8 fun _ => 0)).toArray 177)) ∧ World.rangeAt (wx2.alloc (.cells (wcells (row 8 fun _ => 0)).toArray 177)) g 8 D := hHeld
          obtain ⟨wx3, hwn⟩ : ∃ x, x = wx2.alloc (.cells (wcells (row 8 fun _ => 0)).toArray 177) := ⟨_, rfl⟩
          rw [← hwn] at A2 A3 hHeld ⊢
          obtain ⟨g2, hg2⟩ : ∃ x, x = wx2.heap.size := ⟨_, rfl⟩
          rw [← hg2] at A2 hle2 ⊢
          rw [← hg2] at hlt
          clear hwn hg2
          refine wpAnyH_ready (rs := [6]) (by kernel_rfl) (by simp) ?_
          refine AllReadyH.cons rfl (fun K hK => ?_) AllReadyH.nil
          go_simp
          go_wp2_with (go_at_call 191; refine (CS.out _).mono ?_; rintro e wx4 ⟨rfl, hbk⟩)
          refine hK.out _ _ (one_next hbk hHeld) (fun hHeld => ?_)
          replace A2 := A2.below hbk
          replace A3 := A3.below hbk
          clear hK K hbk
          have hne : g2 ≠ g3 := by omega
          refine wpAnyH_ready (rs := [9]) (by kernel_rfl) (by simp) ?_
          refine AllReadyH.cons rfl (fun K hK => ?_) AllReadyH.nil
          refine step_store_blk rfl 177 (.tmp 2) (.tmp 21) rfl g2 X (wcells (row 8 fun _ => 0)) 177 A2 rfl rfl hXi.out (by rw [row_len]; exact HXl.out.symm) HX1.out ?_
          intro wa hA hW
          refine hK.out _ _ (one_wrote hHeld hW hgl hle2) (fun hHeld => ?_)
          replace A3 := hW.blk A3 hne.symm
          clear hK K hW A2
          refine wpAnyH_ready (rs := [10]) (by kernel_rfl) (by simp) ?_
          refine AllReadyH.cons rfl (fun K hK => ?_) AllReadyH.nil
          refine step_store_blk rfl 199 (.tmp 3) (.tmp 26) rfl g3 Y (wcells (row 64 fun _ => 0)) 199 A3 rfl rfl hWi.out (by rw [row_len]; exact HWl.out.symm) HW1.out ?_
          intro wb hC hW
          refine hK.out _ _ (one_wrote hHeld hW hgl hle3) (fun hHeld => ?_)
          replace hA := hW.blk hA hne
          clear hK K hW A3
          refine wpAnyH_done (by kernel_rfl) ?_ _
          refine NoPanic.normal ?_
          go_wp2_with fail
          go_meet
          exact ⟨g2, g3, rfl, rfl, ⟨hle2, hle3, hne⟩, hA, hC, hHeld.1⟩
    · skip
      have hle2 := hHeld.1.size
      go_simp
      go_wp2_with fail
      refine hK.out _ _ (one_alloc hHeld _) (fun hHeld => ?_)
      clear hK K
      have A2 := blk_new wx0 _ 177 (wcells (row 8 fun _ => 0)) rfl
      change wpAnyH _ _ _ _ _ _ _ _ (wx0.alloc (.cells (wcells (row 8 fun _ => 0)).toArray 177))
      replace hHeld : Below w.heap.size w (wx0.alloc (.cells (wcells (row 8 fun _ => 0)).toArray 177)) ∧ World.rangeAt (wx0.alloc (.cells (wcells (row 8 fun _ => 0)).toArray 177)) g 8 D := hHeld
      obtain ⟨wx1, hwn⟩ : ∃ x, x = wx0.alloc (.cells (wcells (row 8 fun _ => 0)).toArray 177) := ⟨_, rfl⟩
      rw [← hwn] at A2 hHeld ⊢
      obtain ⟨g2, hg2⟩ : ∃ x, x = wx0.heap.size := ⟨_, rfl⟩
      rw [← hg2] at A2 hle2 ⊢
      clear hwn hg2
      refine wpAnyH_ready (rs := [1, 8]) (by kernel_rfl) (by simp) ?_
      refine AllReadyH.cons rfl (fun K hK => ?_) (AllReadyH.cons rfl (fun K hK => ?_) AllReadyH.nil)
      · skip
        go_simp
        go_wp2_with (go_at_call 190; refine (CW.out _ hHeld.1).mono ?_; rintro e wx2 ⟨rfl, hbk⟩)
        refine hK.out _ _ (one_next hbk hHeld) (fun hHeld => ?_)
        replace A2 := A2.below hbk
        clear hK K hbk
        refine wpAnyH_ready (rs := [6, 8]) (by kernel_rfl) (by simp) ?_
        refine AllReadyH.cons rfl (fun K hK => ?_) (AllReadyH.cons rfl (fun K hK => ?_) AllReadyH.nil)
        · skip
          go_simp
          go_wp2_with (go_at_call 191; refine (CS.out _).mono ?_; rintro e wx3 ⟨rfl, hbk⟩)
          refine hK.out _ _ (one_next hbk hHeld) (fun hHeld => ?_)
          replace A2 := A2.below hbk
          clear hK K hbk
          refine wpAnyH_ready (rs := [8]) (by kernel_rfl) (by simp) ?_
          refine AllReadyH.cons rfl (fun K hK => ?_) AllReadyH.nil
          have hle3 := hHeld.1.size
          go_simp
          go_wp2_with fail
          refine hK.out _ _ (one_alloc hHeld _) (fun hHeld => ?_)
          clear hK K
          have A3 := blk_new wx3 _ 199 (wcells (row 64 fun _ => 0)) rfl
          have hlt := A2.lt
          replace A2 := blk_old A2 (.cells (wcells (row 64 fun _ => 0)).toArray 199)
          change wpAnyH _ _ _ _ _ _ _ _ (wx3.alloc (.cells (wcells (row 64 fun _ => 0)).toArray 199))
          replace hHeld : Below w.heap.size w (wx3.alloc (.cells (wcells (row 64 fun _ => 0)).toArray 199)) ∧ World.rangeAt (wx3.alloc (.cells (wcells (row 64 fun _ => 0)).toArray 199)) g 8 D := hHeld
          obtain ⟨wx4, hwn⟩ : ∃ x, x = wx3.alloc (.cells (wcells (row 64 fun _ => 0)).toArray 199) := ⟨_, rfl⟩
          rw [← hwn] at A2 A3 hHeld ⊢
          obtain ⟨g3, hg3⟩ : ∃ x, x = wx3.heap.size := ⟨_, rfl⟩
          rw [← hg3] at A3 hle3 ⊢
          rw [← hg3] at hlt
          clear hwn hg3
          have hne : g2 ≠ g3 := by omega
          refine wpAnyH_ready (rs := [9]) (by kernel_rfl) (by simp) ?_
          refine AllReadyH.cons rfl (fun K hK => ?_) AllReadyH.nil
          refine step_store_blk rfl 177 (.tmp 2) (.tmp 21) rfl g2 X (wcells (row 8 fun _ => 0)) 177 A2 rfl rfl hXi.out (by rw [row_len]; exact HXl.out.symm) HX1.out ?_
          intro wa hA hW
          refine hK.out _ _ (one_wrote hHeld hW hgl hle2) (fun hHeld => ?_)
          replace A3 := hW.blk A3 hne.symm
          clear hK K hW A2
          refine wpAnyH_ready (rs := [10]) (by kernel_rfl) (by simp) ?_
          refine AllReadyH.cons rfl (fun K hK => ?_) AllReadyH.nil
          refine step_store_blk rfl 199 (.tmp 3) (.tmp 26) rfl g3 Y (wcells (row 64 fun _ => 0)) 199 A3 rfl rfl hWi.out (by rw [row_len]; exact HWl.out.symm) HW1.out ?_
          intro wb hC hW
          refine hK.out _ _ (one_wrote hHeld hW hgl hle3) (fun hHeld => ?_)
          replace hA := hW.blk hA hne
          clear hK K hW A3
          refine wpAnyH_done (by kernel_rfl) ?_ _
          refine NoPanic.normal ?_
          go_wp2_with fail
          go_meet
          exact ⟨g2, g3, rfl, rfl, ⟨hle2, hle3, hne⟩, hA, hC, hHeld.1⟩
        · skip
          have hle3 := hHeld.1.size
          go_simp
          go_wp2_with fail
          refine hK.out _ _ (one_alloc hHeld _) (fun hHeld => ?_)
          clear hK K
          have A3 := blk_new wx2 _ 199 (wcells (row 64 fun _ => 0)) rfl
          have hlt := A2.lt
          replace A2 := blk_old A2 (.cells (wcells (row 64 fun _ => 0)).toArray 199)
          change wpAnyH _ _ _ _ _ _ _ _ (wx2.alloc (.cells (wcells (row 64 fun _ => 0)).toArray 199))
          replace hHeld : Below w.heap.size w (wx2.alloc (.cells (wcells (row 64 fun _ => 0)).toArray 199)) ∧ World.rangeAt (wx2.alloc (.cells (wcells (row 64 fun _ => 0)).toArray 199)) g 8 D := hHeld
          obtain ⟨wx3, hwn⟩ : ∃ x, x = wx2.alloc (.cells (wcells (row 64 fun _ => 0)).toArray 199) := ⟨_, rfl⟩
          rw [← hwn] at A2 A3 hHeld ⊢
          obtain ⟨g3, hg3⟩ : ∃ x, x = wx2.heap.size := ⟨_, rfl⟩
          rw [← hg3] at A3 hle3 ⊢
          rw [← hg3] at hlt
          clear hwn hg3
          refine wpAnyH_ready (rs := [6]) (by kernel_rfl) (by simp) ?_
          refine AllReadyH.cons rfl (fun K hK => ?_) AllReadyH.nil
          go_simp
          go_wp2_with (go_at_call 191; refine (CS.out _).mono ?_; rintro e wx4 ⟨rfl, hbk⟩)
          refine hK.out _ _ (one_next hbk hHeld) (fun hHeld => ?_)
          replace A2 := A2.below hbk
          replace A3 := A3.below hbk
          clear hK K hbk
          have hne : g2 ≠ g3 := by omega
          refine wpAnyH_ready (rs := [9]) (by kernel_rfl) (by simp) ?_
          refine AllReadyH.cons rfl (fun K hK => ?_) AllReadyH.nil
          refine step_store_blk rfl 177 (.tmp 2) (.tmp 21) rfl g2 X (wcells (row 8 fun _ => 0)) 177 A2 rfl rfl hXi.out (by rw [row_len]; exact HXl.out.symm) HX1.out ?_
          intro wa hA hW
          refine hK.out _ _ (one_wrote hHeld hW hgl hle2) (fun hHeld => ?_)
          replace A3 := hW.blk A3 hne.symm
          clear hK K hW A2
          refine wpAnyH_ready (rs := [10]) (by kernel_rfl) (by simp) ?_
          refine AllReadyH.cons rfl (fun K hK => ?_) AllReadyH.nil
          refine step_store_blk rfl 199 (.tmp 3) (.tmp 26) rfl g3 Y (wcells (row 64 fun _ => 0)) 199 A3 rfl rfl hWi.out (by rw [row_len]; exact HWl.out.symm) HW1.out ?_
          intro wb hC hW
          refine hK.out _ _ (one_wrote hHeld hW hgl hle3) (fun hHeld => ?_)
          replace hA := hW.blk hA hne
          clear hK K hW A3
          refine wpAnyH_done (by kernel_rfl) ?_ _
          refine NoPanic.normal ?_
          go_wp2_with fail
          go_meet
          exact ⟨g2, g3, rfl, rfl, ⟨hle2, hle3, hne⟩, hA, hC, hHeld.1⟩
      · skip
        have hle3 := hHeld.1.size
        go_simp
        go_wp2_with fail
        refine hK.out _ _ (one_alloc hHeld _) (fun hHeld => ?_)
        clear hK K
        have A3 := blk_new wx1 _ 199 (wcells (row 64 fun _ => 0)) rfl
        have hlt := A2.lt
        replace A2 := blk_old A2 (.cells (wcells (row 64 fun _ => 0)).toArray 199)
        change wpAnyH _ _ _ _ _ _ _ _ (wx1.alloc (.cells (wcells (row 64 fun _ => 0)).toArray 199))
        replace hHeld : Below w.heap.size w (wx1.alloc (.cells (wcells (row 64 fun _ => 0)).toArray 199)) ∧ World.rangeAt (wx1.alloc (.cells (wcells (row 64 fun _ => 0)).toArray 199)) g 8 D := hHeld
        obtain ⟨wx2, hwn⟩ : ∃ x, x = wx1.alloc (.cells (wcells (row 64 fun _ => 0)).toArray 199) := ⟨_, rfl⟩
        rw [← hwn] at A2 A3 hHeld ⊢
        obtain ⟨g3, hg3⟩ : ∃ x, x = wx1.heap.size := ⟨_, rfl⟩
        rw [← hg3] at A3 hle3 ⊢
        rw [← hg3] at hlt
        clear hwn hg3
        refine wpAnyH_ready (rs := [1]) (by kernel_rfl) (by simp) ?_
        refine AllReadyH.cons rfl (fun K hK => ?_) AllReadyH.nil
        go_simp
        go_wp2_with (go_at_call 190; refine (CW.out _ hHeld.1).mono ?_; rintro e wx3 ⟨rfl, hbk⟩)
        refine hK.out _ _ (one_next hbk hHeld) (fun hHeld => ?_)
        replace A2 := A2.below hbk
        replace A3 := A3.below hbk
        clear hK K hbk
        refine wpAnyH_ready (rs := [6]) (by kernel_rfl) (by simp) ?_
        refine AllReadyH.cons rfl (fun K hK => ?_) AllReadyH.nil
        go_simp
        go_wp2_with (go_at_call 191; refine (CS.out _).mono ?_; rintro e wx4 ⟨rfl, hbk⟩)
        refine hK.out _ _ (one_next hbk hHeld) (fun hHeld => ?_)
        replace A2 := A2.below hbk
        replace A3 := A3.below hbk
        clear hK K hbk
        have hne : g2 ≠ g3 := by omega
        refine wpAnyH_ready (rs := [9]) (by kernel_rfl) (by simp) ?_
        refine AllReadyH.cons rfl (fun K hK => ?_) AllReadyH.nil
        refine step_store_blk rfl 177 (.tmp 2) (.tmp 21) rfl g2 X (wcells (row 8 fun _ => 0)) 177 A2 rfl rfl hXi.out (by rw [row_len]; exact HXl.out.symm) HX1.out ?_
        intro wa hA hW
        refine hK.out _ _ (one_wrote hHeld hW hgl hle2) (fun hHeld => ?_)
        replace A3 := hW.blk A3 hne.symm
        clear hK K hW A2
        refine wpAnyH_ready (rs := [10]) (by kernel_rfl) (by simp) ?_
        refine AllReadyH.cons rfl (fun K hK => ?_) AllReadyH.nil
        refine step_store_blk rfl 199 (.tmp 3) (.tmp 26) rfl g3 Y (wcells (row 64 fun _ => 0)) 199 A3 rfl rfl hWi.out (by rw [row_len]; exact HWl.out.symm) HW1.out ?_
        intro wb hC hW
        refine hK.out _ _ (one_wrote hHeld hW hgl hle3) (fun hHeld => ?_)
        replace hA := hW.blk hA hne
        clear hK K hW A3
        refine wpAnyH_done (by kernel_rfl) ?_ _
        refine NoPanic.normal ?_
        go_wp2_with fail
        go_meet
        exact ⟨g2, g3, rfl, rfl, ⟨hle2, hle3, hne⟩, hA, hC, hHeld.1⟩
    · skip
      have hle3 := hHeld.1.size
      go_simp
      go_wp2_with fail
      refine hK.out _ _ (one_alloc hHeld _) (fun hHeld => ?_)
      clear hK K
      have A3 := blk_new wx0 _ 199 (wcells (row 64 fun _ => 0)) rfl
      change wpAnyH _ _ _ _ _ _ _ _ (wx0.alloc (.cells (wcells (row 64 fun _ => 0)).toArray 199))
      replace hHeld : Below w.heap.size w (wx0.alloc (.cells (wcells (row 64 fun _ => 0)).toArray 199)) ∧ World.rangeAt (wx0.alloc (.cells (wcells (row 64 fun _ => 0)).toArray 199)) g 8 D := hHeld
      obtain ⟨wx1, hwn⟩ : ∃ x, x = wx0.alloc (.cells (wcells (row 64 fun _ => 0)).toArray 199) := ⟨_, rfl⟩
      rw [← hwn] at A3 hHeld ⊢
      obtain ⟨g3, hg3⟩ : ∃ x, x = wx0.heap.size := ⟨_, rfl⟩
      rw [← hg3] at A3 hle3 ⊢
      clear hwn hg3
      refine wpAnyH_ready (rs := [1, 7]) (by kernel_rfl) (by simp) ?_
      refine AllReadyH.cons rfl (fun K hK => ?_) (AllReadyH.cons rfl (fun K hK => ?_) AllReadyH.nil)
      · skip
        go_simp
        go_wp2_with (go_at_call 190; refine (CW.out _ hHeld.1).mono ?_; rintro e wx2 ⟨rfl, hbk⟩)
        refine hK.out _ _ (one_next hbk hHeld) (fun hHeld => ?_)
        replace A3 := A3.below hbk
        clear hK K hbk
        refine wpAnyH_ready (rs := [6, 7]) (by kernel_rfl) (by simp) ?_
        refine AllReadyH.cons rfl (fun K hK => ?_) (AllReadyH.cons rfl (fun K hK => ?_) AllReadyH.nil)
        · skip
          go_simp
          go_wp2_with (go_at_call 191; refine (CS.out _).mono ?_; rintro e wx3 ⟨rfl, hbk⟩)
          refine hK.out _ _ (one_next hbk hHeld) (fun hHeld => ?_)
          replace A3 := A3.below hbk
          clear hK K hbk
          refine wpAnyH_ready (rs := [7]) (by kernel_rfl) (by simp) ?_
          refine AllReadyH.cons rfl (fun K hK => ?_) AllReadyH.nil
          have hle2 := hHeld.1.size
          go_simp
          go_wp2_with fail
          refine hK.out _ _ (one_alloc hHeld _) (fun hHeld => ?_)
          clear hK K
          have A2 := blk_new wx3 _ 177 (wcells (row 8 fun _ => 0)) rfl
          have hlt := A3.lt
          replace A3 := blk_old A3 (.cells (wcells (row 8 fun _ => 0)).toArray 177)
          change wpAnyH _ _ _ _ _ _ _ _ (wx3.alloc (.cells (wcells (row 8 fun _ => 0)).toArray 177))
          replace hHeld : Below w.heap.size w (wx3.alloc (.cells (wcells (row 8 fun _ => 0)).toArray 177)) ∧ World.rangeAt (wx3.alloc (.cells (wcells (row 8 fun _ => 0)).toArray 177)) g 8 D := hHeld
          obtain ⟨wx4, hwn⟩ : ∃ x, x = wx3.alloc (.cells (wcells (row 8 fun _ => 0)).toArray 177) := ⟨_, rfl⟩
          rw [← hwn] at A2 A3 hHeld ⊢
          obtain ⟨g2, hg2⟩ : ∃ x, x = wx3.heap.size := ⟨_, rfl⟩
          rw [← hg2] at A2 hle2 ⊢
          rw [← hg2] at hlt
          clear hwn hg2
          have hne : g2 ≠ g3 := by omega
          refine wpAnyH_ready (rs := [9]) (by kernel_rfl) (by simp) ?_
          refine AllReadyH.cons rfl (fun K hK => ?_) AllReadyH.nil
          refine step_store_blk rfl 177 (.tmp 2) (.tmp 21) rfl g2 X (wcells (row 8 fun _ => 0)) 177 A2 rfl rfl hXi.out (by rw [row_len]; exact HXl.out.symm) HX1.out ?_
          intro wa hA hW
          refine hK.out _ _ (one_wrote hHeld hW hgl hle2) (fun hHeld => ?_)
          replace A3 := hW.blk A3 hne.symm
          clear hK K hW A2
          refine wpAnyH_ready (rs := [10]) (by kernel_rfl) (by simp) ?_
          refine AllReadyH.cons rfl (fun K hK => ?_) AllReadyH.nil
          refine step_store_blk rfl 199 (.tmp 3) (.tmp 26) rfl g3 Y (wcells (row 64 fun _ => 0)) 199 A3 rfl rfl hWi.out (by rw [row_len]; exact HWl.out.symm) HW1.out ?_
          intro wb hC hW
          refine hK.out _ _ (one_wrote hHeld hW hgl hle3) (fun hHeld => ?_)
          replace hA := hW.blk hA hne
          clear hK K hW A3
          refine wpAnyH_done (by kernel_rfl) ?_ _
          refine NoPanic.normal ?_
          go_wp2_with fail
          go_meet
          exact ⟨g2, g3, rfl, rfl, ⟨hle2, hle3, hne⟩, hA, hC, hHeld.1⟩
        · skip
          have hle2 := hHeld.1.size
          go_simp
          go_wp2_with fail
          refine hK.out _ _ (one_alloc hHeld _) (fun hHeld => ?_)
          clear hK K
          have A2 := blk_new wx2 _ 177 (wcells (row 8 fun _ => 0)) rfl
          have hlt := A3.lt
          replace A3 := blk_old A3 (.cells (wcells (row 8 fun _ => 0)).toArray 177)
          change wpAnyH _ _ _ _ _ _ _ _ (wx2.alloc (.cells (wcells (row 8 fun _ => 0)).toArray 177))
          replace hHeld : Below w.heap.size w (wx2.alloc (.cells (wcells (row 8 fun _ => 0)).toArray 177)) ∧ World.rangeAt (wx2.alloc (.cells (wcells (row 8 fun _ => 0)).toArray 177)) g 8 D := hHeld
          obtain ⟨wx3, hwn⟩ : ∃ x, x = wx2.alloc (.cells (wcells (row 8 fun _ => 0)).toArray 177) := ⟨_, rfl⟩
          rw [← hwn] at A2 A3 hHeld ⊢
          obtain ⟨g2, hg2⟩ : ∃ x, x = wx2.heap.size := ⟨_, rfl⟩
          rw [← hg2] at A2 hle2 ⊢
          rw [← hg2] at hlt
          clear hwn hg2
          refine wpAnyH_ready (rs := [6]) (by kernel_rfl) (by simp) ?_
          refine AllReadyH.cons rfl (fun K hK => ?_) AllReadyH.nil
          go_simp
          go_wp2_with (go_at_call 191; refine (CS.out _).mono ?_; rintro e wx4 ⟨rfl, hbk⟩)
          refine hK.out _ _ (one_next hbk hHeld) (fun hHeld => ?_)
          replace A2 := A2.below hbk
          replace A3 := A3.below hbk
          clear hK K hbk
          have hne : g2 ≠ g3 := by omega
          refine wpAnyH_ready (rs := [9]) (by kernel_rfl) (by simp) ?_
          refine AllReadyH.cons rfl (fun K hK => ?_) AllReadyH.nil
          refine step_store_blk rfl 177 (.tmp 2) (.tmp 21) rfl g2 X (wcells (row 8 fun _ => 0)) 177 A2 rfl rfl hXi.out (by rw [row_len]; exact HXl.out.symm) HX1.out ?_
          intro wa hA hW
          refine hK.out _ _ (one_wrote hHeld hW hgl hle2) (fun hHeld => ?_)
          replace A3 := hW.blk A3 hne.symm
          clear hK K hW A2
          refine wpAnyH_ready (rs := [10]) (by kernel_rfl) (by simp) ?_
          refine AllReadyH.cons rfl (fun K hK => ?_) AllReadyH.nil
          refine step_store_blk rfl 199 (.tmp 3) (.tmp 26) rfl g3 Y (wcells (row 64 fun _ => 0)) 199 A3 rfl rfl hWi.out (by rw [row_len]; exact HWl.out.symm) HW1.out ?_
          intro wb hC hW
          refine hK.out _ _ (one_wrote hHeld hW hgl hle3) (fun hHeld => ?_)
          replace hA := hW.blk hA hne
          clear hK K hW A3
          refine wpAnyH_done (by kernel_rfl) ?_ _
          refine NoPanic.normal ?_
          go_wp2_with fail
          go_meet
          exact ⟨g2, g3, rfl, rfl, ⟨hle2, hle3, hne⟩, hA, hC, hHeld.1⟩
      · skip
        have hle2 := hHeld.1.size
        go_simp
        go_wp2_with fail
        refine hK.out _ _ (one_alloc hHeld _) (fun hHeld => ?_)
        clear hK K
        have A2 := blk_new wx1 _ 177 (wcells (row 8 fun _ => 0)) rfl
        have hlt := A3.lt
        replace A3 := blk_old A3 (.cells (wcells (row 8 fun _ => 0)).toArray 177)
        change wpAnyH _ _ _ _ _ _ _ _ (wx1.alloc (.cells (wcells (row 8 fun _ => 0)).toArray 177))
        replace hHeld : Below w.heap.size w (wx1.alloc (.cells (wcells (row 8 fun _ => 0)).toArray 177)) ∧ World.rangeAt (wx1.alloc (.cells (wcells (row 8 fun _ => 0)).toArray 177)) g 8 D := hHeld
        obtain ⟨wx2, hwn⟩ : ∃ x, x = wx1.alloc (.cells (wcells (row 8 fun _ => 0)).toArray 177) := ⟨_, rfl⟩
        rw [← hwn] at A2 A3 hHeld ⊢
        obtain ⟨g2, hg2⟩ : ∃ x, x = wx1.heap.size := ⟨_, rfl⟩
        rw [← hg2] at A2 hle2 ⊢
        rw [← hg2] at hlt
        clear hwn hg2
        refine wpAnyH_ready (rs := [1]) (by kernel_rfl) (by simp) ?_
        refine AllReadyH.cons rfl (fun K hK => ?_) AllReadyH.nil
        go_simp
        go_wp2_with (go_at_call 190; refine (CW.out _ hHeld.1).mono ?_; rintro e wx3 ⟨rfl, hbk⟩)
        refine hK.out _ _ (one_next hbk hHeld) (fun hHeld => ?_)
        replace A2 := A2.below hbk
        replace A3 := A3.below hbk
        clear hK K hbk
        refine wpAnyH_ready (rs := [6]) (by kernel_rfl) (by simp) ?_
        refine AllReadyH.cons rfl (fun K hK => ?_) AllReadyH.nil
        go_simp
        go_wp2_with (go_at_call 191; refine (CS.out _).mono ?_; rintro e wx4 ⟨rfl, hbk⟩)
        refine hK.out _ _ (one_next hbk hHeld) (fun hHeld => ?_)
        replace A2 := A2.below hbk
        replace A3 := A3.below hbk
        clear hK K hbk
        have hne : g2 ≠ g3 := by omega
        refine wpAnyH_ready (rs := [9]) (by kernel_rfl) (by simp) ?_
        refine AllReadyH.cons rfl (fun K hK => ?_) AllReadyH.nil
        refine step_store_blk rfl 177 (.tmp 2) (.tmp 21) rfl g2 X (wcells (row 8 fun _ => 0)) 177 A2 rfl rfl hXi.out (by rw [row_len]; exact HXl.out.symm) HX1.out ?_
        intro wa hA hW
        refine hK.out _ _ (one_wrote hHeld hW hgl hle2) (fun hHeld => ?_)
        replace A3 := hW.blk A3 hne.symm
        clear hK K hW A2
        refine wpAnyH_ready (rs := [10]) (by kernel_rfl) (by simp) ?_
        refine AllReadyH.cons rfl (fun K hK => ?_) AllReadyH.nil
        refine step_store_blk rfl 199 (.tmp 3) (.tmp 26) rfl g3 Y (wcells (row 64 fun _ => 0)) 199 A3 rfl rfl hWi.out (by rw [row_len]; exact HWl.out.symm) HW1.out ?_
        intro wb hC hW
        refine hK.out _ _ (one_wrote hHeld hW hgl hle3) (fun hHeld => ?_)
        replace hA := hW.blk hA hne
        clear hK K hW A3
        refine wpAnyH_done (by kernel_rfl) ?_ _
        refine NoPanic.normal ?_
        go_wp2_with fail
        go_meet
        exact ⟨g2, g3, rfl, rfl, ⟨hle2, hle3, hne⟩, hA, hC, hHeld.1⟩
  case rest =>
    obtain ⟨g2, g3, rfl, rfl, HG, hA, hC, hbx⟩ := hcut
    have AT : Hid (∀ i, i < 8 → wc.cell? ⟨g2, i, none⟩ = some (.int .u32 ((v.at i : Nat) : Int))) := fun i hi => (hA.cell i).trans (by rw [← HXE.out]; exact row_at _ hi)
    have c0 : wc.cell? ⟨g2, 0, none⟩ = some (.int .u32 (v.a : Int)) := AT.out 0 (by decide)
    have c1 : wc.cell? ⟨g2, 1, none⟩ = some (.int .u32 (v.b : Int)) := AT.out 1 (by decide)
    have c2 : wc.cell? ⟨g2, 2, none⟩ = some (.int .u32 (v.c : Int)) := AT.out 2 (by decide)
    have c3 : wc.cell? ⟨g2, 3, none⟩ = some (.int .u32 (v.d : Int)) := AT.out 3 (by decide)
    have c4 : wc.cell? ⟨g2, 4, none⟩ = some (.int .u32 (v.e : Int)) := AT.out 4 (by decide)
    have c5 : wc.cell? ⟨g2, 5, none⟩ = some (.int .u32 (v.f : Int)) := AT.out 5 (by decide)
    have c6 : wc.cell? ⟨g2, 6, none⟩ = some (.int .u32 (v.g : Int)) := AT.out 6 (by decide)
    have c7 : wc.cell? ⟨g2, 7, none⟩ = some (.int .u32 (v.i : Int)) := AT.out 7 (by decide)
    have HCC := Lib.hid hC
    have HBX := Lib.hid hbx
    clear AT hA hC hbx
    go_wp2_with fail
    go_quiet (fail)
    have hC := HCC.out.drewN nq
    have hbx := below_drewN HBX.out nq
    have d4 : (wc.drewN nq).cell? ⟨g2, 4, none⟩ = some (.int .u32 (v.e : Int)) := c4
    have d5 : (wc.drewN nq).cell? ⟨g2, 5, none⟩ = some (.int .u32 (v.f : Int)) := c5
    have d6 : (wc.drewN nq).cell? ⟨g2, 6, none⟩ = some (.int .u32 (v.g : Int)) := c6
    have d7 : (wc.drewN nq).cell? ⟨g2, 7, none⟩ = some (.int .u32 (v.i : Int)) := c7
    obtain ⟨wd1, hwd⟩ : ∃ x, x = wc.drewN nq := ⟨_, rfl⟩
    rw [← hwd] at hC hbx d4 d5 d6 d7 ⊢
    clear hwd c0 c1 c2 c3 c4 c5 c6 c7 HCC HBX
    have HCC := Lib.hid hC
    have HBX := Lib.hid hbx
    clear hC hbx
    go_wp2_with fail
    go_quiet (fail)
    have hC := HCC.out.drewN nq
    have hbx := below_drewN HBX.out nq
    obtain ⟨wD, hwd⟩ : ∃ x, x = wd1.drewN nq := ⟨_, rfl⟩
    rw [← hwd] at hC hbx ⊢
    clear hwd d4 d5 d6 d7 HCC HBX hd0 hD0 hin hun
    have HCC := Lib.hid hC
    have HBX := Lib.hid hbx
    have HTD := Lib.hid (HT.out.below hbx)
    have YAT : Hid (∀ i, i < 64 → Y[i]? = some (.int .u32 ((wd l i : Nat) : Int))) := fun i hi => by rw [← HYE.out]; exact row_at _ hi
    clear hC hbx
    go_wp2_with (with_reducible refine wpList_load_blk rfl 199 (.tmp 3) rfl g3 Y 199 HCC.out rfl _ Tryz.underlying199 rfl hWi.out ?_)
    go_loop [4, 5, 6, 7, 8, 9, 10, 11, 44] (fun s4 s5 s6 s7 s8 s9 s10 s11 s44 => ∃ t : Nat, t ≤ 64 ∧ s44 = .int .i64 t ∧ s4 = .int .u32 ((rnds v l t).a : Nat) ∧ s5 = .int .u32 ((rnds v l t).b : Nat) ∧ s6 = .int .u32 ((rnds v l t).c : Nat) ∧ s7 = .int .u32 ((rnds v l t).d : Nat) ∧ s8 = .int .u32 ((rnds v l t).e : Nat) ∧ s9 = .int .u32 ((rnds v l t).f : Nat) ∧ s10 = .int .u32 ((rnds v l t).g : Nat) ∧ s11 = .int .u32 ((rnds v l t).i : Nat)) (fun _ _ _ _ _ _ _ _ i => 64 - (intOf i).toNat)
    case atStart => exact ⟨0, by omega, rfl, rfl, rfl, rfl, rfl, rfl, rfl, rfl, rfl⟩
    case round =>
      obtain ⟨t, ht, rfl, rfl, rfl, rfl, rfl, rfl, rfl, rfl, rfl⟩ := hrel
      by_cases hlt : t < 64
      · have htI : (t : Int) < 64 := by omega
        have hok := rnds_ok HS.out l t
        have HR : Hid (rnds v l (t + 1) = rnd (rnds v l t) (kt.getD t 0) (wd l t)) := rfl
        obtain ⟨u, hu⟩ : ∃ u, rnds v l t = u := ⟨_, rfl⟩
        rw [hu] at hok HR ⊢
        clear hu
        obtain ⟨a, b', c, d, e, f', g', i'⟩ := u
        obtain ⟨o1, o2, o3, o4, o5, o6, o7, o8⟩ := hok
        simp only at o1 o2 o3 o4 o5 o6 o7 o8
        dsimp only
        have hYt := Lib.hid (YAT.out t hlt)
        have ck := HTD.out.k t hlt
        have hKl := kt_lt t hlt
        have hWl := wd_lt l t
        obtain ⟨K, hK⟩ : ∃ K, kt.getD t 0 = K := ⟨_, rfl⟩
        obtain ⟨Wt, hWt⟩ : ∃ Wt, wd l t = Wt := ⟨_, rfl⟩
        rw [hK] at hKl HR ck
        rw [hWt] at hWl HR hYt
        clear hK hWt
        have z1 := Lib.hid (turned_c e 6 6 rfl o5 turnOk_all.2.1 wD)
        have z2 := Lib.hid (turned_c e 11 11 rfl o5 turnOk_all.2.2.2.1 wD)
        have z3 := Lib.hid (turned_c e 25 25 rfl o5 turnOk_all.2.2.2.2.2.2.2.2.2 wD)
        have z4 := Lib.hid (turned_c a 2 2 rfl o1 turnOk_all.1 wD)
        have z5 := Lib.hid (turned_c a 13 13 rfl o1 turnOk_all.2.2.2.2.1 wD)
        have z6 := Lib.hid (turned_c a 22 22 rfl o1 turnOk_all.2.2.2.2.2.2.2.2.1 wD)
        have x1 := xor3 _ _ _ (rotN_lt 6 o5) (rotN_lt 11 o5) (rotN_lt 25 o5)
        rw [show rotN 6 e ^^^ rotN 11 e ^^^ rotN 25 e = S1 e from rfl] at x1
        have y1 := xor3 _ _ _ (rotN_lt 2 o1) (rotN_lt 13 o1) (rotN_lt 22 o1)
        rw [show rotN 2 a ^^^ rotN 13 a ^^^ rotN 22 a = S0 a from rfl] at y1
        have y2 := maj_val a b' c o1 o2 o3
        have X2 := Lib.hid (ch_val2 e f' g' o5 o6 o7)
        go_wp2_with (with_reducible refine wpList_index_row rfl 199 (.tmp 43) (.tmp 44) rfl 153 64 _ Y t _ rfl rfl Tryz.underlying199 Tryz.underlying153 rfl infoW hlt hYt.out ?_)
        refine z1.out.mono ?_
        rintro e' w' ⟨rfl, rfl⟩
        go_wp2_with fail
        refine z2.out.mono ?_
        rintro e' w' ⟨rfl, rfl⟩
        go_wp2_with fail
        refine z3.out.mono ?_
        rintro e' w' ⟨rfl, rfl⟩
        go_wp2_with fail
        refine z4.out.mono ?_
        rintro e' w' ⟨rfl, rfl⟩
        go_wp2_with fail
        refine z5.out.mono ?_
        rintro e' w' ⟨rfl, rfl⟩
        go_wp2_with fail
        refine z6.out.mono ?_
        rintro e' w' ⟨rfl, rfl⟩
        go_wp2_with fail
        go_round
        case rel =>
          refine ⟨t + 1, by omega, by go_num, ?_⟩
          rw [HR.out, X2.out]
          refine ⟨int_val ?_, rfl, rfl, rfl, int_val ?_, rfl, rfl, rfl⟩
          · show _ = ((((one ⟨a, b', c, d, e, f', g', i'⟩ K Wt + two ⟨a, b', c, d, e, f', g', i'⟩) % 4294967296 : Nat)) : Int)
            unfold one two
            dsimp only
            omega
          · show _ = (((d + one ⟨a, b', c, d, e, f', g', i'⟩ K Wt) % 4294967296 : Nat) : Int)
            unfold one
            dsimp only
            omega
        case measure => simp [intOf]; omega
      · obtain rfl : t = 64 := by omega
        have hv2 := rnds_ok HS.out l 64
        obtain ⟨u, hu⟩ : ∃ u, rnds v l 64 = u := ⟨_, rfl⟩
        rw [hu] at hv2 HMV ⊢
        have UAT : Hid (∀ i, i < 8 → (wcells u.list)[i]? = some (.int .u32 ((u.at i : Nat) : Int))) := fun i hi => row_at u.at hi
        have HBD := Lib.hid (HB.out.below HBX.out)
        have HGD := Lib.hid (grown_of_below g HBX.out)
        clear hu
        go_wp2_with fail
        go_loopg [117] 8 (fun k s wy => ∃ (i : Nat) (h : Nat → Nat), i + k = 8 ∧ s = .int .i64 i ∧ Hid ((∀ j, j < i → h j = moved f b j) ∧ (∀ j, i ≤ j → h j = f j)) ∧ Blk wy g 225 (hrow h b n) ∧ w.grownBy wy (some g))
        case atStart => exact ⟨0, f, rfl, rfl, ⟨fun j h => by omega, fun j _ => rfl⟩, HBD.out, HGD.out⟩
        case round =>
          obtain ⟨i, h, hik, rfl, HH, hS, hgr⟩ := hrel
          rcases gk with _ | k
          · obtain rfl : i = 8 := by omega
            have he : row 8 h = row 8 (moved f b) := row_eq HH.out.1
            have hfin : Blk wr g 225 (hrow (moved f b) b n) := by
              have h1 := hS
              unfold hrow at h1 ⊢
              rw [he] at h1
              exact h1
            have HFN := Lib.hid hfin
            have HGR := Lib.hid hgr
            clear hS hgr HH he hfin
            go_wp2_with fail
            go_end0
            exact ⟨⟨_, rfl⟩, HFN.out, HGR.out⟩
          · have hi8 : i < 8 := by omega
            have hiI : (i : Int) < 8 := by omega
            have c1 := (hS.cell i).trans (hrow_word h b n hi8)
            have f1 := hS.frozen i
            rw [HH.out.2 i (Nat.le_refl _)] at c1
            have k1 := HF.out i hi8
            have k2 := st_at hv2 i hi8
            have HUI := Lib.hid (UAT.out i hi8)
            have HMI := Lib.hid (HMV.out i hi8)
            have HS1 : Hid (∀ j, j < i + 1 → upd h i (moved f b i) j = moved f b j) := by
              intro j hj
              by_cases he : j = i
              · rw [he, upd_at]
              · rw [upd_ne he]; exact HH.out.1 j (by omega)
            have HS2 : Hid (∀ j, i + 1 ≤ j → upd h i (moved f b i) j = f j) := fun j hj => by rw [upd_ne (by omega)]; exact HH.out.2 j (by omega)
            obtain ⟨x, hx⟩ : ∃ x, f i = x := ⟨_, rfl⟩
            obtain ⟨y, hy⟩ : ∃ y, u.at i = y := ⟨_, rfl⟩
            rw [hx] at c1 k1 HMI
            rw [hy] at k2 HUI HMI
            obtain ⟨A, q, hA⟩ := add32 k1 k2
            have HWA : Hid (moved f b i = A) := by show _ = _; rw [HMI.out, hA.2]
            rw [HWA.out] at HS1 HS2
            clear hx hy hA HMI
            have HSET : Hid (Blk (wr.drew.setCell ⟨g, i, none⟩ (.int .u32 (A : Int))) g 225 (hrow (upd h i A) b n)) := by
              have h := Blk.set (w := wr.drew) hS i (.int .u32 (A : Int))
              rw [hrow_setw _ _ _ hi8] at h
              exact h
            have HGR : Hid (w.grownBy (wr.drew.setCell ⟨g, i, none⟩ (.int .u32 (A : Int))) (some g)) := grown_set hgr i _
            have d1 : wr.drew.cell? ⟨g, i, none⟩ = some (.int .u32 (x : Int)) := c1
            have f3 : wr.drew.frozen? ⟨g, i, none⟩ = false := f1
            clear hS hgr HH HWA
            go_wp2_with (refine wpList_index_row rfl 177 (.tmp 116) (.tmp 117) rfl 153 8 _ (wcells u.list) i _ rfl rfl Tryz.underlying177 Tryz.underlying153 rfl infoW hi8 HUI.out ?_)
            go_still_tail 11, (by kernel_rfl)
            change wpList _ _ _ _ _ wr.drew
            obtain ⟨wd', hwd⟩ : ∃ wd', wd' = wr.drew := ⟨_, rfl⟩
            rw [← hwd] at HSET HGR d1 f3 ⊢
            clear hwd c1 f1
            go_wp2_with fail
            go_roundg k
            case measure => omega
            case rel => exact ⟨i + 1, _, by omega, by go_num, ⟨HS1.out, HS2.out⟩, HSET.out, HGR.out⟩
end Go.Proofs.YthagdkipipldlaaGreatDoor.sha

namespace Go.Proofs.YthagdkipipldlaaGreatDoor.sha
open Go.RowKit
open Go.Proofs.YthagdkipipldlaaGreatDoor.oct Go.Proofs.YthagdkipipldlaaGreatDoor.ref Go.Proofs.YthagdkipipldlaaGreatDoor.rows
open Go.Lib (byteCells)

/-- block g is a hash that was told L -/
def Holds (w : World) (g : Nat) (L : List UInt8) : Prop :=
  g ≠ 1 ∧ g ≠ 2 ∧ ∃ f b, Blk w g 225 (hrow f b L.length) ∧ (∀ i, i < 8 → f i < 4294967296) ∧ stOf (wsum f) = blocks st0 L (L.length / 64) ∧ ∀ j, j < L.length % 64 → b j = L.getD (64 * (L.length / 64) + j) 0
theorem blocks_append (v : St) (L M : List UInt8) (n : Nat) (h : 64 * n ≤ L.length) : blocks v (L ++ M) n = blocks v L n := by
  induction n with
  | zero => rfl
  | succ n ih =>
    show takeB (blocks v (L ++ M) n) _ = takeB (blocks v L n) _
    rw [ih (by omega), List.drop_append_of_le_length (by omega), List.take_append_of_le_length (by rw [List.length_drop]; omega)]
theorem list_eq64 {l m : List UInt8} (hl : l.length = 64) (hm : m.length = 64) (h : ∀ j, j < 64 → l.getD j 0 = m.getD j 0) : l = m := by
  apply List.ext_getElem (by omega)
  intro i h1 h2
  have := h i (by omega)
  simpa [List.getD, List.getElem?_eq_getElem h1, List.getElem?_eq_getElem h2] using this
/-- bytes laid behind those of the block that is not full: what the hash holds then, the block not full -/
theorem holds_lay {w' : World} {g : Nat} {L m : List UInt8} {f b} (h0 : g ≠ 1) (h1 : g ≠ 2) (hf : ∀ i, i < 8 → f i < 4294967296) (hs : stOf (wsum f) = blocks st0 L (L.length / 64)) (hb : ∀ j, j < L.length % 64 → b j = L.getD (64 * (L.length / 64) + j) 0)
    (hm : L.length % 64 + m.length < 64) (hB : Blk w' g 225 (hrow f (lay b (L.length % 64) m) (L.length + m.length))) : Holds w' g (L ++ m) := by
  have e1 : (L.length + m.length) / 64 = L.length / 64 := by omega
  have e2 : (L.length + m.length) % 64 = L.length % 64 + m.length := by omega
  refine ⟨h0, h1, f, lay b (L.length % 64) m, by rw [List.length_append]; exact hB, hf, ?_, ?_⟩
  · rw [List.length_append, e1, blocks_append _ _ _ _ (by omega), hs]
  · intro j hj
    rw [List.length_append, e2] at hj
    rw [List.length_append, e1]
    unfold lay
    by_cases hr : L.length % 64 ≤ j
    · rw [if_pos ⟨hr, hj⟩]
      simp only [List.getD]
      rw [List.getElem?_append_right (by omega)]
      congr 2; omega
    · rw [if_neg (by omega), hb j (by omega)]
      simp only [List.getD]
      rw [List.getElem?_append_left (by omega)]
/-- .. and the block full and taken -/
theorem holds_full {w' : World} {g : Nat} {L m : List UInt8} {f b} (h0 : g ≠ 1) (h1 : g ≠ 2) (hs : stOf (wsum f) = blocks st0 L (L.length / 64)) (hb : ∀ j, j < L.length % 64 → b j = L.getD (64 * (L.length / 64) + j) 0)
    (hm : L.length % 64 + m.length = 64) (hB : Blk w' g 225 (hrow (moved f (lay b (L.length % 64) m)) (lay b (L.length % 64) m) (L.length + m.length))) : Holds w' g (L ++ m) := by
  have e1 : (L.length + m.length) / 64 = L.length / 64 + 1 := by omega
  have e2 : (L.length + m.length) % 64 = 0 := by omega
  refine ⟨h0, h1, _, _, by rw [List.length_append]; exact hB, fun i _ => moved_lt _ _ _, ?_, ?_⟩
  · rw [List.length_append, e1, moved_sum, hs]
    show _ = takeB (blocks st0 (L ++ m) (L.length / 64)) _
    rw [blocks_append _ _ _ _ (by omega)]
    congr 1
    refine list_eq64 (brow_len _ _) (by rw [List.length_take, List.length_drop, List.length_append]; omega) fun j hj => ?_
    have hbr : (brow 64 (lay b (L.length % 64) m)).getD j 0 = lay b (L.length % 64) m j := by simp [brow, List.getD, hj]
    rw [hbr]
    simp only [List.getD]
    rw [List.getElem?_take, if_pos hj, List.getElem?_drop]
    unfold lay
    by_cases hr : L.length % 64 ≤ j
    · rw [if_pos ⟨hr, by omega⟩, List.getElem?_append_right (by omega)]
      simp only [List.getD]
      congr 2; omega
    · rw [if_neg (by omega), hb j (by omega), List.getElem?_append_left (by omega)]
      simp only [List.getD]
  · intro j hj
    rw [List.length_append, e2] at hj
    omega
theorem Holds.keep {w w' : World} {g : Nat} {L : List UInt8} (h : Holds w g L) (he : w'.heap[g]? = w.heap[g]?) : Holds w' g L := by
  obtain ⟨h0, h1, f, b, hB, r⟩ := h
  exact ⟨h0, h1, f, b, he.trans hB, r⟩
theorem Holds.lt {w : World} {g : Nat} {L : List UInt8} (h : Holds w g L) : g < w.heap.size := by
  obtain ⟨_, _, f, b, hB, _⟩ := h
  exact hB.lt
theorem wsum_zero : stOf (wsum fun _ => 0) = st0 := by kernel_rfl
theorem holds_zero {w : World} {g : Nat} (h0 : g ≠ 1) (h1 : g ≠ 2) (hB : Blk w g 225 (hrow (fun _ => 0) (fun _ => 0) 0)) : Holds w g [] :=
  ⟨h0, h1, _, _, hB, fun _ _ => by decide, wsum_zero, fun j hj => by simp at hj⟩
theorem zero_hash (w : World) : (zeroValue 225).run Tryz.prog w = .ok (.agg (hrow (fun _ => 0) (fun _ => 0) 0).toArray) w := by kernel_rfl

set_option maxHeartbeats 1000000 in
theorem hnew_c (w : World) (ht : Tabs w) : Calls Tryz.prog 185 #[] w fun e w' => ∃ g, e = .returned (.pointer (some ⟨g, 0, none⟩)) ∧ w.heap.size ≤ g ∧ Holds w' g [] ∧ Below w.heap.size w w' := by
  have HG := Lib.hid ht.lt
  have hz := zero_hash
  obtain ⟨R, hR⟩ : ∃ R, hrow (fun _ => 0) (fun _ => 0) 0 = R := ⟨_, rfl⟩
  rw [hR] at hz
  have HR := Lib.hid hR
  clear ht hR
  go_enter Tryz.func185, Tryz.ntmps185
  go_wp2_with fail
  go_ret
  refine ⟨w.heap.size, rfl, Nat.le_refl _, holds_zero (by have := HG.out; omega) (by have := HG.out; omega) ?_, (Below.refl _ _).alloc (Nat.le_refl _) _⟩
  rw [HR.out]
  exact blk_new w _ _ R rfl
end Go.Proofs.YthagdkipipldlaaGreatDoor.sha

namespace Go.Proofs.YthagdkipipldlaaGreatDoor.sha
open Go.RowKit
open Go.Proofs.YthagdkipipldlaaGreatDoor.oct Go.Proofs.YthagdkipipldlaaGreatDoor.ref Go.Proofs.YthagdkipipldlaaGreatDoor.rows
open Go.Lib (byteCells)

/-- copy into a block that is known whole -/
theorem wpList_copy_blk {P : Program} {w : World} {ops : Array Oper} {rest : List Oper} {o : Oper} {a : Act} {Q : Exit → Act → World → Prop} (hgd : o.guard = none) (d s : Operand) (dT sT : TypeId)
    (ho : o.op = .call { callee := .builtin .copy, args := #[d, s], argTypes := #[dT, sT] }) (elem : TypeId) (hu : P.underlying dT = some (.slice elem)) (hsz : (P.info? elem).map (·.size) = some 1)
    (g off dLen dCap : Nat) (ad : Addr) (sLen sCap : Nat) (hd : a.eval d = .slice (some ⟨g, off, none⟩) dLen dCap) (hs : a.eval s = .slice (some ad) sLen sCap)
    (cur : List Value) (t : TypeId) (hg : Blk w g t cur) (cs : List Value) (hn : cs.length = Nat.min sLen dLen) (n : Nat) (hcn : cs.length = n)
    (hsrc : ∀ j v, cs[j]? = some v → w.cell? (ad.add j) = some v) (hfit : off + cs.length ≤ cur.length) (h1 : ∀ v ∈ cs, v.oneCell' = true)
    (h : ∀ w1, Blk w1 g t (splice cur off cs) → w.grownBy w1 (some g) → wpList P ops Q rest (a.put o.dst (.int .i64 ((n : Nat) : Int))) w1) : wpList P ops Q (o :: rest) a w := by
  subst hcn
  refine wpList_copy_own hgd d s dT sT ho elem hu hsz g off dLen dCap ad sLen sCap hd hs cur.toArray t hg cs hn hsrc (by simpa using hfit) h1 ?_
  refine h _ ?_ ⟨rfl, rfl, rfl, by simp, fun k _ hk => setRow_other _ _ _ _ (fun e => hk (by rw [e]))⟩
  have := setRow_heap w g cur.toArray (cur.toArray.toList.take off ++ (cs ++ cur.toArray.toList.drop (off + cs.length))).toArray t _ hg
  simpa [Blk, splice] using this
theorem grown_cell {w w' : World} {g : Nat} (h : w.grownBy w' (some g)) (i : Nat) (v : Value) : w.grownBy (w'.setCell ⟨g, i, none⟩ v) (some g) :=
  ⟨h.os, h.tape, h.output, by simpa [World.setCell] using h.size, fun k hk hr => by
    rw [Below.heap_setCell _ _ _ _ (fun e => hr (congrArg some e))]
    exact h.block k hk hr⟩
theorem In8.grown {w w' : World} {g : Nat} {p : Option Addr} {l : List UInt8} (h : In8 w p l) (hg : w.grownBy w' (some g)) (hne : 0 < l.length → ∀ a, p = some a → a.block ≠ g) : In8 w' p l := by
  intro hl
  obtain ⟨b, o, rfl, hc⟩ := h hl
  have hb : b ≠ g := hne hl _ rfl
  refine ⟨b, o, rfl, fun i hi => ?_⟩
  have h2 : w'.heap[b]? = w.heap[b]? := hg.block b (cell_lt (hc i hi)) (fun e => hb (by cases e; rfl))
  rw [← hc i hi]
  simp [World.cell?, h2]
theorem In8.cut {w : World} {b o : Nat} {l : List UInt8} (h : In8 w (some ⟨b, o, none⟩) l) (n : Nat) : In8 w (some ⟨b, o + n, none⟩) (l.drop n) := by
  intro hl
  rw [List.length_drop] at hl
  obtain ⟨_, _, he, hc⟩ := h (by omega)
  cases he
  refine ⟨b, o + n, rfl, fun i hi => ?_⟩
  rw [List.length_drop] at hi
  rw [Nat.add_assoc, hc (n + i) (by omega)]
  simp [List.getD]
theorem In8.take {w : World} {p : Option Addr} {l : List UInt8} (h : In8 w p l) (n : Nat) : In8 w p (l.take n) := by
  intro hl
  rw [List.length_take] at hl
  obtain ⟨b, o, rfl, hc⟩ := h (by omega)
  refine ⟨b, o, rfl, fun i hi => ?_⟩
  rw [List.length_take] at hi
  rw [hc i (by omega)]
  simp only [List.getD]
  rw [List.getElem?_take, if_pos (by omega)]
/-- an array behind a pointer, cut from r on -/
theorem run_arr_from {P : Program} (w : World) (t e : TypeId) (n b o r : Nat) (h : P.underlying t = some (.array n e)) (he : (P.info? e).map (·.size) = some 1) (hr : r < n) :
    (Instr.sliceAt t (.pointer (some ⟨b, o, none⟩)) (some (.int .i64 (r : Int))) none none).run P w = .ok (.slice (some ⟨b, o + r, none⟩) (n - r) (n - r)) w := by
  cases hq : P.info? e with
  | none => simp [hq] at he
  | some j =>
    have hs : j.size = 1 := by simpa [hq] using he
    have h1 : ¬ n = r := by omega
    have h2 : (0 : Int) ≤ (r : Int) ∧ (r : Int) ≤ (n : Int) := by omega
    simp [Instr.sliceAt, Instr.sureAddr, run_underlying h, Instr.sliceBounds, Instr.sliceBound, asIntOf, h1, show r ≤ n by omega, sizeOf, typeInfo, hq, hs, Sem.run_bind, Addr.add]
/-- a slice, cut from n on -/
def cutAt (b o cq n : Nat) : Option Addr := if cq = n then some ⟨b, o, none⟩ else some ⟨b, o + n, none⟩
theorem run_slice_from {P : Program} (w : World) (t e : TypeId) (len cq b o n : Nat) (h : P.underlying t = some (.slice e)) (he : (P.info? e).map (·.size) = some 1) (hn : n ≤ len) :
    (Instr.sliceAt t (.slice (some ⟨b, o, none⟩) len cq) (some (.int .i64 (n : Int))) none none).run P w = .ok (.slice (cutAt b o cq n) (len - n) (cq - n)) w := by
  cases hq : P.info? e with
  | none => simp [hq] at he
  | some j =>
    have hs : j.size = 1 := by simpa [hq] using he
    unfold cutAt
    by_cases hc : cq = n
    · simp [Instr.sliceAt, Instr.slice, run_underlying h, Instr.sliceBounds, Instr.sliceBound, asIntOf, hc, hn, sizeOf, typeInfo, hq, Sem.run_bind]
    · simp [Instr.sliceAt, Instr.slice, run_underlying h, Instr.sliceBounds, Instr.sliceBound, asIntOf, hc, hn, sizeOf, typeInfo, hq, hs, Sem.run_bind, Addr.add]
theorem cut_in8 {w : World} {b o cq n len : Nat} {l : List UInt8} (h : In8 w (some ⟨b, o, none⟩) l) (hl : l.length = len) (hc : len ≤ cq) : In8 w (cutAt b o cq n) (l.drop n) := by
  unfold cutAt
  split
  · intro hp
    rw [List.length_drop] at hp
    omega
  · exact In8.cut h n
theorem cut_block {b o cq n g : Nat} (h : b ≠ g) : ∀ a, cutAt b o cq n = some a → a.block ≠ g := by
  intro a ha
  unfold cutAt at ha
  split at ha <;> (cases ha; exact h)
theorem rm_none {b o cq n : Nat} (h : cutAt b o cq n = none) : cq - n = 0 := by
  unfold cutAt at h
  split at h <;> cases h
theorem told_set {w : World} {g : Nat} {f b} {N n : Nat} (h : Blk w g 225 (hrow f b N)) : Blk (w.setCell ⟨g, 72, none⟩ (.int .i64 ((N : Int) + (n : Int)))) g 225 (hrow f b (N + n)) := by
  have h2 := h.set 72 (.int .i64 ((N + n : Nat) : Int))
  rw [hrow_sett, Int.natCast_add] at h2
  exact h2
theorem infoB1 : (Tryz.prog.info? 5).map (·.size) = some 1 := by kernel_rfl

set_option maxRecDepth 20000 in
set_option maxHeartbeats 4000000 in
theorem hwrite_c (g : Nat) (L : List UInt8) (p : Option Addr) (cp : Nat) (l : List UInt8) (w : World) (ht : Tabs w) (h : Holds w g L) (hp : In8 w p l) (hne : 0 < l.length → ∀ a, p = some a → a.block ≠ g) (hr : Rm p cp l.length) (hlen : L.length + l.length ≤ 140737488355000) :
    Calls Tryz.prog 186 #[.pointer (some ⟨g, 0, none⟩), .slice p l.length cp] w fun e w' => (∃ v, e = .returned v) ∧ Holds w' g (L ++ l) ∧ w.grownBy w' (some g) := by
  have HT := Lib.hid ht
  have HH := Lib.hid h
  have HP := Lib.hid hp
  have HR := Lib.hid hr
  have HNE := Lib.hid hne
  clear ht h hp hne hr
  go_enter Tryz.func186, Tryz.ntmps186
  go_wp2_with fail
  go_loopg [1] l.length (fun gk s1 wy => ∃ (k : Nat) (q : Option Addr) (cq : Nat), k + gk = l.length ∧ s1 = .slice q gk cq ∧ In8 wy q (l.drop k) ∧ Hid (0 < gk → ∀ a, q = some a → a.block ≠ g) ∧ Hid (Rm q cq gk) ∧ Holds wy g (L ++ l.take k) ∧ w.grownBy wy (some g))
  case atStart => exact ⟨0, p, cp, by omega, rfl, HP.out, HNE.out, HR.out, by simpa using HH.out, World.grownBy.refl _ _⟩
  case round =>
    obtain ⟨k, q, cq, hkg, rfl, hq, HQN, HQR, hh, hgr⟩ := hrel
    by_cases hg0 : gk = 0
    · subst hg0
      have hk : l.take k = l := List.take_of_length_le (by omega)
      rw [hk] at hh
      have HF := Lib.hid hh
      have HG := Lib.hid hgr
      clear hk hh hgr hq
      go_wp2_with fail
      go_end0
      exact ⟨⟨_, rfl⟩, HF.out, HG.out⟩
    · have hML : (L ++ l.take k).length = L.length + k := by rw [List.length_append, List.length_take]; omega
      have htk : Tabs wr := HT.out.grown hgr hh.1 hh.2.1
      have HTK := Lib.hid htk
      obtain ⟨h0, h1, f, b, hB, hf, hs, hb⟩ := hh
      have HH0 := Lib.hid h0
      have HH1 := Lib.hid h1
      have HFW := Lib.hid hf
      have HS := Lib.hid hs
      have HBY := Lib.hid hb
      have HGR := Lib.hid hgr
      have HML := Lib.hid hML
      clear htk h0 h1 hf hs hb hgr hML
      obtain ⟨M, hM⟩ : ∃ M, L ++ l.take k = M := ⟨_, rfl⟩
      have HM := Lib.hid hM
      rw [hM] at HML HS HBY hB
      clear hM
      obtain ⟨N, hN⟩ : ∃ N, M.length = N := ⟨_, rfl⟩
      have HN := Lib.hid hN
      rw [hN] at hB
      have hNb : N + gk ≤ 140737488355000 := by have := HML.out; omega
      clear hN
      obtain ⟨qb, qo, rfl, _⟩ := hq (by rw [List.length_drop]; omega)
      have c72 := (hB.cell 72).trans (hrow_told f b N)
      obtain ⟨r, hr⟩ : ∃ r, N % 64 = r := ⟨_, rfl⟩
      have hr64 : r < 64 := by omega
      have hrI : (N : Int) % 64 = (r : Int) := by omega
      obtain ⟨n, hn⟩ : ∃ n, min gk (64 - r) = n := ⟨_, rfl⟩
      have hn0 : 0 < n := by omega
      have hn1 : n ≤ gk := by omega
      have hn2 : r + n ≤ 64 := by omega
      have hn3 : r + n = 64 ∨ n = gk := by omega
      have HR1 := Lib.hid hr
      have HN1 := Lib.hid hn
      have hsl := fun w' => run_arr_from (P := Tryz.prog) w' 223 5 64 g 8 r Tryz.underlying223 infoB1 hr64
      have hsc := fun w' => run_slice_from (P := Tryz.prog) w' 125 5 gk cq qb qo n Tryz.underlying125 infoB1 hn1
      have hdl : (l.drop k).length = gk := by rw [List.length_drop]; omega
      obtain ⟨m, hm⟩ : ∃ m, (l.drop k).take n = m := ⟨_, rfl⟩
      have hml : m.length = n := by rw [← hm, List.length_take, hdl]; omega
      have H8 := Lib.hid (hm ▸ In8.take hq n)
      have HMM := Lib.hid hm
      have HML2 := Lib.hid hml
      have HQ := Lib.hid hq
      have HB := Lib.hid hB
      have HQB : Hid (qb ≠ g) := HQN.out (by omega) _ rfl
      have HSP : Hid (splice (hrow f b N) (8 + r) (byteCells m) = hrow f (lay b r m) N) := hrow_splice f b N r m (by omega)
      obtain ⟨q', hq'⟩ : ∃ q', cutAt qb qo cq n = q' := ⟨_, rfl⟩
      rw [hq'] at hsc
      have HQ' := Lib.hid hq'
      have HDL := Lib.hid hdl
      clear hr hn hm hml hq hB hq' hdl
      have HCN : Hid ((byteCells m).length = Nat.min gk (64 - r)) := by show _ = _; rw [byteCells_len, HML2.out, ← HN1.out]
      have HFIT : Hid (8 + r + (byteCells m).length ≤ (hrow f b N).length) := by show _ ≤ _; rw [hrow_len, byteCells_len, HML2.out]; omega
      have HLM : Hid (L ++ l.take (k + n) = M ++ m) := by show _ = _; rw [← HM.out, ← HMM.out, List.append_assoc, List.take_add]
      have HDR : Hid ((l.drop k).drop n = l.drop (k + n)) := by show _ = _; rw [List.drop_drop]
      have HRM : Hid (M.length % 64 = r) := by show _ = _; rw [HN.out, HR1.out]
      have hcq : gk ≤ cq := HQR.out.2
      by_cases hfull : r + n = 64
      · have hfb : ((N : Int) % 64 + (n : Int) == 64) = true := by rw [beq_iff_eq]; omega
        go_wp2_with (refine wpList_copy_blk rfl (.tmp 20) (.tmp 21) 125 125 rfl 5 Tryz.underlying125 infoB1 g (8 + r) (64 - r) (64 - r) ⟨qb, qo, none⟩ gk cq rfl rfl (hrow f b N) 225 HB.out (byteCells m) HCN.out n (by rw [byteCells_len]; exact HML2.out) (src_cells H8.out) HFIT.out (bytes_one m) ?_; intro w2 hB2 hg2; rw [HSP.out] at hB2; have c2 := (hB2.cell 72).trans (hrow_told _ _ N); have f2 := hB2.frozen 72; have HB3 := Lib.hid (told_set (n := n) hB2); have HG3 := Lib.hid (grown_cell (grown_trans HGR.out hg2) 72 (.int .i64 ((N : Int) + (n : Int)))); have HQ3 := Lib.hid (In8.grown HQ.out (grown_cell hg2 72 (.int .i64 ((N : Int) + (n : Int)))) (fun _ a ha => by cases ha; exact HQB.out)); have HT3 := Lib.hid (HTK.out.grown (grown_cell hg2 72 (.int .i64 ((N : Int) + (n : Int)))) HH0.out HH1.out); clear hB2 hg2)
        refine (htake_c g f (lay b r m) (N + n) _ HT3.out HFW.out HB3.out).mono ?_
        rintro e w4 ⟨⟨v4, rfl⟩, hB4, hg4⟩
        have hgw := grown_trans HG3.out hg4
        have hq4 := In8.grown HQ3.out hg4 (fun _ a ha => by cases ha; exact HQB.out)
        have hq5 := cut_in8 (n := n) hq4 HDL.out hcq
        rw [HQ'.out, HDR.out] at hq5
        have hh4 : Holds w4 g (M ++ m) := holds_full HH0.out HH1.out HS.out HBY.out (by rw [HRM.out, HML2.out]; exact hfull) (by rw [HRM.out, HN.out, HML2.out]; exact hB4)
        rw [← HLM.out] at hh4
        have HHH := Lib.hid hh4
        have HGW := Lib.hid hgw
        have HQ5 := Lib.hid hq5
        clear hB4 hg4 hgw hq4 hq5 hh4
        go_wp2_with fail
        go_roundg (gk - n)
        case measure => omega
        case rel => exact ⟨k + n, q', cq - n, by omega, rfl, HQ5.out, fun _ a ha => cut_block HQB.out a (HQ'.out.trans ha), ⟨fun h => rm_none (HQ'.out.trans h), by omega⟩, HHH.out, HGW.out⟩
      · have hfb : ((N : Int) % 64 + (n : Int) == 64) = false := by rw [beq_eq_false_iff_ne]; omega
        go_wp2_with (refine wpList_copy_blk rfl (.tmp 20) (.tmp 21) 125 125 rfl 5 Tryz.underlying125 infoB1 g (8 + r) (64 - r) (64 - r) ⟨qb, qo, none⟩ gk cq rfl rfl (hrow f b N) 225 HB.out (byteCells m) HCN.out n (by rw [byteCells_len]; exact HML2.out) (src_cells H8.out) HFIT.out (bytes_one m) ?_; intro w2 hB2 hg2; rw [HSP.out] at hB2; have c2 := (hB2.cell 72).trans (hrow_told _ _ N); have f2 := hB2.frozen 72; have HB3 := Lib.hid (told_set (n := n) hB2); have HG3 := Lib.hid (grown_cell (grown_trans HGR.out hg2) 72 (.int .i64 ((N : Int) + (n : Int)))); have HQ3 := Lib.hid (In8.grown HQ.out (grown_cell hg2 72 (.int .i64 ((N : Int) + (n : Int)))) (fun _ a ha => by cases ha; exact HQB.out)); have HT3 := Lib.hid (HTK.out.grown (grown_cell hg2 72 (.int .i64 ((N : Int) + (n : Int)))) HH0.out HH1.out); clear hB2 hg2)
        have hq5 := cut_in8 (n := n) HQ3.out HDL.out hcq
        rw [HQ'.out, HDR.out] at hq5
        have hh4 := holds_lay HH0.out HH1.out HFW.out HS.out HBY.out (show M.length % 64 + m.length < 64 by rw [HRM.out, HML2.out]; omega) (by rw [HRM.out, HN.out, HML2.out]; exact HB3.out)
        rw [← HLM.out] at hh4
        have HHH := Lib.hid hh4
        have HQ5 := Lib.hid hq5
        clear hq5 hh4
        go_roundg (gk - n)
        case measure => omega
        case rel => exact ⟨k + n, q', cq - n, by omega, rfl, HQ5.out, fun _ a ha => cut_block HQB.out a (HQ'.out.trans ha), ⟨fun h => rm_none (HQ'.out.trans h), by omega⟩, HHH.out, HG3.out⟩
end Go.Proofs.YthagdkipipldlaaGreatDoor.sha

namespace Go.Proofs.YthagdkipipldlaaGreatDoor.sha
open Go.RowKit
open Go.Proofs.YthagdkipipldlaaGreatDoor.oct Go.Proofs.YthagdkipipldlaaGreatDoor.ref Go.Proofs.YthagdkipipldlaaGreatDoor.rows
open Go.Lib (byteCells)

/-- what stands behind the bytes in their last blocks -/
def suf (n : Nat) : List UInt8 := [128] ++ List.replicate (zeros n) 0 ++ be8 (8 * n)
theorem pad_suf (l : List UInt8) : l ++ suf l.length = pad l := by simp [pad, suf]
theorem suf_len (n : Nat) : (suf n).length = 9 + zeros n := by simp [suf, be8]; omega
/-- the cells of the suffix, the length's bytes laid up to i -/
def sufF (n i : Nat) : Nat → UInt8 := fun j => if j = 0 then 128 else if 1 + zeros n ≤ j ∧ j < 1 + zeros n + i then UInt8.ofNat (8 * n / 256 ^ (7 - (j - (1 + zeros n)))) else 0
theorem sufF_next (n i : Nat) : updB (sufF n i) (1 + zeros n + i) (UInt8.ofNat (8 * n / 256 ^ (7 - i))) = sufF n (i + 1) := by
  funext j
  unfold updB sufF
  by_cases h0 : j = 0
  · rw [if_neg (by omega), if_pos h0, if_pos h0]
  · by_cases h1 : j = 1 + zeros n + i
    · rw [if_pos h1, if_neg h0, if_pos (by omega)]
      congr 3
      omega
    · rw [if_neg h1, if_neg h0, if_neg h0]
      by_cases h2 : 1 + zeros n ≤ j ∧ j < 1 + zeros n + i
      · rw [if_pos h2, if_pos (by omega)]
      · rw [if_neg h2, if_neg (by omega)]
theorem sufF_zero (n : Nat) : updB (fun _ => 0) 0 128 = sufF n 0 := by
  funext j
  unfold updB sufF
  by_cases h0 : j = 0
  · rw [if_pos h0, if_pos h0]
  · rw [if_neg h0, if_neg h0, if_neg (by omega)]
theorem suf_at (n j : Nat) (h : j < 9 + zeros n) : (suf n)[j]? = some (sufF n 8 j) := by
  unfold suf sufF
  by_cases h0 : j = 0
  · subst h0; simp
  · rw [if_neg h0]
    by_cases hz2 : j < 1 + zeros n
    · rw [if_neg (by omega), List.getElem?_append_left (by simp; omega), List.getElem?_append_right (by simp; omega), List.getElem?_replicate, if_pos (by simp; omega)]
    · rw [if_pos (by omega), List.getElem?_append_right (by simp; omega)]
      have hl : ([128] ++ List.replicate (zeros n) (0 : UInt8)).length = 1 + zeros n := by simp; omega
      rw [hl]
      simp only [be8, List.getElem?_map]
      rw [List.getElem?_range (by omega)]
      rfl
theorem sufF_take (n : Nat) : (brow 72 (sufF n 8)).take (9 + zeros n) = suf n := by
  have hz := zeros_lt n
  apply List.ext_getElem?
  intro j
  by_cases h : j < 9 + zeros n
  · rw [suf_at n j h, List.getElem?_take, if_pos h]
    simp [brow, show j < 72 by omega]
  · rw [List.getElem?_eq_none (by rw [List.length_take, brow_len]; omega), List.getElem?_eq_none (by rw [suf_len]; omega)]
theorem zero72 (w : World) : (zeroValue 228).run Tryz.prog w = .ok (.agg (byteCells (brow 72 fun _ => 0)).toArray) w := by kernel_rfl
theorem info72 : (Tryz.prog.info? 228).map (·.size) = some 72 := by kernel_rfl
theorem shr_byte (n k : Nat) : (n : Int) / 2 ^ (8 * k) % 256 = (((UInt8.ofNat (n / 256 ^ k)).toNat : Nat) : Int) := by
  rw [UInt8.toNat_ofNat', show (2 : Int) ^ (8 * k) = ((256 ^ k : Nat) : Int) from by rw [Int.pow_mul]; norm_cast, ← Int.natCast_ediv]
  rfl
/-- an array behind a pointer, cut at h -/
theorem run_arr_to {P : Program} (w : World) (t e : TypeId) (n b o h : Nat) (hu : P.underlying t = some (.array n e)) (he : (P.info? e).map (·.size) = some 1) (hr : h ≤ n) :
    (Instr.sliceAt t (.pointer (some ⟨b, o, none⟩)) none (some (.int .i64 (h : Int))) none).run P w = .ok (.slice (some ⟨b, o, none⟩) h n) w := by
  cases hq : P.info? e with
  | none => simp [hq] at he
  | some j =>
    simp [Instr.sliceAt, Instr.sureAddr, run_underlying hu, Instr.sliceBounds, Instr.sliceBound, asIntOf, hr, sizeOf, typeInfo, hq, Sem.run_bind, Addr.add]

theorem run_arr_to' {P : Program} (w : World) (t e : TypeId) (n b o h : Nat) (i : Int) (hi : i = h) (hu : P.underlying t = some (.array n e)) (he : (P.info? e).map (·.size) = some 1) (hr : h ≤ n) :
    (Instr.sliceAt t (.pointer (some ⟨b, o, none⟩)) none (some (.int .i64 i)) none).run P w = .ok (.slice (some ⟨b, o, none⟩) h n) w := by
  subst hi; exact run_arr_to w t e n b o h hu he hr
set_option maxRecDepth 20000 in
set_option maxHeartbeats 2000000 in
theorem hpad_c (g : Nat) (L : List UInt8) (w : World) (ht : Tabs w) (h : Holds w g L) (hlen : L.length ≤ 140737488354500) :
    Calls Tryz.prog 189 #[.pointer (some ⟨g, 0, none⟩)] w fun e w' => (∃ v, e = .returned v) ∧ Holds w' g (pad L) ∧ w.grownBy w' (some g) := by
  have HT := Lib.hid ht
  have HH := Lib.hid h
  have hgl := h.lt
  obtain ⟨_, _, f, b, hB, _⟩ := h
  have c72 := (hB.cell 72).trans (hrow_told f b L.length)
  have HN0 : Hid (pad L = L ++ suf L.length) := (pad_suf L).symm
  obtain ⟨N, hN⟩ : ∃ N, L.length = N := ⟨_, rfl⟩
  rw [hN] at c72 hlen HN0
  have HN := Lib.hid hN
  obtain ⟨z, hz⟩ : ∃ z, zeros N = z := ⟨_, rfl⟩
  have hz64 : z < 64 := by rw [← hz]; exact zeros_lt N
  have hzI : (119 - (N : Int) % 64) % 64 = (z : Int) := by rw [← hz]; unfold zeros; omega
  have HZ := Lib.hid hz
  have hz72 := zero72
  have hE0 : (byteCells (brow 72 fun _ => 0))[0]? = some (.int .u8 0) := rfl
  have HE1 : Hid ((byteCells (brow 72 fun _ => 0)).set 0 (.int .u8 128) = byteCells (brow 72 (sufF N 0))) := by show _ = _; rw [← sufF_zero]; exact brow_set 72 _ 0 128
  obtain ⟨Z, hZ⟩ : ∃ Z, byteCells (brow 72 fun _ => 0) = Z := ⟨_, rfl⟩
  rw [hZ] at hz72 hE0 HE1
  have hE : Blk (w.alloc (.cells Z.toArray 228)) w.heap.size 228 Z := blk_new w _ _ _ rfl
  have hb0 := (Below.refl w.heap.size w).alloc (Nat.le_refl _) (.cells Z.toArray 228)
  have hBE := hB.below hb0
  have c0 := (hE.cell 0).trans hE0
  have f0 := hE.frozen 0
  have c72' := (hBE.cell 72).trans (hrow_told f b L.length)
  rw [hN] at c72'
  have HE := Lib.hid hE
  have HB0 := Lib.hid hb0
  clear ht hB hN hz hBE hE0 hZ hE hb0
  go_enter Tryz.func189, Tryz.ntmps189
  go_wp2_with fail
  have hX : Blk (w.alloc (.cells (Z.set 0 (.int .u8 128)).toArray 228)) w.heap.size 228 (byteCells (brow 72 (sufF N 0))) := blk_new w _ _ _ (by rw [HE1.out])
  have hb1 := (Below.refl w.heap.size w).alloc (Nat.le_refl _) (.cells (Z.set 0 (.int .u8 128)).toArray 228)
  clear c72 c72' c0 f0 hz72
  go_loopg [21] 8 (fun k s21 wy => ∃ i : Nat, i + k = 8 ∧ s21 = .int .i64 i ∧ Blk wy w.heap.size 228 (byteCells (brow 72 (sufF N i))) ∧ Below w.heap.size w wy)
  case atStart => exact ⟨0, rfl, rfl, hX, hb1⟩
  case round =>
    clear hX hb1
    obtain ⟨i, hik, rfl, hX, hbx⟩ := hrel
    rcases gk with _ | k
    · obtain rfl : i = 8 := by omega
      go_wp2_with fail
      have h8 : In8 wr (some ⟨w.heap.size, 0, none⟩) (suf N) := by
        have e : brow 72 (sufF N 8) = suf N ++ (brow 72 (sufF N 8)).drop (9 + zeros N) := by rw [← sufF_take N, List.take_append_drop]
        rw [e, byteCells_append] at hX
        exact in8_any hX
      have hsl2 : (suf N).length = 9 + z := by rw [suf_len, HZ.out]
      have hsI : 1 + (z : Int) + 8 = (((suf N).length : Nat) : Int) := by omega
      have HC := Lib.hid (hwrite_c g L (some ⟨w.heap.size, 0, none⟩) 72 (suf N) wr (HT.out.below hbx) (HH.out.keep (hbx.block g hgl)) h8 (fun _ a ha => by cases ha; show w.heap.size ≠ g; omega) ⟨(fun h => by cases h), (by omega)⟩ (by rw [HN.out]; omega))
      have HBX := Lib.hid hbx
      obtain ⟨sl, hsl⟩ : ∃ sl, (suf N).length = sl := ⟨_, rfl⟩
      rw [hsl] at HC hsI hsl2
      have hs := fun w' => run_arr_to (P := Tryz.prog) w' 228 5 72 w.heap.size 0 sl Tryz.underlying228 infoB1 (by omega)
      clear hX hbx h8 hsl2 hsl
      go_wp2_with fail
      rw [hsI]
      rw [hs]
      go_wp2_with fail
      refine HC.out.mono ?_
      rintro e w2 ⟨⟨v2, rfl⟩, hh, hg⟩
      rw [← HN0.out] at hh
      have HHH := Lib.hid hh
      have HGG := Lib.hid (grown_trans (grown_of_below g HBX.out) hg)
      clear hh hg
      go_wp2_with fail
      go_end0
      exact ⟨⟨_, rfl⟩, HHH.out, HGG.out⟩
    · have hi8 : i < 8 := by omega
      have hiI : (i : Int) < 8 := by omega
      have c1 := (hX.cell (1 + z + i)).trans (brow_at _ (by omega))
      have f1 := hX.frozen (1 + z + i)
      obtain ⟨sh, hsh⟩ : ∃ sh, 7 - i = sh := ⟨_, rfl⟩
      have s1 : 8 * (7 - (i : Int)) = ((8 * sh : Nat) : Int) := by omega
      have t1 : (1 + (z : Int) + (i : Int)).toNat = 1 + z + i := by omega
      have HSH := Lib.hid hsh
      clear hsh
      have HV : Hid ((N : Int) * 8 / 2 ^ (8 * sh) % 256 = (((UInt8.ofNat (8 * N / 256 ^ sh)).toNat : Nat) : Int)) := by
        have h := shr_byte (8 * N) sh
        rw [Int.natCast_mul, Int.mul_comm] at h
        exact h
      have HSET : Hid (Blk (wr.setCell ⟨w.heap.size, 1 + z + i, none⟩ (.int .u8 ((N : Int) * 8 / 2 ^ (8 * sh) % 256))) w.heap.size 228 (byteCells (brow 72 (sufF N (i + 1))))) := by
        have h := hX.set (1 + z + i) (.int .u8 (((UInt8.ofNat (8 * N / 256 ^ sh)).toNat : Nat) : Int))
        rw [brow_set, ← HV.out, ← HSH.out, ← HZ.out, sufF_next N i, HZ.out, HSH.out] at h
        exact h
      have HBX : Hid (Below w.heap.size w (wr.setCell ⟨w.heap.size, 1 + z + i, none⟩ (.int .u8 ((N : Int) * 8 / 2 ^ (8 * sh) % 256)))) := hbx.setCell (Nat.le_refl _) _
      clear hX hbx
      go_wp2_with fail
      go_roundg k
      case measure => omega
      case rel => exact ⟨i + 1, by omega, by go_num, HSET.out, HBX.out⟩
end Go.Proofs.YthagdkipipldlaaGreatDoor.sha

namespace Go.Proofs.YthagdkipipldlaaGreatDoor.sha
open Go.RowKit
open Go.Proofs.YthagdkipipldlaaGreatDoor.oct Go.Proofs.YthagdkipipldlaaGreatDoor.ref Go.Proofs.YthagdkipipldlaaGreatDoor.rows
open Go.Lib (byteCells)

/-- the digest's bytes, laid up to the word i -/
def outF (v : St) (i : Nat) : Nat → UInt8 := fun j => if j < 4 * i then outB v j else 0
theorem outF_next (v : St) (i : Nat) : updB (updB (updB (updB (outF v i) (4 * i) (outB v (4 * i))) (4 * i + 1) (outB v (4 * i + 1))) (4 * i + 2) (outB v (4 * i + 2))) (4 * i + 3) (outB v (4 * i + 3)) = outF v (i + 1) := by
  funext j
  unfold updB outF
  by_cases h3 : j = 4 * i + 3
  · rw [if_pos h3, if_pos (by omega), h3]
  · rw [if_neg h3]
    by_cases h2 : j = 4 * i + 2
    · rw [if_pos h2, if_pos (by omega), h2]
    · rw [if_neg h2]
      by_cases h1 : j = 4 * i + 1
      · rw [if_pos h1, if_pos (by omega), h1]
      · rw [if_neg h1]
        by_cases h0 : j = 4 * i
        · rw [if_pos h0, if_pos (by omega), h0]
        · rw [if_neg h0]
          by_cases h : j < 4 * i
          · rw [if_pos h, if_pos (by omega)]
          · rw [if_neg h, if_neg (by omega)]
theorem outF_zero (v : St) : outF v 0 = fun _ => 0 := by
  funext j; unfold outF; rw [if_neg (by omega)]
theorem outF_end (v : St) : brow 32 (outF v 8) = out v := by
  refine List.map_congr_left fun j hj => ?_
  have := List.mem_range.1 hj
  unfold outF
  rw [if_pos (by omega)]
theorem out_val (v : St) (i k x : Nat) (hx : v.at i = x) (hk : k < 4) : ((outB v (4 * i + k)).toNat : Int) = (x : Int) / 2 ^ (24 - 8 * k) % 256 := by
  unfold outB
  rw [show (4 * i + k) % 4 = k by omega, show (4 * i + k) / 4 = i by omega, show v.list.getD i 0 = x from hx, UInt8.toNat_ofNat', dwn_eq, Int.natCast_emod, Int.natCast_ediv, Int.natCast_pow]
  rfl
theorem info52 : (Tryz.prog.info? 225).map (·.size) = some 73 := by kernel_rfl

set_option maxRecDepth 20000 in
set_option maxHeartbeats 4000000 in
theorem hsum_c (g : Nat) (L : List UInt8) (w : World) (ht : Tabs w) (h : Holds w g L) (hlen : L.length ≤ 140737488354500) :
    Calls Tryz.prog 187 #[.pointer (some ⟨g, 0, none⟩)] w fun e w' => e = .returned (dval (digest L)) ∧ Below w.heap.size w w' := by
  have HT := Lib.hid ht
  have HGL := Lib.hid ht.lt
  obtain ⟨_, _, f, b, hB, hf, hs, hb⟩ := h
  have HF := Lib.hid hf
  have HS := Lib.hid hs
  have HBY := Lib.hid hb
  have hR1 := hrow_one f b L.length
  have hRl := hrow_len f b L.length
  have hRi : Hid ((Tryz.prog.info? 225).map (·.size) = some (hrow f b L.length).length) := by show _ = _; rw [hRl]; exact info52
  obtain ⟨R, hR⟩ : ∃ R, hrow f b L.length = R := ⟨_, rfl⟩
  rw [hR] at hB hR1 hRi hRl
  have HR := Lib.hid hR
  have HRL := Lib.hid hRl
  have hz52 := zero_hash
  have hZl := hrow_len (fun _ => 0) (fun _ => 0) 0
  obtain ⟨Z, hZ⟩ : ∃ Z, hrow (fun _ => 0) (fun _ => 0) 0 = Z := ⟨_, rfl⟩
  rw [hZ] at hz52 hZl
  have HZL := Lib.hid hZl
  have hE : Blk (w.alloc (.cells (byteCells (brow 32 fun _ => 0)).toArray 212)) w.heap.size 212 (byteCells (brow 32 fun _ => 0)) := blk_new w _ _ _ rfl
  have hb0 := (Below.refl w.heap.size w).alloc (Nat.le_refl _) (.cells (byteCells (brow 32 fun _ => 0)).toArray 212)
  have hb1 := hb0.alloc hb0.size (.cells Z.toArray 225)
  have HB1 := Lib.hid (hB.below hb1)
  have HE := Lib.hid hE
  have HBB := Lib.hid hb0
  clear ht hf hs hb hB hR hRl hZ hZl hE hb0 hb1
  go_enter Tryz.func187, Tryz.ntmps187
  go_wp2_with (first
    | (refine wpList_load_blk rfl 225 (.tmp 10) rfl g R 225 HB1.out rfl _ Tryz.underlying225 rfl hRi.out ?_)
    | ((with_reducible refine wpList_store_new_at rfl 225 (.tmp 3) (.tmp 11) rfl (w.heap.size + 1) (by simp) R 225 _ rfl rfl hRi.out (by rw [List.size_toArray, HZL.out, HRL.out]) hR1 ?_); intro w1 hS hSb))
  have hbw := Lib.hid (bnext HBB.out hSb)
  have hEw := Lib.hid (HE.out.below hSb)
  have htw := Lib.hid (HT.out.below hbw.out)
  have hhw : Hid (Holds w1 (w.heap.size + 1) L) := ⟨by have := HGL.out; omega, by have := HGL.out; omega, f, b, HR.out ▸ hS, HF.out, HS.out, HBY.out⟩
  clear hS hSb hz52
  refine (hpad_c (w.heap.size + 1) L w1 htw.out hhw.out hlen).mono ?_
  rintro e w2 ⟨⟨v2, rfl⟩, hh2, hg2⟩
  have hE2 : Blk w2 w.heap.size 212 (byteCells (brow 32 fun _ => 0)) := (hg2.block _ hEw.out.lt (fun e => by injection e with e; omega)).trans hEw.out
  have hbw2 := grown_below hbw.out hg2 (by omega) hbw.out.size
  have hlt := hh2.lt
  have hbx := Lib.hid (hbw2.alloc hbw2.size (.cells (byteCells (brow 32 fun _ => 0)).toArray 212))
  have hEx := Lib.hid (blk_old hE2 (.cells (byteCells (brow 32 fun _ => 0)).toArray 212))
  have hOx : Hid (Blk (w2.alloc (.cells (byteCells (brow 32 fun _ => 0)).toArray 212)) w2.heap.size 212 (byteCells (brow 32 fun _ => 0))) := blk_new w2 _ _ _ rfl
  have hhx := hh2.keep (((Below.refl w2.heap.size w2).alloc (Nat.le_refl _) (.cells (byteCells (brow 32 fun _ => 0)).toArray 212)).block _ hlt)
  have HTX := Lib.hid (HT.out.below hbx.out)
  obtain ⟨_, _, f2, b2, hB2, hf2, hs2, _⟩ := hhx
  have HLT : Hid (w.heap.size + 1 < w2.heap.size) := hlt
  have HCW := Lib.hid (hwords_c (w.heap.size + 1) f2 b2 _ _ HTX.out hf2 hB2)
  obtain ⟨v, hv⟩ : ∃ v, blocks st0 (pad L) ((pad L).length / 64) = v := ⟨_, rfl⟩
  have HDG : Hid (digest L = out v) := by show _ = _; unfold digest; rw [hv]
  have HVR : Hid (row 8 (wsum f2) = row 8 v.at) := by show _ = _; rw [← hv, ← hs2]; exact row_eq fun i hi => (stOf_at _ i hi).symm
  rw [HVR.out] at HCW
  have HAT : Hid (∀ i, i < 8 → (wcells (row 8 v.at))[i]? = some (.int .u32 ((v.at i : Nat) : Int))) := fun i hi => row_at v.at hi
  have HVL : Hid (∀ i, i < 8 → v.at i < 4294967296) := fun i hi => by rw [← hv]; exact st_at (blocks_ok st0_ok _ _) i hi
  obtain ⟨X, hXe⟩ : ∃ X, wcells (row 8 v.at) = X := ⟨_, rfl⟩
  rw [hXe] at HCW HAT
  clear hhw htw hbw hEw hh2 hg2 hE2 hbw2 hlt hB2 hf2 hs2 hv hXe
  go_wp2_with fail
  refine HCW.out.mono ?_
  rintro e w3 ⟨rfl, hb3⟩
  have hE3 := hEx.out.below hb3
  have hO3 := hOx.out.below hb3
  have hbx3 := bnext hbx.out hb3
  rw [← outF_zero v] at hO3
  obtain ⟨go, hgo⟩ : ∃ go, go = w2.heap.size := ⟨_, rfl⟩
  rw [← hgo] at hO3 HLT ⊢
  clear hgo hb3 hEx hOx hbx HTX HCW
  have hlo : w.heap.size ≤ go ∧ go ≠ w.heap.size := by have := HLT.out; omega
  go_wp2_with fail
  go_loopg [14] 8 (fun k s14 wy => ∃ i : Nat, i + k = 8 ∧ s14 = .int .i64 i ∧ Blk wy go 212 (byteCells (brow 32 (outF v i))) ∧ Blk wy w.heap.size 212 (byteCells (brow 32 fun _ => 0)) ∧ Below w.heap.size w wy)
  case atStart => exact ⟨0, rfl, rfl, hO3, hE3, hbx3⟩
  case round =>
    clear hO3 hE3 hbx3
    obtain ⟨i, hik, rfl, hO, hE, hbx⟩ := hrel
    rcases gk with _ | k
    · obtain rfl : i = 8 := by omega
      rw [outF_end] at hO
      have hDl : (byteCells (out v)).length = 32 := by rw [byteCells_len, out_len]
      have hD1 := bytes_one (out v)
      have hDi : Hid ((Tryz.prog.info? 212).map (·.size) = some (byteCells (out v)).length) := by show _ = _; rw [hDl]; exact infoDS
      have hOl : (byteCells (brow 32 fun _ => 0)).length = (byteCells (out v)).length := by rw [bcells_len, hDl]
      have HO := Lib.hid hO
      have HE := Lib.hid hE
      obtain ⟨D, hDe⟩ : ∃ D, byteCells (out v) = D := ⟨_, rfl⟩
      rw [hDe] at HO hD1 hDi hOl
      have HDE := Lib.hid hDe
      generalize byteCells (brow 32 fun _ => 0) = O at HE hOl
      clear hDe hO hE hDl
      go_wp2_with (first
        | (with_reducible refine wpList_load_blk rfl 212 (.tmp 4) rfl go D 212 HO.out rfl _ Tryz.underlying212 rfl hDi.out ?_)
        | (with_reducible refine wpList_store_blk rfl 212 (.tmp 2) (.tmp 45) rfl w.heap.size D O 212 HE.out rfl rfl hDi.out hOl hD1 ?_; intro wf hR hW))
      refine bodyPost_ret (v := .agg D.toArray) (results_blk Tryz.results187 _ _ w.heap.size 212 D _ rfl hR Tryz.underlying212 rfl hDi.out) rfl ⟨by unfold dval; rw [HDG.out, HDE.out], hW.below _ _ hbx (Nat.le_refl _)⟩
    · have hi8 : i < 8 := by omega
      have hiI : (i : Int) < 8 := by omega
      have HXI := Lib.hid (HAT.out i hi8)
      have hx32 := HVL.out i hi8
      have o0 := out_val v i 0 _ rfl (by decide)
      have o1 := out_val v i 1 _ rfl (by decide)
      have o2 := out_val v i 2 _ rfl (by decide)
      have o3 := out_val v i 3 _ rfl (by decide)
      obtain ⟨x, hx⟩ : ∃ x, v.at i = x := ⟨_, rfl⟩
      rw [hx] at HXI hx32 o0 o1 o2 o3
      rw [show (2 : Int) ^ (24 - 8 * 0) = 16777216 from by decide, Nat.add_zero] at o0
      rw [show (2 : Int) ^ (24 - 8 * 1) = 65536 from by decide] at o1
      rw [show (2 : Int) ^ (24 - 8 * 2) = 256 from by decide] at o2
      rw [show (2 : Int) ^ (24 - 8 * 3) = 1 from by decide] at o3
      have V0 : Hid ((x : Int) / 16777216 = ((outB v (4 * i)).toNat : Int)) := by show _ = _; omega
      have V1 : Hid ((x : Int) / 65536 % 256 = ((outB v (4 * i + 1)).toNat : Int)) := by show _ = _; omega
      have V2 : Hid ((x : Int) / 256 % 256 = ((outB v (4 * i + 2)).toNat : Int)) := by show _ = _; omega
      have V3 : Hid ((x : Int) % 256 = ((outB v (4 * i + 3)).toNat : Int)) := by show _ = _; omega
      have c0 := (hO.cell (4 * i)).trans (brow_at _ (by omega))
      have c1 := (hO.cell (4 * i + 1)).trans (brow_at _ (by omega))
      have c2 := (hO.cell (4 * i + 2)).trans (brow_at _ (by omega))
      have c3 := (hO.cell (4 * i + 3)).trans (brow_at _ (by omega))
      have f0 := hO.frozen (4 * i)
      have f1 := hO.frozen (4 * i + 1)
      have f2 := hO.frozen (4 * i + 2)
      have f3 := hO.frozen (4 * i + 3)
      clear hx o0 o1 o2 o3
      go_wp2_with (with_reducible refine wpList_index_row rfl 177 (.tmp 13) (.tmp 14) rfl 153 8 _ X i _ rfl rfl Tryz.underlying177 Tryz.underlying153 rfl infoW hi8 HXI.out ?_)
      rw [V0.out, V1.out, V2.out, V3.out]
      have hS := (((hO.set (4 * i) (.int .u8 ((outB v (4 * i)).toNat : Int))).set (4 * i + 1) (.int .u8 ((outB v (4 * i + 1)).toNat : Int))).set (4 * i + 2) (.int .u8 ((outB v (4 * i + 2)).toNat : Int))).set (4 * i + 3) (.int .u8 ((outB v (4 * i + 3)).toNat : Int))
      rw [brow_set, brow_set, brow_set, brow_set, outF_next] at hS
      have hE2 := (((hE.set_other hlo.2 (4 * i) (.int .u8 ((outB v (4 * i)).toNat : Int))).set_other hlo.2 (4 * i + 1) (.int .u8 ((outB v (4 * i + 1)).toNat : Int))).set_other hlo.2 (4 * i + 2) (.int .u8 ((outB v (4 * i + 2)).toNat : Int))).set_other hlo.2 (4 * i + 3) (.int .u8 ((outB v (4 * i + 3)).toNat : Int))
      have hb2 := (((hbx.setCell (p := ⟨go, 4 * i, none⟩) hlo.1 (.int .u8 ((outB v (4 * i)).toNat : Int))).setCell (p := ⟨go, 4 * i + 1, none⟩) hlo.1 (.int .u8 ((outB v (4 * i + 1)).toNat : Int))).setCell (p := ⟨go, 4 * i + 2, none⟩) hlo.1 (.int .u8 ((outB v (4 * i + 2)).toNat : Int))).setCell (p := ⟨go, 4 * i + 3, none⟩) hlo.1 (.int .u8 ((outB v (4 * i + 3)).toNat : Int))
      go_roundg k
      case measure => omega
      case rel => exact ⟨i + 1, by omega, by go_num, hS, hE2, hb2⟩
end Go.Proofs.YthagdkipipldlaaGreatDoor.sha

namespace Go.Proofs.YthagdkipipldlaaGreatDoor.sha
open Go.RowKit
open Go.Proofs.YthagdkipipldlaaGreatDoor.oct Go.Proofs.YthagdkipipldlaaGreatDoor.ref Go.Proofs.YthagdkipipldlaaGreatDoor.rows
open Go.Lib (byteCells)

theorem part_block {w : World} {x : Part} {g : Nat} (h : x.lies w) (hg : w.heap.size ≤ g) : 0 < x.l.length → ∀ a, x.p = some a → a.block ≠ g := fun hl => in8_block h.1 hg hl

set_option maxRecDepth 20000 in
set_option maxHeartbeats 2000000 in
theorem all_c (P : Option Addr) (C : Nat) (ps : List Part) (w : World) (ht : Tabs w) (hp : InP w P ps) (hn : ps.length ≤ 1048576) (hl : (joined ps).length ≤ 140737488354500) :
    Calls Tryz.prog 183 #[.slice P ps.length C] w fun e w' => e = .returned (dval (digest (joined ps))) ∧ Below w.heap.size w w' := by
  have HP := Lib.hid hp
  have HT := Lib.hid ht
  have hE : Blk (w.alloc (.cells (byteCells (brow 32 fun _ => 0)).toArray 212)) w.heap.size 212 (byteCells (brow 32 fun _ => 0)) := blk_new w _ _ _ rfl
  have hb0 := (Below.refl w.heap.size w).alloc (Nat.le_refl _) (.cells (byteCells (brow 32 fun _ => 0)).toArray 212)
  have HE := Lib.hid hE
  have HB0 := Lib.hid hb0
  clear hp ht hE hb0
  go_enter Tryz.func183, Tryz.ntmps183
  go_wp2_with fail
  refine (hnew_c (w.alloc (.cells (byteCells (brow 32 fun _ => 0)).toArray 212)) (HT.out.below HB0.out)).mono ?_
  rintro e w1 ⟨g, rfl, hg, hh1, hb1⟩
  have hg0 : w.heap.size + 1 ≤ g := by simpa using hg
  have hE1 := HE.out.below hb1
  have hbw1 := bnext HB0.out hb1
  clear hg hb1
  go_wp2_with fail
  go_loopg [9] ps.length (fun k s9 wy => ∃ i : Nat, i + k = ps.length ∧ s9 = .int .i64 i ∧ Holds wy g (joined (ps.take i)) ∧ Blk wy w.heap.size 212 (byteCells (brow 32 fun _ => 0)) ∧ Below w.heap.size w wy)
  case atStart => exact ⟨0, by omega, rfl, by simpa [joined] using hh1, hE1, hbw1⟩
  case round =>
    clear hh1 hE1 hbw1
    obtain ⟨i, hik, rfl, hh, hE, hbx⟩ := hrel
    rcases gk with _ | k
    · obtain rfl : i = ps.length := by omega
      have e : ps.take ps.length = ps := List.take_length
      rw [e] at hh
      have HH := Lib.hid hh
      have HEE := Lib.hid hE
      have HBX := Lib.hid hbx
      clear e hh hE hbx
      go_wp2_with fail
      refine (hsum_c g (joined ps) wr (HT.out.below HBX.out) HH.out hl).mono ?_
      rintro e w2 ⟨rfl, hb2⟩
      have hE2 := Lib.hid (HEE.out.below hb2)
      have hbw2 := bnext HBX.out hb2
      have hDl : (byteCells (digest (joined ps))).length = 32 := by rw [byteCells_len, digest_len]
      have hD1 := bytes_one (digest (joined ps))
      have hDi : Hid ((Tryz.prog.info? 212).map (·.size) = some (byteCells (digest (joined ps))).length) := by show _ = _; rw [hDl]; exact infoDS
      have hOl : (byteCells (brow 32 fun _ => 0)).length = (byteCells (digest (joined ps))).length := by rw [bcells_len, hDl]
      unfold dval
      obtain ⟨D, hDe⟩ : ∃ D, byteCells (digest (joined ps)) = D := ⟨_, rfl⟩
      rw [hDe] at hD1 hDi hOl ⊢
      have HDE := Lib.hid hDe
      generalize byteCells (brow 32 fun _ => 0) = O at hE2 hOl
      clear hDe hDl hb2
      go_wp2_with (with_reducible refine wpList_store_blk rfl 212 (.tmp 2) (.tmp 18) rfl w.heap.size D O 212 hE2.out rfl rfl hDi.out hOl hD1 ?_; intro wf hR hW)
      refine bodyPost_ret (v := .agg D.toArray) (results_blk Tryz.results183 _ _ w.heap.size 212 D _ rfl hR Tryz.underlying212 rfl hDi.out) rfl ⟨by unfold dval; rw [HDE.out], hW.below _ _ hbw2 (Nat.le_refl _)⟩
    · have hi : i < ps.length := by omega
      have hq := HP.out.below hbx
      obtain ⟨bb, oo, rfl, hc⟩ := hq.1 (by omega)
      have c1 := hc i hi
      have hx := hq.2 _ (List.getElem_mem hi)
      have hx0 := HP.out.2 _ (List.getElem_mem hi)
      have hle := joined_take_le ps (i + 1)
      have hj := joined_take hi
      rw [hj, List.length_append] at hle
      have HJ := Lib.hid hj
      obtain ⟨x, hxe⟩ : ∃ x, ps[i] = x := ⟨_, rfl⟩
      rw [hxe] at c1 hx hx0 hle HJ
      obtain ⟨q, cq, l⟩ := x
      simp only [Part.val] at c1
      simp only at hle
      have HC := Lib.hid (hwrite_c g (joined (ps.take i)) q cq l wr (HT.out.below hbx) hh hx.1 (part_block hx0 (by omega)) hx.2 (by omega))
      have HEE := Lib.hid hE
      have HBX := Lib.hid hbx
      clear hq hc hxe hx hx0 hj hh hE hbx
      go_wp2_with fail
      refine HC.out.mono ?_
      rintro e w2 ⟨⟨v2, rfl⟩, hh2, hg2⟩
      have hE2 : Blk w2 w.heap.size 212 (byteCells (brow 32 fun _ => 0)) := (hg2.block _ HEE.out.lt (fun e => by injection e with e; omega)).trans HEE.out
      have hbw2 := grown_below HBX.out hg2 (by omega) HBX.out.size
      rw [← HJ.out] at hh2
      clear hg2
      go_wp2_with fail
      go_roundg k
      case measure => omega
      case rel => exact ⟨i + 1, by omega, by go_num, hh2, hE2, hbw2⟩

theorem part_one {w : World} {p : Option Addr} {cp : Nat} {l : List UInt8} (h : In8 w p l) (hn : Rm p cp l.length) (g : Nat) (hg : w.cell? ⟨g, 0, none⟩ = some (.slice p l.length cp)) : InP w (some ⟨g, 0, none⟩) [⟨p, cp, l⟩] := by
  refine ⟨fun _ => ⟨g, 0, rfl, fun i hi => ?_⟩, ?_⟩
  · obtain rfl : i = 0 := by simp at hi; omega
    exact hg
  · intro x hx
    simp only [List.mem_cons, List.not_mem_nil, or_false] at hx
    subst hx
    exact ⟨h, hn⟩

set_option maxRecDepth 20000 in
set_option maxHeartbeats 1000000 in
theorem sum_top (p : Option Addr) (cp : Nat) (l : List UInt8) (w : World) (ht : Tabs w) (hp : In8 w p l) (hl : l.length ≤ 140737488354500) (hr : Rm p cp l.length) :
    Calls Tryz.prog 179 #[.slice p l.length cp] w fun e w' => e = .returned (dval (digest l)) ∧ Below w.heap.size w w' := by
  have hE : Blk (w.alloc (.cells (byteCells (brow 32 fun _ => 0)).toArray 212)) w.heap.size 212 (byteCells (brow 32 fun _ => 0)) := blk_new w _ _ _ rfl
  have hb0 := (Below.refl w.heap.size w).alloc (Nat.le_refl _) (.cells (byteCells (brow 32 fun _ => 0)).toArray 212)
  have hb1 := hb0.alloc hb0.size (.cells #[.slice p l.length cp] 125)
  have hE1 := blk_old hE (.cells #[.slice p l.length cp] 125)
  have hP := part_one (hp.below hb1) hr (w.heap.size + 1) (by rw [World.cell?_alloc_at _ _ _ _ (by simp)]; rfl)
  have hC := all_c (some ⟨w.heap.size + 1, 0, none⟩) 1 [⟨p, cp, l⟩] _ (ht.below hb1) hP (by simp) (by rw [joined_one]; exact hl)
  rw [joined_one] at hC
  have HC := Lib.hid hC
  have HE := Lib.hid hE1
  have HB := Lib.hid hb1
  have hDl : (byteCells (digest l)).length = 32 := by rw [byteCells_len, digest_len]
  have hD1 := bytes_one (digest l)
  have hDi : Hid ((Tryz.prog.info? 212).map (·.size) = some (byteCells (digest l)).length) := by show _ = _; rw [hDl]; exact infoDS
  have hOl : Hid ((byteCells (brow 32 fun _ => 0)).length = (byteCells (digest l)).length) := by show _ = _; rw [bcells_len, hDl]
  obtain ⟨D, hDe⟩ : ∃ D, byteCells (digest l) = D := ⟨_, rfl⟩
  have HV : Hid (dval (digest l) = .agg D.toArray) := by show _ = _; unfold dval; rw [hDe]
  rw [hDe] at hD1 hDi hOl
  clear ht hp hE hb0 hb1 hE1 hP hC hDl hDe
  go_enter Tryz.func179, Tryz.ntmps179
  go_wp2_with fail
  refine HC.out.mono ?_
  rintro e w2 ⟨rfl, hb2⟩
  have hE2 := Lib.hid (HE.out.below hb2)
  have hbw2 := bnext HB.out hb2
  rw [HV.out]
  clear hb2
  go_wp2_with (with_reducible refine wpList_store_blk rfl 212 (.tmp 2) (.tmp 5) rfl w.heap.size D (byteCells (brow 32 fun _ => 0)) 212 hE2.out rfl rfl hDi.out hOl.out hD1 ?_; intro wf hR hW)
  refine bodyPost_ret (v := .agg D.toArray) (results_blk Tryz.results179 _ _ w.heap.size 212 D _ rfl hR Tryz.underlying212 rfl hDi.out) rfl ⟨by rw [HV.out], hW.below _ _ hbw2 (Nat.le_refl _)⟩
end Go.Proofs.YthagdkipipldlaaGreatDoor.sha
