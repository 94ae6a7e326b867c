/- The contract of the reference's words: the sixty-four words of a block. -/
import Derived.Test.YtohmhcglmaifpaaDoorSha2
import Derived.StillTailTactics
namespace Go.Proofs.YtohmhcglmaifpaaDoor.sha
open Go.RowKit
open Go.Proofs.YtohmhcglmaifpaaDoor.oct Go.Proofs.YtohmhcglmaifpaaDoor.ref Go.Proofs.YtohmhcglmaifpaaDoor.rows
open Go.Lib (byteCells)

/-- the first i bytes of a word -/
def part (l : List UInt8) (t : Nat) : Nat → Nat
  | 0 => 0
  | i + 1 => 256 * part l t i + (l.getD (4 * t + i) 0).toNat
theorem part_lt (l : List UInt8) (t i : Nat) : part l t i < 256 ^ i := by
  induction i with
  | zero => simp [part]
  | succ i ih =>
    have h := (l.getD (4 * t + i) 0).toNat_lt
    rw [Nat.pow_succ]
    simp only [part]
    omega
theorem part_small (l : List UInt8) (t i : Nat) (h : i < 4) : part l t i < 16777216 := by
  have h1 := part_lt l t i
  have h2 : 256 ^ i ≤ 256 ^ 3 := Nat.pow_le_pow_right (by decide) (by omega)
  omega
theorem part_word (l : List UInt8) (t : Nat) : part l t 4 = word l t := by
  simp only [part, word, Nat.add_zero]; omega

theorem xor3 (a b c : Nat) (ha : a < 4294967296) (hb : b < 4294967296) (hc : c < 4294967296) : bits .xor .u32 (bits .xor .u32 (a : Int) (b : Int)) (c : Int) = ((a ^^^ b ^^^ c : Nat) : Int) := by
  rw [xor_u32 a b ha hb, xor_u32 _ c (x32 ha hb) hc]
theorem add32 {a b : Nat} (_ha : a < 4294967296) (_hb : b < 4294967296) : ∃ c : Nat, IntKind.u32.wrap ((a : Int) + (b : Int)) = (c : Int) ∧ c < 4294967296 ∧ c = (a + b) % 4294967296 :=
  ⟨(a + b) % 4294967296, by rw [IntKind.wrap_u32]; omega, Nat.mod_lt _ (by decide), rfl⟩
theorem zero64 : (Tryd.prog.info? 57).map (·.zero) = some (some (.agg (wcells (row 64 fun _ => 0)).toArray)) := by kernel_rfl

set_option maxHeartbeats 2000000 in
theorem words_c (p : Option Addr) (cp : Nat) (l : List UInt8) (w : World) (hp : In8 w p l) (hl : l.length = 64) :
    Calls Tryd.prog 33 #[.slice p 64 cp] w fun e w' => e = .returned (.agg (wcells (row 64 (wd l))).toArray) ∧ Below w.heap.size w w' := by
  have HP := Lib.hid hp
  have HL := Lib.hid hl
  have HI : Hid ((Tryd.prog.info? 57).map (·.size) = some 64) := info64
  clear hp hl
  go_enter Tryd.func33, Tryd.ntmps33
  go_wp2_with fail
  have hB2 : Blk (w.alloc (.cells (wcells (row 64 fun _ => 0)).toArray 57)) w.heap.size 57 (wcells (row 64 fun _ => 0)) := blk_new w _ _ _ rfl
  have hB3 : Blk ((w.alloc (.cells (wcells (row 64 fun _ => 0)).toArray 57)).alloc (.cells (wcells (row 64 fun _ => 0)).toArray 57)) (w.heap.size + 1) 57 (wcells (row 64 fun _ => 0)) := by
    have := blk_new (w.alloc (.cells (wcells (row 64 fun _ => 0)).toArray 57)) _ 57 (wcells (row 64 fun _ => 0)) rfl
    simpa using this
  have hb : Below w.heap.size w ((w.alloc (.cells (wcells (row 64 fun _ => 0)).toArray 57)).alloc (.cells (wcells (row 64 fun _ => 0)).toArray 57)) := ((Below.refl _ _).alloc (Nat.le_refl _) _).alloc (by simp) _
  have hB2' := blk_old hB2 (.cells (wcells (row 64 fun _ => 0)).toArray 57)
  obtain ⟨wz, hwz⟩ : ∃ wz, wz = (w.alloc (.cells (wcells (row 64 fun _ => 0)).toArray 57)).alloc (.cells (wcells (row 64 fun _ => 0)).toArray 57) := ⟨_, rfl⟩
  rw [← hwz] at hB3 hb hB2'
  change Code.wp _ _ _ _ ((w.alloc (.cells (wcells (row 64 fun _ => 0)).toArray 57)).alloc (.cells (wcells (row 64 fun _ => 0)).toArray 57))
  rw [← hwz]
  clear hwz hB2
  go_loopg [4] 16 (fun g s4 wy => ∃ (t : Nat) (f : Nat → Nat), t + g = 16 ∧ s4 = .int .i64 t ∧ Hid ((∀ j, j < t → f j = word l j) ∧ (∀ j, t ≤ j → f j = 0)) ∧ Blk wy (w.heap.size + 1) 57 (wcells (row 64 f)) ∧ Blk wy w.heap.size 57 (wcells (row 64 fun _ => 0)) ∧ Below w.heap.size w wy)
  case atStart => exact ⟨0, _, rfl, rfl, ⟨fun j h => by omega, fun j _ => rfl⟩, hB3, hB2', hb⟩
  case round =>
    clear hB3 hB2' hb
    obtain ⟨t, f, htg, rfl, HF, hB3, hB2, hbx⟩ := hrel
    rcases gk with _ | g
    · obtain rfl : t = 16 := by omega
      have HF2 : Hid (∀ j, j < 16 → f j = wd l j) := fun j hj => by rw [HF.out.1 j hj, wd_lo l hj]
      clear HF
      go_wp2_with fail
      go_loopg [6] 48 (fun g s6 wy => ∃ (t : Nat) (f : Nat → Nat), t + g = 64 ∧ 16 ≤ t ∧ s6 = .int .i64 t ∧ Hid (∀ j, j < t → f j = wd l j) ∧ Blk wy (w.heap.size + 1) 57 (wcells (row 64 f)) ∧ Blk wy w.heap.size 57 (wcells (row 64 fun _ => 0)) ∧ Below w.heap.size w wy)
      case atStart => exact ⟨16, f, rfl, Nat.le_refl _, rfl, HF2, hB3, hB2, hbx⟩
      case round =>
        clear HF2 hB3 hB2 hbx
        obtain ⟨t, f, htg, h16, rfl, HF, hB3, hB2, hbx⟩ := hrel
        rcases gk with _ | g
        · obtain rfl : t = 64 := by omega
          have he : row 64 f = row 64 (wd l) := row_eq HF.out
          rw [he] at hB3
          have hX := row_len 64 (wd l)
          have h1 := row_one 64 (wd l)
          have hXi : Hid ((Tryd.prog.info? 57).map (·.size) = some (wcells (row 64 (wd l))).length) := by show _ = _; rw [hX]; exact info64
          have hO : (wcells (row 64 fun _ => 0)).length = (wcells (row 64 (wd l))).length := by rw [row_len, row_len]
          have HB3 := Lib.hid hB3
          have HB2 := Lib.hid hB2
          obtain ⟨X, hXe⟩ : ∃ X, wcells (row 64 (wd l)) = X := ⟨_, rfl⟩
          rw [hXe] at HB3 h1 hXi hO
          have HXE := Lib.hid hXe
          clear hXe
          generalize wcells (row 64 fun _ => 0) = O at HB2 hO
          clear hB3 hB2 he HF hX
          go_wp2_with (first
            | (with_reducible refine wpList_load_blk rfl 57 (.tmp 3) rfl (w.heap.size + 1) X 57 HB3.out rfl _ Tryd.underlying57 rfl hXi.out ?_)
            | (with_reducible refine wpList_store_blk rfl 57 (.tmp 2) (.tmp 77) rfl w.heap.size X O 57 HB2.out rfl rfl hXi.out hO h1 ?_; intro w1 hR hW))
          refine bodyPost_ret (v := .agg X.toArray) (results_blk Tryd.results33 _ _ w.heap.size 57 X _ rfl hR Tryd.underlying57 rfl hXi.out) rfl ⟨by rw [HXE.out], hW.below _ _ hbx (Nat.le_refl _)⟩
        · have htI : (t : Int) < 64 := by omega
          have e2 := HF.out (t - 2) (by omega)
          have e7 := HF.out (t - 7) (by omega)
          have e15 := HF.out (t - 15) (by omega)
          have e16 := HF.out (t - 16) (by omega)
          have l2 := wd_lt l (t - 2)
          have l7 := wd_lt l (t - 7)
          have l15 := wd_lt l (t - 15)
          have l16 := wd_lt l (t - 16)
          have hW := wd_hi l h16
          have c2 := (hB3.cell (t - 2)).trans (row_at f (by omega))
          have c7 := (hB3.cell (t - 7)).trans (row_at f (by omega))
          have c15 := (hB3.cell (t - 15)).trans (row_at f (by omega))
          have c16 := (hB3.cell (t - 16)).trans (row_at f (by omega))
          have ct := (hB3.cell t).trans (row_at f (by omega))
          have ft := hB3.frozen t
          rw [e2] at c2
          rw [e7] at c7
          rw [e15] at c15
          rw [e16] at c16
          obtain ⟨X, hX⟩ : ∃ X, wd l (t - 2) = X := ⟨_, rfl⟩
          obtain ⟨Y, hY⟩ : ∃ Y, wd l (t - 15) = Y := ⟨_, rfl⟩
          obtain ⟨U, hU⟩ : ∃ U, wd l (t - 7) = U := ⟨_, rfl⟩
          obtain ⟨V, hV⟩ : ∃ V, wd l (t - 16) = V := ⟨_, rfl⟩
          rw [hX] at c2 l2 hW
          rw [hY] at c15 l15 hW
          rw [hU] at c7 l7 hW
          rw [hV] at c16 l16 hW
          have x1 := xor3 _ _ _ (rotN_lt 17 l2) (rotN_lt 19 l2) (dwn_lt 10 l2)
          have x0 := xor3 _ _ _ (rotN_lt 7 l15) (rotN_lt 18 l15) (dwn_lt 3 l15)
          have y1 := s1_lt l2
          have y0 := s0_lt l15
          have z1 := Lib.hid (turn_c X 17 l2 (by decide) wr)
          have z2 := Lib.hid (turn_c X 19 l2 (by decide) wr)
          have z3 := Lib.hid (down_c X 10 l2 (by decide) wr)
          have z4 := Lib.hid (turn_c Y 7 l15 (by decide) wr)
          have z5 := Lib.hid (turn_c Y 18 l15 (by decide) wr)
          have z6 := Lib.hid (down_c Y 3 l15 (by decide) wr)
          clear hX hY hU hV
          obtain ⟨A1, q1, a1⟩ := add32 y1 l7
          obtain ⟨A2, q2, a2⟩ := add32 a1.1 y0
          obtain ⟨A3, q3, a3⟩ := add32 a2.1 l16
          have HW : Hid (A3 = wd l t) := by show _ = _; rw [hW, a3.2, a2.2, a1.2]; omega
          have r1 : IntKind.i64.wrap ((t : Int) - 7) = (t : Int) - 7 := by rw [IntKind.wrap_i64]; omega
          have r2 : ((t : Int) - 7).toNat = t - 7 := by omega
          have r3 : (0 : Int) ≤ (t : Int) - 7 := by omega
          have r4 : (t : Int) - 7 < 64 := by omega
          have r5 : IntKind.i64.wrap ((t : Int) - 16) = (t : Int) - 16 := by rw [IntKind.wrap_i64]; omega
          have r6 : ((t : Int) - 16).toNat = t - 16 := by omega
          have r7 : (0 : Int) ≤ (t : Int) - 16 := by omega
          have r8 : (t : Int) - 16 < 64 := by omega
          have r9 : (7 : Int) ≤ (t : Int) := by omega
          have r10 : (16 : Int) ≤ (t : Int) := by omega
          have r11 : (t : Int) < 71 := by omega
          have r12 : (t : Int) < 80 := by omega
          clear hW a1 a2 a3
          rw [show rotN 17 X ^^^ rotN 19 X ^^^ dwn 10 X = s1 X from rfl] at x1
          rw [show rotN 7 Y ^^^ rotN 18 Y ^^^ dwn 3 Y = s0 Y from rfl] at x0
          go_wp2_with fail
          refine z1.out.mono ?_
          rintro e w' ⟨rfl, rfl⟩
          go_wp2_with fail
          refine z2.out.mono ?_
          rintro e w' ⟨rfl, rfl⟩
          go_wp2_with fail
          refine z3.out.mono ?_
          rintro e w' ⟨rfl, rfl⟩
          go_wp2_with fail
          refine z4.out.mono ?_
          rintro e w' ⟨rfl, rfl⟩
          go_wp2_with fail
          refine z5.out.mono ?_
          rintro e w' ⟨rfl, rfl⟩
          go_wp2_with fail
          refine z6.out.mono ?_
          rintro e w' ⟨rfl, rfl⟩
          go_wp2_with fail
          have HSET : Hid (Blk (wr.drew.setCell ⟨w.heap.size + 1, t, none⟩ (.int .u32 (A3 : Int))) (w.heap.size + 1) 57 (wcells (row 64 (upd f t (wd l t))))) := by
            have h := Blk.set (w := wr.drew) hB3 t (.int .u32 ((wd l t : Nat) : Int))
            rw [row_set, ← HW.out] at h
            rw [← HW.out]
            exact h
          have HB2 : Hid (Blk (wr.drew.setCell ⟨w.heap.size + 1, t, none⟩ (.int .u32 (A3 : Int))) w.heap.size 57 (wcells (row 64 fun _ => 0))) := Blk.set_other (w := wr.drew) hB2 (by omega) t _
          have HBX : Hid (Below w.heap.size w (wr.drew.setCell ⟨w.heap.size + 1, t, none⟩ (.int .u32 (A3 : Int)))) := hbx.drew.setCell (by simp) _
          have HF2 : Hid (∀ j, j < t + 1 → upd f t (wd l t) j = wd l j) := by
            intro j hj
            by_cases he : j = t
            · rw [he, upd_at]
            · rw [upd_ne he]; exact HF.out j (by omega)
          clear hB3 hB2 hbx HF
          go_still_tail 15, (by kernel_rfl)
          change wpList _ _ _ _ _ wr.drew
          obtain ⟨wd', hwd⟩ : ∃ wd', wd' = wr.drew := ⟨_, rfl⟩
          rw [← hwd] at HSET HB2 HBX ⊢
          have f3 : wd'.frozen? ⟨w.heap.size + 1, t, none⟩ = false := by rw [hwd]; exact ft
          have d1 : wd'.cell? ⟨w.heap.size + 1, t, none⟩ = some (.int .u32 ((f t : Nat) : Int)) := by rw [hwd]; exact ct
          clear hwd c2 c7 c15 c16 ct ft
          go_wp2_with fail
          go_roundg g
          case measure => omega
          case rel => exact ⟨t + 1, _, by omega, by omega, by go_num, HF2, HSET.out, HB2.out, HBX.out⟩
    · have ht : t < 16 := by omega
      have htI : (t : Int) < 16 := by omega
      go_wp2_with fail
      go_loopg [5] 4 (fun g2 s5 wy => ∃ (i : Nat) (f : Nat → Nat), i + g2 = 4 ∧ s5 = .int .i64 i ∧ Hid ((∀ j, j < t → f j = word l j) ∧ (∀ j, t < j → f j = 0) ∧ f t = part l t i) ∧ Blk wy (w.heap.size + 1) 57 (wcells (row 64 f)) ∧ Blk wy w.heap.size 57 (wcells (row 64 fun _ => 0)) ∧ Below w.heap.size w wy)
      case atStart => exact ⟨0, f, rfl, rfl, ⟨HF.out.1, fun j hj => HF.out.2 j (by omega), HF.out.2 t (Nat.le_refl _)⟩, hB3, hB2, hbx⟩
      case round =>
        clear HF hB3 hB2 hbx
        obtain ⟨i, f, hig, rfl, HF, hB3, hB2, hbx⟩ := hrel
        rcases gk with _ | g2
        · obtain rfl : i = 4 := by omega
          have HF2 : Hid ((∀ j, j < t + 1 → f j = word l j) ∧ (∀ j, t + 1 ≤ j → f j = 0)) := by
            refine ⟨fun j hj => ?_, fun j hj => HF.out.2.1 j (by omega)⟩
            by_cases he : j = t
            · rw [he, HF.out.2.2, part_word]
            · exact HF.out.1 j (by omega)
          go_wp2_with fail
          go_roundg g
          case measure => omega
          case rel => exact ⟨t + 1, f, by omega, by go_num, HF2, hB3, hB2, hbx⟩
        · have hi4 : i < 4 := by omega
          have hiI : (i : Int) < 4 := by omega
          have hq := HP.out.below hbx
          obtain ⟨b, o, rfl, hc⟩ := hq.at (by rw [HL.out]; decide)
          have c2 := hc (4 * t + i) (by rw [HL.out]; omega)
          have c1 := (hB3.cell t).trans (row_at f (by omega))
          have f1 := hB3.frozen t
          have hpl := part_small l t i hi4
          rw [HF.out.2.2] at c1
          have hy := (l.getD (4 * t + i) 0).toNat_lt
          have HV : Hid (((256 * (part l t i : Nat) : Int) + (((l.getD (4 * t + i) 0).toNat : Nat) : Int)) = ((part l t (i + 1) : Nat) : Int)) := by show _ = _; simp only [part]; omega
          obtain ⟨y, hyy⟩ : ∃ y, (l.getD (4 * t + i) 0).toNat = y := ⟨_, rfl⟩
          obtain ⟨x, hxx⟩ : ∃ x, part l t i = x := ⟨_, rfl⟩
          rw [hyy] at c2 hy HV
          rw [hxx] at c1 hpl HV
          have s1 : IntKind.u32.wrap (256 * (x : Int)) = 256 * (x : Int) := by rw [IntKind.wrap_u32]; omega
          have s2 : IntKind.i64.wrap (4 * (t : Int)) = 4 * (t : Int) := by rw [IntKind.wrap_i64]; omega
          have s3 : IntKind.i64.wrap (4 * (t : Int) + (i : Int)) = 4 * (t : Int) + (i : Int) := by rw [IntKind.wrap_i64]; omega
          have s4 : (4 * (t : Int) + (i : Int)).toNat = 4 * t + i := by omega
          have s5 : (0 : Int) ≤ 4 * (t : Int) + (i : Int) := by omega
          have s6 : 4 * (t : Int) + (i : Int) < 64 := by omega
          have s7 : IntKind.u32.wrap (256 * (x : Int) + (y : Int)) = 256 * (x : Int) + (y : Int) := by rw [IntKind.wrap_u32]; omega
          have s8 : IntKind.u32.wrap (y : Int) = (y : Int) := by rw [IntKind.wrap_u32]; omega
          have s9 : (t : Int) < 64 := by omega
          have HSET : Hid (Blk (wr.drew.setCell ⟨w.heap.size + 1, t, none⟩ (.int .u32 (256 * (x : Int) + (y : Int)))) (w.heap.size + 1) 57 (wcells (row 64 (upd f t (part l t (i + 1)))))) := by
            have h := Blk.set (w := wr.drew) hB3 t (.int .u32 ((part l t (i + 1) : Nat) : Int))
            rw [row_set, ← HV.out] at h
            exact h
          have HB2 : Hid (Blk (wr.drew.setCell ⟨w.heap.size + 1, t, none⟩ (.int .u32 (256 * (x : Int) + (y : Int)))) w.heap.size 57 (wcells (row 64 fun _ => 0))) := Blk.set_other (w := wr.drew) hB2 (by omega) t _
          have HBX : Hid (Below w.heap.size w (wr.drew.setCell ⟨w.heap.size + 1, t, none⟩ (.int .u32 (256 * (x : Int) + (y : Int))))) := hbx.drew.setCell (by simp) _
          have HF2 : Hid ((∀ j, j < t → upd f t (part l t (i + 1)) j = word l j) ∧ (∀ j, t < j → upd f t (part l t (i + 1)) j = 0) ∧ upd f t (part l t (i + 1)) t = part l t (i + 1)) :=
            ⟨fun j hj => by rw [upd_ne (by omega)]; exact HF.out.1 j hj, fun j hj => by rw [upd_ne (by omega)]; exact HF.out.2.1 j hj, upd_at _ _ _⟩
          clear hB3 hB2 hbx hq hc hyy hxx HF
          go_wp2_with fail
          go_still_tail 15, (by kernel_rfl)
          change wpList _ _ _ _ _ wr.drew
          obtain ⟨wd', hwd⟩ : ∃ wd', wd' = wr.drew := ⟨_, rfl⟩
          rw [← hwd] at HSET HB2 HBX ⊢
          have f3 : wd'.frozen? ⟨w.heap.size + 1, t, none⟩ = false := by rw [hwd]; exact f1
          have d1 : wd'.cell? ⟨w.heap.size + 1, t, none⟩ = some (.int .u32 (x : Int)) := by rw [hwd]; exact c1
          clear hwd c1 c2 f1
          go_wp2_with fail
          go_roundg g2
          case measure => omega
          case rel => exact ⟨i + 1, _, by omega, by go_num, HF2, HSET.out, HB2.out, HBX.out⟩
end Go.Proofs.YtohmhcglmaifpaaDoor.sha
