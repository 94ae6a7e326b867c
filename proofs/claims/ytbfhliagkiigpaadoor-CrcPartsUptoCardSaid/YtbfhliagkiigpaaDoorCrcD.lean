/- CrcBursts: the walk of the law. Conditions: the table of sixteen sums holds what the program's text lays; rows within the reach. -/
import Derived.Test.YtbfhliagkiigpaaDoorCrc2
import Derived.Test.YtbfhliagkiigpaaDoorR1Copy
import Derived.Test.YtbfhliagkiigpaaDoorAfter
import Derived.StillTailTactics
namespace Go.Proofs.YtbfhliagkiigpaaDoor.crcD
open Go.RowKit
open Go.Proofs.YtbfhliagkiigpaaDoor.oct Go.Proofs.YtbfhliagkiigpaaDoor.ref Go.Proofs.YtbfhliagkiigpaaDoor.crc
open Go.Lib (byteCells)

/-- the change: t from place k on, in a row of n bytes -/
def mask (n k : Nat) (t : List UInt8) : List UInt8 := List.replicate k 0 ++ t ++ List.replicate (n - k - t.length) 0
theorem mask_len {n k : Nat} {t : List UInt8} (h : k + t.length ≤ n) : (mask n k t).length = n := by simp [mask]; omega
theorem mask_nil (l : List UInt8) (k : Nat) (hk : k ≤ l.length) : zx l (mask l.length k []) = l := by
  unfold mask zx
  rw [List.append_nil, List.length_nil, Nat.sub_zero, List.replicate_append_replicate, show k + (l.length - k) = l.length from by omega]
  apply List.ext_getElem
  · simp
  · intro i h1 h2; simp
theorem mask_at {n k : Nat} {t : List UInt8} (h : k + t.length < n) : (mask n k t)[k + t.length]? = some 0 := by
  unfold mask
  rw [List.getElem?_append_right (by simp), List.length_append, List.length_replicate, Nat.sub_self, List.getElem?_replicate, if_pos (by omega)]
theorem zx_at {l m : List UInt8} {j : Nat} {x y : UInt8} (h1 : l[j]? = some x) (h2 : m[j]? = some y) : (zx l m)[j]? = some (x ^^^ y) := by
  simp [zx, List.getElem?_zipWith, h1, h2]
theorem mask_set {n k : Nat} {t : List UInt8} (x : UInt8) (h : k + t.length < n) : (mask n k t).set (k + t.length) x = mask n k (t ++ [x]) := by
  unfold mask
  rw [List.set_append_right _ _ (by simp), List.length_append, List.length_replicate, Nat.sub_self, show n - k - t.length = (n - k - (t ++ [x]).length) + 1 from by simp; omega, List.replicate_succ, List.set_cons_zero]
  simp
theorem zx_set {l m : List UInt8} {j : Nat} {x y : UInt8} (h1 : l[j]? = some x) : (zx l m).set j (x ^^^ y) = zx l (m.set j y) := by
  apply List.ext_getElem?
  intro i
  by_cases hi : j = i
  · subst hi
    by_cases hm : j < m.length
    · have := (List.getElem?_eq_some_iff.1 h1).1
      simp [zx, List.getElem?_zipWith, h1, List.getElem?_set, hm]
      omega
    · rw [List.set_eq_of_length_le (by simp [zx]; omega), List.set_eq_of_length_le (by omega)]
  · simp [zx, List.getElem?_zipWith, List.getElem?_set_ne hi]

theorem all0 {t : List UInt8} : t.all (· == 0) = true ↔ ∀ x ∈ t, x = 0 := by simp
/-- the sums are alike just if nothing is changed -/
theorem burst (l t : List UInt8) (k : Nat) (h4 : t.length ≤ 4) (hk : k + t.length ≤ l.length) : ((((more 0 (zx l (mask l.length k t)) : Nat) : Int)) == ((more 0 l : Nat) : Int)) = t.all (· == 0) := by
  have hr := run_xor l (mask l.length k t) (crc.flip 0) 0 (mask_len hk).symm
  rw [Nat.xor_zero] at hr
  rw [Bool.eq_iff_iff, beq_iff_eq, all0]
  constructor
  · intro h
    have h1 : more 0 (zx l (mask l.length k t)) = more 0 l := by omega
    have h2 := congrArg crc.flip h1
    unfold more at h2
    rw [crc.flip_flip, crc.flip_flip, hr] at h2
    have h3 : run 0 (mask l.length k t) = 0 := by have := xxl (run (crc.flip 0) l) (run 0 (mask l.length k t)); rw [h2, Nat.xor_self] at this; exact this.symm
    exact run_burst k _ t h4 h3
  · intro h
    have e : t = List.replicate t.length 0 := List.eq_replicate_iff.2 ⟨rfl, h⟩
    have h3 : run 0 (mask l.length k t) = 0 := by
      unfold mask
      rw [e, List.length_replicate, List.replicate_append_replicate, List.replicate_append_replicate, run_zeros]
    rw [h3, Nat.xor_zero] at hr
    unfold more
    rw [hr]

theorem at_place (a : Int) (n : Nat) (h0 : 0 < n) (h1 : n ≤ 140737488355328) : ∃ k : Nat, wrap64 ((IntKind.u64.wrap a).tmod (n : Int)) = (k : Int) ∧ k < n := by
  have h2 : 0 ≤ IntKind.u64.wrap a := by rw [IntKind.wrap_u64]; omega
  rw [Int.tmod_eq_emod_of_nonneg h2]
  have h3 := Int.emod_nonneg (IntKind.u64.wrap a) (show (n : Int) ≠ 0 by omega)
  have h4 := Int.emod_lt_of_pos (IntKind.u64.wrap a) (show (0 : Int) < n by omega)
  generalize IntKind.u64.wrap a % (n : Int) = r at h3 h4
  exact ⟨r.toNat, by unfold wrap64; omega, by omega⟩
theorem take_all {t : List UInt8} {i : Nat} (h : i < t.length) : (t.take (i + 1)).all (· == 0) = ((t.take i).all (· == 0) && t[i] == 0) := by
  rw [List.take_succ_eq_append_getElem h, List.all_append]; simp
theorem in8_blk0 {w : World} {g : Nat} {l : List UInt8} (h : Blk w g 5 (byteCells l)) : In8 w (some ⟨g, 0, none⟩) l := in8_blk (Y := []) (by simpa using h)
theorem bytes_at {l : List UInt8} {i : Nat} {x : UInt8} (h : l[i]? = some x) : (byteCells l)[i]? = some (.int .u8 (x.toNat : Int)) := by simp [byteCells, h]
theorem bytes_set (l : List UInt8) (i : Nat) (x : UInt8) : (byteCells l).set i (.int .u8 (x.toNat : Int)) = byteCells (l.set i x) := by simp [byteCells, List.map_set]

set_option maxHeartbeats 1000000 in
theorem bursts (p : Option Addr) (cp : Nat) (l : List UInt8) (at' : Int) (t0 t1 t2 t3 : UInt8) (w : World) (hp : In8 w p l) (hl : l.length ≤ 140737488355328) (ht : Tab w) :
    Calls Tryd.prog 5 #[.slice p l.length cp, .int .i64 at', .agg #[.int .u8 (t0.toNat : Int), .int .u8 (t1.toNat : Int), .int .u8 (t2.toNat : Int), .int .u8 (t3.toNat : Int)]] w fun e w' => e = .returned (.bool true) ∧ Below w.heap.size w w' := by
  have HP := Lib.hid hp
  have HT := Lib.hid ht
  clear hp ht
  have T : ∃ t : List UInt8, t = [t0, t1, t2, t3] := ⟨_, rfl⟩
  obtain ⟨t, hT⟩ := T
  have HT4 : Hid (t.length = 4) := by show _ = _; rw [hT]; rfl
  by_cases hz : l.length = 0
  · have hb : ((l.length : Int) == 0) = true := by rw [beq_iff_eq]; omega
    go_enter Tryd.func5, Tryd.ntmps5
    go_wp2_with fail
    have b0 : Below w.heap.size w (w.alloc (.cells #[.int .u8 (t0.toNat : Int), .int .u8 (t1.toNat : Int), .int .u8 (t2.toNat : Int), .int .u8 (t3.toNat : Int)] 30)) := (Below.refl _ _).alloc (Nat.le_refl _) _
    refine (known_c _ (HT.out.below b0)).mono ?_
    rintro e w1 ⟨rfl, hb1⟩
    have HB1 := Lib.hid (bnext b0 hb1)
    clear b0 hb1
    go_wp2_with fail
    refine (known_c w1 (HT.out.below HB1.out)).mono ?_
    rintro e w2 ⟨rfl, hb2⟩
    go_wp2_with fail
    go_ret
    exact ⟨rfl, bnext HB1.out hb2⟩
  · have hb : ((l.length : Int) == 0) = false := by rw [beq_eq_false_iff_ne]; omega
    obtain ⟨k, hk, hkl⟩ := at_place at' l.length (by omega) hl
    have HK := Lib.hid hk
    clear hk
    go_enter Tryd.func5, Tryd.ntmps5
    go_wp2_with fail
    have b0 : Below w.heap.size w (w.alloc (.cells #[.int .u8 (t0.toNat : Int), .int .u8 (t1.toNat : Int), .int .u8 (t2.toNat : Int), .int .u8 (t3.toNat : Int)] 30)) := (Below.refl _ _).alloc (Nat.le_refl _) _
    have hBT : Blk (w.alloc (.cells #[.int .u8 (t0.toNat : Int), .int .u8 (t1.toNat : Int), .int .u8 (t2.toNat : Int), .int .u8 (t3.toNat : Int)] 30)) w.heap.size 30 (byteCells t) := by rw [hT]; exact heap_alloc_new w _
    refine (known_c _ (HT.out.below b0)).mono ?_
    rintro e w1 ⟨rfl, hb1⟩
    have hBT1 := hBT.below hb1
    have HB1 := Lib.hid (bnext b0 hb1)
    clear b0 hb1 hBT
    go_wp2_with fail
    rw [HK.out]
    refine (rcopy_b p cp l w1 (HP.out.below HB1.out) hl).mono ?_
    rintro e w2 ⟨rfl, hBC2, hb2⟩
    have hBT2 := hBT1.below hb2
    have HNE : Hid (w1.heap.size ≠ w.heap.size ∧ w.heap.size ≤ w1.heap.size) := by have := hBT1.lt; exact ⟨by omega, by omega⟩
    have hB2 := bnext HB1.out hb2
    clear hBT1 hb2 HK hT
    go_wp2_with fail
    go_loopg [9, 10] 4 (fun g s9 s10 wy => ∃ (i : Nat) (s : Bool), i + g = 4 ∧ k + i ≤ l.length ∧ s10 = .int .i64 i ∧ s9 = .bool s ∧ Hid (s = (t.take i).all (· == 0)) ∧ Blk wy w1.heap.size 5 (byteCells (zx l (mask l.length k (t.take i)))) ∧ Blk wy w.heap.size 30 (byteCells t) ∧ Below w.heap.size w wy)
    case atStart => exact ⟨0, true, rfl, by omega, rfl, rfl, by show _ = _; simp, by rw [List.take_zero, mask_nil l k (by omega)]; exact hBC2, hBT2, hB2⟩
    case round =>
      clear hBC2 hBT2 hB2
      obtain ⟨i, s, hig, hki, rfl, rfl, HS, hBC, hBT, hbx⟩ := hrel
      by_cases hin : i < 4 ∧ k + i < l.length
      · obtain ⟨hi4, hkin⟩ := hin
        have hit : i < t.length := by rw [HT4.out]; exact hi4
        have htl : (t.take i).length = i := by rw [List.length_take]; omega
        have hm := mask_at (n := l.length) (k := k) (t := t.take i) (by rw [htl]; exact hkin)
        rw [htl] at hm
        have hx0 := zx_at (List.getElem?_eq_getElem hkin) hm
        have c1 := hBC.cell (k + i)
        rw [UInt8.xor_zero] at hx0
        rw [bytes_at hx0] at c1
        have f1 := hBC.frozen (k + i)
        have c2 := hBT.cell i
        rw [bytes_at (List.getElem?_eq_getElem hit)] at c2
        have HSET2 : Hid (Blk (wr.drew.setCell ⟨w1.heap.size, k + i, none⟩ (.int .u8 ((l[k + i] ^^^ t[i]).toNat : Int))) w1.heap.size 5 (byteCells (zx l (mask l.length k (t.take (i + 1)))))) := by
          have h := Blk.set (w := wr.drew) hBC (k + i) (.int .u8 ((l[k + i] ^^^ t[i]).toNat : Int))
          rw [bytes_set, zx_set (List.getElem?_eq_getElem hkin)] at h
          have h2 := mask_set (n := l.length) (k := k) (t := t.take i) t[i] (by rw [htl]; exact hkin)
          rw [htl, ← List.take_succ_eq_append_getElem hit] at h2
          rw [h2] at h
          exact h
        have HTA := Lib.hid (take_all hit)
        have hv := xor_u8 l[k + i] t[i]
        have g1 : (i : Int) < 4 := by omega
        have g2 : (k : Int) + (i : Int) < (l.length : Int) := by omega
        have s1 : IntKind.i64.wrap ((k : Int) + (i : Int)) = (k : Int) + (i : Int) := by rw [IntKind.wrap_i64]; omega
        have s2 : ((k : Int) + (i : Int)).toNat = k + i := by omega
        have s3 : (0 : Int) ≤ (k : Int) + (i : Int) := by omega
        have HBT := Lib.hid hBT
        have HBX := Lib.hid hbx
        clear hBC hBT hbx hx0 hm htl
        cases s
        · have HS2 : Hid (false = (t.take (i + 1)).all (· == 0)) := by show _ = _; rw [HTA.out, ← HS.out]; rfl
          go_wp2_with fail
          go_still_tail 15, (by kernel_rfl)
          change wpList _ _ _ _ _ wr.drew
          have HBX2 := Lib.hid (HBX.out.drew.setCell (p := ⟨w1.heap.size, k + i, none⟩) HNE.out.2 (.int .u8 ((l[k + i] ^^^ t[i]).toNat : Int)))
          have HBT2 := Lib.hid (Blk.set_other (w := wr.drew) HBT.out HNE.out.1 (k + i) (.int .u8 ((l[k + i] ^^^ t[i]).toNat : Int)))
          obtain ⟨wd, hwd⟩ : ∃ wd, wd = wr.drew := ⟨_, rfl⟩
          rw [← hwd] at HBX2 HBT2 HSET2 ⊢
          have c3 : wd.cell? ⟨w.heap.size, i, none⟩ = some (.int .u8 (t[i].toNat : Int)) := by rw [hwd]; exact c2
          have c4 : (wd.setCell ⟨w1.heap.size, k + i, none⟩ (.int .u8 ((l[k + i] ^^^ t[i]).toNat : Int))).cell? ⟨w.heap.size, i, none⟩ = some (.int .u8 (t[i].toNat : Int)) := by rw [Blk.cell HBT2.out]; rw [hwd] at c3; rw [← Blk.cell HBT.out]; exact c2
          have f3 : wd.frozen? ⟨w1.heap.size, k + i, none⟩ = false := by rw [hwd]; exact f1
          have d1 : ∃ v, wd.cell? ⟨w1.heap.size, k + i, none⟩ = some v := ⟨_, by rw [hwd]; exact c1⟩
          obtain ⟨v1, d1⟩ := d1
          clear hwd c1 c2 f1
          have n1 := HNE.out.1
          have n2 := n1.symm
          go_wp2_with fail
          go_roundg (gk - 1)
          case measure => omega
          case rel => exact ⟨i + 1, false, by omega, by omega, by go_num, rfl, HS2, HSET2.out, HBT2.out, HBX2.out⟩
        · by_cases he : t[i] = 0
          · have hb0 : ((t[i].toNat : Int) == 0) = true := by rw [he]; rfl
            have HS2 : Hid (true = (t.take (i + 1)).all (· == 0)) := by show _ = _; rw [HTA.out, ← HS.out, he]; rfl
            clear he
            go_wp2_with fail
            go_still_tail 15, (by kernel_rfl)
            change wpList _ _ _ _ _ wr.drew
            have HBX2 := Lib.hid (HBX.out.drew.setCell (p := ⟨w1.heap.size, k + i, none⟩) HNE.out.2 (.int .u8 ((l[k + i] ^^^ t[i]).toNat : Int)))
            have HBT2 := Lib.hid (Blk.set_other (w := wr.drew) HBT.out HNE.out.1 (k + i) (.int .u8 ((l[k + i] ^^^ t[i]).toNat : Int)))
            obtain ⟨wd, hwd⟩ : ∃ wd, wd = wr.drew := ⟨_, rfl⟩
            rw [← hwd] at HBX2 HBT2 HSET2 ⊢
            have c3 : wd.cell? ⟨w.heap.size, i, none⟩ = some (.int .u8 (t[i].toNat : Int)) := by rw [hwd]; exact c2
            have c4 : (wd.setCell ⟨w1.heap.size, k + i, none⟩ (.int .u8 ((l[k + i] ^^^ t[i]).toNat : Int))).cell? ⟨w.heap.size, i, none⟩ = some (.int .u8 (t[i].toNat : Int)) := by rw [Blk.cell HBT2.out]; rw [hwd] at c3; rw [← Blk.cell HBT.out]; exact c2
            have f3 : wd.frozen? ⟨w1.heap.size, k + i, none⟩ = false := by rw [hwd]; exact f1
            have d1 : ∃ v, wd.cell? ⟨w1.heap.size, k + i, none⟩ = some v := ⟨_, by rw [hwd]; exact c1⟩
            obtain ⟨v1, d1⟩ := d1
            clear hwd c1 c2 f1
            have n1 := HNE.out.1
            have n2 := n1.symm
            go_wp2_with fail
            go_roundg (gk - 1)
            case measure => omega
            case rel => exact ⟨i + 1, true, by omega, by omega, by go_num, rfl, HS2, HSET2.out, HBT2.out, HBX2.out⟩
          · have hb0 : ((t[i].toNat : Int) == 0) = false := by
              rw [beq_eq_false_iff_ne]
              intro h
              exact he (UInt8.toNat_inj.1 (by rw [UInt8.toNat_zero]; omega))
            have HS2 : Hid (false = (t.take (i + 1)).all (· == 0)) := by show _ = _; rw [HTA.out, ← HS.out, beq_eq_false_iff_ne.2 he]; rfl
            clear he
            go_wp2_with fail
            go_still_tail 15, (by kernel_rfl)
            change wpList _ _ _ _ _ wr.drew
            have HBX2 := Lib.hid (HBX.out.drew.setCell (p := ⟨w1.heap.size, k + i, none⟩) HNE.out.2 (.int .u8 ((l[k + i] ^^^ t[i]).toNat : Int)))
            have HBT2 := Lib.hid (Blk.set_other (w := wr.drew) HBT.out HNE.out.1 (k + i) (.int .u8 ((l[k + i] ^^^ t[i]).toNat : Int)))
            obtain ⟨wd, hwd⟩ : ∃ wd, wd = wr.drew := ⟨_, rfl⟩
            rw [← hwd] at HBX2 HBT2 HSET2 ⊢
            have c3 : wd.cell? ⟨w.heap.size, i, none⟩ = some (.int .u8 (t[i].toNat : Int)) := by rw [hwd]; exact c2
            have c4 : (wd.setCell ⟨w1.heap.size, k + i, none⟩ (.int .u8 ((l[k + i] ^^^ t[i]).toNat : Int))).cell? ⟨w.heap.size, i, none⟩ = some (.int .u8 (t[i].toNat : Int)) := by rw [Blk.cell HBT2.out]; rw [hwd] at c3; rw [← Blk.cell HBT.out]; exact c2
            have f3 : wd.frozen? ⟨w1.heap.size, k + i, none⟩ = false := by rw [hwd]; exact f1
            have d1 : ∃ v, wd.cell? ⟨w1.heap.size, k + i, none⟩ = some v := ⟨_, by rw [hwd]; exact c1⟩
            obtain ⟨v1, d1⟩ := d1
            clear hwd c1 c2 f1
            have n1 := HNE.out.1
            have n2 := n1.symm
            go_wp2_with fail
            go_roundg (gk - 1)
            case measure => omega
            case rel => exact ⟨i + 1, false, by omega, by omega, by go_num, rfl, HS2, HSET2.out, HBT2.out, HBX2.out⟩
      · have hx : i = 4 ∨ (i < 4 ∧ k + i = l.length) := by omega
        have htl : (t.take i).length = i := by rw [List.length_take, HT4.out]; omega
        have hE := burst l (t.take i) k (by rw [htl]; omega) (by rw [htl]; omega)
        rw [← HS.out] at hE
        have hDl : (zx l (mask l.length k (t.take i))).length = l.length := zx_len (mask_len (by rw [htl]; omega)).symm
        have D8 := in8_blk0 hBC
        obtain ⟨D, hD⟩ : ∃ D, zx l (mask l.length k (t.take i)) = D := ⟨_, rfl⟩
        rw [hD] at hE hDl D8
        have PR := HP.out.below hbx
        have TR := HT.out.below hbx
        clear hBC hBT hD htl hin
        rcases hx with hx | ⟨hx, hx2⟩
        · have g1 : ¬ ((i : Int) < 4) := by omega
          go_wp2_with fail
          refine (sumN_c (some ⟨w1.heap.size, 0, none⟩) l.length l.length D wr hDl D8 TR (by omega)).mono ?_
          rintro e1 w' ⟨rfl, rfl⟩
          go_wp2_with fail
          refine (sum_c p cp l wr PR TR (by omega)).mono ?_
          rintro e1 w' ⟨rfl, rfl⟩
          go_wp2_with fail
          go_ret
          exact ⟨rfl, hbx⟩
        · have g1 : (i : Int) < 4 := by omega
          have g2 : ¬ ((k : Int) + (i : Int) < (l.length : Int)) := by omega
          go_wp2_with fail
          refine (sumN_c (some ⟨w1.heap.size, 0, none⟩) l.length l.length D wr hDl D8 TR (by omega)).mono ?_
          rintro e1 w' ⟨rfl, rfl⟩
          go_wp2_with fail
          refine (sum_c p cp l wr PR TR (by omega)).mono ?_
          rintro e1 w' ⟨rfl, rfl⟩
          go_wp2_with fail
          go_ret
          exact ⟨rfl, hbx⟩
theorem bursts4 (p : Option Addr) (cp : Nat) (l : List UInt8) (a : Int) (t : List UInt8) (w : World) (hp : In8 w p l) (hl : l.length ≤ 140737488355328) (h4 : t.length = 4) (ht : Tab w) :
    Calls Tryd.prog 5 #[.slice p l.length cp, .int .i64 a, .agg (byteCells t).toArray] w fun e w' => e = .returned (.bool true) ∧ Below w.heap.size w w' := by
  match t, h4 with
  | [t0, t1, t2, t3], _ => exact bursts p cp l a t0 t1 t2 t3 w hp hl ht
end Go.Proofs.YtbfhliagkiigpaaDoor.crcD
