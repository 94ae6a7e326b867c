/- The contracts of Hash.pad and Hash.Sum. Condition: the two tables hold what the program's text lays. -/
import Derived.Test.YtohmhcglmaifpaaDoorDev6
import Derived.StillTailTactics
namespace Go.Proofs.YtohmhcglmaifpaaDoor.sha
open Go.RowKit
open Go.Proofs.YtohmhcglmaifpaaDoor.oct Go.Proofs.YtohmhcglmaifpaaDoor.ref Go.Proofs.YtohmhcglmaifpaaDoor.rows
open Go.Lib (byteCells)

/-- what stands behind the bytes in their last blocks -/
def suf (n : Nat) : List UInt8 := [128] ++ List.replicate (zeros n) 0 ++ be8 (8 * n)
theorem pad_suf (l : List UInt8) : l ++ suf l.length = pad l := by simp [pad, suf]
theorem suf_len (n : Nat) : (suf n).length = 9 + zeros n := by simp [suf, be8]; omega
/-- the cells of the suffix, the length's bytes laid up to i -/
def sufF (n i : Nat) : Nat → UInt8 := fun j => if j = 0 then 128 else if 1 + zeros n ≤ j ∧ j < 1 + zeros n + i then UInt8.ofNat (8 * n / 256 ^ (7 - (j - (1 + zeros n)))) else 0
theorem sufF_next (n i : Nat) : updB (sufF n i) (1 + zeros n + i) (UInt8.ofNat (8 * n / 256 ^ (7 - i))) = sufF n (i + 1) := by
  funext j
  unfold updB sufF
  by_cases h0 : j = 0
  · rw [if_neg (by omega), if_pos h0, if_pos h0]
  · by_cases h1 : j = 1 + zeros n + i
    · rw [if_pos h1, if_neg h0, if_pos (by omega)]
      congr 3
      omega
    · rw [if_neg h1, if_neg h0, if_neg h0]
      by_cases h2 : 1 + zeros n ≤ j ∧ j < 1 + zeros n + i
      · rw [if_pos h2, if_pos (by omega)]
      · rw [if_neg h2, if_neg (by omega)]
theorem sufF_zero (n : Nat) : updB (fun _ => 0) 0 128 = sufF n 0 := by
  funext j
  unfold updB sufF
  by_cases h0 : j = 0
  · rw [if_pos h0, if_pos h0]
  · rw [if_neg h0, if_neg h0, if_neg (by omega)]
theorem suf_at (n j : Nat) (h : j < 9 + zeros n) : (suf n)[j]? = some (sufF n 8 j) := by
  unfold suf sufF
  by_cases h0 : j = 0
  · subst h0; simp
  · rw [if_neg h0]
    by_cases hz2 : j < 1 + zeros n
    · rw [if_neg (by omega), List.getElem?_append_left (by simp; omega), List.getElem?_append_right (by simp; omega), List.getElem?_replicate, if_pos (by simp; omega)]
    · rw [if_pos (by omega), List.getElem?_append_right (by simp; omega)]
      have hl : ([128] ++ List.replicate (zeros n) (0 : UInt8)).length = 1 + zeros n := by simp; omega
      rw [hl]
      simp only [be8, List.getElem?_map]
      rw [List.getElem?_range (by omega)]
      rfl
theorem sufF_take (n : Nat) : (brow 72 (sufF n 8)).take (9 + zeros n) = suf n := by
  have hz := zeros_lt n
  apply List.ext_getElem?
  intro j
  by_cases h : j < 9 + zeros n
  · rw [suf_at n j h, List.getElem?_take, if_pos h]
    simp [brow, show j < 72 by omega]
  · rw [List.getElem?_eq_none (by rw [List.length_take, brow_len]; omega), List.getElem?_eq_none (by rw [suf_len]; omega)]
theorem zero72 (w : World) : (zeroValue 61).run Tryd.prog w = .ok (.agg (byteCells (brow 72 fun _ => 0)).toArray) w := by kernel_rfl
theorem info72 : (Tryd.prog.info? 61).map (·.size) = some 72 := by kernel_rfl
theorem shr_byte (n k : Nat) : (n : Int) / 2 ^ (8 * k) % 256 = (((UInt8.ofNat (n / 256 ^ k)).toNat : Nat) : Int) := by
  rw [UInt8.toNat_ofNat', show (2 : Int) ^ (8 * k) = ((256 ^ k : Nat) : Int) from by rw [Int.pow_mul]; norm_cast, ← Int.natCast_ediv]
  rfl
/-- an array behind a pointer, cut at h -/
theorem run_arr_to {P : Program} (w : World) (t e : TypeId) (n b o h : Nat) (hu : P.underlying t = some (.array n e)) (he : (P.info? e).map (·.size) = some 1) (hr : h ≤ n) :
    (Instr.sliceAt t (.pointer (some ⟨b, o, none⟩)) none (some (.int .i64 (h : Int))) none).run P w = .ok (.slice (some ⟨b, o, none⟩) h n) w := by
  cases hq : P.info? e with
  | none => simp [hq] at he
  | some j =>
    simp [Instr.sliceAt, Instr.sureAddr, run_underlying hu, Instr.sliceBounds, Instr.sliceBound, asIntOf, hr, sizeOf, typeInfo, hq, Sem.run_bind, Addr.add]

theorem run_arr_to' {P : Program} (w : World) (t e : TypeId) (n b o h : Nat) (i : Int) (hi : i = h) (hu : P.underlying t = some (.array n e)) (he : (P.info? e).map (·.size) = some 1) (hr : h ≤ n) :
    (Instr.sliceAt t (.pointer (some ⟨b, o, none⟩)) none (some (.int .i64 i)) none).run P w = .ok (.slice (some ⟨b, o, none⟩) h n) w := by
  subst hi; exact run_arr_to w t e n b o h hu he hr
set_option maxHeartbeats 2000000 in
theorem hpad_c (g : Nat) (L : List UInt8) (w : World) (ht : Tabs w) (h : Holds w g L) (hlen : L.length ≤ 140737488354500) :
    Calls Tryd.prog 31 #[.pointer (some ⟨g, 0, none⟩)] w fun e w' => (∃ v, e = .returned v) ∧ Holds w' g (pad L) ∧ w.grownBy w' (some g) := by
  have HT := Lib.hid ht
  have HH := Lib.hid h
  have hgl := h.lt
  obtain ⟨_, _, f, b, hB, _⟩ := h
  have c72 := (hB.cell 72).trans (hrow_told f b L.length)
  have HN0 : Hid (pad L = L ++ suf L.length) := (pad_suf L).symm
  obtain ⟨N, hN⟩ : ∃ N, L.length = N := ⟨_, rfl⟩
  rw [hN] at c72 hlen HN0
  have HN := Lib.hid hN
  obtain ⟨z, hz⟩ : ∃ z, zeros N = z := ⟨_, rfl⟩
  have hz64 : z < 64 := by rw [← hz]; exact zeros_lt N
  have hzI : (119 - (N : Int) % 64) % 64 = (z : Int) := by rw [← hz]; unfold zeros; omega
  have HZ := Lib.hid hz
  have hz72 := zero72
  have hE0 : (byteCells (brow 72 fun _ => 0))[0]? = some (.int .u8 0) := rfl
  have HE1 : Hid ((byteCells (brow 72 fun _ => 0)).set 0 (.int .u8 128) = byteCells (brow 72 (sufF N 0))) := by show _ = _; rw [← sufF_zero]; exact brow_set 72 _ 0 128
  obtain ⟨Z, hZ⟩ : ∃ Z, byteCells (brow 72 fun _ => 0) = Z := ⟨_, rfl⟩
  rw [hZ] at hz72 hE0 HE1
  have hE : Blk (w.alloc (.cells Z.toArray 61)) w.heap.size 61 Z := blk_new w _ _ _ rfl
  have hb0 := (Below.refl w.heap.size w).alloc (Nat.le_refl _) (.cells Z.toArray 61)
  have hBE := hB.below hb0
  have c0 := (hE.cell 0).trans hE0
  have f0 := hE.frozen 0
  have c72' := (hBE.cell 72).trans (hrow_told f b L.length)
  rw [hN] at c72'
  have HE := Lib.hid hE
  have HB0 := Lib.hid hb0
  clear ht hB hN hz hBE hE0 hZ hE hb0
  go_enter Tryd.func31, Tryd.ntmps31
  go_wp2_with fail
  have hX : Blk (w.alloc (.cells (Z.set 0 (.int .u8 128)).toArray 61)) w.heap.size 61 (byteCells (brow 72 (sufF N 0))) := blk_new w _ _ _ (by rw [HE1.out])
  have hb1 := (Below.refl w.heap.size w).alloc (Nat.le_refl _) (.cells (Z.set 0 (.int .u8 128)).toArray 61)
  clear c72 c72' c0 f0 hz72
  go_loopg [21] 8 (fun k s21 wy => ∃ i : Nat, i + k = 8 ∧ s21 = .int .i64 i ∧ Blk wy w.heap.size 61 (byteCells (brow 72 (sufF N i))) ∧ Below w.heap.size w wy)
  case atStart => exact ⟨0, rfl, rfl, hX, hb1⟩
  case round =>
    clear hX hb1
    obtain ⟨i, hik, rfl, hX, hbx⟩ := hrel
    rcases gk with _ | k
    · obtain rfl : i = 8 := by omega
      go_wp2_with fail
      have h8 : In8 wr (some ⟨w.heap.size, 0, none⟩) (suf N) := by
        have e : brow 72 (sufF N 8) = suf N ++ (brow 72 (sufF N 8)).drop (9 + zeros N) := by rw [← sufF_take N, List.take_append_drop]
        rw [e, byteCells_append] at hX
        exact in8_any hX
      have hsl2 : (suf N).length = 9 + z := by rw [suf_len, HZ.out]
      have hsI : 1 + (z : Int) + 8 = (((suf N).length : Nat) : Int) := by omega
      have HC := Lib.hid (hwrite_c g L (some ⟨w.heap.size, 0, none⟩) 72 (suf N) wr (HT.out.below hbx) (HH.out.keep (hbx.block g hgl)) h8 (fun _ a ha => by cases ha; show w.heap.size ≠ g; omega) ⟨(fun h => by cases h), (by omega)⟩ (by rw [HN.out]; omega))
      have HBX := Lib.hid hbx
      obtain ⟨sl, hsl⟩ : ∃ sl, (suf N).length = sl := ⟨_, rfl⟩
      rw [hsl] at HC hsI hsl2
      have hs := fun w' => run_arr_to (P := Tryd.prog) w' 61 5 72 w.heap.size 0 sl Tryd.underlying61 infoB1 (by omega)
      clear hX hbx h8 hsl2 hsl
      go_wp2_with fail
      rw [hsI]
      rw [hs]
      go_wp2_with fail
      refine HC.out.mono ?_
      rintro e w2 ⟨⟨v2, rfl⟩, hh, hg⟩
      rw [← HN0.out] at hh
      have HHH := Lib.hid hh
      have HGG := Lib.hid (grown_trans (grown_of_below g HBX.out) hg)
      clear hh hg
      go_wp2_with fail
      go_end0
      exact ⟨⟨_, rfl⟩, HHH.out, HGG.out⟩
    · have hi8 : i < 8 := by omega
      have hiI : (i : Int) < 8 := by omega
      have c1 := (hX.cell (1 + z + i)).trans (brow_at _ (by omega))
      have f1 := hX.frozen (1 + z + i)
      obtain ⟨sh, hsh⟩ : ∃ sh, 7 - i = sh := ⟨_, rfl⟩
      have s1 : 8 * (7 - (i : Int)) = ((8 * sh : Nat) : Int) := by omega
      have t1 : (1 + (z : Int) + (i : Int)).toNat = 1 + z + i := by omega
      have HSH := Lib.hid hsh
      clear hsh
      have HV : Hid ((N : Int) * 8 / 2 ^ (8 * sh) % 256 = (((UInt8.ofNat (8 * N / 256 ^ sh)).toNat : Nat) : Int)) := by
        have h := shr_byte (8 * N) sh
        rw [Int.natCast_mul, Int.mul_comm] at h
        exact h
      have HSET : Hid (Blk (wr.setCell ⟨w.heap.size, 1 + z + i, none⟩ (.int .u8 ((N : Int) * 8 / 2 ^ (8 * sh) % 256))) w.heap.size 61 (byteCells (brow 72 (sufF N (i + 1))))) := by
        have h := hX.set (1 + z + i) (.int .u8 (((UInt8.ofNat (8 * N / 256 ^ sh)).toNat : Nat) : Int))
        rw [brow_set, ← HV.out, ← HSH.out, ← HZ.out, sufF_next N i, HZ.out, HSH.out] at h
        exact h
      have HBX : Hid (Below w.heap.size w (wr.setCell ⟨w.heap.size, 1 + z + i, none⟩ (.int .u8 ((N : Int) * 8 / 2 ^ (8 * sh) % 256)))) := hbx.setCell (Nat.le_refl _) _
      clear hX hbx
      go_wp2_with fail
      go_roundg k
      case measure => omega
      case rel => exact ⟨i + 1, by omega, by go_num, HSET.out, HBX.out⟩
end Go.Proofs.YtohmhcglmaifpaaDoor.sha
