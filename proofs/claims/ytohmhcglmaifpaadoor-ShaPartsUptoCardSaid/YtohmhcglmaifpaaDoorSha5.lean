/- The contract of the reference's Padded (rows within the reach). -/
import Derived.Test.YtohmhcglmaifpaaDoorSha1
import Derived.Test.YtohmhcglmaifpaaDoorApp
import Derived.Test.YtohmhcglmaifpaaDoorRows2
import Derived.StillTailTactics
namespace Go.Proofs.YtohmhcglmaifpaaDoor.sha
open Go.RowKit
open Go.Proofs.YtohmhcglmaifpaaDoor.oct Go.Proofs.YtohmhcglmaifpaaDoor.ref Go.Proofs.YtohmhcglmaifpaaDoor.rows
open Go.Lib (byteCells)

set_option maxHeartbeats 2000000 in
theorem padded_c (p : Option Addr) (cp : Nat) (l : List UInt8) (w : World) (hp : In8 w p l) (hl : l.length ≤ 140737488355000) (hnil : p = none → cp = 0) :
    Calls Tryd.prog 26 #[.slice p l.length cp] w fun e w' => ∃ v, e = .returned v ∧ w'.ownsRow w.heap.size 5 1 v (pad l).length (byteCells (pad l)) ∧ Below w.heap.size w w' := by
  obtain ⟨j0, hj, hy0, hy1, hy2⟩ := info_parts infoByte
  have HP := Lib.hid hp
  clear hp
  go_enter Tryd.func26, Tryd.ntmps26
  go_wp2_with (first
    | (at_make; refine wpList_make_own _ rfl _ _ 22 rfl w.heap.size 5 j0 (.int .u8 0) 1 Tryd.underlying22 hj hy0 hy1 .i64 .i64 _ (l.length + 80) rfl rfl (by simp) (by rw [hy2]; omega) (by unfold maxLen; omega) (Nat.le_refl _) ?_; intro w1 hown hgrow; have hb1 := (Below.refl _ w).grown hgrow (Nat.le_refl _) (fun k hk => by cases hk); clear hgrow)
    | (at_builtin; refine wpList_append_in8 rfl (.tmp 10) (.tmp 11) rfl w.heap.size _ 0 [] rfl hown p l.length cp l rfl (HP.out.below hb1) rfl hnil (by omega) hb1.size ?_; intro v2 w2 hown2 hbb; have hb2 := hbb w hb1 (Nat.le_refl _); clear hbb hown hb1)
    | (at_builtin; refine wpList_append_in8 rfl (.tmp 13) (.tmp 14) rfl w.heap.size _ _ _ rfl (hown2.alloc _) _ 1 1 [128] rfl (in8_new _ #[.int .u8 128] [128] rfl) rfl (fun h => by cases h) (by omega) (by have := hb2.size; simp; omega) ?_; intro v3 w3 hown3 hbb; have hb3 := hbb w (hb2.alloc hb2.size _) (Nat.le_refl _); clear hbb hown2 hb2))
  go_loopg [3] (zeros l.length) (fun g s3 wy => ∃ j : Nat, j + g = zeros l.length ∧ wy.ownsRow w.heap.size 5 1 s3 (l.length + 1 + j) (byteCells (l ++ [128] ++ List.replicate j 0)) ∧ Below w.heap.size w wy)
  case atStart => exact ⟨0, by omega, by simpa [byteCells] using hown3, hb3⟩
  case round =>
    clear hown3 hb3
    obtain ⟨j, hjg, hrow, hbx⟩ := hrel
    have hz := zeros_lt l.length
    have hcp := own_in8 hrow
    obtain ⟨hcl, pA, cA, rfl, h8⟩ := hcp
    clear hcl
    obtain ⟨n, hn⟩ : ∃ n, l.length + 1 + j = n := ⟨_, rfl⟩
    rw [hn] at hrow ⊢
    have HN := Lib.hid hn
    have hnb : n ≤ 140737488355100 := by omega
    rcases gk with _ | g
    · obtain rfl : j = zeros l.length := by omega
      have hb : ((n : Int) % 64 != 56) = false := by
        have := zeros_eq l.length
        rw [bne_eq_false_iff_eq]; omega
      clear hn
      go_wp2_with fail
      have hB : Blk (wr.alloc (.cells (byteCells (brow 8 fun _ => 0)).toArray 56)) wr.heap.size 56 (byteCells (brow 8 fun _ => 0)) := blk_new _ _ _ _ rfl
      have hbx2 := hbx.alloc hbx.size (.cells (byteCells (brow 8 fun _ => 0)).toArray 56)
      have hrow2 := hrow.alloc (.cells (byteCells (brow 8 fun _ => 0)).toArray 56)
      obtain ⟨wz, hwz⟩ : ∃ wz, wz = wr.alloc (.cells (byteCells (brow 8 fun _ => 0)).toArray 56) := ⟨_, rfl⟩
      rw [← hwz] at hB hbx2 hrow2
      change Code.wp _ _ _ _ (wr.alloc (.cells (byteCells (brow 8 fun _ => 0)).toArray 56))
      rw [← hwz]
      have hgl : w.heap.size ≤ wr.heap.size := hbx.size
      have HOWN : Hid (∀ k, (Value.slice pA n cA).ownBlock = some k → k ≠ wr.heap.size) := fun k hk => by have := (hrow.lt k hk).2; omega
      obtain ⟨g5, hg5⟩ : ∃ g5, g5 = wr.heap.size := ⟨_, rfl⟩
      rw [← hg5] at hB hgl HOWN ⊢
      clear hwz hrow hbx hg5 h8
      go_loopg [4, 6] 8 (fun g s4 s6 wy => ∃ (k : Nat) (f : Nat → UInt8), k + g = 8 ∧ s6 = .int .i64 ((7 : Int) - (k : Int)) ∧ s4 = .int .u64 ((8 * l.length / 256 ^ k : Nat) : Int) ∧ Hid (∀ j, j < 8 → 8 - k ≤ j → f j = UInt8.ofNat (8 * l.length / 256 ^ (7 - j))) ∧ Blk wy g5 56 (byteCells (brow 8 f)) ∧ wy.ownsRow w.heap.size 5 1 (.slice pA n cA) n (byteCells (l ++ [128] ++ List.replicate (zeros l.length) 0)) ∧ Below w.heap.size w wy)
      case atStart => exact ⟨0, _, rfl, by go_num, by go_num, fun j h1 h2 => by omega, hB, hrow2, hbx2⟩
      case round =>
        clear hB hbx2 hrow2
        obtain ⟨k, f, hkg, rfl, rfl, HF, hB, hrow, hbx⟩ := hrel
        rcases gk with _ | g
        · obtain rfl : k = 8 := by omega
          have hbe : brow 8 f = be8 (8 * l.length) := brow_eq fun j hj => HF.out j hj (by omega)
          rw [hbe] at hB
          have HPAD : Hid (byteCells (l ++ [128] ++ List.replicate (zeros l.length) 0) ++ byteCells (be8 (8 * l.length)) = byteCells (pad l) ∧ n + 8 = (pad l).length) := ⟨by rw [← byteCells_append]; rfl, by rw [pad_len, ← HN.out]; omega⟩
          have h8 := in8_all hB
          have hbl : (be8 (8 * l.length)).length = 8 := by simp [be8]
          obtain ⟨B8, hB8⟩ : ∃ B8, be8 (8 * l.length) = B8 := ⟨_, rfl⟩
          rw [hB8] at h8 hbl HPAD
          clear hbe hB hB8 HF
          go_wp2_with (at_builtin; refine wpList_append_in8 rfl (.tmp 38) (.tmp 39) rfl w.heap.size _ _ _ rfl hrow _ 8 8 B8 rfl h8 hbl (fun h => by cases h) (by omega) hbx.size ?_; intro v3 w3 hown3 hbb; have hb3 := hbb w hbx (Nat.le_refl _); clear hbb)
          go_ret
          exact ⟨_, rfl, by rw [HPAD.out.1, HPAD.out.2] at hown3; exact hown3, hb3⟩
        · obtain ⟨i, hi⟩ : ∃ i, i = 7 - k := ⟨_, rfl⟩
          have e7 : (7 : Int) - (k : Int) = (i : Int) := by omega
          rw [e7]
          have hi8 : i < 8 := by omega
          have hiI : (0 : Int) ≤ (i : Int) := by omega
          have c1 := (hB.cell i).trans (brow_at f hi8)
          have f1 := hB.frozen i
          obtain ⟨M, hM⟩ : ∃ M, 8 * l.length / 256 ^ k = M := ⟨_, rfl⟩
          have hMb : M ≤ 1125899906840000 := by have := Nat.div_le_self (8 * l.length) (256 ^ k); omega
          have hM2 : 8 * l.length / 256 ^ (k + 1) = M / 256 := by rw [Nat.pow_succ, ← Nat.div_div_eq_div_mul, hM]
          have hMv : ((UInt8.ofNat M).toNat : Int) = (M : Int) % 256 := by simp
          have HSET : Hid (Blk (wr.setCell ⟨g5, i, none⟩ (.int .u8 ((M : Int) % 256))) g5 56 (byteCells (brow 8 (updB f i (UInt8.ofNat M))))) := by
            have h := hB.set i (.int .u8 ((UInt8.ofNat M).toNat : Int))
            rw [brow_set, hMv] at h
            exact h
          have HS : Hid (∀ j, j < 8 → 8 - (k + 1) ≤ j → updB f i (UInt8.ofNat M) j = UInt8.ofNat (8 * l.length / 256 ^ (7 - j))) := by
            intro j hj1 hj2
            by_cases he : j = i
            · rw [he, updB_at, ← hM, show 7 - i = k from by omega]
            · rw [updB_ne he]; exact HF.out j hj1 (by omega)
          have HBX : Hid (Below w.heap.size w (wr.setCell ⟨g5, i, none⟩ (.int .u8 ((M : Int) % 256)))) := hbx.setCell hgl _
          have HROW : Hid ((wr.setCell ⟨g5, i, none⟩ (.int .u8 ((M : Int) % 256))).ownsRow w.heap.size 5 1 (.slice pA n cA) n (byteCells (l ++ [128] ++ List.replicate (zeros l.length) 0))) := by
            exact ownsRow_setCell_other hrow (fun h => HOWN.out _ h rfl) _
          rw [hM]
          have HE7 := Lib.hid e7
          clear hB hrow hbx HF hMv hi e7
          go_wp2_with fail
          go_roundg g
          case measure => omega
          case rel => exact ⟨k + 1, _, by omega, by rw [show ((7 : Int) - ((k + 1 : Nat) : Int)) = (i : Int) - 1 from by have := HE7.out; omega], by rw [hM2]; go_num, HS, HSET.out, HROW.out, HBX.out⟩
    · have hb : ((n : Int) % 64 != 56) = true := by
        have := zeros_min l.length j (by omega)
        rw [bne_iff_ne]; omega
      clear hn
      go_wp2_with (at_builtin; refine wpList_append_in8 rfl (.tmp 20) (.tmp 21) rfl w.heap.size _ _ _ rfl (hrow.alloc _) _ 1 1 [0] rfl (in8_new _ #[.int .u8 0] [0] rfl) rfl (fun h => by cases h) (by omega) (by have := hbx.size; simp; omega) ?_; intro v3 w3 hown3 hbb; have hb3 := hbb w (hbx.alloc hbx.size _) (Nat.le_refl _); clear hbb)
      go_roundg g
      case measure => omega
      case rel => exact ⟨j + 1, by omega, by rw [← HN.out, ← byteCells_append] at hown3; rw [List.replicate_succ', ← List.append_assoc]; exact hown3, hb3⟩
end Go.Proofs.YtohmhcglmaifpaaDoor.sha
