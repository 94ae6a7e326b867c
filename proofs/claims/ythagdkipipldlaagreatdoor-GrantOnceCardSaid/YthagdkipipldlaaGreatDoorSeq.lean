/- slices.Equal over texts. No condition beyond what slices and texts are. -/
import Derived.Test.YthagdkipipldlaaGreatDoorGrM
namespace Go.Proofs.YthagdkipipldlaaGreatDoor.gra
open Go.RowKit
open Go.Proofs.YthagdkipipldlaaGreatDoor.krd
open Go.Proofs.YthagdkipipldlaaGreatDoor.oct Go.Proofs.YthagdkipipldlaaGreatDoor.ref Go.Proofs.YthagdkipipldlaaGreatDoor.rows Go.Proofs.YthagdkipipldlaaGreatDoor.rowg
open Go.Proofs.YthagdkipipldlaaGreatDoor.scp (tx senc senc_len InS ins_below ins_cell take_eqk drewN_add)

set_option maxRecDepth 100000 in
set_option maxHeartbeats 8000000 in
theorem sequal_c (P : Option Addr) (C : Nat) (ps : List T) (Q : Option Addr) (D : Nat) (qs : List T) (w : World) (hp : InS w P ps) (hq : InS w Q qs) (hl : ps.length ≤ 140737488355328) (hm : qs.length ≤ 140737488355328) :
    Calls Tryz.prog 84 #[.slice P ps.length C, .slice Q qs.length D] w fun e w' => e = .returned (.bool (decide (ps = qs))) ∧ ∃ n, w' = w.drewN n := by
  by_cases hlen : ps.length = qs.length
  · have hbl : ((ps.length : Int) != (qs.length : Int)) = false := by rw [bne_eq_false_iff_eq]; omega
    obtain ⟨N, hN⟩ : ∃ N, qs.length = N := ⟨_, rfl⟩
    have hNp : ps.length = N := by omega
    rw [hN] at hm hbl ⊢
    rw [hNp] at hbl hl ⊢
    have HNQ := Lib.hid hN
    have HNP := Lib.hid hNp
    have HP := Lib.hid hp
    have HQ := Lib.hid hq
    clear hN hNp hlen hp hq hbl
    go_enter Tryz.func84, Tryz.ntmps84
    go_wp2_with fail
    go_loopg [13] N (fun g s5 wy => ∃ k : Nat, k + g = N ∧ s5 = .int .i64 k ∧ Hid (ps.take k = qs.take k) ∧ ∃ nd, wy = w.drewN nd)
    case atStart => exact ⟨0, by omega, rfl, rfl, 0, rfl⟩
    case round =>
      obtain ⟨k, hkg, rfl, HE, nd, hwy⟩ := hrel
      have HWY := Lib.hid hwy
      clear hwy
      rcases gk with _ | g
      · obtain rfl : k = N := by omega
        have HF : Hid (decide (ps = qs) = true) := by
          have e1 : ps.take k = ps := List.take_of_length_le (by rw [HNP.out]; exact Nat.le_refl _)
          have e2 : qs.take k = qs := List.take_of_length_le (by rw [HNQ.out]; exact Nat.le_refl _)
          have h := HE.out
          rw [e1, e2] at h
          exact decide_eq_true h
        go_wp2_with fail
        go_ret
        exact ⟨ret_bool HF.out.symm, nd, HWY.out⟩
      · have hk : k < N := by omega
        have hkp : k < ps.length := by rw [HNP.out]; exact hk
        have hkq : k < qs.length := by rw [HNQ.out]; exact hk
        obtain ⟨b, o, rfl, c0⟩ := ins_cell HP.out k hkp
        obtain ⟨b2, o2, rfl, d0⟩ := ins_cell HQ.out k hkq
        have HT := Lib.hid (show ps.take (k + 1) = qs.take (k + 1) ↔ ps.take k = qs.take k ∧ ps[k] = qs[k] from take_eqk hkp hkq)
        have HNE : Hid (ps[k] ≠ qs[k] → decide (ps = qs) = false) := fun h => decide_eq_false fun e => h (by subst e; rfl)
        obtain ⟨x0, hx⟩ : ∃ x, ps[k] = x := ⟨_, rfl⟩
        obtain ⟨y0, hy⟩ : ∃ y, qs[k] = y := ⟨_, rfl⟩
        rw [hx] at c0 HT HNE
        rw [hy] at d0 HT HNE
        replace c0 : wr.cell? ⟨b, o + k, none⟩ = some (.string ⟨x0.toArray⟩) := by rw [HWY.out]; exact c0
        replace d0 : wr.cell? ⟨b2, o2 + k, none⟩ = some (.string ⟨y0.toArray⟩) := by rw [HWY.out]; exact d0
        have hkI : (k : Int) < (N : Int) := by omega
        clear hx hy
        by_cases e0 : x0 = y0
        · have b0 : (x0 == y0) = true := by simp [e0]
          have HE2 : Hid (ps.take (k + 1) = qs.take (k + 1)) := HT.out.2 ⟨HE.out, e0⟩
          clear HNE HT e0
          go_wp2_with fail
          go_quiet (fail)
          go_wp2_with fail
          go_roundg g
          case measure => omega
          case rel => exact ⟨k + 1, by omega, by go_num, HE2, nd + nq, by rw [HWY.out]; exact drewN_add w nd nq⟩
        · have HF := Lib.hid (HNE.out e0)
          have b0 : (x0 == y0) = false := by simpa using e0
          clear HNE HT e0
          go_wp2_with fail
          go_quiet (fail)
          go_wp2_with fail
          go_ret
          exact ⟨ret_bool HF.out.symm, nd + nq, by rw [HWY.out]; exact drewN_add w nd nq⟩
  · have hbl : ((ps.length : Int) != (qs.length : Int)) = true := by rw [bne_iff_ne]; omega
    have HF : Hid (decide (ps = qs) = false) := decide_eq_false fun e => hlen (by rw [e])
    clear hlen hp hq
    go_enter Tryz.func84, Tryz.ntmps84
    go_wp2_with fail
    go_ret
    exact ⟨ret_bool HF.out.symm, 0, rfl⟩
end Go.Proofs.YthagdkipipldlaaGreatDoor.gra
