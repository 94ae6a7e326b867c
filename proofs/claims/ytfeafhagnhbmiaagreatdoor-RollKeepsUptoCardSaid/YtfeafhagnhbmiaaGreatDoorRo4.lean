/- slices.Index, Contains and Equal over texts; strings.Contains at a sign; CutPrefix. No condition beyond what a slice and a text are. -/
import Derived.Test.YtfeafhagnhbmiaaGreatDoorRo3
import Derived.Test.YtfeafhagnhbmiaaGreatDoorGfdv
namespace Go.Proofs.YtfeafhagnhbmiaaGreatDoor.rol
open Go.RowKit
open Go.Proofs.YtfeafhagnhbmiaaGreatDoor.oct Go.Proofs.YtfeafhagnhbmiaaGreatDoor.ref Go.Proofs.YtfeafhagnhbmiaaGreatDoor.rows Go.Proofs.YtfeafhagnhbmiaaGreatDoor.rowg
open Go.Proofs.YtfeafhagnhbmiaaGreatDoor.scp (tx senc senc_len InS ins_below ins_cell take_eqk hasB hasB_iff hasB_take drewN_add)

set_option maxHeartbeats 4000000 in
theorem sidx_c (P : Option Addr) (C n : Nat) (ms : List T) (x : T) (w : World) (hp : InS w P ms) (hn : ms.length = n) (hl : n ≤ 140737488355328) :
    Calls Tryz.prog 44 #[.slice P n C, .string ⟨x.toArray⟩] w fun e w' => ∃ z : Int, e = .returned (.int .i64 z) ∧ decide (z ≥ 0) = hasB ms x ∧ w = w' := by
  have HP := Lib.hid hp
  have HL := Lib.hid hn
  clear hp hn
  go_enter Tryz.func44, Tryz.ntmps44
  go_wp2_with fail
  go_loopg [8] n (fun g s6 wx => ∃ k : Nat, k + g = n ∧ s6 = .int .i64 k ∧ Hid (hasB (ms.take k) x = false) ∧ wx = w)
  case atStart => exact ⟨0, by omega, rfl, Lib.hid (by simp [hasB]), rfl⟩
  case round =>
    obtain ⟨k, hkg, rfl, HN, rfl⟩ := hrel
    rcases gk with _ | g
    · obtain rfl : k = n := by omega
      have HR : Hid (hasB ms x = false) := by have h := HN.out; rw [← HL.out, List.take_length] at h; exact Lib.hid h
      go_wp2_with fail
      go_ret
      exact ⟨-1, rfl, by rw [HR.out]; rfl, rfl⟩
    · have hk : k < ms.length := by have := HL.out; omega
      have hkI : (k : Int) < (n : Int) := by omega
      obtain ⟨b, o, rfl, c0⟩ := ins_cell HP.out k hk
      obtain ⟨h1, h2⟩ := hasB_take ms x k hk HN.out
      have H1 := Lib.hid h1
      have H2 := Lib.hid h2
      clear h1 h2
      obtain ⟨x0, hm⟩ : ∃ m, ms[k] = m := ⟨_, rfl⟩
      rw [hm] at c0 H1 H2
      clear hm hk
      by_cases he : x0 = x
      · have HR := Lib.hid (H1.out he)
        have hb : (x == x0) = true := by simpa using he.symm
        clear H1 H2 he
        go_wp2_with fail
        go_ret
        exact ⟨(k : Int), rfl, by rw [HR.out]; exact decide_eq_true (by omega), rfl⟩
      · have HR := Lib.hid (H2.out he)
        have hb : (x == x0) = false := by simpa using fun h : x = x0 => he h.symm
        clear H1 H2 he
        go_wp2_with fail
        go_roundg g
        case measure => omega
        case rel => exact ⟨k + 1, by omega, by go_num, HR, rfl⟩
theorem shas_c (P : Option Addr) (C n : Nat) (ms : List T) (x : T) (w : World) (hp : InS w P ms) (hn : ms.length = n) (hl : n ≤ 140737488355328) :
    Calls Tryz.prog 24 #[.slice P n C, .string ⟨x.toArray⟩] w fun e w' => e = .returned (.bool (hasB ms x)) ∧ w = w' := by
  have HI := Lib.hid (sidx_c P C n ms x w hp hn hl)
  clear hp hn
  go_enter Tryz.func24, Tryz.ntmps24
  go_wp2_with fail
  refine HI.out.mono ?_
  rintro e w1 ⟨z, rfl, hz, rfl⟩
  have HZ := Lib.hid hz
  clear hz
  go_wp2_with fail
  go_ret
  exact ⟨ret_bool HZ.out, rfl⟩
set_option maxRecDepth 100000 in
set_option maxHeartbeats 8000000 in
theorem sequal_c (P : Option Addr) (C : Nat) (ps : List T) (Q : Option Addr) (D : Nat) (qs : List T) (w : World) (hp : InS w P ps) (hq : InS w Q qs) (hl : ps.length ≤ 140737488355328) (hm : qs.length ≤ 140737488355328) :
    Calls Tryz.prog 80 #[.slice P ps.length C, .slice Q qs.length D] w fun e w' => e = .returned (.bool (decide (ps = qs))) ∧ ∃ n, w' = w.drewN n := by
  by_cases hlen : ps.length = qs.length
  · have hbl : ((ps.length : Int) != (qs.length : Int)) = false := by rw [bne_eq_false_iff_eq]; omega
    obtain ⟨N, hN⟩ : ∃ N, qs.length = N := ⟨_, rfl⟩
    have hNp : ps.length = N := by omega
    rw [hN] at hm hbl ⊢
    rw [hNp] at hbl hl ⊢
    have HNQ := Lib.hid hN
    have HNP := Lib.hid hNp
    have HP := Lib.hid hp
    have HQ := Lib.hid hq
    clear hN hNp hlen hp hq hbl
    go_enter Tryz.func80, Tryz.ntmps80
    go_wp2_with fail
    go_loopg [13] N (fun g s5 wy => ∃ k : Nat, k + g = N ∧ s5 = .int .i64 k ∧ Hid (ps.take k = qs.take k) ∧ ∃ nd, wy = w.drewN nd)
    case atStart => exact ⟨0, by omega, rfl, rfl, 0, rfl⟩
    case round =>
      obtain ⟨k, hkg, rfl, HE, nd, hwy⟩ := hrel
      have HWY := Lib.hid hwy
      clear hwy
      rcases gk with _ | g
      · obtain rfl : k = N := by omega
        have HF : Hid (decide (ps = qs) = true) := by
          have e1 : ps.take k = ps := List.take_of_length_le (by rw [HNP.out]; exact Nat.le_refl _)
          have e2 : qs.take k = qs := List.take_of_length_le (by rw [HNQ.out]; exact Nat.le_refl _)
          have h := HE.out
          rw [e1, e2] at h
          exact decide_eq_true h
        go_wp2_with fail
        go_ret
        exact ⟨ret_bool HF.out.symm, nd, HWY.out⟩
      · have hk : k < N := by omega
        have hkp : k < ps.length := by rw [HNP.out]; exact hk
        have hkq : k < qs.length := by rw [HNQ.out]; exact hk
        obtain ⟨b, o, rfl, c0⟩ := ins_cell HP.out k hkp
        obtain ⟨b2, o2, rfl, d0⟩ := ins_cell HQ.out k hkq
        have HT := Lib.hid (show ps.take (k + 1) = qs.take (k + 1) ↔ ps.take k = qs.take k ∧ ps[k] = qs[k] from take_eqk hkp hkq)
        have HNE : Hid (ps[k] ≠ qs[k] → decide (ps = qs) = false) := fun h => decide_eq_false fun e => h (by subst e; rfl)
        obtain ⟨x0, hx⟩ : ∃ x, ps[k] = x := ⟨_, rfl⟩
        obtain ⟨y0, hy⟩ : ∃ y, qs[k] = y := ⟨_, rfl⟩
        rw [hx] at c0 HT HNE
        rw [hy] at d0 HT HNE
        replace c0 : wr.cell? ⟨b, o + k, none⟩ = some (.string ⟨x0.toArray⟩) := by rw [HWY.out]; exact c0
        replace d0 : wr.cell? ⟨b2, o2 + k, none⟩ = some (.string ⟨y0.toArray⟩) := by rw [HWY.out]; exact d0
        have hkI : (k : Int) < (N : Int) := by omega
        clear hx hy
        by_cases e0 : x0 = y0
        · have b0 : (x0 == y0) = true := by simp [e0]
          have HE2 : Hid (ps.take (k + 1) = qs.take (k + 1)) := HT.out.2 ⟨HE.out, e0⟩
          clear HNE HT e0
          go_wp2_with fail
          go_quiet (fail)
          go_wp2_with fail
          go_roundg g
          case measure => omega
          case rel => exact ⟨k + 1, by omega, by go_num, HE2, nd + nq, by rw [HWY.out]; exact drewN_add w nd nq⟩
        · have HF := Lib.hid (HNE.out e0)
          have b0 : (x0 == y0) = false := by simpa using e0
          clear HNE HT e0
          go_wp2_with fail
          go_quiet (fail)
          go_wp2_with fail
          go_ret
          exact ⟨ret_bool HF.out.symm, nd + nq, by rw [HWY.out]; exact drewN_add w nd nq⟩
  · have hbl : ((ps.length : Int) != (qs.length : Int)) = true := by rw [bne_iff_ne]; omega
    have HF : Hid (decide (ps = qs) = false) := decide_eq_false fun e => hlen (by rw [e])
    clear hlen hp hq
    go_enter Tryz.func80, Tryz.ntmps80
    go_wp2_with fail
    go_ret
    exact ⟨ret_bool HF.out.symm, 0, rfl⟩
set_option maxRecDepth 100000 in
set_option maxHeartbeats 8000000 in
theorem tsame_c (P : Option Addr) (C : Nat) (ps : List T) (Q : Option Addr) (D : Nat) (qs : List T) (w : World) (hp : InS w P ps) (hq : InS w Q qs) (hl : ps.length ≤ 140737488355328) (hm : qs.length ≤ 140737488355328) :
    Calls Tryz.prog 32 #[.slice P ps.length C, .slice Q qs.length D] w fun e w' => e = .returned (.bool (decide (ps = qs))) ∧ ∃ n, w' = w.drewN n := by
  by_cases hlen : ps.length = qs.length
  · have hbl : ((ps.length : Int) != (qs.length : Int)) = false := by rw [bne_eq_false_iff_eq]; omega
    obtain ⟨N, hN⟩ : ∃ N, qs.length = N := ⟨_, rfl⟩
    have hNp : ps.length = N := by omega
    rw [hN] at hm hbl ⊢
    rw [hNp] at hbl hl ⊢
    have HNQ := Lib.hid hN
    have HNP := Lib.hid hNp
    have HP := Lib.hid hp
    have HQ := Lib.hid hq
    clear hN hNp hlen hp hq hbl
    go_enter Tryz.func32, Tryz.ntmps32
    go_wp2_with fail
    go_loopg [5] N (fun g s5 wy => ∃ k : Nat, k + g = N ∧ s5 = .int .i64 k ∧ Hid (ps.take k = qs.take k) ∧ ∃ nd, wy = w.drewN nd)
    case atStart => exact ⟨0, by omega, rfl, rfl, 0, rfl⟩
    case round =>
      obtain ⟨k, hkg, rfl, HE, nd, hwy⟩ := hrel
      have HWY := Lib.hid hwy
      clear hwy
      rcases gk with _ | g
      · obtain rfl : k = N := by omega
        have HF : Hid (decide (ps = qs) = true) := by
          have e1 : ps.take k = ps := List.take_of_length_le (by rw [HNP.out]; exact Nat.le_refl _)
          have e2 : qs.take k = qs := List.take_of_length_le (by rw [HNQ.out]; exact Nat.le_refl _)
          have h := HE.out
          rw [e1, e2] at h
          exact decide_eq_true h
        go_wp2_with fail
        go_ret
        exact ⟨ret_bool HF.out.symm, nd, HWY.out⟩
      · have hk : k < N := by omega
        have hkp : k < ps.length := by rw [HNP.out]; exact hk
        have hkq : k < qs.length := by rw [HNQ.out]; exact hk
        obtain ⟨b, o, rfl, c0⟩ := ins_cell HP.out k hkp
        obtain ⟨b2, o2, rfl, d0⟩ := ins_cell HQ.out k hkq
        have HT := Lib.hid (show ps.take (k + 1) = qs.take (k + 1) ↔ ps.take k = qs.take k ∧ ps[k] = qs[k] from take_eqk hkp hkq)
        have HNE : Hid (ps[k] ≠ qs[k] → decide (ps = qs) = false) := fun h => decide_eq_false fun e => h (by subst e; rfl)
        obtain ⟨x0, hx⟩ : ∃ x, ps[k] = x := ⟨_, rfl⟩
        obtain ⟨y0, hy⟩ : ∃ y, qs[k] = y := ⟨_, rfl⟩
        rw [hx] at c0 HT HNE
        rw [hy] at d0 HT HNE
        replace c0 : wr.cell? ⟨b, o + k, none⟩ = some (.string ⟨x0.toArray⟩) := by rw [HWY.out]; exact c0
        replace d0 : wr.cell? ⟨b2, o2 + k, none⟩ = some (.string ⟨y0.toArray⟩) := by rw [HWY.out]; exact d0
        have hkI : (k : Int) < (N : Int) := by omega
        clear hx hy
        by_cases e0 : x0 = y0
        · have b0 : (x0 == y0) = true := by simp [e0]
          have HE2 : Hid (ps.take (k + 1) = qs.take (k + 1)) := HT.out.2 ⟨HE.out, e0⟩
          clear HNE HT e0
          go_wp2_with fail
          go_quiet (fail)
          go_wp2_with fail
          go_roundg g
          case measure => omega
          case rel => exact ⟨k + 1, by omega, by go_num, HE2, nd + nq, by rw [HWY.out]; exact drewN_add w nd nq⟩
        · have HF := Lib.hid (HNE.out e0)
          have b0 : (x0 == y0) = false := by simpa using e0
          clear HNE HT e0
          go_wp2_with fail
          go_quiet (fail)
          go_wp2_with fail
          go_ret
          exact ⟨ret_bool HF.out.symm, nd + nq, by rw [HWY.out]; exact drewN_add w nd nq⟩
  · have hbl : ((ps.length : Int) != (qs.length : Int)) = true := by rw [bne_iff_ne]; omega
    have HF : Hid (decide (ps = qs) = false) := decide_eq_false fun e => hlen (by rw [e])
    clear hlen hp hq
    go_enter Tryz.func32, Tryz.ntmps32
    go_wp2_with fail
    go_ret
    exact ⟨ret_bool HF.out.symm, 0, rfl⟩
theorem tsame_l {w : World} {x y : scp.Lst} (hx : InS w x.1 x.2.2) (hy : InS w y.1 y.2.2) (hl : x.2.2.length ≤ 140737488355328) (hm : y.2.2.length ≤ 140737488355328) : Calls Tryz.prog 32 #[scp.lval x, scp.lval y] w fun e w' => e = .returned (.bool (decide (x.2.2 = y.2.2))) ∧ Below w.heap.size w w' :=
  (tsame_c x.1 x.2.1 x.2.2 y.1 y.2.1 y.2.2 w hx hy hl hm).mono fun _ _ ⟨h1, n, h2⟩ => ⟨h1, by subst h2; exact below_drewN (Below.refl _ _) n⟩
theorem ix_sh (l : T) : decide (Lib.indexByte l 35 ≥ 0) = shB l := by
  by_cases h : (35 : UInt8) ∈ l
  · rw [fdv.ix_hit 35 l h]
    have h1 : shB l = true := by unfold shB; rw [List.any_eq_true]; exact ⟨35, h, rfl⟩
    rw [h1]
    exact decide_eq_true (by omega)
  · rw [fdv.ix_miss 35 l h]
    have h1 : shB l = false := by
      unfold shB
      rw [List.any_eq_false]
      intro x hx e
      exact h (by have : x = 35 := by simpa using e
                  rwa [this] at hx)
    rw [h1]
    rfl
set_option maxRecDepth 100000 in
theorem index35_c (s : ByteArray) (w : World) : Calls Tryz.prog 107 #[.string s, .string ⟨#[35]⟩] w fun e w' => e = .returned (.int .i64 (Lib.indexByte s.data.toList 35)) ∧ w = w' := by
  have HI := Lib.hid (fdv.sindex1 s 35 w)
  go_enter Tryz.func107, Tryz.ntmps107
  go_wp2_with (go_at_call 113; refine HI.out.mono ?_; rintro e w' ⟨rfl, rfl⟩)
  go_ret
  exact ⟨rfl, rfl⟩
set_option maxRecDepth 100000 in
theorem contains_c (l : T) (w : World) : Calls Tryz.prog 79 #[.string ⟨l.toArray⟩, .string ⟨#[35]⟩] w fun e w' => e = .returned (.bool (shB l)) ∧ w = w' := by
  have HI := Lib.hid (index35_c ⟨l.toArray⟩ w)
  have HS := Lib.hid (ix_sh l)
  have e0 : (⟨l.toArray⟩ : ByteArray).data.toList = l := by simp
  rw [e0] at HI
  obtain ⟨z, hz⟩ : ∃ z, Lib.indexByte l 35 = z := ⟨_, rfl⟩
  rw [hz] at HI HS
  clear e0 hz
  go_enter Tryz.func79, Tryz.ntmps79
  go_wp2_with (go_at_call 107; refine HI.out.mono ?_; rintro e w' ⟨rfl, rfl⟩)
  go_ret
  exact ⟨ret_bool HS.out, rfl⟩
end Go.Proofs.YtfeafhagnhbmiaaGreatDoor.rol
