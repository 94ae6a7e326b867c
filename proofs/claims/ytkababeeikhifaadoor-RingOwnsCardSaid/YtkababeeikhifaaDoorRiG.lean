/- The laws' helpers: known, ints. Condition of the first: package variables (RT). -/
import Derived.Test.YtkababeeikhifaaDoorRiD
namespace Go.Proofs.YtkababeeikhifaaDoor.rng
open Go.RowKit
open Go.Proofs.YtkababeeikhifaaDoor.oct Go.Proofs.YtkababeeikhifaaDoor.ref Go.Proofs.YtkababeeikhifaaDoor.rows Go.Proofs.YtkababeeikhifaaDoor.rowg Go.Proofs.YtkababeeikhifaaDoor.trn
open Go.Proofs.YtkababeeikhifaaDoor.scp (tx senc senc_len InS ins_below ins_cell)

def eu : T := [101, 117]
theorem ins_new (w : World) (l : List T) (cs : Array Value) (h : cs = (cells senc l).toArray) : InS (w.alloc (.cells cs 9)) (some ⟨w.heap.size, 0, none⟩) l := by
  subst h
  intro _
  refine ⟨w.heap.size, 0, rfl, fun i hi j hj => ?_⟩
  have h2 := cells_at senc_len l i hi j hj
  have hlen : i * 1 + j < (cells senc l).length := by rw [cells_len senc_len]; omega
  rw [List.getElem?_eq_getElem hlen] at h2
  have h3 := new_cellsG w w.heap.size 9 rfl (cells senc l) (i * 1 + j) _ (List.getElem?_eq_getElem hlen)
  rw [add_none] at h3
  rw [← h2]
  rw [show 0 + i * 1 + j = 0 + (i * 1 + j) by omega]
  exact h3
set_option maxRecDepth 100000 in
set_option maxHeartbeats 4000000 in
theorem known_c (w : World) (hT : RT w) : Calls Tryd.prog 10 #[] w fun e w' => e = .returned (.bool true) ∧ Below w.heap.size w w' := by
  have hb1 := (Below.refl w.heap.size w).alloc (Nat.le_refl _) (.cells #[.string ⟨#[101, 117]⟩] 9)
  have HN1 := Lib.hid (new_yes 2 (some ⟨w.heap.size, 0, none⟩) 1 [eu] (w.alloc (.cells #[.string ⟨#[101, 117]⟩] 9)) (ins_new w [eu] _ rfl) (by decide) (by decide) (by decide) (by decide) (hT.below hb1))
  have HB1 := Lib.hid hb1
  have HN2 : Hid (∀ W, Below w.heap.size w W → Calls Tryd.prog 9 #[.int .i64 1, .slice (some ⟨W.heap.size, 0, none⟩) 2 2] (W.alloc (.cells #[.string ⟨#[101, 117]⟩, .string ⟨#[101, 117]⟩] 9)) fun e w' => e = .returned (.tuple #[.pointer none, .int .i64 1]) ∧ Below W.heap.size W w') := Lib.hid fun W hW => (new_any 1 (some ⟨W.heap.size, 0, none⟩) 2 [eu, eu] _ (ins_new W [eu, eu] _ rfl) (by decide) (by decide) (by decide)).mono fun _ _ ⟨e1, e2⟩ => ⟨e1, bnext ((Below.refl _ _).alloc (Nat.le_refl _) _) e2⟩
  have HT := Lib.hid hT
  clear hb1 hT
  go_enter Tryd.func10, Tryd.ntmps10
  go_wp2_with fail
  refine HN1.out.mono ?_
  rintro e w1 ⟨g, rfl, hR, hb⟩
  have HB2 := Lib.hid (bnext HB1.out hb)
  have HR := Lib.hid hR
  clear hR hb
  go_wp2_with fail
  refine (HN2.out w1 HB2.out).mono ?_
  rintro e w2 ⟨rfl, hb⟩
  have HB3 := Lib.hid (bnext HB2.out hb)
  have HR2 := Lib.hid (HR.out.below hb)
  have HOW := Lib.hid (owner_c HR2.out (HT.out.below HB3.out) [97] (by decide))
  rw [show ownR 2 [eu] (plc [97]) = 0 by have := ownR_lt (n := 2) (by decide) (names := [eu]) (by decide) (plc [97]); simp at this; omega] at HOW
  unfold tx at HOW
  clear hb
  go_wp2_with fail
  refine HOW.out.mono ?_
  rintro e w3 ⟨rfl, hb⟩
  have HB4 := Lib.hid (bnext HB3.out hb)
  have HPT := Lib.hid (points_c (HR2.out.below hb))
  clear hb
  go_wp2_with fail
  refine HPT.out.mono ?_
  rintro e w4 ⟨v, rfl, hn, hb⟩
  obtain ⟨pv, cv, rfl⟩ := cln.own_slice hn
  have HB5 := Lib.hid (bnext HB4.out hb)
  clear hn hb
  go_wp2_with fail
  go_ret
  exact ⟨rfl, HB5.out⟩
set_option maxRecDepth 100000 in
set_option maxHeartbeats 8000000 in
theorem ints_c (P : Option Addr) (C : Nat) (ps : List Nat) (Q : Option Addr) (D : Nat) (qs : List Nat) (w : World) (hp : InI w P ps) (hq : InI w Q qs) (hl : ps.length ≤ 140737488355328) (hm : qs.length ≤ 140737488355328) :
    Calls Tryd.prog 18 #[.slice P ps.length C, .slice Q qs.length D] w fun e w' => e = .returned (.bool (decide (ps = qs))) ∧ ∃ n, w' = w.drewN n := by
  by_cases hlen : ps.length = qs.length
  · have hbl : ((ps.length : Int) != (qs.length : Int)) = false := by rw [bne_eq_false_iff_eq]; omega
    obtain ⟨N, hN⟩ : ∃ N, qs.length = N := ⟨_, rfl⟩
    have hNp : ps.length = N := by omega
    rw [hN] at hm hbl ⊢
    rw [hNp] at hbl hl ⊢
    have HNQ := Lib.hid hN
    have HNP := Lib.hid hNp
    have HP := Lib.hid hp
    have HQ := Lib.hid hq
    clear hN hNp hlen hp hq hbl
    go_enter Tryd.func18, Tryd.ntmps18
    go_wp2_with fail
    go_loopg [5] N (fun g s5 wy => ∃ k : Nat, k + g = N ∧ s5 = .int .i64 k ∧ Hid (ps.take k = qs.take k) ∧ ∃ nd, wy = w.drewN nd)
    case atStart => exact ⟨0, by omega, rfl, rfl, 0, rfl⟩
    case round =>
      obtain ⟨k, hkg, rfl, HE, nd, hwy⟩ := hrel
      have HWY := Lib.hid hwy
      clear hwy
      rcases gk with _ | g
      · obtain rfl : k = N := by omega
        have HF : Hid (decide (ps = qs) = true) := by
          have e1 : ps.take k = ps := List.take_of_length_le (by rw [HNP.out]; exact Nat.le_refl _)
          have e2 : qs.take k = qs := List.take_of_length_le (by rw [HNQ.out]; exact Nat.le_refl _)
          have h := HE.out
          rw [e1, e2] at h
          exact decide_eq_true h
        go_wp2_with fail
        go_ret
        exact ⟨ret_bool HF.out.symm, nd, HWY.out⟩
      · have hk : k < N := by omega
        have hkp : k < ps.length := by rw [HNP.out]; exact hk
        have hkq : k < qs.length := by rw [HNQ.out]; exact hk
        obtain ⟨b, o, rfl, c0⟩ := ini_cell HP.out k hkp
        obtain ⟨b2, o2, rfl, d0⟩ := ini_cell HQ.out k hkq
        have HT := Lib.hid (show ps.take (k + 1) = qs.take (k + 1) ↔ ps.take k = qs.take k ∧ ps[k] = qs[k] from scp.take_eqk hkp hkq)
        have HNE : Hid (ps[k] ≠ qs[k] → decide (ps = qs) = false) := fun h => decide_eq_false fun e => h (by subst e; rfl)
        obtain ⟨x0, hx⟩ : ∃ x, ps[k] = x := ⟨_, rfl⟩
        obtain ⟨y0, hy⟩ : ∃ y, qs[k] = y := ⟨_, rfl⟩
        rw [hx] at c0 HT HNE
        rw [hy] at d0 HT HNE
        replace c0 : wr.cell? ⟨b, o + k, none⟩ = some (.int .i64 (x0 : Int)) := by rw [HWY.out]; exact c0
        replace d0 : wr.cell? ⟨b2, o2 + k, none⟩ = some (.int .i64 (y0 : Int)) := by rw [HWY.out]; exact d0
        have hkI : (k : Int) < (N : Int) := by omega
        clear hx hy
        by_cases e0 : x0 = y0
        · have b0 : ((x0 : Int) != (y0 : Int)) = false := by rw [bne_eq_false_iff_eq]; omega
          have b1 : (x0 != y0) = false := by rw [bne_eq_false_iff_eq]; omega
          have HE2 : Hid (ps.take (k + 1) = qs.take (k + 1)) := HT.out.2 ⟨HE.out, e0⟩
          clear HNE HT e0
          go_wp2_with fail
          go_quiet (fail)
          go_wp2_with fail
          go_roundg g
          case measure => omega
          case rel => exact ⟨k + 1, by omega, by go_num, HE2, nd + nq, by rw [HWY.out]; exact scp.drewN_add w nd nq⟩
        · have HF := Lib.hid (HNE.out e0)
          have b0 : ((x0 : Int) != (y0 : Int)) = true := by rw [bne_iff_ne]; omega
          have b1 : (x0 != y0) = true := by rw [bne_iff_ne]; omega
          clear HNE HT e0
          go_wp2_with fail
          go_quiet (fail)
          go_wp2_with fail
          go_ret
          exact ⟨ret_bool HF.out.symm, nd + nq, by rw [HWY.out]; exact scp.drewN_add w nd nq⟩
  · have hbl : ((ps.length : Int) != (qs.length : Int)) = true := by rw [bne_iff_ne]; omega
    have HF : Hid (decide (ps = qs) = false) := decide_eq_false fun e => hlen (by rw [e])
    clear hlen hp hq
    go_enter Tryd.func18, Tryd.ntmps18
    go_wp2_with fail
    go_ret
    exact ⟨ret_bool HF.out.symm, 0, rfl⟩
set_option maxRecDepth 100000 in
set_option maxHeartbeats 8000000 in
theorem texts_c (P : Option Addr) (C : Nat) (ps : List T) (Q : Option Addr) (D : Nat) (qs : List T) (w : World) (hp : InS w P ps) (hq : InS w Q qs) (hl : ps.length ≤ 140737488355328) (hm : qs.length ≤ 140737488355328) :
    Calls Tryd.prog 12 #[.slice P ps.length C, .slice Q qs.length D] w fun e w' => e = .returned (.bool (decide (ps = qs))) ∧ ∃ n, w' = w.drewN n := by
  by_cases hlen : ps.length = qs.length
  · have hbl : ((ps.length : Int) != (qs.length : Int)) = false := by rw [bne_eq_false_iff_eq]; omega
    obtain ⟨N, hN⟩ : ∃ N, qs.length = N := ⟨_, rfl⟩
    have hNp : ps.length = N := by omega
    rw [hN] at hm hbl ⊢
    rw [hNp] at hbl hl ⊢
    have HNQ := Lib.hid hN
    have HNP := Lib.hid hNp
    have HP := Lib.hid hp
    have HQ := Lib.hid hq
    clear hN hNp hlen hp hq hbl
    go_enter Tryd.func12, Tryd.ntmps12
    go_wp2_with fail
    go_loopg [5] N (fun g s5 wy => ∃ k : Nat, k + g = N ∧ s5 = .int .i64 k ∧ Hid (ps.take k = qs.take k) ∧ ∃ nd, wy = w.drewN nd)
    case atStart => exact ⟨0, by omega, rfl, rfl, 0, rfl⟩
    case round =>
      obtain ⟨k, hkg, rfl, HE, nd, hwy⟩ := hrel
      have HWY := Lib.hid hwy
      clear hwy
      rcases gk with _ | g
      · obtain rfl : k = N := by omega
        have HF : Hid (decide (ps = qs) = true) := by
          have e1 : ps.take k = ps := List.take_of_length_le (by rw [HNP.out]; exact Nat.le_refl _)
          have e2 : qs.take k = qs := List.take_of_length_le (by rw [HNQ.out]; exact Nat.le_refl _)
          have h := HE.out
          rw [e1, e2] at h
          exact decide_eq_true h
        go_wp2_with fail
        go_ret
        exact ⟨ret_bool HF.out.symm, nd, HWY.out⟩
      · have hk : k < N := by omega
        have hkp : k < ps.length := by rw [HNP.out]; exact hk
        have hkq : k < qs.length := by rw [HNQ.out]; exact hk
        obtain ⟨b, o, rfl, c0⟩ := ins_cell HP.out k hkp
        obtain ⟨b2, o2, rfl, d0⟩ := ins_cell HQ.out k hkq
        have HT := Lib.hid (show ps.take (k + 1) = qs.take (k + 1) ↔ ps.take k = qs.take k ∧ ps[k] = qs[k] from scp.take_eqk hkp hkq)
        have HNE : Hid (ps[k] ≠ qs[k] → decide (ps = qs) = false) := fun h => decide_eq_false fun e => h (by subst e; rfl)
        obtain ⟨x0, hx⟩ : ∃ x, ps[k] = x := ⟨_, rfl⟩
        obtain ⟨y0, hy⟩ : ∃ y, qs[k] = y := ⟨_, rfl⟩
        rw [hx] at c0 HT HNE
        rw [hy] at d0 HT HNE
        replace c0 : wr.cell? ⟨b, o + k, none⟩ = some (.string ⟨x0.toArray⟩) := by rw [HWY.out]; exact c0
        replace d0 : wr.cell? ⟨b2, o2 + k, none⟩ = some (.string ⟨y0.toArray⟩) := by rw [HWY.out]; exact d0
        have hkI : (k : Int) < (N : Int) := by omega
        clear hx hy
        by_cases e0 : x0 = y0
        · have b0 : (x0 == y0) = true := by simp [e0]
          have HE2 : Hid (ps.take (k + 1) = qs.take (k + 1)) := HT.out.2 ⟨HE.out, e0⟩
          clear HNE HT e0
          go_wp2_with fail
          go_quiet (fail)
          go_wp2_with fail
          go_roundg g
          case measure => omega
          case rel => exact ⟨k + 1, by omega, by go_num, HE2, nd + nq, by rw [HWY.out]; exact scp.drewN_add w nd nq⟩
        · have HF := Lib.hid (HNE.out e0)
          have b0 : (x0 == y0) = false := by simpa using e0
          clear HNE HT e0
          go_wp2_with fail
          go_quiet (fail)
          go_wp2_with fail
          go_ret
          exact ⟨ret_bool HF.out.symm, nd + nq, by rw [HWY.out]; exact scp.drewN_add w nd nq⟩
  · have hbl : ((ps.length : Int) != (qs.length : Int)) = true := by rw [bne_iff_ne]; omega
    have HF : Hid (decide (ps = qs) = false) := decide_eq_false fun e => hlen (by rw [e])
    clear hlen hp hq
    go_enter Tryd.func12, Tryd.ntmps12
    go_wp2_with fail
    go_ret
    exact ⟨ret_bool HF.out.symm, 0, rfl⟩
end Go.Proofs.YtkababeeikhifaaDoor.rng
