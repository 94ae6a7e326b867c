/- The contract of the developers' Print. Members whose names and texts are within the reach; JT. -/
import Derived.Test.YtbgnoobgnpebdaaDoorJdvE
import Derived.IntWalk
namespace Go.Proofs.YtbgnoobgnpebdaaDoor.jdv
open Go.RowKit
open Go.Proofs.YtbgnoobgnpebdaaDoor.oct Go.Proofs.YtbgnoobgnpebdaaDoor.ref Go.Proofs.YtbgnoobgnpebdaaDoor.rows Go.Proofs.YtbgnoobgnpebdaaDoor.rowg Go.Proofs.YtbgnoobgnpebdaaDoor.jsn
open Go.Lib (byteCells hasPrefix trimPrefix)

theorem printJ_long (ms : List Mem) (h : 64 < ms.length) : printJ ms = (2, []) := by unfold printJ; rw [if_pos h]
theorem printJ_bad (ms : List Mem) (h : ¬ 64 < ms.length) (h2 : okM ms = false) : printJ ms = (3, []) := by unfold printJ; rw [if_neg h, if_neg (by rw [h2]; decide)]
theorem printJ_big (ms : List Mem) (h : ¬ 64 < ms.length) (h2 : okM ms = true) (h3 : 16384 < (objT ms).length) : printJ ms = (2, []) := by unfold printJ; rw [if_neg h, if_pos h2, if_pos h3]
theorem printJ_fine (ms : List Mem) (h : ¬ 64 < ms.length) (h2 : okM ms = true) (h3 : ¬ 16384 < (objT ms).length) : printJ ms = (0, objT ms) := by unfold printJ; rw [if_neg h, if_pos h2, if_neg h3]
theorem okM_form (ms : List Mem) (k : Nat) (h : k < ms.length) (h1 : inForm ms[k] = false) : okM ms = false := by
  cases ho : okM ms with
  | false => rfl
  | true =>
    have := ((okM_unl ms).1 ho).1 _ (List.getElem_mem h)
    rw [h1] at this
    cases this
theorem okM_unlike (ms : List Mem) (h1 : unl ms = false) : okM ms = false := by
  cases ho : okM ms with
  | false => rfl
  | true =>
    have := ((okM_unl ms).1 ho).2
    rw [h1] at this
    cases this
theorem obj_len (ms : List Mem) : (objT ms).length = (memsT ms).length + 2 := by unfold objT; simp
theorem memsT_next (ms : List Mem) (k : Nat) (h : k < ms.length) : 123 :: memsT (ms.take (k + 1)) = if k = 0 then [123] ++ memT ms[k] else ((123 :: memsT (ms.take k)) ++ [44]) ++ memT ms[k] := by
  rw [List.take_succ_eq_append_getElem h, memsT_snoc]
  by_cases hk : k = 0
  · subst hk; simp
  · rw [if_neg hk, if_neg]
    · simp
    · intro he
      have : (ms.take k).length = 0 := by rw [List.isEmpty_iff.1 he]; rfl
      rw [List.length_take] at this
      omega
set_option maxRecDepth 100000 in
set_option maxHeartbeats 16000000 in
theorem print_c (P : Option Addr) (C : Nat) (ms : List Mem) (w : World) (hp : InM w P ms) (hl : ms.length ≤ 2513169434916) (hf : FitM ms) (ht : JT w) :
    Calls Tryd.prog 10 #[.slice P ms.length C] w fun e w' => e = .returned (.tuple #[tx (printJ ms).2, .int .i64 ((printJ ms).1 : Nat)]) ∧ Below w.heap.size w w' := by
  have HP := Lib.hid hp
  have HF := Lib.hid hf
  have HT := Lib.hid ht
  have HU := Lib.hid (fun w hp => unlike_c P C ms w hp hl hf)
  obtain ⟨N, hN⟩ : ∃ N, ms.length = N := ⟨_, rfl⟩
  rw [hN] at hl HU ⊢
  have HN := Lib.hid hN
  clear hp hf ht
  by_cases h64 : 64 < N
  · have HV : Hid (printJ ms = (2, [])) := printJ_long ms (by omega)
    have hI : (N : Int) > 64 := by omega
    clear h64 hN hl
    go_enter Tryd.func10, Tryd.ntmps10
    go_wp2_with fail
    go_ret2
    exact ⟨by rw [HV.out]; rfl, Below.refl _ _⟩
  · have hI : ¬ ((N : Int) > 64) := by omega
    have h64m : ¬ 64 < ms.length := by omega
    clear hN hl
    go_enter Tryd.func10, Tryd.ntmps10
    go_wp2_with fail
    go_loopg [14] N (fun g s14 wx => ∃ k : Nat, k + g = N ∧ s14 = .int .i64 k ∧ Hid (∀ m ∈ ms.take k, inForm m = true) ∧ Hid (Below w.heap.size w wx))
    case atStart => exact ⟨0, by omega, rfl, (fun m hm => by simp at hm), Below.refl _ _⟩
    case round =>
      obtain ⟨k, hkg, rfl, HA, HB⟩ := hrel
      have hsw := HB.out.size
      rcases gk with _ | g
      · obtain rfl : k = N := by omega
        have HAL : Hid (∀ m ∈ ms, inForm m = true) := by
          have h := HA.out
          rwa [List.take_of_length_le (by rw [HN.out]; exact Nat.le_refl _)] at h
        have HUN := Lib.hid (HU.out wr (inm_below HP.out HB.out))
        clear HA
        cases hun : unl ms with
        | false =>
          have HV : Hid (printJ ms = (3, [])) := printJ_bad ms h64m (okM_unlike ms hun)
          rw [hun] at HUN
          clear hun
          go_wp2_with (go_at_call 22; refine HUN.out.mono ?_; rintro e w2 ⟨rfl, hb2⟩)
          go_ret2
          exact ⟨by rw [HV.out]; rfl, HB.out.trans (hb2.mono hsw)⟩
        | true =>
          have HOK : Hid (okM ms = true) := (okM_unl ms).2 ⟨HAL.out, hun⟩
          rw [hun] at HUN
          clear hun
          go_wp2_with (go_at_call 22; refine HUN.out.mono ?_; rintro e w2 ⟨rfl, hb2⟩)
          have HB2 := Lib.hid (HB.out.trans (hb2.mono hsw))
          have hs2 : w.heap.size ≤ w2.heap.size := HB2.out.size
          have H0 := Lib.hid (isB_writeS w2.heap.size w2.heap.size [] [123] _ (isB_new w2) (by decide) (by simp))
          have HBA := Lib.hid (HB2.out.alloc HB2.out.size (.cells #[.pointer none, .slice none 0 0] 50))
          clear hb2 HB HUN HU
          refine H0.out.mono ?_
          rintro e w3 ⟨rfl, hn3, hk3⟩
          have HN3 := Lib.hid hn3
          have HB3 := Lib.hid (HBA.out.trans (hk3.below.mono hs2))
          have hs3 : w2.heap.size ≤ w3.heap.size := Nat.le_trans (by simp) hk3.size
          clear hn3 hk3 H0 HBA
          obtain ⟨B, hB⟩ : ∃ B, w2.heap.size = B := ⟨_, rfl⟩
          rw [hB] at hs2 hs3 HN3 ⊢
          clear hB HB2
          have hmono : ∀ j, j ≤ ms.length → (123 :: memsT (ms.take j)).length ≤ (objT ms).length := fun j hj => by
            rw [obj_len, List.length_cons]
            have := memsT_take ms j
            omega
          have HMONO := Lib.hid hmono
          clear hmono
          go_wp2_with fail
          go_loopg [28] k (fun g s28 wx => ∃ j : Nat, j + g = k ∧ s28 = .int .i64 j ∧ Hid (IsB B B (123 :: memsT (ms.take j)) wx) ∧ (123 :: memsT (ms.take j)).length ≤ 200000 ∧ Hid (Below w.heap.size w wx) ∧ B ≤ wx.heap.size)
          case atStart => exact ⟨0, by omega, rfl, (by show IsB _ _ _ _; simpa [memsT] using HN3.out), by simp [memsT], HB3.out, hs3⟩
          case round =>
            obtain ⟨j, hjg, rfl, HIB, hZ, HBX, hsx⟩ := hrel
            rcases gk with _ | g
            · obtain rfl : j = k := by omega
              have hib := HIB.out
              have et : ms.take j = ms := List.take_of_length_le (by rw [HN.out]; exact Nat.le_refl _)
              rw [et] at hib hZ
              have H3 := Lib.hid (isB_writeS B B _ [125] wr hib (by simp at hZ ⊢; omega) hsx)
              have eo : 123 :: memsT ms ++ [125] = objT ms := by unfold objT; simp
              rw [eo] at H3
              have hol : (objT ms).length ≤ 200001 := by rw [obj_len]; simp at hZ; omega
              clear hib et eo HIB hZ
              go_wp2_with fail
              refine H3.out.mono ?_
              rintro e w4 ⟨rfl, hn4, hk4⟩
              have HN4 := Lib.hid hn4
              have HB4 := Lib.hid (HBX.out.trans (hk4.below.mono hs2))
              have hs4 : B ≤ w4.heap.size := Nat.le_trans hsx hk4.size
              have hln := sh.blen B B _ w4 hn4
              rw [byteCells_len] at hln
              have HLN := Lib.hid (hln.mono fun _ _ ⟨h1, h2⟩ => (⟨h1, h2.symm⟩ : _ ∧ w4 = _))
              have HST := Lib.hid (sh.bstring B B (objT ms) w4 hn4 hs4)
              clear hn4 hk4 hln H3
              by_cases hbig : 16384 < (objT ms).length
              · have HV := Lib.hid (printJ_big ms h64m HOK.out hbig)
                obtain ⟨L, hL⟩ : ∃ L, (objT ms).length = L := ⟨_, rfl⟩
                rw [hL] at HLN hbig
                have hLI : (L : Int) > 16384 := by omega
                clear hL
                go_wp2_with (go_at_call 24; refine HLN.out.mono ?_; rintro e w5 ⟨rfl, rfl⟩)
                go_ret2
                exact ⟨by rw [HV.out]; rfl, HB4.out⟩
              · have HV := Lib.hid (printJ_fine ms h64m HOK.out hbig)
                obtain ⟨L, hL⟩ : ∃ L, (objT ms).length = L := ⟨_, rfl⟩
                rw [hL] at HLN hbig
                have hLI : ¬ (L : Int) > 16384 := by omega
                clear hL
                go_wp2_with (first | (go_at_call 24; refine HLN.out.mono ?_; rintro e w5 ⟨rfl, rfl⟩) | (go_at_call 26; refine HST.out.mono ?_; rintro e w6 ⟨rfl, _, hb6, _⟩))
                go_ret2
                exact ⟨by rw [HV.out]; rfl, HB4.out.trans (hb6.mono hs2)⟩
            · have hjm : j < ms.length := by rw [HN.out]; omega
              have hjI : (j : Int) < (k : Int) := by omega
              have HNX := Lib.hid (memsT_next ms j hjm)
              have hfm := HF.out _ (List.getElem_mem hjm)
              have hif := HAL.out _ (List.getElem_mem hjm)
              have HMX := Lib.hid (HMONO.out (j + 1) hjm)
              obtain ⟨b, o, rfl, c0, c1, c2, c3, c4⟩ := mem_cells (inm_below HP.out HBX.out) j hjm
              obtain ⟨m, hm⟩ : ∃ m, ms[j] = m := ⟨_, rfl⟩
              rw [hm] at c0 c1 c2 c3 c4 HNX hfm hif
              have hsum := memT_sum m hif
              have hmost := memT_most m hfm.2.2
              have HWM := Lib.hid (fun pre w h hBw hlen ht => writeMember_c B B pre m w h hBw hlen hif hfm.2.2 ht)
              obtain ⟨Z, hZZ⟩ : ∃ Z, 123 :: memsT (ms.take j) = Z := ⟨_, rfl⟩
              rw [hZZ] at HIB hZ HNX
              clear hm
              obtain ⟨x0, x1, x2, x3, x4⟩ := m
              unfold mv tx at HWM
              dsimp only at c0 c1 c2 c3 c4 hsum hmost HWM hfm
              obtain ⟨f1, f2, f3⟩ := hfm
              go_wp2_with fail
              have hE : Blk (wr.alloc (.cells #[.string ⟨x0.toArray⟩, .int .i64 x1, .string ⟨x2.toArray⟩, .int .i64 x3, .bool x4] 38)) wr.heap.size 38 [.string ⟨x0.toArray⟩, .int .i64 x1, .string ⟨x2.toArray⟩, .int .i64 x3, .bool x4] := blk_new wr _ _ _ rfl
              have hib : IsB B B Z (wr.alloc (.cells #[.string ⟨x0.toArray⟩, .int .i64 x1, .string ⟨x2.toArray⟩, .int .i64 x3, .bool x4] 38)) := HIB.out.alloc _
              have hbw : Below w.heap.size w (wr.alloc (.cells #[.string ⟨x0.toArray⟩, .int .i64 x1, .string ⟨x2.toArray⟩, .int .i64 x3, .bool x4] 38)) := HBX.out.alloc HBX.out.size _
              have hsW : B ≤ (wr.alloc (.cells #[.string ⟨x0.toArray⟩, .int .i64 x1, .string ⟨x2.toArray⟩, .int .i64 x3, .bool x4] 38)).heap.size := by simp; omega
              obtain ⟨W, hW⟩ : ∃ W, wr.alloc (.cells #[.string ⟨x0.toArray⟩, .int .i64 x1, .string ⟨x2.toArray⟩, .int .i64 x3, .bool x4] 38) = W := ⟨_, rfl⟩
              rw [hW] at hE hib hbw hsW ⊢
              clear hW c0 c1 c2 c3 c4
              have hz0 : (⟨x0.toArray⟩ : ByteArray).size = x0.length := size_mk x0
              have hz2 : (⟨x2.toArray⟩ : ByteArray).size = x2.length := size_mk x2
              obtain ⟨S0, hS0⟩ : ∃ S0, (⟨x0.toArray⟩ : ByteArray) = S0 := ⟨_, rfl⟩
              obtain ⟨S2, hS2⟩ : ∃ S2, (⟨x2.toArray⟩ : ByteArray) = S2 := ⟨_, rfl⟩
              rw [hS0] at hz0 hE HWM ⊢
              rw [hS2] at hz2 hE HWM ⊢
              have hMB : wr.heap.size ≠ B := by
                have hlt : B < wr.heap.size := by rcases HIB.out with h | h <;> exact h.lt
                omega
              obtain ⟨M, hM⟩ : ∃ M, wr.heap.size = M := ⟨_, rfl⟩
              rw [hM] at hE hMB ⊢
              clear hM hS0 hS2
              have d0 := hE.cell 0
              have d1 := hE.cell 1
              have d2 := hE.cell 2
              have d3 := hE.cell 3
              have d4 := hE.cell 4
              simp only [List.getElem?_cons_zero, List.getElem?_cons_succ] at d0 d1 d2 d3 d4
              have HLEN : Hid (∀ n, Calls Tryd.prog 24 #[.pointer (some ⟨B, 0, none⟩)] (W.drewN n) fun e w' => e = .returned (.int .i64 (Z.length : Nat)) ∧ w' = W.drewN n) := fun n => by
                have h := sh.blen B B (byteCells Z) (W.drewN n) hib
                rw [byteCells_len] at h
                exact h
              have HIBW := Lib.hid hib
              have HBW := Lib.hid hbw
              have HE := Lib.hid hE
              clear hib hbw hE
              obtain ⟨z, hz⟩ : ∃ z, Z.length = z := ⟨_, rfl⟩
              rw [hz] at hZ HLEN
              by_cases hbig : 16384 < z + x0.length + x2.length
              · have HV : Hid (printJ ms = (2, [])) := printJ_big ms h64m HOK.out (by
                  have h1 := HMX.out
                  rw [HNX.out] at h1
                  by_cases h0 : j = 0
                  · subst h0
                    have hz1 : z = 1 := by rw [← hz, ← hZZ]; simp [memsT]
                    rw [if_pos rfl, List.length_append, List.length_singleton] at h1
                    omega
                  · rw [if_neg h0, List.length_append, List.length_append, List.length_singleton] at h1
                    omega)
                have hbI : (z : Int) + (S0.size : Int) + (S2.size : Int) > 16384 := by omega
                have q1 : IntKind.i64.wrap ((z : Int) + (S0.size : Int)) = (z : Int) + (S0.size : Int) := IntWalk.i64_in _ (by omega)
                have q2 : IntKind.i64.wrap ((z : Int) + (S0.size : Int) + (S2.size : Int)) = (z : Int) + (S0.size : Int) + (S2.size : Int) := IntWalk.i64_in _ (by omega)
                clear hbig hsum hmost hz0 hz2 hz hZZ f3
                go_quiet ((go_at_call 24; exact Calls.quiet_of_same (HLEN.out _)))
                clear q1 q2
                go_wp2_with fail
                go_ret2
                exact ⟨by rw [HV.out]; rfl, below_drewN HBW.out _⟩
              · have hbI : ¬ (z : Int) + (S0.size : Int) + (S2.size : Int) > 16384 := by omega
                have q1 : IntKind.i64.wrap ((z : Int) + (S0.size : Int)) = (z : Int) + (S0.size : Int) := IntWalk.i64_in _ (by omega)
                have q2 : IntKind.i64.wrap ((z : Int) + (S0.size : Int) + (S2.size : Int)) = (z : Int) + (S0.size : Int) + (S2.size : Int) := IntWalk.i64_in _ (by omega)
                have hzm : z ≤ 16384 := by omega
                have hml : (memT ⟨x0, x1, x2, x3, x4⟩).length ≤ 100000 := by omega
                have hln : x0.length + x2.length ≤ 16384 := by omega
                clear hbig hsum hmost hz0 hz2 f3 f1 f2
                go_quiet ((go_at_call 24; exact Calls.quiet_of_same (HLEN.out _)))
                clear q1 q2
                have HE5 : Hid (Blk (W.drewN nq) M 38 [.string S0, .int .i64 x1, .string S2, .int .i64 x3, .bool x4]) := HE.out.drewN nq
                have HIB5 : Hid (IsB B B Z (W.drewN nq)) := HIBW.out
                have HB5 := Lib.hid (below_drewN HBW.out nq)
                have hs5 : B ≤ (W.drewN nq).heap.size := hsW
                obtain ⟨W5, hW5⟩ : ∃ W5, W.drewN nq = W5 := ⟨_, rfl⟩
                rw [hW5] at HE5 HIB5 HB5 hs5 ⊢
                clear hW5 d0 d1 d2 d3 d4 HE HIBW HBW hsW HLEN
                have HJT : Hid (∀ u, Below w.heap.size w u → ∀ w', Below B u w' → JT w') := fun u hu w' hb => HT.out.below (hu.trans (hb.mono hs2))
                by_cases h0 : j = 0
                · have HZ1 : Hid (123 :: memsT (ms.take (j + 1)) = Z ++ memT ⟨x0, x1, x2, x3, x4⟩) := by
                    show _ = _
                    rw [HNX.out, if_pos h0, ← hZZ, h0]
                    rfl
                  have hj0 : ¬ (j : Int) > 0 := by omega
                  have hE := HE5.out
                  have d0 := hE.cell 0
                  have d1 := hE.cell 1
                  have d2 := hE.cell 2
                  have d3 := hE.cell 3
                  have d4 := hE.cell 4
                  simp only [List.getElem?_cons_zero, List.getElem?_cons_succ] at d0 d1 d2 d3 d4
                  have H6 := Lib.hid (HWM.out Z W5 HIB5.out hs5 (by omega) (HJT.out W5 HB5.out))
                  have hz1 : (123 :: memsT (ms.take (j + 1))).length ≤ 200000 := by rw [HZ1.out, List.length_append]; omega
                  have HZL := Lib.hid hz1
                  clear hE hz hZZ h0 hml hz1 HNX
                  go_wp2_with fail
                  refine H6.out.mono ?_
                  rintro e w7 ⟨rfl, hn7, hb7⟩
                  have HN7 := Lib.hid hn7
                  have HB7 := Lib.hid (HB5.out.trans (hb7.mono hs2))
                  have hs7 : B ≤ w7.heap.size := Nat.le_trans hs5 hb7.size
                  clear hn7 hb7 d0 d1 d2 d3 d4
                  go_wp2_with fail
                  go_roundg g
                  case measure => omega
                  case rel => exact ⟨j + 1, by omega, by go_num, by rw [HZ1.out]; exact HN7.out, HZL.out, HB7.out, hs7⟩
                · have HZ1 : Hid (123 :: memsT (ms.take (j + 1)) = (Z ++ [44]) ++ memT ⟨x0, x1, x2, x3, x4⟩) := by
                    show _ = _
                    rw [HNX.out, if_neg h0]
                  have hj0 : (j : Int) > 0 := by omega
                  have H5 := Lib.hid (isB_writeS B B Z [44] W5 HIB5.out (by simp; omega) hs5)
                  have hz1 : (123 :: memsT (ms.take (j + 1))).length ≤ 200000 := by rw [HZ1.out, List.length_append, List.length_append, List.length_singleton]; omega
                  have HZL := Lib.hid hz1
                  have hzl : (Z ++ [44]).length ≤ 16385 := by rw [List.length_append, List.length_singleton]; omega
                  clear hz hZZ h0 hml hz1 HNX
                  go_wp2_with fail
                  refine H5.out.mono ?_
                  rintro e w6 ⟨rfl, hn6, hk6⟩
                  have hE : Blk w6 M 38 [.string S0, .int .i64 x1, .string S2, .int .i64 x3, .bool x4] := hk6.blk HE5.out hMB (by decide)
                  have d0 := hE.cell 0
                  have d1 := hE.cell 1
                  have d2 := hE.cell 2
                  have d3 := hE.cell 3
                  have d4 := hE.cell 4
                  simp only [List.getElem?_cons_zero, List.getElem?_cons_succ] at d0 d1 d2 d3 d4
                  have HB6 := Lib.hid (HB5.out.trans (hk6.below.mono hs2))
                  have hs6 : B ≤ w6.heap.size := Nat.le_trans hs5 hk6.size
                  have H6 := Lib.hid (HWM.out _ w6 hn6 hs6 (by omega) (HJT.out w6 HB6.out))
                  clear hE hn6 hk6 H5
                  go_wp2_with fail
                  refine H6.out.mono ?_
                  rintro e w7 ⟨rfl, hn7, hb7⟩
                  have HN7 := Lib.hid hn7
                  have HB7 := Lib.hid (HB6.out.trans (hb7.mono hs2))
                  have hs7 : B ≤ w7.heap.size := Nat.le_trans hs6 hb7.size
                  clear hn7 hb7 d0 d1 d2 d3 d4
                  go_wp2_with fail
                  go_roundg g
                  case measure => omega
                  case rel => exact ⟨j + 1, by omega, by go_num, by rw [HZ1.out]; exact HN7.out, HZL.out, HB7.out, hs7⟩
      · have hkm : k < ms.length := by rw [HN.out]; omega
        have hkI : (k : Int) < (N : Int) := by omega
        have hsn : ∀ m ∈ ms.take (k + 1), m ∈ ms.take k ∨ m = ms[k] := by
          intro m hm
          rw [List.take_succ_eq_append_getElem hkm, List.mem_append, List.mem_singleton] at hm
          exact hm
        have HOF := Lib.hid (okM_form ms k hkm)
        obtain ⟨b, o, rfl, c0, c1, c2, c3, c4⟩ := mem_cells (inm_below HP.out HB.out) k hkm
        obtain ⟨m, hm⟩ : ∃ m, ms[k] = m := ⟨_, rfl⟩
        rw [hm] at c0 c1 c2 c3 c4 HOF
        simp only [hm] at hsn
        have HSN := Lib.hid hsn
        have HIF := Lib.hid (fun w => inForm_c m w)
        clear hm hsn
        obtain ⟨x0, x1, x2, x3, x4⟩ := m
        unfold mv tx at HIF
        dsimp only at c0 c1 c2 c3 c4 HIF
        cases hi : inForm ⟨x0, x1, x2, x3, x4⟩ with
        | false =>
          have HV : Hid (printJ ms = (3, [])) := printJ_bad ms h64m (HOF.out hi)
          rw [hi] at HIF
          clear hi HOF
          go_wp2_with (go_at_call 21; refine (HIF.out _).mono ?_; rintro e w2 ⟨rfl, hb2⟩)
          go_ret2
          exact ⟨by rw [HV.out]; rfl, (HB.out.alloc hsw _).trans (hb2.mono (by simp; omega))⟩
        | true =>
          have HA2 : Hid (∀ m ∈ ms.take (k + 1), inForm m = true) := fun m hm => by
            rcases HSN.out m hm with h | h
            · exact HA.out m h
            · rw [h]; exact hi
          rw [hi] at HIF
          clear hi HOF HSN
          go_wp2_with (go_at_call 21; refine (HIF.out _).mono ?_; rintro e w2 ⟨rfl, hb2⟩)
          go_roundg g
          case measure => omega
          case rel => exact ⟨k + 1, by omega, by go_num, HA2, (HB.out.alloc hsw _).trans (hb2.mono (by simp; omega))⟩
end Go.Proofs.YtbgnoobgnpebdaaDoor.jdv
