/- The reference's Find, All, Same; few. No condition beyond what slices and texts are. -/
import Derived.Test.YtfeafhagnhbmiaaGreatDoorRoG
import Derived.Test.YtfeafhagnhbmiaaGreatDoorRoI
namespace Go.Proofs.YtfeafhagnhbmiaaGreatDoor.rol
open Go.RowKit
open Go.Proofs.YtfeafhagnhbmiaaGreatDoor.oct Go.Proofs.YtfeafhagnhbmiaaGreatDoor.ref Go.Proofs.YtfeafhagnhbmiaaGreatDoor.rows Go.Proofs.YtfeafhagnhbmiaaGreatDoor.rowg Go.Proofs.YtfeafhagnhbmiaaGreatDoor.trn
open Go.Proofs.YtfeafhagnhbmiaaGreatDoor.scp (tx senc senc_len InS ins_below ins_cell lt hasB hasB_iff Lst lval lenc GoodL FitS)

theorem look_at {xs : List Cm} {id : T} {k : Nat} (hk : k < xs.length) (hn : ∀ c ∈ xs.take k, c.id ≠ id) : (xs[k].id = id → lookM xs id = (xs[k], true)) ∧ (xs[k].id ≠ id → ∀ c ∈ xs.take (k + 1), c.id ≠ id) := by
  constructor
  · intro h
    have e : xs = xs.take k ++ xs[k] :: xs.drop (k + 1) := by rw [List.getElem_cons_drop, List.take_append_drop]
    have h2 : xs.find? (fun y => decide (y.id = id)) = some xs[k] := by
      conv => lhs; rw [e]
      rw [List.find?_append, List.find?_eq_none.2 (fun c hc => by simpa using hn c hc), Option.none_or, List.find?_cons_of_pos (by simpa using h)]
    unfold lookM
    rw [h2]
  · intro h c hc
    rw [List.take_succ_eq_append_getElem hk] at hc
    rcases List.mem_append.1 hc with hc | hc
    · exact hn c hc
    · rw [List.mem_singleton.1 hc]; exact h
theorem look_end {xs : List Cm} {id : T} (hn : ∀ c ∈ xs, c.id ≠ id) : lookM xs id = (zCm, false) := by
  unfold lookM
  rw [List.find?_eq_none.2 (fun c hc => by simpa using hn c hc)]
set_option maxRecDepth 100000 in
set_option maxHeartbeats 400000 in
theorem few15_c (P : Option Addr) (C : Nat) (xs : List Cm) (w : World) (hC : xs.length ≤ C) :
    Calls Tryz.prog 4 #[.slice P xs.length C] w fun e w' => e = .returned (.slice P (xs.take 70).length C) ∧ w = w' := by
  obtain ⟨n, hn⟩ : ∃ n, xs.length = n := ⟨_, rfl⟩
  have ht : (xs.take 70).length = min 70 n := by rw [List.length_take, hn]
  rw [ht]
  rw [hn] at hC ⊢
  clear ht hn
  by_cases h : 70 < n
  · have i0 : decide ((70 : Int) < (n : Int)) = true := decide_eq_true (by omega)
    have hm : min 70 n = 70 := by omega
    have hc2 : 70 ≤ C := by omega
    rw [hm]
    clear hm
    go_enter Tryz.func4, Tryz.ntmps4
    go_wp2_with fail
    go_ret
    exact ⟨rfl, rfl⟩
  · have i0 : decide ((70 : Int) < (n : Int)) = false := decide_eq_false (by omega)
    have hm : min 70 n = n := by omega
    rw [hm]
    clear hm
    go_enter Tryz.func4, Tryz.ntmps4
    go_wp2_with fail
    go_ret
    exact ⟨rfl, rfl⟩
/-- the ids ahead: none of the first j is the k-th -/
theorem ids_step {xs : List Cm} {k j : Nat} (hj : j < k) (hk : k < xs.length) (hn : hasB (((xs.map Cm.ct).take j).map (·.id)) xs[k].id = false) : ((xs[j]'(by omega)).id = xs[k].id → hasB (((xs.map Cm.ct).take k).map (·.id)) xs[k].id = true) ∧ ((xs[j]'(by omega)).id ≠ xs[k].id → hasB (((xs.map Cm.ct).take (j + 1)).map (·.id)) xs[k].id = false) := by
  have hj2 : j < xs.length := by omega
  constructor
  · intro h
    rw [hasB_iff]
    refine List.mem_map.2 ⟨xs[j].ct, ?_, h⟩
    rw [List.mem_take_iff_getElem]
    exact ⟨j, by rw [List.length_map]; omega, by rw [List.getElem_map]⟩
  · intro h
    rw [List.take_succ_eq_append_getElem (by rw [List.length_map]; exact hj2), List.map_append, List.getElem_map]
    unfold hasB at hn ⊢
    rw [List.any_append, hn]
    simp
    exact h
set_option maxRecDepth 100000 in
set_option maxHeartbeats 1000000 in
theorem all_c (P : Option Addr) (C : Nat) (xs : List Cm) (w : World) (hp : InC w P xs) (hg : ∀ x ∈ xs, GoodC w x) (hl : xs.length ≤ 140737488355328) :
    Calls Tryz.prog 13 #[.slice P xs.length C] w fun e w' => e = .returned (.bool (allB (xs.map Cm.ct))) ∧ Below w.heap.size w w' := by
  have HP := Lib.hid hp
  have HG := Lib.hid hg
  obtain ⟨n, hn⟩ : ∃ n, xs.length = n := ⟨_, rfl⟩
  rw [hn] at hl ⊢
  have HN := Lib.hid hn
  clear hp hg hn
  go_enter Tryz.func13, Tryz.ntmps13
  go_wp2_with fail
  go_loopg [3] n (fun g s3 wx => ∃ k : Nat, k + g = n ∧ s3 = .int .i64 k ∧ Hid (allTo (xs.map Cm.ct) k = true) ∧ Hid (Below w.heap.size w wx))
  case atStart => exact ⟨0, by omega, rfl, rfl, Lib.hid (Below.refl _ _)⟩
  case round =>
    obtain ⟨k, hkg, rfl, HI, HW⟩ := hrel
    rcases gk with _ | g
    · obtain rfl : k = n := by omega
      have HR : Hid (allB (xs.map Cm.ct) = decide (k ≤ 64)) := Lib.hid (by
        unfold allB
        rw [List.length_map, HN.out, HI.out, Bool.true_and])
      go_wp2_with fail
      go_ret
      refine ⟨ret_bool ?_, HW.out⟩
      rw [HR.out]
      simp <;> omega
    · have hk : k < xs.length := by rw [HN.out]; omega
      have hkI : (k : Int) < (n : Int) := by omega
      obtain ⟨b, o, hP, d0, d1, d2, d3, d4, d5⟩ := inc_cells (inc_below HP.out HW.out) k hk
      have hgx := (HG.out _ (List.getElem_mem hk)).below HW.out
      have HAS := Lib.hid (all_step (l := xs.map Cm.ct) (k := k) (by rw [List.length_map]; exact hk) HI.out)
      rw [List.getElem_map] at HAS
      have HIDS : Hid (∀ j (hj : j < k), hasB (((xs.map Cm.ct).take j).map (·.id)) xs[k].id = false → ((xs[j]'(by omega)).id = xs[k].id → hasB (((xs.map Cm.ct).take k).map (·.id)) xs[k].id = true) ∧ ((xs[j]'(by omega)).id ≠ xs[k].id → hasB (((xs.map Cm.ct).take (j + 1)).map (·.id)) xs[k].id = false)) := Lib.hid fun j hj h => ids_step hj hk h
      have HCX : Hid (∀ W, Below wr.heap.size wr W → ∀ j, j ≤ k → ∃ y : T, (∀ hj : j < xs.length, y = xs[j].id) ∧ W.cell? ⟨b, o + j * 6, none⟩ = some (.string ⟨y.toArray⟩)) := Lib.hid fun W hW j hj => by
        have hj2 : j < xs.length := by omega
        obtain ⟨b2, o2, hP2, q0, _⟩ := inc_cells (inc_below (inc_below HP.out HW.out) hW) j hj2
        rw [hP] at hP2
        injection hP2 with hP2
        injection hP2 with e1 e2
        rw [e1, e2]
        exact ⟨xs[j].id, fun _ => rfl, q0⟩
      have HRC := Lib.hid (right_c xs[k] wr hgx)
      obtain ⟨x, hx⟩ : ∃ x, xs[k] = x := ⟨_, rfl⟩
      have HXE : Hid (∀ hj : k < xs.length, xs[k].id = x.id) := Lib.hid fun _ => by rw [hx]
      rw [hx] at d0 d1 d2 d3 d4 d5 hgx HAS HIDS HRC
      subst hP
      clear hx hgx
      obtain ⟨id, sec, pub, ⟨P3, C3, l3⟩, ⟨P4, C4, l4⟩, ⟨P5, C5, l5⟩⟩ := x
      replace d0 : wr.cell? ⟨b, o + k * 6, none⟩ = some (.string ⟨id.toArray⟩) := d0
      replace d1 : wr.cell? ⟨b, o + k * 6 + 1, none⟩ = some (.string ⟨sec.toArray⟩) := d1
      replace d2 : wr.cell? ⟨b, o + k * 6 + 2, none⟩ = some (.bool pub) := d2
      replace d3 : wr.cell? ⟨b, o + k * 6 + 3, none⟩ = some (.slice P3 l3.length C3) := d3
      replace d4 : wr.cell? ⟨b, o + k * 6 + 4, none⟩ = some (.slice P4 l4.length C4) := d4
      replace d5 : wr.cell? ⟨b, o + k * 6 + 5, none⟩ = some (.slice P5 l5.length C5) := d5
      replace HRC : Hid (Calls Tryz.prog 30 #[.agg #[.string ⟨id.toArray⟩, .string ⟨sec.toArray⟩, .bool pub, .slice P3 l3.length C3, .slice P4 l4.length C4, .slice P5 l5.length C5]] wr fun e w' => e = .returned (.bool (rightB ⟨id, sec, pub, l3, l4, l5⟩)) ∧ Below wr.heap.size wr w') := HRC
      replace HAS : Hid ((rightB ⟨id, sec, pub, l3, l4, l5⟩ = true → hasB (((xs.map Cm.ct).take k).map (·.id)) id = false → allTo (xs.map Cm.ct) (k + 1) = true) ∧ (rightB ⟨id, sec, pub, l3, l4, l5⟩ = false → allB (xs.map Cm.ct) = false) ∧ (hasB (((xs.map Cm.ct).take k).map (·.id)) id = true → allB (xs.map Cm.ct) = false)) := HAS
      dsimp only at HIDS HXE
      obtain ⟨rb, hrb⟩ : ∃ rb, rightB ⟨id, sec, pub, l3, l4, l5⟩ = rb := ⟨_, rfl⟩
      rw [hrb] at HRC HAS
      clear hrb
      cases rb with
      | false =>
        have HF := Lib.hid (HAS.out.2.1 rfl)
        clear HIDS HXE HCX hk
        go_wp2_with (go_at_call 30; (with_reducible refine HRC.out.mono ?_); rintro e w2 ⟨rfl, hb2⟩; have HB2 := Lib.hid (bnext HW.out hb2); clear hb2)
        go_ret
        exact ⟨ret_bool HF.out.symm, HB2.out⟩
      | true =>
        have HF1 := Lib.hid (HAS.out.1 rfl)
        have HF2 := Lib.hid HAS.out.2.2
        clear HAS
        go_wp2_with (go_at_call 30; (with_reducible refine HRC.out.mono ?_); rintro e w2 ⟨rfl, hb2⟩; have HB2 := Lib.hid (bnext HW.out hb2); have HBR := Lib.hid hb2; clear hb2)
        clear d0 d1 d2 d3 d4 d5
        obtain ⟨g0, hg0⟩ : ∃ g0, g0 = g := ⟨_, rfl⟩
        go_loopg [4] k (fun g4 s4 wx => ∃ j : Nat, j + g4 = k ∧ s4 = .int .i64 j ∧ Hid (hasB (((xs.map Cm.ct).take j).map (·.id)) id = false) ∧ ∃ nd, wx = w2.drewN nd)
        case atStart => exact ⟨0, by omega, rfl, Lib.hid (by simp [hasB]), 0, rfl⟩
        case round =>
          obtain ⟨j, hjg, rfl, HJ, nd, hwx⟩ := hrel
          have HWX := Lib.hid hwx
          clear hwx
          rcases gk with _ | g4
          · obtain rfl : j = k := by omega
            have HF := Lib.hid (HF1.out HJ.out)
            have HBZ : Hid (Below w.heap.size w wr) := Lib.hid (by rw [HWX.out]; exact below_drewN HB2.out nd)
            go_wp2_with fail
            subst hg0
            go_roundg g0
            case measure => omega
            case rel => exact ⟨j + 1, by omega, by go_num, HF, HBZ⟩
          · have hjk : j < k := by omega
            have hjI : (j : Int) < (k : Int) := by omega
            have hjn : (j : Int) < (n : Int) := by omega
            obtain ⟨y0, hy0, e0⟩ := HCX.out wr (by rw [HWX.out]; exact below_drewN HBR.out nd) j (by omega)
            obtain ⟨z0, hz0, e1⟩ := HCX.out wr (by rw [HWX.out]; exact below_drewN HBR.out nd) k (by omega)
            have hzi : z0 = id := (hz0 hk).trans (HXE.out hk)
            rw [hzi] at e1
            have HID := Lib.hid (HIDS.out j hjk HJ.out)
            rw [← hy0 (by omega)] at HID
            clear hy0 hz0 hzi
            by_cases he : y0 = id
            · have HF := Lib.hid (HF2.out (HID.out.1 he))
              have bq : (y0 == id) = true := by simpa using he
              have HBZ : Hid (Below w.heap.size w wr) := Lib.hid (by rw [HWX.out]; exact below_drewN HB2.out nd)
              clear he HID
              go_wp2_with fail
              go_quiet (fail)
              go_wp2_with fail
              go_ret
              exact ⟨ret_bool HF.out.symm, below_drewN HBZ.out nq⟩
            · have HF := Lib.hid (HID.out.2 he)
              have bq : (y0 == id) = false := by simpa using he
              clear he HID
              go_wp2_with fail
              go_quiet (fail)
              go_wp2_with fail
              go_roundg g4
              case measure => omega
              case rel => exact ⟨j + 1, by omega, by go_num, HF, nd + nq, by rw [HWX.out]; exact scp.drewN_add w2 nd nq⟩
end Go.Proofs.YtfeafhagnhbmiaaGreatDoor.rol
