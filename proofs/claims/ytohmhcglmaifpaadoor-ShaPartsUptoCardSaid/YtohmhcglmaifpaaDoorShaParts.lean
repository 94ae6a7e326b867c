/- ShaParts: the walk of the law, by the interfaces (parts of up to 1048576 bytes together, up to as many parts). -/
import Derived.Test.YtohmhcglmaifpaaDoorShaHash
namespace Go.Proofs.YtohmhcglmaifpaaDoor.sha
open Go.RowKit
open Go.Proofs.YtohmhcglmaifpaaDoor.oct Go.Proofs.YtohmhcglmaifpaaDoor.ref Go.Proofs.YtohmhcglmaifpaaDoor.rows
open Go.Lib (byteCells)

theorem InP.take {w : World} {P : Option Addr} {ps : List Part} (h : InP w P ps) (n : Nat) : InP w P (ps.take n) := by
  refine ⟨fun hl => ?_, fun x hx => h.2 x (List.mem_of_mem_take hx)⟩
  rw [List.length_take] at hl
  obtain ⟨b, o, hP, hc⟩ := h.1 (by omega)
  refine ⟨b, o, hP, fun i hi => ?_⟩
  rw [List.length_take] at hi
  rw [hc i (by omega)]
  simp
theorem joinN_c (P : Option Addr) (C N : Nat) (ps : List Part) (w : World) (hN : ps.length = N) (hp : InP w P ps) (hn : N ≤ 200) (hl : (joined ps).length ≤ 140737488355328) :
    Calls Tryd.prog 17 #[.slice P N C] w fun e w' => ∃ v, e = .returned v ∧ w'.ownsRow w.heap.size 5 1 v (joined ps).length (byteCells (joined ps)) ∧ Below w.heap.size w w' := by
  subst hN; exact join_c P C ps w hp (by omega) hl
theorem allN {T : World → Prop} {Has : World → Nat → List UInt8 → Prop} (X : Api T Has) (P : Option Addr) (C N : Nat) (ps : List Part) (J : List UInt8) (A : Array Value) (w : World) (ht : T w) (hN : ps.length = N) (hp : InP w P ps) (hn : N ≤ 200) (hJ : joined ps = J) (hl : J.length ≤ 140737488354000) (hA : dval (digest J) = .agg A) :
    Calls Tryd.prog 22 #[.slice P N C] w fun e w' => e = .returned (.agg A) ∧ Below w.heap.size w w' := by
  subst hN hJ; rw [← hA]; exact X.all P C ps w ht hp hn hl
theorem macN {T : World → Prop} {Has : World → Nat → List UInt8 → Prop} (X : Api T Has) (p : Option Addr) (cp : Nat) (k : List UInt8) (P : Option Addr) (C N : Nat) (ps : List Part) (J : List UInt8) (A : Array Value) (w : World) (ht : T w) (hk8 : In8 w p k) (hk : k.length ≤ 140737488354000) (hpn : Rm p cp k.length)
    (hN : ps.length = N) (hp : InP w P ps) (hn : N ≤ 200) (hJ : joined ps = J) (hl : J.length ≤ 140737488354000) (hA : dval (mac k J) = .agg A) :
    Calls Tryd.prog 15 #[.slice p k.length cp, .slice P N C] w fun e w' => e = .returned (.agg A) ∧ Below w.heap.size w w' := by
  subst hN hJ; rw [← hA]; exact X.mac p cp k P C ps w ht hk8 hk hpn hp hn hl

set_option maxHeartbeats 2000000 in
theorem law_parts {T : World → Prop} {Has : World → Nat → List UInt8 → Prop} (X : Api T Has) (Y : Hashes T Has) (P : Option Addr) (C : Nat) (ps : List Part) (p : Option Addr) (cp : Nat) (k : List UInt8) (w : World)
    (hP : InP w P ps) (hPC : ps.length ≤ C) (hn : ps.length ≤ 1048576) (hl : (joined ps).length ≤ 1048576) (hp : In8 w p k) (hk : k.length ≤ 1048576) (hpn : Rm p cp k.length) (ht : T w) :
    Calls Tryd.prog 5 #[.slice P ps.length C, .slice p k.length cp] w fun e w' => e = .returned (.bool true) ∧ Below w.heap.size w w' := by
  have HK := Lib.hid hp
  have HT := Lib.hid ht
  have HX := Lib.hid X
  have HY := Lib.hid Y
  clear hp ht X Y
  by_cases hbig : ps.length > 200
  · have hI : (ps.length : Int) > 200 := by omega
    have hC : (200 : Int) ≤ (C : Int) := by omega
    have hQ := hP.take 200
    have hQl : (ps.take 200).length = 200 := by rw [List.length_take]; omega
    have hJl : (joined (ps.take 200)).length ≤ 1048576 := Nat.le_trans (joined_take_le ps 200) hl
    obtain ⟨qs, hqs⟩ : ∃ qs, ps.take 200 = qs := ⟨_, rfl⟩
    rw [hqs] at hQ hQl hJl
    have HQ := Lib.hid hQ
    have HQL := Lib.hid hQl
    clear hP hbig hQ hQl hqs
    obtain ⟨J, hJ⟩ : ∃ J, joined qs = J := ⟨_, rfl⟩
    rw [hJ] at hJl
    have HJ := Lib.hid hJ
    have kE1 := fun w => agg_eq (digest J) w (digest_len _)
    have kE2 := fun w => agg_eq (mac k J) w (digest_len _)
    obtain ⟨A, hA⟩ : ∃ A, (byteCells (digest J)).toArray = A := ⟨_, rfl⟩
    obtain ⟨B, hB⟩ : ∃ B, (byteCells (mac k J)).toArray = B := ⟨_, rfl⟩
    rw [hA] at kE1
    rw [hB] at kE2
    have HA : Hid (dval (digest J) = .agg A) := by show _ = _; unfold dval; rw [hA]
    have HB : Hid (dval (mac k J) = .agg B) := by show _ = _; unfold dval; rw [hB]
    have HB2 : Hid ((byteCells (mac k J)).toArray = B) := hB
    clear hA hB hJ
    go_enter Tryd.func5, Tryd.ntmps5
    go_wp2_with fail
    refine (joinN_c P C 200 qs w HQL.out HQ.out (by omega) (by rw [HJ.out]; omega)).mono ?_
    rintro e w1 ⟨v1, rfl, hown, hb1⟩
    rw [HJ.out] at hown
    obtain ⟨hjn, pJ, cJ, rfl, h8J⟩ := own_in8 hown
    have hJn := own_rm hown
    have hJb : J.length ≤ 1048576 := hJl
    clear hown hjn
    go_wp2_with fail
    refine (HY.out.new w1 (HX.out.tbelow _ _ HT.out hb1)).mono ?_
    rintro e w2 ⟨g, rfl, hg, h2, hb2⟩
    have HG := Lib.hid hg
    have HB1 := Lib.hid hb1
    have H8J := Lib.hid h8J
    clear hg hb1 h8J
    go_wp2_with fail
    go_loopg [7, 8] 200 (fun gk s7 s8 wy => ∃ i : Nat, i + gk = 200 ∧ s8 = .int .i64 i ∧ s7 = .int .i64 ((joined (qs.take i)).length : Nat) ∧ Has wy g (joined (qs.take i)) ∧ Below w1.heap.size w1 wy)
    case atStart => exact ⟨0, by omega, rfl, rfl, h2, hb2⟩
    case round =>
      clear h2 hb2
      obtain ⟨i, hig, rfl, rfl, hh, hbx⟩ := hrel
      rcases gk with _ | gk
      · have hiN : i = 200 := by omega
        rw [hiN] at hh ⊢
        clear hiN hig
        rw [show qs.take 200 = qs from List.take_of_length_le (by rw [HQL.out]; exact Nat.le_refl _), HJ.out] at hh ⊢
        go_wp2_with fail
        refine (known_c HX.out wr (HX.out.tbelow _ _ HT.out (bnext HB1.out hbx))).mono ?_
        rintro e w3 ⟨rfl, hb3⟩
        have hh3 := below_keep HX.out hh hb3
        have hbx3 := bnext hbx hb3
        clear hh hbx hb3
        go_wp2_with fail
        refine (HY.out.told g J w3 (HX.out.tbelow _ _ HT.out (bnext HB1.out hbx3)) hh3 (by omega)).mono ?_
        rintro e w4 ⟨rfl, hb4⟩
        rw [HA.out]
        have hbx4 := bnext hbx3 hb4
        clear hbx3 hb4 hh3
        go_wp2_with fail
        refine (HX.out.sum pJ cJ J w4 (HX.out.tbelow _ _ HT.out (bnext HB1.out hbx4)) (H8J.out.below hbx4) (by omega) hJn).mono ?_
        rintro e w5 ⟨rfl, hb5⟩
        rw [HA.out]
        have hbx5 := bnext hbx4 hb5
        clear hbx4 hb5
        go_wp2_with fail
        refine (allN HX.out P C 200 qs J A w5 (HX.out.tbelow _ _ HT.out (bnext HB1.out hbx5)) HQL.out (HQ.out.below (bnext HB1.out hbx5)) (by omega) HJ.out (by omega) HA.out).mono ?_
        rintro e w6 ⟨rfl, hb6⟩
        have hbx6 := bnext hbx5 hb6
        clear hbx5 hb6
        go_wp2_with fail
        refine (HX.out.sum pJ cJ J w6 (HX.out.tbelow _ _ HT.out (bnext HB1.out hbx6)) (H8J.out.below hbx6) (by omega) hJn).mono ?_
        rintro e w7 ⟨rfl, hb7⟩
        rw [HA.out]
        have hbx7 := bnext hbx6 hb7
        clear hbx6 hb7
        go_wp2_with fail
        refine (macN HX.out p cp k P C 200 qs J B w7 (HX.out.tbelow _ _ HT.out (bnext HB1.out hbx7)) (HK.out.below (bnext HB1.out hbx7)) (by omega) hpn HQL.out (HQ.out.below (bnext HB1.out hbx7)) (by omega) HJ.out (by omega) HB.out).mono ?_
        rintro e w8 ⟨rfl, hb8⟩
        have hbx8 := bnext hbx7 hb8
        have ha8 := Lib.hid (hbx8.alloc hbx8.size (.cells #[.slice pJ J.length cJ] 22))
        have hP8 := Lib.hid (InP.one (H8J.out.below hbx8) hJn)
        clear hbx7 hb8 hbx8
        go_wp2_with fail
        refine (mac_n HX.out p cp k.length k _ 1 pJ cJ J B _ (HX.out.tbelow _ _ HT.out (bnext HB1.out ha8.out)) (HK.out.below (bnext HB1.out ha8.out)) rfl (by omega) hpn hP8.out (by omega) HB2.out).mono ?_
        rintro e w9 ⟨rfl, hb9⟩
        have hbx9 := Lib.hid (bnext HB1.out (bnext ha8.out hb9))
        clear hb9
        go_wp2_with fail
        go_ret
        exact ⟨rfl, hbx9.out⟩
      · have hi : i < qs.length := by rw [HQL.out]; omega
        have hiI : (i : Int) < (200 : Int) := by omega
        have hq := HQ.out.below (bnext HB1.out hbx)
        obtain ⟨b, o, rfl, hc⟩ := hq.1 (by omega)
        have c1 := hc i hi
        obtain ⟨_, _, he, hcw⟩ := (HQ.out.below HB1.out).1 (by omega)
        cases he
        have hc1 := hcw i hi
        clear hcw
        have hx := hq.2 _ (List.getElem_mem hi)
        have hx0 := HQ.out.2 _ (List.getElem_mem hi)
        have hle := joined_take_le qs (i + 1)
        have hj := joined_take hi
        rw [hj, List.length_append, HJ.out] at hle
        have HJ1 := Lib.hid hj
        obtain ⟨x, hxe⟩ : ∃ x, qs[i] = x := ⟨_, rfl⟩
        rw [hxe] at c1 hc1 hx hx0 hle HJ1
        obtain ⟨q, cq, l⟩ := x
        simp only [Part.val] at c1 hc1
        simp only at hle
        have hx1 : In8 wr q l := hx.1
        have hx2 : Rm q cq l.length := hx.2
        have hx3 : In8 w1 q l := In8.below hx0.1 HB1.out
        obtain ⟨L, hL⟩ : ∃ L, joined (qs.take i) = L := ⟨_, rfl⟩
        rw [hL] at hh hle HJ1 ⊢
        have HX3 := Lib.hid hx3
        have HC1 : Hid (w1.cell? ⟨b, o + i, none⟩ = some (.slice q l.length cq)) := hc1
        have HCL : Hid (b < w1.heap.size) := cell_lt hc1
        clear hc1 hq hc hxe hx hx0 hj hL hx3
        go_wp2_with fail
        refine (HY.out.write g L q cq l wr (HX.out.tbelow _ _ HT.out (bnext HB1.out hbx)) hh hx1 (fun hl0 => in8_block HX3.out HG.out hl0) hx2 (by omega)).mono ?_
        rintro e w3 ⟨⟨v3, rfl⟩, hh3, hg3⟩
        have hbx3 := grown_below hbx hg3 HG.out hbx.size
        have c3 := (hbx3.cell (p := ⟨b, o + i, none⟩) HCL.out).trans HC1.out
        have hh3' := Lib.hid hh3
        clear hh hx1 hg3 hbx c1
        go_wp2_with fail
        refine (HY.out.len g (L ++ l) w3 (HX.out.tbelow _ _ HT.out (bnext HB1.out hbx3)) hh3'.out (by rw [List.length_append]; omega)).mono ?_
        rintro e w4 ⟨rfl, hb4⟩
        have hbx4 := bnext hbx3 hb4
        have hh4 := below_keep HX.out hh3'.out hb4
        rw [← HJ1.out] at hh4
        have HL2 : Hid ((joined (qs.take (i + 1))).length = L.length + l.length) := by show _ = _; rw [HJ1.out, List.length_append]
        rw [show ((L ++ l).length : Int) = (L.length : Int) + (l.length : Int) from by rw [List.length_append]; simp]
        have hbn : (((L.length : Int) + (l.length : Int)) != ((L.length : Int) + (l.length : Int))) = false := by simp
        clear hbx3 hb4 hh3 c3
        go_wp2_with fail
        go_roundg gk
        case measure => omega
        case rel => exact ⟨i + 1, by omega, by go_num, by rw [HL2.out]; go_num, hh4, hbx4⟩
  · have HQ := Lib.hid hP
    obtain ⟨qs, hqs⟩ : ∃ qs, ps = qs := ⟨_, rfl⟩
    rw [hqs] at HQ hl hn hPC hbig ⊢
    obtain ⟨N, hN⟩ : ∃ N, qs.length = N := ⟨_, rfl⟩
    have hJl := hl
    rw [hN] at hbig ⊢
    have HQL : Hid (qs.length = N) := hN
    have hI : ¬ ((N : Int) > 200) := by omega
    have hNb : N ≤ 200 := by omega
    clear hP hqs hN hl hn hPC hbig
    obtain ⟨J, hJ⟩ : ∃ J, joined qs = J := ⟨_, rfl⟩
    rw [hJ] at hJl
    have HJ := Lib.hid hJ
    have kE1 := fun w => agg_eq (digest J) w (digest_len _)
    have kE2 := fun w => agg_eq (mac k J) w (digest_len _)
    obtain ⟨A, hA⟩ : ∃ A, (byteCells (digest J)).toArray = A := ⟨_, rfl⟩
    obtain ⟨B, hB⟩ : ∃ B, (byteCells (mac k J)).toArray = B := ⟨_, rfl⟩
    rw [hA] at kE1
    rw [hB] at kE2
    have HA : Hid (dval (digest J) = .agg A) := by show _ = _; unfold dval; rw [hA]
    have HB : Hid (dval (mac k J) = .agg B) := by show _ = _; unfold dval; rw [hB]
    have HB2 : Hid ((byteCells (mac k J)).toArray = B) := hB
    clear hA hB hJ
    go_enter Tryd.func5, Tryd.ntmps5
    go_wp2_with fail
    refine (joinN_c P C N qs w HQL.out HQ.out (by omega) (by rw [HJ.out]; omega)).mono ?_
    rintro e w1 ⟨v1, rfl, hown, hb1⟩
    rw [HJ.out] at hown
    obtain ⟨hjn, pJ, cJ, rfl, h8J⟩ := own_in8 hown
    have hJn := own_rm hown
    have hJb : J.length ≤ 1048576 := hJl
    clear hown hjn
    go_wp2_with fail
    refine (HY.out.new w1 (HX.out.tbelow _ _ HT.out hb1)).mono ?_
    rintro e w2 ⟨g, rfl, hg, h2, hb2⟩
    have HG := Lib.hid hg
    have HB1 := Lib.hid hb1
    have H8J := Lib.hid h8J
    clear hg hb1 h8J
    go_wp2_with fail
    go_loopg [7, 8] N (fun gk s7 s8 wy => ∃ i : Nat, i + gk = N ∧ s8 = .int .i64 i ∧ s7 = .int .i64 ((joined (qs.take i)).length : Nat) ∧ Has wy g (joined (qs.take i)) ∧ Below w1.heap.size w1 wy)
    case atStart => exact ⟨0, by omega, rfl, rfl, h2, hb2⟩
    case round =>
      clear h2 hb2
      obtain ⟨i, hig, rfl, rfl, hh, hbx⟩ := hrel
      rcases gk with _ | gk
      · have hiN : i = N := by omega
        rw [hiN] at hh ⊢
        clear hiN hig
        rw [show qs.take N = qs from List.take_of_length_le (by rw [HQL.out]; exact Nat.le_refl _), HJ.out] at hh ⊢
        go_wp2_with fail
        refine (known_c HX.out wr (HX.out.tbelow _ _ HT.out (bnext HB1.out hbx))).mono ?_
        rintro e w3 ⟨rfl, hb3⟩
        have hh3 := below_keep HX.out hh hb3
        have hbx3 := bnext hbx hb3
        clear hh hbx hb3
        go_wp2_with fail
        refine (HY.out.told g J w3 (HX.out.tbelow _ _ HT.out (bnext HB1.out hbx3)) hh3 (by omega)).mono ?_
        rintro e w4 ⟨rfl, hb4⟩
        rw [HA.out]
        have hbx4 := bnext hbx3 hb4
        clear hbx3 hb4 hh3
        go_wp2_with fail
        refine (HX.out.sum pJ cJ J w4 (HX.out.tbelow _ _ HT.out (bnext HB1.out hbx4)) (H8J.out.below hbx4) (by omega) hJn).mono ?_
        rintro e w5 ⟨rfl, hb5⟩
        rw [HA.out]
        have hbx5 := bnext hbx4 hb5
        clear hbx4 hb5
        go_wp2_with fail
        refine (allN HX.out P C N qs J A w5 (HX.out.tbelow _ _ HT.out (bnext HB1.out hbx5)) HQL.out (HQ.out.below (bnext HB1.out hbx5)) (by omega) HJ.out (by omega) HA.out).mono ?_
        rintro e w6 ⟨rfl, hb6⟩
        have hbx6 := bnext hbx5 hb6
        clear hbx5 hb6
        go_wp2_with fail
        refine (HX.out.sum pJ cJ J w6 (HX.out.tbelow _ _ HT.out (bnext HB1.out hbx6)) (H8J.out.below hbx6) (by omega) hJn).mono ?_
        rintro e w7 ⟨rfl, hb7⟩
        rw [HA.out]
        have hbx7 := bnext hbx6 hb7
        clear hbx6 hb7
        go_wp2_with fail
        refine (macN HX.out p cp k P C N qs J B w7 (HX.out.tbelow _ _ HT.out (bnext HB1.out hbx7)) (HK.out.below (bnext HB1.out hbx7)) (by omega) hpn HQL.out (HQ.out.below (bnext HB1.out hbx7)) (by omega) HJ.out (by omega) HB.out).mono ?_
        rintro e w8 ⟨rfl, hb8⟩
        have hbx8 := bnext hbx7 hb8
        have ha8 := Lib.hid (hbx8.alloc hbx8.size (.cells #[.slice pJ J.length cJ] 22))
        have hP8 := Lib.hid (InP.one (H8J.out.below hbx8) hJn)
        clear hbx7 hb8 hbx8
        go_wp2_with fail
        refine (mac_n HX.out p cp k.length k _ 1 pJ cJ J B _ (HX.out.tbelow _ _ HT.out (bnext HB1.out ha8.out)) (HK.out.below (bnext HB1.out ha8.out)) rfl (by omega) hpn hP8.out (by omega) HB2.out).mono ?_
        rintro e w9 ⟨rfl, hb9⟩
        have hbx9 := Lib.hid (bnext HB1.out (bnext ha8.out hb9))
        clear hb9
        go_wp2_with fail
        go_ret
        exact ⟨rfl, hbx9.out⟩
      · have hi : i < qs.length := by rw [HQL.out]; omega
        have hiI : (i : Int) < (N : Int) := by omega
        have hq := HQ.out.below (bnext HB1.out hbx)
        obtain ⟨b, o, rfl, hc⟩ := hq.1 (by omega)
        have c1 := hc i hi
        obtain ⟨_, _, he, hcw⟩ := (HQ.out.below HB1.out).1 (by omega)
        cases he
        have hc1 := hcw i hi
        clear hcw
        have hx := hq.2 _ (List.getElem_mem hi)
        have hx0 := HQ.out.2 _ (List.getElem_mem hi)
        have hle := joined_take_le qs (i + 1)
        have hj := joined_take hi
        rw [hj, List.length_append, HJ.out] at hle
        have HJ1 := Lib.hid hj
        obtain ⟨x, hxe⟩ : ∃ x, qs[i] = x := ⟨_, rfl⟩
        rw [hxe] at c1 hc1 hx hx0 hle HJ1
        obtain ⟨q, cq, l⟩ := x
        simp only [Part.val] at c1 hc1
        simp only at hle
        have hx1 : In8 wr q l := hx.1
        have hx2 : Rm q cq l.length := hx.2
        have hx3 : In8 w1 q l := In8.below hx0.1 HB1.out
        obtain ⟨L, hL⟩ : ∃ L, joined (qs.take i) = L := ⟨_, rfl⟩
        rw [hL] at hh hle HJ1 ⊢
        have HX3 := Lib.hid hx3
        have HC1 : Hid (w1.cell? ⟨b, o + i, none⟩ = some (.slice q l.length cq)) := hc1
        have HCL : Hid (b < w1.heap.size) := cell_lt hc1
        clear hc1 hq hc hxe hx hx0 hj hL hx3
        go_wp2_with fail
        refine (HY.out.write g L q cq l wr (HX.out.tbelow _ _ HT.out (bnext HB1.out hbx)) hh hx1 (fun hl0 => in8_block HX3.out HG.out hl0) hx2 (by omega)).mono ?_
        rintro e w3 ⟨⟨v3, rfl⟩, hh3, hg3⟩
        have hbx3 := grown_below hbx hg3 HG.out hbx.size
        have c3 := (hbx3.cell (p := ⟨b, o + i, none⟩) HCL.out).trans HC1.out
        have hh3' := Lib.hid hh3
        clear hh hx1 hg3 hbx c1
        go_wp2_with fail
        refine (HY.out.len g (L ++ l) w3 (HX.out.tbelow _ _ HT.out (bnext HB1.out hbx3)) hh3'.out (by rw [List.length_append]; omega)).mono ?_
        rintro e w4 ⟨rfl, hb4⟩
        have hbx4 := bnext hbx3 hb4
        have hh4 := below_keep HX.out hh3'.out hb4
        rw [← HJ1.out] at hh4
        have HL2 : Hid ((joined (qs.take (i + 1))).length = L.length + l.length) := by show _ = _; rw [HJ1.out, List.length_append]
        rw [show ((L ++ l).length : Int) = (L.length : Int) + (l.length : Int) from by rw [List.length_append]; simp]
        have hbn : (((L.length : Int) + (l.length : Int)) != ((L.length : Int) + (l.length : Int))) = false := by simp
        clear hbx3 hb4 hh3 c3
        go_wp2_with fail
        go_roundg gk
        case measure => omega
        case rel => exact ⟨i + 1, by omega, by go_num, by rw [HL2.out]; go_num, hh4, hbx4⟩
end Go.Proofs.YtohmhcglmaifpaaDoor.sha
