/- ShaLongKeys: the walk of the law, by the laws' interface (rows within the reach). -/
import Derived.Test.YtohmhcglmaifpaaDoorShaApi
import Derived.Deep.RegionWith
import Derived.BigRegion
namespace Go.Proofs.YtohmhcglmaifpaaDoor.sha
open Go.RowKit
open Go.Proofs.YtohmhcglmaifpaaDoor.oct Go.Proofs.YtohmhcglmaifpaaDoor.ref Go.Proofs.YtohmhcglmaifpaaDoor.rows
open Go.Lib (byteCells)

theorem key64_digest {k : List UInt8} (h : k.length > 64) : key64 (digest k) = key64 k := by
  rw [key64_eq, key64_eq]
  unfold key0
  rw [if_pos h, if_neg (by rw [digest_len]; decide)]
theorem mac_long {k l : List UInt8} (h : k.length > 64) : mac (digest k) l = mac k l := by unfold mac; rw [key64_digest h]
theorem key64_zeros {k : List UInt8} (h : k.length ≤ 64) : key64 (k ++ List.replicate (64 - k.length) 0) = key64 k := by
  have hl : (k ++ List.replicate (64 - k.length) (0 : UInt8)).length = 64 := by simp; omega
  rw [key64_eq, key64_eq]
  unfold key0
  rw [if_neg (by omega), if_neg (by omega), hl]
  simp
theorem mac_short {k l : List UInt8} (h : k.length ≤ 64) : mac (k ++ List.replicate (64 - k.length) 0) l = mac k l := by unfold mac; rw [key64_zeros h]

theorem byteCells_rep (n : Nat) (c : UInt8) : byteCells (List.replicate n c) = List.replicate n (.int .u8 (c.toNat : Int)) := by simp [byteCells]
/-- one part, laid just now or before -/
theorem lay_old {w : World} {P : Option Addr} {ps : List Part} (h : InP w P ps) (o : Obj) : InP (w.alloc o) P ps := h.below ((Below.refl _ _).alloc (Nat.le_refl _) o)

theorem mac_n {T : World → Prop} {Has : World → Nat → List UInt8 → Prop} (X : Api T Has) (p : Option Addr) (cp N : Nat) (k : List UInt8) (P : Option Addr) (C : Nat) (q : Option Addr) (cq : Nat) (l : List UInt8) (A : Array Value) (w : World) (ht : T w)
    (hp : In8 w p k) (hN : k.length = N) (hk : N ≤ 140737488354000) (hpn : Rm p cp N) (hP : InP w P [⟨q, cq, l⟩]) (hl : l.length ≤ 140737488354000) (hA : (byteCells (mac k l)).toArray = A) :
    Calls Tryd.prog 15 #[.slice p N cp, .slice P 1 C] w fun e w' => e = .returned (.agg A) ∧ Below w.heap.size w w' := by
  subst hN hA
  have h := X.mac p cp k P C [⟨q, cq, l⟩] w ht hp hk hpn hP (by simp) (by rw [joined_one]; exact hl)
  rw [joined_one] at h
  exact h
theorem agg_eq (l : List UInt8) (w : World) (h : l.length = 32) : (binOp .eql 26 (.agg (byteCells l).toArray) (.agg (byteCells l).toArray)).run Tryd.prog w = .ok (.bool true) w := by
  have := digest_eq l l w h h
  unfold dval at this
  simpa using this

set_option maxHeartbeats 2000000 in
theorem law_long {T : World → Prop} {Has : World → Nat → List UInt8 → Prop} (X : Api T Has) (p : Option Addr) (cp : Nat) (k : List UInt8) (q : Option Addr) (cq : Nat) (l : List UInt8) (w : World)
    (hp : In8 w p k) (hk : k.length ≤ 140737488351232) (hpn : Rm p cp k.length) (hq : In8 w q l) (hl : l.length ≤ 140737488351232) (hqn : Rm q cq l.length) (ht : T w) :
    Calls Tryd.prog 8 #[.slice p k.length cp, .slice q l.length cq] w fun e w' => e = .returned (.bool true) ∧ Below w.heap.size w w' := by
  have HP := Lib.hid hp
  have HQ := Lib.hid hq
  have HT := Lib.hid ht
  have HX := Lib.hid X
  have hdl := digest_len k
  have hd1 := bytes_one (digest k)
  have hdi : Hid ((Tryd.prog.info? 26).map (·.size) = some (byteCells (digest k)).length) := by show _ = _; rw [byteCells_len, hdl]; exact infoDS
  have HDL : Hid ((digest k).length = 32) := hdl
  have HDL2 : Hid (32 = (byteCells (digest k)).length) := by show _ = _; rw [byteCells_len, hdl]
  clear hp hq ht X hdl
  by_cases hlong : k.length > 64
  · have hI : (k.length : Int) > 64 := by omega
    have HM : Hid (mac (digest k) l = mac k l) := mac_long hlong
    obtain ⟨D, hD⟩ : ∃ D, digest k = D := ⟨_, rfl⟩
    have HD := Lib.hid hD
    rw [hD] at hd1 hdi HDL HDL2 HM
    clear hD hlong
    go_enter Tryd.func8, Tryd.ntmps8
    go_wp2_with fail
    refine (HX.out.sum p cp k w HT.out HP.out (by omega) hpn).mono ?_
    rintro e w1 ⟨rfl, hb1⟩
    rw [HD.out]
    unfold dval
    go_wp2_with ((with_reducible refine wpList_store_new rfl 26 (.tmp 5) (.tmp 8) rfl (byteCells D) 26 _ rfl rfl hdi.out (Eq.trans (by decide) HDL2.out) hd1 ?_); intro w2 hS hSb hz; clear hz)
    have hb2 := bnext hb1 hSb
    have HF : Hid (∀ W, Below w2.heap.size w2 W → T W ∧ In8 W p k ∧ In8 W q l ∧ In8 W (some ⟨w1.heap.size, 0, none⟩) D) := fun W hb =>
      ⟨HX.out.tbelow _ _ HT.out (bnext hb2 hb), HP.out.below (bnext hb2 hb), HQ.out.below (bnext hb2 hb), in8_all (hS.below hb)⟩
    have HB2 := Lib.hid hb2
    have hd0 := (Below.refl w2.heap.size w2).drew
    clear hb1 hSb hb2 hS
    have hml : (mac k l).length = 32 := digest_len _
    have kEq := fun w => agg_eq (mac k l) w hml
    obtain ⟨A, hA⟩ : ∃ A, (byteCells (mac k l)).toArray = A := ⟨_, rfl⟩
    rw [hA] at kEq
    have HA := Lib.hid hA
    have HA2 : Hid ((byteCells (mac D l)).toArray = A) := by show _ = _; rw [HM.out, hA]
    clear hA hml
    go_region_with (first
      | (go_at_call 11; refine (known_c HX.out _ (HF.out _ hd0).1).mono ?_; rintro e wk ⟨rfl, hbk⟩; have hbk2 := bnext hd0 hbk)
      | (go_at_call_of 15 (Value.slice p k.length cp)
         refine (mac_n HX.out p cp k.length k _ 1 q cq l A _ (HF.out _ (by first | exact hbk2.alloc hbk2.size _ | exact (hbk2.alloc hbk2.size _).alloc (hbk2.alloc hbk2.size _).size _)).1 (HF.out _ (by first | exact hbk2.alloc hbk2.size _ | exact (hbk2.alloc hbk2.size _).alloc (hbk2.alloc hbk2.size _).size _)).2.1 rfl (by omega) hpn
           (by first | exact InP.one (HF.out _ hbk2).2.2.1 hqn | exact lay_old (InP.one (HF.out _ hbk2).2.2.1 hqn) _ | (have h := InP.one (HF.out _ (hbk2.alloc hbk2.size (.cells #[.slice q l.length cq] 22))).2.2.1 hqn; simpa using h)) (by omega) HA.out).mono ?_
         rintro e wm ⟨rfl, hbm⟩
         have hbm2 : Below w2.heap.size w2 wm := bnext (by first | exact hbk2.alloc hbk2.size _ | exact (hbk2.alloc hbk2.size _).alloc (hbk2.alloc hbk2.size _).size _) hbm)
      | (go_at_call_of 15 (Value.slice (some ⟨w1.heap.size, 0, none⟩) 32 32)
         refine (mac_n HX.out (some ⟨w1.heap.size, 0, none⟩) 32 32 D _ 1 q cq l A _ (HF.out _ (by first | exact hbm2 | exact hbm2.alloc hbm2.size _)).1 (HF.out _ (by first | exact hbm2 | exact hbm2.alloc hbm2.size _)).2.2.2 HDL.out (by decide) ⟨(fun h => by cases h), (by decide)⟩
           (by first | exact InP.one (HF.out _ hbm2).2.2.1 hqn | exact (lay_old (InP.one (HF.out _ hbk2).2.2.1 hqn) _).below hbm | (have h := InP.one (HF.out _ (hbk2.alloc hbk2.size (.cells #[.slice q l.length cq] 22))).2.2.1 hqn; exact (by simpa using h : InP ((wk.alloc (.cells #[.slice q l.length cq] 22)).alloc (.cells #[.slice q l.length cq] 22)) (some ⟨wk.heap.size + 1, 0, none⟩) [⟨q, cq, l⟩]).below hbm)) (by omega) HA2.out).mono ?_
         rintro e wn ⟨rfl, hbn⟩
         have hbn2 : Below w2.heap.size w2 wn := bnext (by first | exact hbm2 | exact hbm2.alloc hbm2.size _) hbn))
    all_goals go_wp2_with fail
    all_goals go_ret
    all_goals exact ⟨rfl, bnext HB2.out hbn2⟩
  · have hI : ¬ ((k.length : Int) > 64) := by omega
    have hk64 : k.length ≤ 64 := by omega
    have HM : Hid (mac (k ++ List.replicate (64 - k.length) 0) l = mac k l) := mac_short hk64
    obtain ⟨j0, hj, hy0, hy1, hy2⟩ := info_parts infoByte
    have HSZ : Hid ((Tryd.prog.info? 5).map (·.size) = some 1) := by show _ = _; rw [hj]; simp [hy1]
    have HL : Hid ((k ++ List.replicate (64 - k.length) (0 : UInt8)).length = 64) := by show _ = _; simp; omega
    have HSP : Hid (splice (byteCells (List.replicate 64 0)) 0 (byteCells k) = byteCells (k ++ List.replicate (64 - k.length) 0)) := by
      show _ = _
      unfold splice
      rw [List.take_zero, List.nil_append, Nat.zero_add, byteCells_len, byteCells_append]
      rw [byteCells_rep, byteCells_rep, List.drop_replicate]
    obtain ⟨K, hK⟩ : ∃ K, k ++ List.replicate (64 - k.length) (0 : UInt8) = K := ⟨_, rfl⟩
    rw [hK] at HM HL HSP
    obtain ⟨D, hD⟩ : ∃ D, digest k = D := ⟨_, rfl⟩
    have HD := Lib.hid hD
    rw [hD] at hd1 hdi HDL HDL2
    have hml : (mac k l).length = 32 := digest_len _
    have kEq := fun w => agg_eq (mac k l) w hml
    obtain ⟨A, hA⟩ : ∃ A, (byteCells (mac k l)).toArray = A := ⟨_, rfl⟩
    rw [hA] at kEq
    have HA := Lib.hid hA
    have HA2 : Hid ((byteCells (mac K l)).toArray = A) := by show _ = _; rw [HM.out, hA]
    clear hD hlong hK hA hml
    go_enter Tryd.func8, Tryd.ntmps8
    go_wp2_with fail
    refine (HX.out.sum p cp k w HT.out HP.out (by omega) hpn).mono ?_
    rintro e w1 ⟨rfl, hb1⟩
    rw [HD.out]
    unfold dval
    go_wp2_with (first
      | ((with_reducible refine wpList_store_new rfl 26 (.tmp 5) (.tmp 8) rfl (byteCells D) 26 _ rfl rfl hdi.out (Eq.trans (by decide) HDL2.out) hd1 ?_); intro w2 hS hSb hz; clear hz; have hb2 := bnext hb1 hSb; have hp2 := HP.out.below hb2)
      | (at_make; refine wpList_make_full _ rfl _ _ 22 rfl w2.heap.size 5 j0 (.int .u8 0) 1 Tryd.underlying22 hj hy0 hy1 .i64 .i64 _ _ 64 rfl rfl rfl rfl (by rw [hy2]; decide) (by decide) (Nat.le_refl _) ?_; intro w3 hown hgrow; rw [show (madeCells (Value.int .u8 0).cells (64 * 1)).toList = byteCells (List.replicate 64 0) from by kernel_rfl] at hown; have hbk : Blk w3 w2.heap.size 5 (byteCells (List.replicate 64 0)) := (own_whole hown (by simp)).elim (fun g h => by have e := h.1; simp only [Option.some.injEq, Addr.mk.injEq] at e; rw [e.1]; exact h.2.2); have hb3 := (Below.refl w2.heap.size w2).grown hgrow (Nat.le_refl _) (fun k hk => by cases hk); clear hown hgrow)
      | (refine wpList_copy_splice rfl (.tmp 25) (.tmp 26) 22 22 rfl 5 Tryd.underlying22 HSZ.out (some ⟨w2.heap.size, 0, none⟩) p 64 64 k.length cp rfl rfl w2.heap.size 0 _ 5 hbk (byteCells k) (by rw [byteCells_len]; exact (Nat.min_eq_left hk64).symm) (copy_src (hp2.below hb3)) (by rw [byteCells_len, byteCells_len, List.length_replicate]; omega) (byteCells_one k) w2.heap.size w2 hb3 (Nat.le_refl _) ?_; intro w4 hb4 hbl4))
    have hB4 := hb4.out
    rw [HSP.out] at hB4
    have h84 : In8 w4 (some ⟨w2.heap.size, 0, none⟩) K := in8_all (show Blk w4 w2.heap.size 5 (byteCells K) from hB4)
    have hbw4 := bnext hb2 hbl4
    clear hb4 hB4 hbl4 hbk hb1 hS hSb hp2 hb3
    refine (known_c HX.out w4 (HX.out.tbelow _ _ HT.out hbw4)).mono ?_
    rintro e w5 ⟨rfl, hb5⟩
    have hb5' := bnext hbw4 hb5
    have h85 := h84.below hb5
    have HF : Hid (∀ W, Below w5.heap.size w5 W → T W ∧ In8 W p k ∧ In8 W q l ∧ In8 W (some ⟨w2.heap.size, 0, none⟩) K) := fun W hb =>
      ⟨HX.out.tbelow _ _ HT.out (bnext hb5' hb), HP.out.below (bnext hb5' hb), HQ.out.below (bnext hb5' hb), h85.below hb⟩
    have HB5 := Lib.hid hb5'
    have hr5 := Below.refl w5.heap.size w5
    have ha5 := Lib.hid (hr5.alloc (Nat.le_refl _) (.cells #[.slice q l.length cq] 22))
    clear h84 hbw4 hb5 hb5' h85
    go_wp2_with fail
    refine (mac_n HX.out p cp k.length k _ 1 q cq l A _ (HF.out _ ha5.out).1 (HF.out _ ha5.out).2.1 rfl (by omega) hpn (InP.one (HF.out _ hr5).2.2.1 hqn) (by omega) HA.out).mono ?_
    rintro e w6 ⟨rfl, hb6⟩
    have hb6' := bnext ha5.out hb6
    have ha6 := Lib.hid (hb6'.alloc hb6'.size (.cells #[.slice q l.length cq] 22))
    go_wp2_with fail
    refine (mac_n HX.out (some ⟨w2.heap.size, 0, none⟩) 64 64 K _ 1 q cq l A _ (HF.out _ ha6.out).1 (HF.out _ ha6.out).2.2.2 HL.out (by decide) ⟨(fun h => by cases h), (by decide)⟩ (InP.one (HF.out _ hb6').2.2.1 hqn) (by omega) HA2.out).mono ?_
    rintro e w7 ⟨rfl, hb7⟩
    have hb7' := Lib.hid (bnext HB5.out (bnext ha6.out hb7))
    clear hb6 hb6' hb7
    go_wp2_with fail
    go_ret
    exact ⟨rfl, hb7'.out⟩
end Go.Proofs.YtohmhcglmaifpaaDoor.sha
