/- The contract of the reference's Digits. Every int. -/
import Derived.Test.YtjadginnaogjoaaGreatDoorJsn3
import Derived.Test.YtjadginnaogjoaaGreatDoorBaseA
namespace Go.Proofs.YtjadginnaogjoaaGreatDoor.jsn
open Go.RowKit
open Go.Proofs.YtjadginnaogjoaaGreatDoor.oct Go.Proofs.YtjadginnaogjoaaGreatDoor.ref Go.Proofs.YtjadginnaogjoaaGreatDoor.rows
open Go.Lib (byteCells)

theorem own_blk {w : World} {B e n : Nat} {v : Value} {xs : List Value} (h : w.ownsRow B e 1 v n xs) (hn : 0 < n) : ∃ g cap Y, v = .slice (some ⟨g, 0, none⟩) n cap ∧ B ≤ g ∧ Blk w g e (xs ++ Y) ∧ (xs ++ Y).length = cap ∧ cap ≤ maxLen := by
  rcases h.2 with ⟨rfl, rfl⟩ | ⟨g, cap, cur, rfl, hB, hg, hnc, hcm, hs, ht⟩
  · omega
  · refine ⟨g, cap, cur.toList.drop (n * 1), rfl, hB, ?_, ?_, hcm⟩
    · rw [← ht, List.take_append_drop]
      show w.heap[g]? = _
      rw [hg]
    · rw [← ht, List.take_append_drop, Array.length_toList]
      omega
theorem blk_own {w : World} {B e g : Nat} {xs Y : List Value} (hB : B ≤ g) (h : Blk w g e (xs ++ Y)) (hl : (xs ++ Y).length ≤ maxLen) : w.ownsRow B e 1 (.slice (some ⟨g, 0, none⟩) xs.length (xs ++ Y).length) xs.length xs :=
  ⟨by omega, Or.inr ⟨g, _, _, rfl, hB, h, by simp, hl, by simp, by simp⟩⟩
/-- the first and the last i cells exchanged -/
def rv (R : List UInt8) (i : Nat) : Nat → UInt8 := fun j => if j < i ∨ R.length - i ≤ j then R.getD (R.length - 1 - j) 0 else R.getD j 0
theorem brow_self (R : List UInt8) : brow R.length (rv R 0) = R := by
  apply List.ext_getElem
  · simp [brow]
  · intro i h1 h2
    have h3 : ¬ (i < 0 ∨ R.length - 0 ≤ i) := by omega
    simp only [brow, List.getElem_map, List.getElem_range, rv]
    rw [if_neg h3]
    simp [List.getD, h2]
theorem brow_rev (R : List UInt8) : brow R.length (rv R (R.length / 2)) = R.reverse := by
  apply List.ext_getElem
  · simp [brow]
  · intro i h1 h2
    rw [List.length_reverse] at h2
    rw [List.getElem_reverse]
    simp only [brow, List.getElem_map, List.getElem_range, rv]
    have h4 : R.length - 1 - i < R.length := by omega
    by_cases h3 : i < R.length / 2 ∨ R.length - R.length / 2 ≤ i
    · rw [if_pos h3]
      simp [List.getD, h4]
    · rw [if_neg h3]
      have e : R.length - 1 - i = i := by omega
      simp [List.getD, h2, e]
theorem rv_step (R : List UInt8) (i : Nat) (hi : i < R.length / 2) : brow R.length (updB (updB (rv R i) i (rv R i (R.length - 1 - i))) (R.length - 1 - i) (rv R i i)) = brow R.length (rv R (i + 1)) := by
  refine brow_eq fun j hj => ?_
  have n1 : ¬ (R.length - 1 - i < i ∨ R.length - i ≤ R.length - 1 - i) := by omega
  have n2 : ¬ (i < i ∨ R.length - i ≤ i) := by omega
  have a1 : rv R i (R.length - 1 - i) = R.getD (R.length - 1 - i) 0 := by unfold rv; rw [if_neg n1]
  have a2 : rv R i i = R.getD i 0 := by unfold rv; rw [if_neg n2]
  by_cases h1 : j = R.length - 1 - i
  · rw [h1, updB_at, a2]
    unfold rv
    rw [if_pos (Or.inr (by omega)), show R.length - 1 - (R.length - 1 - i) = i by omega]
  · rw [updB_ne h1]
    by_cases h2 : j = i
    · rw [h2, updB_at, a1]
      unfold rv
      rw [if_pos (Or.inl (by omega))]
    · rw [updB_ne h2]
      unfold rv
      by_cases h3 : j < i ∨ R.length - i ≤ j
      · rw [if_pos h3, if_pos (by omega)]
      · rw [if_neg h3, if_neg (by omega)]
theorem digit_byte (d : Nat) (h : d < 10) : ((UInt8.ofNat (48 + d)).toNat : Int) = 48 + (d : Int) := by
  rw [UInt8.toNat_ofNat', Nat.mod_eq_of_lt (by omega)]; omega
set_option maxRecDepth 8000 in
set_option maxHeartbeats 4000000 in
theorem digits_c (n : Int) (w : World) (h1 : -9223372036854775808 ≤ n) (h2 : n ≤ 9223372036854775807) :
    Calls Tryz.prog 46 #[.int .i64 n] w fun e w' => e = .returned (.string ⟨(intD n).toArray⟩) ∧ Below w.heap.size w w' := by
  obtain ⟨U, hU⟩ : ∃ U, n.natAbs = U := ⟨_, rfl⟩
  have hlen : (natD U).length ≤ 20 := natD_len 19 U (by omega)
  have HI : Hid (intD n = if n < 0 then 45 :: natD U else natD U) := by show _ = _; unfold intD; rw [hU]
  have hUb : U ≤ 9223372036854775808 := by omega
  by_cases hn : n < 0
  · have HI2 : Hid (intD n = 45 :: natD U) := by show _ = _; rw [HI.out, if_pos hn]
    have hcv : IntKind.u64.wrap n = n + 18446744073709551616 := by rw [IntKind.wrap_u64]; omega
    have hcz : IntKind.u64.wrap (-(n + 18446744073709551616)) = (U : Int) := by rw [IntKind.wrap_u64]; omega
    clear HI hU
    go_enter Tryz.func46, Tryz.ntmps46
    go_wp2_with fail
    clear hcv hcz
    go_loopg [3, 4] U (fun g s3 s4 wx => ∃ acc : List UInt8, s4 = .int .u64 g ∧ g ≤ U ∧ Hid (natD U = natD g ++ acc.reverse) ∧ (acc = [] ∨ 10 ≤ g) ∧ wx.ownsRow w.heap.size 5 1 s3 acc.length (byteCells acc) ∧ Below w.heap.size w wx)
    case atStart => exact ⟨[], rfl, Nat.le_refl _, by show _ = _; simp, Or.inl rfl, World.ownsRow_nil _ _ _ _, Below.refl _ _⟩
    case round =>
      obtain ⟨acc, rfl, hgU, HD, hor, hrow, hbx⟩ := hrel
      have hacc : acc.length ≤ 20 := by
        have := congrArg List.length HD.out
        rw [List.length_append, List.length_reverse] at this
        omega
      obtain ⟨p, c0, rfl⟩ := own_val hrow
      obtain ⟨d, hd⟩ : ∃ d, UInt8.ofNat (48 + gk % 10) = d := ⟨_, rfl⟩
      have HCD : Hid (#[Value.int .u8 (48 + (gk : Int) % 10)] = (byteCells [d]).toArray) := by
        show #[Value.int .u8 (48 + (gk : Int) % 10)] = #[Value.int .u8 (d.toNat : Int)]
        rw [← hd, digit_byte _ (by omega)]
        rfl
      by_cases h10 : 10 ≤ gk
      · have i9 : (gk : Int) > 9 := by omega
        have HD2 : Hid (natD U = natD (gk / 10) ++ (acc ++ [d]).reverse) := by
          show _ = _
          rw [HD.out, natD_big (by omega), hd]
          simp
        clear HD hor
        by_cases hlast : gk / 10 < 10
        · have j1 : (gk : Int) / 10 < 10 := by omega
          have j2 : (gk : Int) / 10 > 0 := by omega
          obtain ⟨d2, hd2⟩ : ∃ d2, UInt8.ofNat (48 + gk / 10) = d2 := ⟨_, rfl⟩
          have HCD2 : Hid (#[Value.int .u8 (48 + (gk : Int) / 10)] = (byteCells [d2]).toArray) := by
            show #[Value.int .u8 (48 + (gk : Int) / 10)] = #[Value.int .u8 (d2.toNat : Int)]
            rw [← hd2, digit_byte _ (by omega)]
            rfl
          have HF : Hid (intD n = (acc ++ [d] ++ [d2] ++ [45]).reverse) := by
            show _ = _
            rw [HI2.out, HD2.out, natD_small hlast, hd2]
            simp
          clear HD2 hd hd2 hlast
          go_wp2_with (first
            | (at_builtin; (refine wpList_append_one rfl (.tmp 21) (.tmp 26) rfl w.heap.size _ acc.length acc rfl hrow d _ HCD.out rfl (by omega) hbx.size ?_); intro g7 c7 w7 hn7 hg7 ho7 hl7; have hb7 := hbx.grown hg7 hbx.size (fun x hx => (hrow.lt _ hx).1); clear hg7 ho7)
            | (at_builtin; (refine wpList_append_one rfl (.tmp 34) (.tmp 38) rfl w.heap.size _ (acc.length + 1) (acc ++ [d]) rfl hn7 d2 _ HCD2.out rfl (by omega) hb7.size ?_); intro g8 c8 w8 hn8 hg8 ho8 hl8; have hb8 := hb7.grown hg8 hb7.size (fun x hx => (hn7.lt _ hx).1); clear hg8 ho8)
            | (at_builtin; (refine wpList_append_one rfl (.tmp 42) (.tmp 43) rfl w.heap.size _ (acc.length + 1 + 1) (acc ++ [d] ++ [d2]) rfl hn8 45 _ rfl rfl (by omega) hb8.size ?_); intro g9 c9 w9 hn9 hg9 ho9 hl9; have hb9 := hb8.grown hg9 hb8.size (fun x hx => (hn8.lt _ hx).1); clear hg9 ho9))
          obtain ⟨R, hR⟩ : ∃ R, acc ++ [d] ++ [d2] ++ [45] = R := ⟨_, rfl⟩
          have hrow := hn9
          rw [hR] at hrow
          have HRV := Lib.hid HF.out
          rw [hR] at HRV
          have hRl : R.length = acc.length + 1 + 1 + 1 := by rw [← hR]; simp
          rw [← hRl] at hrow ⊢
          have hR0 : 0 < R.length := by rw [hRl]; omega
          have hR20 : R.length ≤ 25 := by rw [hRl]; omega
          obtain ⟨g9, cap0, Y, he, hBg, hblk, hcl, hcm⟩ := own_blk hrow hR0
          injection he with he1 he2 he3
          injection he1 with he1
          injection he1 with he1
          subst he1
          subst he3
          have HBX := Lib.hid hb9
          have HBLK := Lib.hid hblk
          have HCM := Lib.hid hcm
          have HCL := Lib.hid hcl
          have HBG := Lib.hid hBg
          clear hR hRl hrow hblk hcm hcl hBg he2
          go_loopg [5, 6, 7] (R.length / 2) (fun g s5 s6 s7 wx => ∃ i : Nat, i + g = R.length / 2 ∧ s5 = .int .i64 i ∧ Hid (Blk wx g9 5 (byteCells (brow R.length (rv R i)) ++ Y)) ∧ Below w.heap.size w wx)
          case atStart => exact ⟨0, by omega, rfl, by show Blk _ _ _ _; rw [brow_self]; exact HBLK.out, HBX.out⟩
          case round =>
            obtain ⟨i, hig, rfl, HK, hbz⟩ := hrel

            cases gk with
            | zero =>
              have hz : ¬ ((i : Int) < (R.length : Int) / 2) := by omega
              have HFIN := Lib.hid HK.out
              rw [show i = R.length / 2 by omega, brow_rev] at HFIN
              have hown := blk_own (B := w.heap.size) HBG.out HFIN.out (by have h1 := HCL.out; have h2 := HCM.out; rw [List.length_append, byteCells_len, List.length_reverse]; rw [List.length_append, byteCells_len] at h1; omega)
              rw [show (byteCells R.reverse).length = R.length by rw [byteCells_len, List.length_reverse]] at hown
              rw [show (byteCells R.reverse ++ Y).length = c9 by rw [← HCL.out, List.length_append, List.length_append, byteCells_len, byteCells_len, List.length_reverse]] at hown
              have hcv := conv_own hown
              have HBZ := Lib.hid hbz
              clear hown hbz
              go_wp2_with fail
              go_ret
              exact ⟨by rw [HRV.out]; rfl, HBZ.out⟩
            | succ g =>
              have hz : ((i : Int) < (R.length : Int) / 2) := by omega
              have hi : i < R.length / 2 := by omega
              obtain ⟨kk, hkk⟩ : ∃ kk, R.length - 1 - i = kk := ⟨_, rfl⟩
              have hst := rv_step R i hi
              rw [hkk] at hst
              have hkR : kk < R.length := by omega
              have hik : i < kk := by omega
              have c1 := HK.out.cell i
              have c2 := HK.out.cell kk
              have f1 := HK.out.frozen i
              rw [List.getElem?_append_left (by rw [bcells_len]; omega), brow_at _ (by omega)] at c1
              rw [List.getElem?_append_left (by rw [bcells_len]; omega), brow_at _ (by omega)] at c2
              obtain ⟨x, hx⟩ : ∃ x, rv R i i = x := ⟨_, rfl⟩
              obtain ⟨y, hy⟩ : ∃ y, rv R i kk = y := ⟨_, rfl⟩
              have hk1 := HK.out.set i (.int .u8 (y.toNat : Int))
              have f2 := hk1.frozen kk
              have d2 := hk1.cell kk
              rw [List.getElem?_set_ne (by omega), List.getElem?_append_left (by rw [bcells_len]; omega), brow_at _ (by omega)] at d2
              have hk2 := hk1.set kk (.int .u8 (x.toNat : Int))
              rw [List.set_append_left _ _ (by rw [bcells_len]; omega), brow_set, List.set_append_left _ _ (by rw [bcells_len]; omega), brow_set] at hk2
              rw [hx, hy] at hst
              rw [hst] at hk2
              rw [hx] at c1
              rw [hy] at c2 d2
              have HK2 := Lib.hid hk2
              have HB9 := Lib.hid ((hbz.setCell (p := ⟨g9, i, none⟩) HBG.out (.int .u8 (y.toNat : Int))).setCell (p := ⟨g9, kk, none⟩) HBG.out (.int .u8 (x.toNat : Int)))
              have m2 : (R.length : Int) - 1 - (i : Int) = (kk : Int) := by omega
              clear hk1 hk2 hbz hst hkk hx hy
              go_wp2_with fail
              go_roundg g
              case measure => omega
              case rel => exact ⟨i + 1, by omega, by go_num, HK2.out, HB9.out⟩
        · have j1 : ¬ ((gk : Int) / 10 < 10) := by omega
          clear hd
          go_wp2_with (at_builtin; (refine wpList_append_one rfl (.tmp 21) (.tmp 26) rfl w.heap.size _ acc.length acc rfl hrow d _ HCD.out rfl (by omega) hbx.size ?_); intro g7 c7 w7 hn7 hg7 ho7 hl7; have hb7 := hbx.grown hg7 hbx.size (fun x hx => (hrow.lt _ hx).1); clear hg7 ho7)
          go_roundg (gk / 10)
          case measure => omega
          case rel => exact ⟨acc ++ [d], by go_num, by omega, HD2, Or.inr (by omega), by rw [List.length_append]; exact hn7, hb7⟩
      · have i9 : ¬ ((gk : Int) > 9) := by omega
        have hnil : acc = [] := hor.resolve_right h10
        have hz0 : ((acc.length : Int) == 0) = true := by rw [hnil]; rfl
        have j1 : (gk : Int) / 10 < 10 := by omega
        have j2 : ¬ ((gk : Int) / 10 > 0) := by omega
        have HF : Hid (intD n = (acc ++ [d] ++ [45]).reverse) := by
          show _ = _
          rw [HI2.out, HD.out, natD_small (by omega), show 48 + gk = 48 + gk % 10 by omega, hd, hnil]
          simp
        clear HD hor hd hnil
        go_wp2_with (first
          | (at_builtin; (refine wpList_append_one rfl (.tmp 21) (.tmp 26) rfl w.heap.size _ acc.length acc rfl hrow d _ HCD.out rfl (by omega) hbx.size ?_); intro g7 c7 w7 hn7 hg7 ho7 hl7; have hb7 := hbx.grown hg7 hbx.size (fun x hx => (hrow.lt _ hx).1); clear hg7 ho7)
          | (at_builtin; (refine wpList_append_one rfl (.tmp 42) (.tmp 43) rfl w.heap.size _ (acc.length + 1) (acc ++ [d]) rfl hn7 45 _ rfl rfl (by omega) hb7.size ?_); intro g9 c9 w9 hn9 hg9 ho9 hl9; have hb9 := hb7.grown hg9 hb7.size (fun x hx => (hn7.lt _ hx).1); clear hg9 ho9))
        obtain ⟨R, hR⟩ : ∃ R, acc ++ [d] ++ [45] = R := ⟨_, rfl⟩
        have hrow := hn9
        rw [hR] at hrow
        have HRV := Lib.hid HF.out
        rw [hR] at HRV
        have hRl : R.length = acc.length + 1 + 1 := by rw [← hR]; simp
        rw [← hRl] at hrow ⊢
        have hR0 : 0 < R.length := by rw [hRl]; omega
        have hR20 : R.length ≤ 25 := by rw [hRl]; omega
        obtain ⟨g9, cap0, Y, he, hBg, hblk, hcl, hcm⟩ := own_blk hrow hR0
        injection he with he1 he2 he3
        injection he1 with he1
        injection he1 with he1
        subst he1
        subst he3
        have HBX := Lib.hid hb9
        have HBLK := Lib.hid hblk
        have HCM := Lib.hid hcm
        have HCL := Lib.hid hcl
        have HBG := Lib.hid hBg
        clear hR hRl hrow hblk hcm hcl hBg he2
        go_loopg [5, 6, 7] (R.length / 2) (fun g s5 s6 s7 wx => ∃ i : Nat, i + g = R.length / 2 ∧ s5 = .int .i64 i ∧ Hid (Blk wx g9 5 (byteCells (brow R.length (rv R i)) ++ Y)) ∧ Below w.heap.size w wx)
        case atStart => exact ⟨0, by omega, rfl, by show Blk _ _ _ _; rw [brow_self]; exact HBLK.out, HBX.out⟩
        case round =>
          obtain ⟨i, hig, rfl, HK, hbz⟩ := hrel

          cases gk with
          | zero =>
            have hz : ¬ ((i : Int) < (R.length : Int) / 2) := by omega
            have HFIN := Lib.hid HK.out
            rw [show i = R.length / 2 by omega, brow_rev] at HFIN
            have hown := blk_own (B := w.heap.size) HBG.out HFIN.out (by have h1 := HCL.out; have h2 := HCM.out; rw [List.length_append, byteCells_len, List.length_reverse]; rw [List.length_append, byteCells_len] at h1; omega)
            rw [show (byteCells R.reverse).length = R.length by rw [byteCells_len, List.length_reverse]] at hown
            rw [show (byteCells R.reverse ++ Y).length = c9 by rw [← HCL.out, List.length_append, List.length_append, byteCells_len, byteCells_len, List.length_reverse]] at hown
            have hcv := conv_own hown
            have HBZ := Lib.hid hbz
            clear hown hbz
            go_wp2_with fail
            go_ret
            exact ⟨by rw [HRV.out]; rfl, HBZ.out⟩
          | succ g =>
            have hz : ((i : Int) < (R.length : Int) / 2) := by omega
            have hi : i < R.length / 2 := by omega
            obtain ⟨kk, hkk⟩ : ∃ kk, R.length - 1 - i = kk := ⟨_, rfl⟩
            have hst := rv_step R i hi
            rw [hkk] at hst
            have hkR : kk < R.length := by omega
            have hik : i < kk := by omega
            have c1 := HK.out.cell i
            have c2 := HK.out.cell kk
            have f1 := HK.out.frozen i
            rw [List.getElem?_append_left (by rw [bcells_len]; omega), brow_at _ (by omega)] at c1
            rw [List.getElem?_append_left (by rw [bcells_len]; omega), brow_at _ (by omega)] at c2
            obtain ⟨x, hx⟩ : ∃ x, rv R i i = x := ⟨_, rfl⟩
            obtain ⟨y, hy⟩ : ∃ y, rv R i kk = y := ⟨_, rfl⟩
            have hk1 := HK.out.set i (.int .u8 (y.toNat : Int))
            have f2 := hk1.frozen kk
            have d2 := hk1.cell kk
            rw [List.getElem?_set_ne (by omega), List.getElem?_append_left (by rw [bcells_len]; omega), brow_at _ (by omega)] at d2
            have hk2 := hk1.set kk (.int .u8 (x.toNat : Int))
            rw [List.set_append_left _ _ (by rw [bcells_len]; omega), brow_set, List.set_append_left _ _ (by rw [bcells_len]; omega), brow_set] at hk2
            rw [hx, hy] at hst
            rw [hst] at hk2
            rw [hx] at c1
            rw [hy] at c2 d2
            have HK2 := Lib.hid hk2
            have HB9 := Lib.hid ((hbz.setCell (p := ⟨g9, i, none⟩) HBG.out (.int .u8 (y.toNat : Int))).setCell (p := ⟨g9, kk, none⟩) HBG.out (.int .u8 (x.toNat : Int)))
            have m2 : (R.length : Int) - 1 - (i : Int) = (kk : Int) := by omega
            clear hk1 hk2 hbz hst hkk hx hy
            go_wp2_with fail
            go_roundg g
            case measure => omega
            case rel => exact ⟨i + 1, by omega, by go_num, HK2.out, HB9.out⟩
  · have HI2 : Hid (intD n = natD U) := by show _ = _; rw [HI.out, if_neg hn]
    have hcv : IntKind.u64.wrap n = (U : Int) := by rw [IntKind.wrap_u64]; omega
    clear HI hU
    go_enter Tryz.func46, Tryz.ntmps46
    go_wp2_with fail
    clear hcv
    go_loopg [3, 4] U (fun g s3 s4 wx => ∃ acc : List UInt8, s4 = .int .u64 g ∧ g ≤ U ∧ Hid (natD U = natD g ++ acc.reverse) ∧ (acc = [] ∨ 10 ≤ g) ∧ wx.ownsRow w.heap.size 5 1 s3 acc.length (byteCells acc) ∧ Below w.heap.size w wx)
    case atStart => exact ⟨[], rfl, Nat.le_refl _, by show _ = _; simp, Or.inl rfl, World.ownsRow_nil _ _ _ _, Below.refl _ _⟩
    case round =>
      obtain ⟨acc, rfl, hgU, HD, hor, hrow, hbx⟩ := hrel
      have hacc : acc.length ≤ 20 := by
        have := congrArg List.length HD.out
        rw [List.length_append, List.length_reverse] at this
        omega
      obtain ⟨p, c0, rfl⟩ := own_val hrow
      obtain ⟨d, hd⟩ : ∃ d, UInt8.ofNat (48 + gk % 10) = d := ⟨_, rfl⟩
      have HCD : Hid (#[Value.int .u8 (48 + (gk : Int) % 10)] = (byteCells [d]).toArray) := by
        show #[Value.int .u8 (48 + (gk : Int) % 10)] = #[Value.int .u8 (d.toNat : Int)]
        rw [← hd, digit_byte _ (by omega)]
        rfl
      by_cases h10 : 10 ≤ gk
      · have i9 : (gk : Int) > 9 := by omega
        have HD2 : Hid (natD U = natD (gk / 10) ++ (acc ++ [d]).reverse) := by
          show _ = _
          rw [HD.out, natD_big (by omega), hd]
          simp
        clear HD hor
        by_cases hlast : gk / 10 < 10
        · have j1 : (gk : Int) / 10 < 10 := by omega
          have j2 : (gk : Int) / 10 > 0 := by omega
          obtain ⟨d2, hd2⟩ : ∃ d2, UInt8.ofNat (48 + gk / 10) = d2 := ⟨_, rfl⟩
          have HCD2 : Hid (#[Value.int .u8 (48 + (gk : Int) / 10)] = (byteCells [d2]).toArray) := by
            show #[Value.int .u8 (48 + (gk : Int) / 10)] = #[Value.int .u8 (d2.toNat : Int)]
            rw [← hd2, digit_byte _ (by omega)]
            rfl
          have HF : Hid (intD n = (acc ++ [d] ++ [d2]).reverse) := by
            show _ = _
            rw [HI2.out, HD2.out, natD_small hlast, hd2]
            simp
          clear HD2 hd hd2 hlast
          go_wp2_with (first
            | (at_builtin; (refine wpList_append_one rfl (.tmp 21) (.tmp 26) rfl w.heap.size _ acc.length acc rfl hrow d _ HCD.out rfl (by omega) hbx.size ?_); intro g7 c7 w7 hn7 hg7 ho7 hl7; have hb7 := hbx.grown hg7 hbx.size (fun x hx => (hrow.lt _ hx).1); clear hg7 ho7)
            | (at_builtin; (refine wpList_append_one rfl (.tmp 34) (.tmp 38) rfl w.heap.size _ (acc.length + 1) (acc ++ [d]) rfl hn7 d2 _ HCD2.out rfl (by omega) hb7.size ?_); intro g8 c8 w8 hn8 hg8 ho8 hl8; have hb8 := hb7.grown hg8 hb7.size (fun x hx => (hn7.lt _ hx).1); clear hg8 ho8))
          obtain ⟨R, hR⟩ : ∃ R, acc ++ [d] ++ [d2] = R := ⟨_, rfl⟩
          have hrow := hn8
          rw [hR] at hrow
          have HRV := Lib.hid HF.out
          rw [hR] at HRV
          have hRl : R.length = acc.length + 1 + 1 := by rw [← hR]; simp
          rw [← hRl] at hrow ⊢
          have hR0 : 0 < R.length := by rw [hRl]; omega
          have hR20 : R.length ≤ 25 := by rw [hRl]; omega
          obtain ⟨g8, cap0, Y, he, hBg, hblk, hcl, hcm⟩ := own_blk hrow hR0
          injection he with he1 he2 he3
          injection he1 with he1
          injection he1 with he1
          subst he1
          subst he3
          have HBX := Lib.hid hb8
          have HBLK := Lib.hid hblk
          have HCM := Lib.hid hcm
          have HCL := Lib.hid hcl
          have HBG := Lib.hid hBg
          clear hR hRl hrow hblk hcm hcl hBg he2
          go_loopg [5, 6, 7] (R.length / 2) (fun g s5 s6 s7 wx => ∃ i : Nat, i + g = R.length / 2 ∧ s5 = .int .i64 i ∧ Hid (Blk wx g8 5 (byteCells (brow R.length (rv R i)) ++ Y)) ∧ Below w.heap.size w wx)
          case atStart => exact ⟨0, by omega, rfl, by show Blk _ _ _ _; rw [brow_self]; exact HBLK.out, HBX.out⟩
          case round =>
            obtain ⟨i, hig, rfl, HK, hbz⟩ := hrel

            cases gk with
            | zero =>
              have hz : ¬ ((i : Int) < (R.length : Int) / 2) := by omega
              have HFIN := Lib.hid HK.out
              rw [show i = R.length / 2 by omega, brow_rev] at HFIN
              have hown := blk_own (B := w.heap.size) HBG.out HFIN.out (by have h1 := HCL.out; have h2 := HCM.out; rw [List.length_append, byteCells_len, List.length_reverse]; rw [List.length_append, byteCells_len] at h1; omega)
              rw [show (byteCells R.reverse).length = R.length by rw [byteCells_len, List.length_reverse]] at hown
              rw [show (byteCells R.reverse ++ Y).length = c8 by rw [← HCL.out, List.length_append, List.length_append, byteCells_len, byteCells_len, List.length_reverse]] at hown
              have hcv := conv_own hown
              have HBZ := Lib.hid hbz
              clear hown hbz
              go_wp2_with fail
              go_ret
              exact ⟨by rw [HRV.out]; rfl, HBZ.out⟩
            | succ g =>
              have hz : ((i : Int) < (R.length : Int) / 2) := by omega
              have hi : i < R.length / 2 := by omega
              obtain ⟨kk, hkk⟩ : ∃ kk, R.length - 1 - i = kk := ⟨_, rfl⟩
              have hst := rv_step R i hi
              rw [hkk] at hst
              have hkR : kk < R.length := by omega
              have hik : i < kk := by omega
              have c1 := HK.out.cell i
              have c2 := HK.out.cell kk
              have f1 := HK.out.frozen i
              rw [List.getElem?_append_left (by rw [bcells_len]; omega), brow_at _ (by omega)] at c1
              rw [List.getElem?_append_left (by rw [bcells_len]; omega), brow_at _ (by omega)] at c2
              obtain ⟨x, hx⟩ : ∃ x, rv R i i = x := ⟨_, rfl⟩
              obtain ⟨y, hy⟩ : ∃ y, rv R i kk = y := ⟨_, rfl⟩
              have hk1 := HK.out.set i (.int .u8 (y.toNat : Int))
              have f2 := hk1.frozen kk
              have d2 := hk1.cell kk
              rw [List.getElem?_set_ne (by omega), List.getElem?_append_left (by rw [bcells_len]; omega), brow_at _ (by omega)] at d2
              have hk2 := hk1.set kk (.int .u8 (x.toNat : Int))
              rw [List.set_append_left _ _ (by rw [bcells_len]; omega), brow_set, List.set_append_left _ _ (by rw [bcells_len]; omega), brow_set] at hk2
              rw [hx, hy] at hst
              rw [hst] at hk2
              rw [hx] at c1
              rw [hy] at c2 d2
              have HK2 := Lib.hid hk2
              have HB9 := Lib.hid ((hbz.setCell (p := ⟨g8, i, none⟩) HBG.out (.int .u8 (y.toNat : Int))).setCell (p := ⟨g8, kk, none⟩) HBG.out (.int .u8 (x.toNat : Int)))
              have m2 : (R.length : Int) - 1 - (i : Int) = (kk : Int) := by omega
              clear hk1 hk2 hbz hst hkk hx hy
              go_wp2_with fail
              go_roundg g
              case measure => omega
              case rel => exact ⟨i + 1, by omega, by go_num, HK2.out, HB9.out⟩
        · have j1 : ¬ ((gk : Int) / 10 < 10) := by omega
          clear hd
          go_wp2_with (at_builtin; (refine wpList_append_one rfl (.tmp 21) (.tmp 26) rfl w.heap.size _ acc.length acc rfl hrow d _ HCD.out rfl (by omega) hbx.size ?_); intro g7 c7 w7 hn7 hg7 ho7 hl7; have hb7 := hbx.grown hg7 hbx.size (fun x hx => (hrow.lt _ hx).1); clear hg7 ho7)
          go_roundg (gk / 10)
          case measure => omega
          case rel => exact ⟨acc ++ [d], by go_num, by omega, HD2, Or.inr (by omega), by rw [List.length_append]; exact hn7, hb7⟩
      · have i9 : ¬ ((gk : Int) > 9) := by omega
        have hnil : acc = [] := hor.resolve_right h10
        have hz0 : ((acc.length : Int) == 0) = true := by rw [hnil]; rfl
        have j1 : (gk : Int) / 10 < 10 := by omega
        have j2 : ¬ ((gk : Int) / 10 > 0) := by omega
        have HF : Hid (intD n = (acc ++ [d]).reverse) := by
          show _ = _
          rw [HI2.out, HD.out, natD_small (by omega), show 48 + gk = 48 + gk % 10 by omega, hd, hnil]
          simp
        clear HD hor hd hnil
        go_wp2_with (at_builtin; (refine wpList_append_one rfl (.tmp 21) (.tmp 26) rfl w.heap.size _ acc.length acc rfl hrow d _ HCD.out rfl (by omega) hbx.size ?_); intro g7 c7 w7 hn7 hg7 ho7 hl7; have hb7 := hbx.grown hg7 hbx.size (fun x hx => (hrow.lt _ hx).1); clear hg7 ho7)
        obtain ⟨R, hR⟩ : ∃ R, acc ++ [d] = R := ⟨_, rfl⟩
        have hrow := hn7
        rw [hR] at hrow
        have HRV := Lib.hid HF.out
        rw [hR] at HRV
        have hRl : R.length = acc.length + 1 := by rw [← hR]; simp
        rw [← hRl] at hrow ⊢
        have hR0 : 0 < R.length := by rw [hRl]; omega
        have hR20 : R.length ≤ 25 := by rw [hRl]; omega
        obtain ⟨g7, cap0, Y, he, hBg, hblk, hcl, hcm⟩ := own_blk hrow hR0
        injection he with he1 he2 he3
        injection he1 with he1
        injection he1 with he1
        subst he1
        subst he3
        have HBX := Lib.hid hb7
        have HBLK := Lib.hid hblk
        have HCM := Lib.hid hcm
        have HCL := Lib.hid hcl
        have HBG := Lib.hid hBg
        clear hR hRl hrow hblk hcm hcl hBg he2
        go_loopg [5, 6, 7] (R.length / 2) (fun g s5 s6 s7 wx => ∃ i : Nat, i + g = R.length / 2 ∧ s5 = .int .i64 i ∧ Hid (Blk wx g7 5 (byteCells (brow R.length (rv R i)) ++ Y)) ∧ Below w.heap.size w wx)
        case atStart => exact ⟨0, by omega, rfl, by show Blk _ _ _ _; rw [brow_self]; exact HBLK.out, HBX.out⟩
        case round =>
          obtain ⟨i, hig, rfl, HK, hbz⟩ := hrel

          cases gk with
          | zero =>
            have hz : ¬ ((i : Int) < (R.length : Int) / 2) := by omega
            have HFIN := Lib.hid HK.out
            rw [show i = R.length / 2 by omega, brow_rev] at HFIN
            have hown := blk_own (B := w.heap.size) HBG.out HFIN.out (by have h1 := HCL.out; have h2 := HCM.out; rw [List.length_append, byteCells_len, List.length_reverse]; rw [List.length_append, byteCells_len] at h1; omega)
            rw [show (byteCells R.reverse).length = R.length by rw [byteCells_len, List.length_reverse]] at hown
            rw [show (byteCells R.reverse ++ Y).length = c7 by rw [← HCL.out, List.length_append, List.length_append, byteCells_len, byteCells_len, List.length_reverse]] at hown
            have hcv := conv_own hown
            have HBZ := Lib.hid hbz
            clear hown hbz
            go_wp2_with fail
            go_ret
            exact ⟨by rw [HRV.out]; rfl, HBZ.out⟩
          | succ g =>
            have hz : ((i : Int) < (R.length : Int) / 2) := by omega
            have hi : i < R.length / 2 := by omega
            obtain ⟨kk, hkk⟩ : ∃ kk, R.length - 1 - i = kk := ⟨_, rfl⟩
            have hst := rv_step R i hi
            rw [hkk] at hst
            have hkR : kk < R.length := by omega
            have hik : i < kk := by omega
            have c1 := HK.out.cell i
            have c2 := HK.out.cell kk
            have f1 := HK.out.frozen i
            rw [List.getElem?_append_left (by rw [bcells_len]; omega), brow_at _ (by omega)] at c1
            rw [List.getElem?_append_left (by rw [bcells_len]; omega), brow_at _ (by omega)] at c2
            obtain ⟨x, hx⟩ : ∃ x, rv R i i = x := ⟨_, rfl⟩
            obtain ⟨y, hy⟩ : ∃ y, rv R i kk = y := ⟨_, rfl⟩
            have hk1 := HK.out.set i (.int .u8 (y.toNat : Int))
            have f2 := hk1.frozen kk
            have d2 := hk1.cell kk
            rw [List.getElem?_set_ne (by omega), List.getElem?_append_left (by rw [bcells_len]; omega), brow_at _ (by omega)] at d2
            have hk2 := hk1.set kk (.int .u8 (x.toNat : Int))
            rw [List.set_append_left _ _ (by rw [bcells_len]; omega), brow_set, List.set_append_left _ _ (by rw [bcells_len]; omega), brow_set] at hk2
            rw [hx, hy] at hst
            rw [hst] at hk2
            rw [hx] at c1
            rw [hy] at c2 d2
            have HK2 := Lib.hid hk2
            have HB9 := Lib.hid ((hbz.setCell (p := ⟨g7, i, none⟩) HBG.out (.int .u8 (y.toNat : Int))).setCell (p := ⟨g7, kk, none⟩) HBG.out (.int .u8 (x.toNat : Int)))
            have m2 : (R.length : Int) - 1 - (i : Int) = (kk : Int) := by omega
            clear hk1 hk2 hbz hst hkk hx hy
            go_wp2_with fail
            go_roundg g
            case measure => omega
            case rel => exact ⟨i + 1, by omega, by go_num, HK2.out, HB9.out⟩
end Go.Proofs.YtjadginnaogjoaaGreatDoor.jsn
