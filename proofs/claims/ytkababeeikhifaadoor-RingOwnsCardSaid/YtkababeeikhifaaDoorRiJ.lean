/- RingKeeps. Condition: package variables (RT). -/
import Derived.Test.YtkababeeikhifaaDoorRiI
import Derived.Laws.OwnMore
namespace Go.Proofs.YtkababeeikhifaaDoor.rng
open Go.RowKit
open Go.Proofs.YtkababeeikhifaaDoor.oct Go.Proofs.YtkababeeikhifaaDoor.ref Go.Proofs.YtkababeeikhifaaDoor.rows Go.Proofs.YtkababeeikhifaaDoor.rowg Go.Proofs.YtkababeeikhifaaDoor.trn
open Go.Proofs.YtkababeeikhifaaDoor.scp (tx senc senc_len InS ins_below ins_cell)
open Go.Lib (byteCells)

def room : T := [114, 111, 111, 109]
/-- a cell of a row of the call's own, whatever it holds -/
theorem cell_own {w : World} {B e size n g C : Nat} {xs : List Value} (h : w.ownsRow B e size (.slice (some ⟨g, 0, none⟩) n C) n xs) {j : Nat} (hj : j < n * size) : ∃ v, w.cell? ⟨g, j, none⟩ = some v ∧ w.frozen? ⟨g, j, none⟩ = false := by
  have hl := h.1
  exact ⟨xs[j]'(by omega), by rw [h.cellAt j hj, List.getElem?_eq_getElem (by omega)], h.frozenAt j⟩
theorem own_cap {w : World} {B e k n b c : Nat} {xs : List Value} (h : w.ownsRow B e k (.slice (some ⟨b, 0, none⟩) n c) n xs) : n ≤ c := by
  rcases h.2 with ⟨h2, _⟩ | ⟨g, cap, cur, h2, _, _, h3, _⟩
  · cases h2
  · injection h2 with _ _ h4
    omega
theorem row_in {w : World} {B b c n : Nat} {ms : List T} (hm : ms.length = n) (h : w.ownsRow B 9 1 (.slice (some ⟨b, 0, none⟩) (n + 1) c) (n + 1) (cells senc [] ++ cells senc ms ++ cells senc [room])) : InS w (some ⟨b, 0, none⟩) (ms ++ [room]) := by
  rw [← cells_append, ← cells_append, List.nil_append] at h
  obtain ⟨b2, c2, e, _, hin⟩ := own_in senc_len (by decide) (by rw [List.length_append, hm]; rfl) (by omega) h
  injection e with e1
  rw [e1]
  exact hin
set_option maxRecDepth 100000 in
set_option maxHeartbeats 16000000 in
theorem keeps_c (n : Int) (P : Option Addr) (C : Nat) (ms : List T) (key : T) (w : World) (hp : InS w P ms) (h16 : ms.length * 16 ≤ 140737488351232) (hnil : P = none → C = 0) (hkl : key.length ≤ 140737488354500) (hT : RT w) :
    Calls Tryd.prog 7 #[.int .i64 n, .slice P ms.length C, tx key] w fun e w' => e = .returned (.bool true) ∧ Below w.heap.size w w' := by
  have HP := Lib.hid hp
  have HT := Lib.hid hT
  have HNIL := Lib.hid hnil
  obtain ⟨m, hm⟩ : ∃ m, ms.length = m := ⟨_, rfl⟩
  rw [hm] at h16 ⊢
  have HM := Lib.hid hm
  obtain ⟨j0, hj, hy0, hy1, hy2⟩ := info_parts infoStr
  have H16 := Lib.hid h16
  unfold tx
  clear hp hT hm hnil
  go_enter Tryd.func7, Tryd.ntmps7
  go_wp2_with (first
    | (at_builtin; refine wpList_append_g senc_len (by decide) senc_one rfl _ _ 22 9 rfl Tryd.underlying22 hj hy0 hy1 hy2 rfl w.heap.size _ 0 (cells senc []) rfl (own_emptyG w 9) P m C ms rfl (ins_below HP.out ((Below.refl _ _).alloc (Nat.le_refl _) _)) HM.out HNIL.out (by unfold maxLen; omega) (by omega) (by simp) ?_; intro v1 w1 hown1 hgrow1; rw [Nat.zero_add] at hown1; obtain ⟨p1, c1, rfl⟩ := cln.own_slice hown1; have HO1 := Lib.hid hown1; have HB1 := Lib.hid (((Below.refl w.heap.size w).alloc (Nat.le_refl _) _).grown hgrow1 (by simp) (fun k hk => by cases hk; exact Nat.le_refl _)); clear hown1 hgrow1)
    | (at_builtin; (refine wpList_append_own _ rfl _ _ 22 rfl w.heap.size 9 j0 (.string ⟨#[]⟩) 1 16 Tryd.underlying22 hj hy0 hy1 hy2 rfl (by decide) (.slice p1 m c1) m (cells senc [] ++ cells senc ms) rfl (HO1.out.alloc _) ⟨w1.heap.size, 0, none⟩ 1 1 (cells senc [room]) rfl rfl (src_txt w1 room _ rfl) (fun u hu => by obtain ⟨y, hy⟩ := cells_mem hu; exact senc_one y u hy) (by unfold maxLen; omega) (by omega) (by have := HB1.out.size; simp; omega) ?_); intro v2 w2 hown2 hgrow2 _; have HB2 := Lib.hid ((HB1.out.alloc HB1.out.size _).grown hgrow2 (by have := HB1.out.size; simp; omega) (fun k hk => (HO1.out.lt k hk).1)); obtain ⟨b0, c0, rfl⟩ := ownsRow_succ hown2; have HO2 := Lib.hid hown2; have hmc : m ≤ c0 := (by have := own_cap hown2; omega); clear hown2 hgrow2))
  have hrow := row_in HM.out HO2.out
  have hin2 : InS w2 (some ⟨b0, 0, none⟩) ms := by
    have := ins_take hrow ms.length
    rwa [List.take_left] at this
  have hc2 : ∀ W, Below w2.heap.size w2 W → W.cell? ⟨b0, m, none⟩ = some (.string ⟨room.toArray⟩) := fun W hW => by
    obtain ⟨b, o, e, hc⟩ := txt_at hrow (i := m) (by rw [List.length_append, HM.out]; exact Nat.lt_succ_self m)
    cases e
    have := hc W hW
    rw [Nat.zero_add] at this
    rw [this]
    simp [← HM.out]
  have HNEW := Lib.hid (new_c n (some ⟨b0, 0, none⟩) c0 m ms w2 hin2 HM.out (by omega) hmc (HT.out.below HB2.out))
  have HIN := Lib.hid hin2
  have HC2 := Lib.hid hc2
  clear hrow hin2 hc2
  refine HNEW.out.mono ?_
  rintro e w3 hN
  obtain ⟨p3, z3, rfl⟩ := newR_vals hN
  have HN3 := Lib.hid hN
  have hb3 : Below w2.heap.size w2 w3 := by
    rcases hN with ⟨_, _, h⟩ | ⟨_, _, _, _, _, _, h⟩ <;> exact h
  have HK3 := Lib.hid hb3
  have HB3 := Lib.hid (bnext HB2.out hb3)
  have HKN := Lib.hid (known_c w3 (HT.out.below HB3.out))
  clear hN hb3 HNEW
  go_wp2_with fail
  refine HKN.out.mono ?_
  rintro e w4 ⟨rfl, hb4⟩
  have HK4 := Lib.hid (bnext HK3.out hb4)
  have HK34 := Lib.hid hb4
  have HB4 := Lib.hid (bnext HB3.out hb4)
  have c4 := HC2.out w4 HK4.out
  have HSA := Lib.hid (texts_c (some ⟨b0, 0, none⟩) c0 ms P C ms w4 (ins_below HIN.out HK4.out) (ins_below HP.out HB4.out) (by rw [HM.out]; omega) (by rw [HM.out]; omega))
  rw [HM.out, decide_eq_true (rfl : ms = ms)] at HSA
  have hmI : (m : Int) < ((m : Int) + 1) := by omega
  unfold room at c4
  clear hb4 HKN
  go_wp2_with fail
  refine HSA.out.mono ?_
  rintro e w5 ⟨rfl, nd, hw5⟩
  have hb5 : Below w4.heap.size w4 w5 := by rw [hw5]; exact ⟨rfl, rfl, rfl, Nat.le_refl _, fun _ _ => rfl⟩
  have HK5 := Lib.hid (bnext HK4.out hb5)
  have hb5' := hb5
  have HLT := Lib.hid ((HO2.out.lt b0 rfl).2)
  have HB5 := Lib.hid (bnext HB4.out hb5)
  have HN5 : Hid ((rightB n ms = false ∧ z3 = 1) ∨ (rightB n ms = true ∧ ∃ (g np : Nat), z3 = 0 ∧ p3 = some ⟨g, 0, none⟩ ∧ Rg w5 (fun k => w2.heap.size ≤ k ∧ k < w3.heap.size) g np ms)) := by
    rcases HN3.out with ⟨h1, h2, _⟩ | ⟨h1, g, np, h2, h3, h4, h5⟩
    · cases h2; exact Lib.hid (.inl ⟨h1, rfl⟩)
    · cases h3
      have q4 : Below w3.heap.size w3 w4 := HK34.out
      exact Lib.hid (.inr ⟨h1, g, np, rfl, rfl, (h4.below q4).below hb5⟩)
  have HOW5 := Lib.hid ((own_turn HO2.out (Turn.of_below (S := fun _ => False) HK5.out) fun _ _ => id))
  have HWN := Lib.hid (with_nil w5 [97])
  have HWO := Lib.hid (without_nil w5 [97])
  unfold tx at HWN HWO
  clear hw5 hb5 HSA HN3 HC2 HIN c4 HK4 HB4 HO1 HB1 HNIL hmI
  go_wp2_with fail
  refine HWN.out.mono ?_
  rintro e _ ⟨rfl, rfl⟩
  go_wp2_with fail
  refine HWO.out.mono ?_
  rintro e _ ⟨rfl, rfl⟩
  clear HWN HWO
  have HON := Lib.hid (owner_nil w5 key)
  unfold tx at HON
  go_wp2_with fail
  refine HON.out.mono ?_
  rintro e w6 ⟨rfl, hb6⟩
  have HON := Lib.hid (order_nil w6 key)
  unfold tx at HON
  go_wp2_with fail
  refine HON.out.mono ?_
  rintro e w7 ⟨rfl, hb7⟩
  have hb57 := bnext hb6 hb7
  have HB7 := Lib.hid (bnext HB5.out hb57)
  have HK7 := Lib.hid (bnext HK5.out hb57)
  have HK37 := Lib.hid (bnext (bnext HK34.out hb5') hb57)
  have HOW7 := Lib.hid (own_turn HOW5.out (Turn.of_below (S := fun _ => False) hb57) fun _ _ => id)
  have HN7 : Hid ((rightB n ms = false ∧ z3 = 1) ∨ (rightB n ms = true ∧ ∃ (g np : Nat), z3 = 0 ∧ p3 = some ⟨g, 0, none⟩ ∧ Rg w7 (fun k => w2.heap.size ≤ k ∧ k < w3.heap.size) g np ms)) := by
    rcases HN5.out with h | ⟨h1, g, np, h2, h3, h4⟩
    · exact Lib.hid (.inl h)
    · exact Lib.hid (.inr ⟨h1, g, np, h2, h3, h4.below hb57⟩)
  have HON := Lib.hid (names_nil w7)
  have HPN := Lib.hid (points_nil w7)
  clear hb6 hb7 hb57 HN5 HOW5 HK5 HB5 HO2
  go_wp2_with fail
  refine HON.out.mono ?_
  rintro e _ ⟨rfl, rfl⟩
  go_wp2_with fail
  refine HPN.out.mono ?_
  rintro e _ ⟨rfl, rfl⟩
  clear HON HPN
  rcases HN7.out with ⟨_, rfl⟩ | ⟨hr, g, np, rfl, rfl, hR⟩
  · go_wp2_with fail
    go_ret
    exact ⟨rfl, HB7.out⟩
  · have HR7 := Lib.hid hR
    have HRB := Lib.hid ((rightB_iff _ _).1 hr)
    have hgd := hR.good
    have hm8 : m ≤ 8 := by have := hgd.1.hi; rw [HM.out] at this; exact this
    have hm1 : 1 ≤ m := by have := hgd.1.lo; rw [HM.out] at this; exact this
    have hn64 := hgd.2.2
    have hn1 := hgd.2.1
    have HOD := Lib.hid (order_c hR (HT.out.below HB7.out) key hkl)
    unfold tx at HOD
    clear hr hR hgd HN7
    go_wp2_with fail
    refine HOD.out.mono ?_
    rintro e w8 ⟨v8, rfl, ho8, hb8⟩
    obtain ⟨O, hO⟩ : ∃ O, ordR np ms (plc key) = O := ⟨_, rfl⟩
    have HOE := Lib.hid hO
    have hOl : O.length = m := by
      have := ordR_len hn1 HRB.out.2.2.nd (plc key)
      rwa [hO, HM.out] at this
    have HOL := Lib.hid hOl
    rw [hO, hOl] at ho8
    obtain ⟨b8, c8, rfl, _, _⟩ := own_in ienc_len (by decide) hOl hm1 ho8
    have hk8 := (ho8.lt b8 rfl).1
    have h38 : w3.heap.size ≤ b8 := by have := HK37.out.size; omega
    have HO8 := Lib.hid ho8
    have HB8 := Lib.hid (bnext HB7.out hb8)
    have HR8 := Lib.hid (HR7.out.below hb8)
    have HOW8 := Lib.hid (own_turn HOW7.out (Turn.of_below (S := fun _ => False) hb8) fun _ _ => id)
    have h02 : b0 < w2.heap.size := HLT.out
    have h23 : w2.heap.size ≤ w3.heap.size := HK3.out.size
    have h0b : w.heap.size ≤ b0 := (HOW8.out.lt b0 rfl).1
    have hbb : b0 ≠ b8 := by omega
    have HBB := Lib.hid hbb
    have H02 := Lib.hid h02
    have H0B := Lib.hid h0b
    have H38 := Lib.hid h38
    clear hO hOl ho8 hb8 HOD hk8 h02 h23 h0b hbb h38 HR7 HOW7 HB7 HB2 HB3
    go_wp2_with fail
    go_loopg [16] m (fun g s16 wx => ∃ i : Nat, i + g = m ∧ s16 = .int .i64 (i : Int) ∧ (∃ xs, Hid (wx.ownsRow w.heap.size 9 1 (.slice (some ⟨b0, 0, none⟩) (m + 1) c0) (m + 1) xs)) ∧ Hid (Turn (fun k => k = b0) w8 wx))
    case atStart => exact ⟨0, by omega, rfl, ⟨_, HOW8⟩, Lib.hid (Turn.refl _ _)⟩
    case round =>
      obtain ⟨i, hig, rfl, ⟨xs, HX⟩, HTX⟩ := hrel
      rcases gk with _ | gk
      · have hb9' := Turn.below HB8.out HTX.out (fun k hk => hk ▸ H0B.out) HB8.out.size
        have HBA := Lib.hid hb9'
        have HRA := Lib.hid (HR8.out.turn (F2 := fun k => w2.heap.size ≤ k ∧ k < w3.heap.size) HTX.out (fun k hk e => by have := H02.out; omega) fun _ => id)
        have HOA := Lib.hid (own_turn HO8.out HTX.out fun k hk e => HBB.out (by cases hk; exact e.symm))
        have hlA : b8 < wr.heap.size := Nat.lt_of_lt_of_le (HO8.out.lt b8 rfl).2 HTX.out.size
        have HLA := Lib.hid hlA
        have HPT := Lib.hid (points_c HRA.out)
        have hL1 : 1 ≤ ms.length * np := by rw [HM.out]; exact Nat.mul_le_mul hm1 hn1
        have hL8 : ms.length * np ≤ 8 * 64 := by rw [HM.out]; exact Nat.mul_le_mul hm8 hn64
        obtain ⟨L, hL⟩ : ∃ L, ms.length * np = L := ⟨_, rfl⟩
        have HLE := Lib.hid hL
        rw [hL] at HPT hL1 hL8
        have h3A : w3.heap.size ≤ wr.heap.size := by have := H38.out; omega
        have H3A := Lib.hid h3A
        have j1 : decide ((i : Int) < (m : Int)) = false := decide_eq_false (by omega)
        have j2 : decide (i < m) = false := decide_eq_false (by omega)
        clear hb9' hlA hL h3A HX HTX HB8 HR8 HO8 HOW8
        go_wp2_with fail
        refine HPT.out.mono ?_
        rintro e w9 ⟨v9, rfl, hp9, hb9⟩
        obtain ⟨b9, c9, rfl, _, _⟩ := own_in pnc_len (by decide) ((rpts_len np ms).trans HLE.out) hL1 hp9
        have hk9 := (hp9.lt b9 rfl).1
        have HK9 := Lib.hid hk9
        have HP9 := Lib.hid hp9
        have HB9 := Lib.hid hb9
        clear hp9 hb9 hk9 HPT
        go_wp2_with fail
        clear j1 j2
        go_loopg [17] L (fun g s17 wx => ∃ i : Nat, i + g = L ∧ s17 = .int .i64 (i : Int) ∧ (∃ xs, Hid (wx.ownsRow wr.heap.size 37 2 (.slice (some ⟨b9, 0, none⟩) L c9) L xs)) ∧ Hid (Turn (fun k => k = b9) w9 wx))
        case atStart => exact ⟨0, by omega, rfl, ⟨_, HP9⟩, Lib.hid (Turn.refl _ _)⟩
        case round =>
          obtain ⟨i2, hig2, rfl, ⟨xs, HX⟩, HTX⟩ := hrel
          rcases gk with _ | gk
          · have j1 : decide ((i2 : Int) < (L : Int)) = false := decide_eq_false (by omega)
            have j2 : decide (i2 < L) = false := decide_eq_false (by omega)
            have HBB9 := Lib.hid (Turn.below HB9.out HTX.out (fun k hk => hk ▸ HK9.out) HB9.out.size)
            have HRB' := Lib.hid (HRA.out.below HBB9.out)
            have HBC := Lib.hid (bnext HBA.out HBB9.out)
            have HOC := Lib.hid (own_turn HOA.out (Turn.of_below (S := fun _ => False) HBB9.out) fun _ _ => id)
            have HNM := Lib.hid (names_c HRB'.out)
            rw [HM.out] at HNM
            clear HX HTX HP9 HB9 HRA HOA HBA
            go_wp2_with fail
            refine HNM.out.mono ?_
            rintro e w10 ⟨v10, rfl, hp10, hb10⟩
            obtain ⟨b10, c10, rfl, _, _⟩ := own_in senc_len (by decide) HM.out hm1 hp10
            have hk10 := (hp10.lt b10 rfl).1
            have HK10 := Lib.hid hk10
            have HP10 := Lib.hid hp10
            have HB10 := Lib.hid hb10
            clear hp10 hb10 hk10 HNM j1 j2
            go_wp2_with fail
            go_loopg [19] m (fun g s19 wx => ∃ i : Nat, i + g = m ∧ s19 = .int .i64 (i : Int) ∧ (∃ xs, Hid (wx.ownsRow wr.heap.size 9 1 (.slice (some ⟨b10, 0, none⟩) m c10) m xs)) ∧ Hid (Turn (fun k => k = b10) w10 wx))
            case atStart => exact ⟨0, by omega, rfl, ⟨_, HP10⟩, Lib.hid (Turn.refl _ _)⟩
            case round =>
              obtain ⟨i3, hig3, rfl, ⟨xs, HX⟩, HTX⟩ := hrel
              rcases gk with _ | gk
              · have j1 : decide ((i3 : Int) < (m : Int)) = false := decide_eq_false (by omega)
                have j2 : decide (i3 < m) = false := decide_eq_false (by omega)
                have hbb := Turn.below HB10.out HTX.out (fun k hk => hk ▸ HK10.out) HB10.out.size
                have HRD := Lib.hid (HRB'.out.below hbb)
                have HBD := Lib.hid (bnext HBC.out hbb)
                have HOD := Lib.hid (own_turn HOC.out (Turn.of_below (S := fun _ => False) hbb) fun _ _ => id)
                have HOR := Lib.hid (order_c HRD.out (HT.out.below HBD.out) key hkl)
                rw [HOE.out, HOL.out] at HOR
                unfold tx at HOR
                clear hbb HX HTX HRB' HBC HOC HB10 HP10 HK10
                go_wp2_with fail
                refine HOR.out.mono ?_
                rintro e w11 ⟨v11, rfl, ho11, hb11⟩
                obtain ⟨b11, c11, rfl, _, _⟩ := own_in ienc_len (by decide) HOL.out hm1 ho11
                have HO11 := Lib.hid ho11
                have HR11 := Lib.hid (HRD.out.below hb11)
                have HB11 := Lib.hid (bnext HBD.out hb11)
                have HOD11 := Lib.hid (own_turn HOD.out (Turn.of_below (S := fun _ => False) hb11) fun _ _ => id)
                clear ho11 hb11 HOR HRD HBD HOD j1 j2
                obtain ⟨k0, hk, hz0, hz1, hz2⟩ := info_parts infoByte
                obtain ⟨Z, hZ⟩ : ∃ Z : T, List.replicate 65 0 = Z := ⟨_, rfl⟩
                have hzl : Z.length = 65 := by rw [← hZ, List.length_replicate]
                have HZN : Hid (Z ∉ ms) := Lib.hid fun hm => by have := (HRB.out.2.2.ok Z hm).2; omega
                have HZE : Hid ((madeCells (Value.int .u8 0).cells (65 * 1)).toList = byteCells Z) := Lib.hid (by rw [← hZ]; kernel_rfl)
                clear hZ hzl
                go_wp2_with (at_make; refine wpList_make_full _ rfl _ _ 49 rfl w11.heap.size 5 k0 (.int .u8 0) 1 Tryd.underlying49 hk hz0 hz1 .i64 .i64 _ _ 65 rfl rfl rfl rfl (by rw [hz2]; decide) (by decide) (Nat.le_refl _) ?_; intro w12 hown hgrow; have hcv := conv_own (HZE.out ▸ hown); have HB12 := Lib.hid ((Below.refl w11.heap.size w11).grown hgrow (Nat.le_refl _) (fun k hk => by cases hk)); clear hown hgrow)
                have HR12 := Lib.hid (HR11.out.below HB12.out)
                have hBW := Lib.hid (bnext HB11.out HB12.out)
                have HO12 := Lib.hid (own_turn HO11.out (Turn.of_below (S := fun _ => False) HB12.out) fun _ _ => id)
                have HOD12 := Lib.hid (own_turn HOD11.out (Turn.of_below (S := fun _ => False) HB12.out) fun _ _ => id)
                have HWO := Lib.hid (without_no HR12.out Z HZN.out)
                unfold tx at HWO
                clear HR11 HB11 HB12 HO11 HOD11
                refine HWO.out.mono ?_
                rintro e _ ⟨rfl, rfl⟩
                have in8 : InI w12 (some ⟨b8, 0, none⟩) O := by
                  obtain ⟨b, c, e, _, h⟩ := own_in ienc_len (by decide) HOL.out hm1 HOD12.out
                  injection e with e1
                  rw [e1]; exact h
                have in11 : InI w12 (some ⟨b11, 0, none⟩) O := by
                  obtain ⟨b, c, e, _, h⟩ := own_in ienc_len (by decide) HOL.out hm1 HO12.out
                  injection e with e1
                  rw [e1]; exact h
                have HIC := Lib.hid (ints_c (some ⟨b8, 0, none⟩) c8 O (some ⟨b11, 0, none⟩) c11 O w12 in8 in11 (by rw [HOL.out]; omega) (by rw [HOL.out]; omega))
                rw [HOL.out, decide_eq_true (rfl : O = O)] at HIC
                clear in8 in11 HWO HOD12 HO12 hcv
                go_wp2_with fail
                refine HIC.out.mono ?_
                rintro e w13 ⟨rfl, nd13, hw13⟩
                have hb13 : Below w12.heap.size w12 w13 := by rw [hw13]; exact ⟨rfl, rfl, rfl, Nat.le_refl _, fun _ _ => rfl⟩
                have HB13 := Lib.hid (bnext hBW.out hb13)
                have HNM2 := Lib.hid (names_c (HR12.out.below hb13))
                rw [HM.out] at HNM2
                clear hw13 hb13 HIC HR12 hBW
                go_wp2_with fail
                refine HNM2.out.mono ?_
                rintro e w14 ⟨v14, rfl, hn14, hb14⟩
                obtain ⟨b14, c14, rfl, _, hin14⟩ := own_in senc_len (by decide) HM.out hm1 hn14
                have HB14 := Lib.hid (bnext HB13.out hb14)
                have HSB := Lib.hid (texts_c (some ⟨b14, 0, none⟩) c14 ms P C ms w14 hin14 (ins_below HP.out HB14.out) (by rw [HM.out]; omega) (by rw [HM.out]; omega))
                rw [HM.out, decide_eq_true (rfl : ms = ms)] at HSB
                clear hn14 hb14 hin14 HNM2 HB13
                go_wp2_with fail
                refine HSB.out.mono ?_
                rintro e w15 ⟨rfl, nd15, hw15⟩
                have hb15 : Below w14.heap.size w14 w15 := by rw [hw15]; exact ⟨rfl, rfl, rfl, Nat.le_refl _, fun _ _ => rfl⟩
                have HB15 := Lib.hid (bnext HB14.out hb15)
                clear hw15 hb15
                go_wp2_with fail
                go_ret
                exact ⟨rfl, HB15.out⟩
              · have hi1 : (i3 : Int) < (m : Int) := by omega
                have hi2 : i3 < m := by omega
                obtain ⟨u, hu, hf⟩ := cell_own HX.out (j := i3) (by omega)
                have hst := HX.out.stored i3 (.string ⟨#[111, 118, 101, 114]⟩)
                have HST := Lib.hid hst.1
                have HTT := Lib.hid (HTX.out.next (Turn.set (S := fun k => k = b10) wr b10 i3 (.string ⟨#[111, 118, 101, 114]⟩) rfl))
                clear hst
                go_wp2_with fail
                go_roundg gk
                case measure => omega
                case rel => exact ⟨i3 + 1, by omega, by go_num, ⟨_, HST⟩, HTT⟩
          · have hi1 : (i2 : Int) < (L : Int) := by omega
            have hi2 : i2 < L := by omega
            obtain ⟨u, hu, hf⟩ := cell_own HX.out (j := i2 * 2) (by omega)
            obtain ⟨u2, hu2, hf2⟩ := cell_own HX.out (j := i2 * 2 + 1) (by omega)
            have hst := HX.out.stored (i2 * 2) (.int .u64 0)
            have hst2 := hst.1.stored (i2 * 2 + 1) (.int .i64 0)
            have HST := Lib.hid hst2.1
            have HTT := Lib.hid ((HTX.out.next (Turn.set (S := fun k => k = b9) wr b9 (i2 * 2) (.int .u64 0) rfl)).next (Turn.set (S := fun k => k = b9) _ b9 (i2 * 2 + 1) (.int .i64 0) rfl))
            clear hst hst2
            go_wp2_with fail
            go_roundg gk
            case measure => omega
            case rel => exact ⟨i2 + 1, by omega, by go_num, ⟨_, HST⟩, HTT⟩
      · have hi1 : (i : Int) < (m : Int) := by omega
        have hi2 : (i : Int) < (m : Int) + 1 := by omega
        obtain ⟨u, hu, hf⟩ := cell_own HX.out (j := i) (by omega)
        have hst := HX.out.stored i (.string ⟨#[111, 118, 101, 114]⟩)
        have HST := Lib.hid hst.1
        have HTT := Lib.hid (HTX.out.next (Turn.set (S := fun k => k = b0) wr b0 i (.string ⟨#[111, 118, 101, 114]⟩) rfl))
        clear hst
        go_wp2_with fail
        go_roundg gk
        case measure => omega
        case rel => exact ⟨i + 1, by omega, by go_num, ⟨_, HST⟩, HTT⟩
end Go.Proofs.YtkababeeikhifaaDoor.rng
