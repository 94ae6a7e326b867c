/- Several texts in one: RoU, RoW0, RoW, RoX, RoY. Conditions: as each theorem says. -/
import Derived.Test.YteihjgakhkpgnaaGreatDoorRoOp
import Derived.Test.YteihjgakhkpgnaaGreatDoorFldE
import Derived.Test.YteihjgakhkpgnaaGreatDoorGfld
import Derived.Test.YteihjgakhkpgnaaGreatDoorRefA
namespace Go.Proofs.YteihjgakhkpgnaaGreatDoor.oct
set_option maxRecDepth 100000
open Go.RowKit
open Go.Proofs.YteihjgakhkpgnaaGreatDoor.pl Go.Proofs.YteihjgakhkpgnaaGreatDoor.ref
open Go.Lib (byteCells)

theorem lack_go2 (n j : Nat) (h : j < lack n) : (((n + j : Nat) : Int) % 4 != 0) = true := by rw [bne_iff_ne]; unfold lack at h; omega
theorem lack_end2 (n : Nat) : (((n + lack n : Nat) : Int) % 4 != 0) = false := by rw [bne_eq_false_iff_eq]; unfold lack; omega
theorem text6c (l : List UInt8) : text (sg6 false) (enc 6 l) = basB l := List.map_congr_left fun d hd => basS_sg6 d ((enc_tells (w := 6) (by decide) l).1 d hd)
set_option maxHeartbeats 1000000 in
theorem bits2_c (p : Option Addr) (cp : Nat) (l : List UInt8) (w : World) (hp : In8 w p l) (hl : l.length ≤ 4194304) :
    Calls Tryz.prog 103 #[.slice p l.length cp] w fun e w' =>
      ∃ v, e = .returned v ∧ w'.ownsRow w.heap.size 4 1 v (bitsOf l).length (bools (bitsOf l)) ∧ Below w.heap.size w w' := by
  obtain ⟨i0, hi, hz0, hz1, hz2⟩ := info_parts infoBool
  have HP := Lib.hid hp
  clear hp
  go_enter Tryz.func103, Tryz.ntmps103
  go_wp2
  go_loopg [3, 4] l.length (fun g s3 s4 wx => ∃ k : Nat, k + g = l.length ∧ s4 = .int .i64 k ∧ wx.ownsRow w.heap.size 4 1 s3 (bitsOf (l.take k)).length (bools (bitsOf (l.take k))) ∧ Below w.heap.size w wx)
  case atStart => exact ⟨0, by omega, rfl, World.ownsRow_nil _ _ _ _, Below.refl _ _⟩
  case round =>
    obtain ⟨k, hkg, rfl, hrow, hbx⟩ := hrel
    cases gk with
    | zero =>
      have hkz : ¬ ((k : Int) < (l.length : Int)) := by omega
      have HK : Hid (l.take k = l) := List.take_of_length_le (by omega)
      go_wp2
      go_ret
      have e := HK.out
      rw [e] at hrow
      exact ⟨_, rfl, hrow, hbx⟩
    | succ g =>
      have hkz : (k : Int) < (l.length : Int) := by omega
      obtain ⟨b, o, rfl, hc⟩ := HP.out.at (by omega)
      have hbl : b < w.heap.size := HP.out.blt (by omega)
      have hcell : ∀ wy, Below w.heap.size w wy → wy.cell? ⟨b, o + k, none⟩ = some (.int .u8 ((l.getD k 0).toNat : Int)) := fun wy hy => (hy.cell (p := ⟨b, o + k, none⟩) hbl).trans (hc k (by omega))
      have HC := Lib.hid hcell
      clear hc hcell
      obtain ⟨c, hcd⟩ : ∃ c : UInt8, l.getD k 0 = c := ⟨_, rfl⟩
      have HT : Hid (bitsOf (l.take (k + 1)) = bitsOf (l.take k) ++ bitsN 8 c.toNat) := by
        show _ = _
        rw [List.take_succ_eq_append_getElem (by omega), bitsOf_snoc, ← hcd]; simp [List.getD, List.getElem?_eq_getElem (show k < l.length by omega)]
      have HL : Hid ((bitsOf (l.take k)).length = 8 * k) := by show _ = _; rw [bitsOf_len, List.length_take]; omega
      have hc256 := c.toNat_lt
      rw [hcd] at HC
      clear hcd
      go_wp2
      go_loopg [3, 5] 8 (fun g2 s3 s5 wy => ∃ j : Nat, j + g2 = 8 ∧ s5 = .int .i64 ((128 / 2 ^ j : Nat) : Int) ∧ wy.ownsRow w.heap.size 4 1 s3 (bitsOf (l.take k) ++ (bitsN 8 c.toNat).take j).length (bools (bitsOf (l.take k) ++ (bitsN 8 c.toNat).take j)) ∧ Below w.heap.size w wy)
      case atStart => exact ⟨0, by omega, rfl, by simpa using hrow, hbx⟩
      case round =>
        clear hrow hbx
        obtain ⟨j, hjg, rfl, hrow, hbx⟩ := hrel
        cases gk with
        | zero =>
          obtain rfl : j = 8 := by omega
          go_wp2
          go_roundg g
          case measure => omega
          case rel =>
            refine ⟨k + 1, by omega, by go_num, ?_, hbx⟩
            rw [HT.out]
            rwa [show (bitsN 8 c.toNat).take 8 = bitsN 8 c.toNat from List.take_of_length_le (by simp)] at hrow
        | succ g2 =>
          obtain ⟨h1, h2, h3⟩ := half_at j (by omega)
          have HB := Lib.hid (bit_at c.toNat j (by omega))
          obtain ⟨q1, q2⟩ := quo_bd c.toNat (128 / 2 ^ j) (by omega)
          obtain ⟨hv, hhv⟩ : ∃ hv, 128 / 2 ^ j = hv := ⟨_, rfl⟩
          rw [hhv] at h1 h2 h3 HB q1 q2 ⊢
          have hcw := HC.out _ hbx
          have hlen : (bitsOf (l.take k) ++ (bitsN 8 c.toNat).take j).length ≤ 40000000 := by rw [List.length_append, HL.out, List.length_take]; omega
          have H1 := Lib.hid h1
          clear h1 hhv
          go_wp2_with (first
            | (at_builtin; refine wpList_append_own _ rfl _ _ 130 rfl w.heap.size 4 i0 (.bool false) 1 1 Tryz.underlying130 hi hz0 hz1 hz2 rfl (by decide) _ _ _ rfl (hrow.alloc _) ⟨wr.heap.size, 0, none⟩ 1 1 [.bool ((c.toNat : Int) / (hv : Int) % 2 == 1)] rfl rfl (cell_one_new _ _ _) (fun x hx => by simp at hx; subst hx; rfl) (by unfold maxLen; omega) (by omega) (by have := hbx.size; simp; omega) ?_; intro v' w1 hown' hgrow _))
          go_roundg g2
          case measure => omega
          case rel =>
            refine ⟨j + 1, by omega, ?_, ?_, (hbx.alloc hbx.size _).grown hgrow (by have := hbx.size; simp; omega) (fun q hq => (hrow.lt q hq).1)⟩
            · rw [← H1.out]; simp
            · rw [HB.out, ← List.append_assoc, bools_snoc, List.length_append]
              exact hown'
set_option maxHeartbeats 1000000 in
theorem sixes2_c (p : Option Addr) (cp : Nat) (l : List UInt8) (web : Bool) (w : World) (hp : In8 w p l) (hl : l.length ≤ 4194304) :
    Calls Tryz.prog 74 #[.slice p l.length cp, .bool web] w fun e w' =>
      e = .returned (.string ⟨(text (sg6 web) (enc 6 l)).toArray⟩) ∧ Below w.heap.size w w' := by
  obtain ⟨i0, hi, hz0, hz1, hz2⟩ := info_parts infoBool
  obtain ⟨j0, hj, hy0, hy1, hy2⟩ := info_parts infoByte
  have HP := Lib.hid (bits2_c p cp l w hp hl)
  clear hp
  have HE : Hid (enc 6 l = digs 6 ((8 * l.length + pad6 l.length) / 6) (bitsOf l ++ List.replicate (pad6 l.length) false)) := rfl
  have hP := pad6_lt l.length
  go_enter Tryz.func74, Tryz.ntmps74
  go_wp2_with (go_at_call 103; refine HP.out.mono ?_; rintro e w1 ⟨v, rfl, hown, hb1⟩)
  go_loopg [5] (pad6 l.length) (fun g s5 wx => ∃ j : Nat, j + g = pad6 l.length ∧ wx.ownsRow w.heap.size 4 1 s5 (bitsOf l ++ List.replicate j false).length (bools (bitsOf l ++ List.replicate j false)) ∧ Below w.heap.size w wx)
  case atStart => exact ⟨0, by omega, by simpa using hown, hb1⟩
  case round =>
    clear hown hb1
    obtain ⟨j, hjg, hrow, hbx⟩ := hrel
    obtain ⟨_, p5, c5, rfl, hcap, hshape, hin⟩ := own_inB hrow
    have hlen2 : (bitsOf l ++ List.replicate j false).length = 8 * l.length + j := by rw [List.length_append, bitsOf_len, List.length_replicate]
    cases gk with
    | zero =>
      obtain rfl : j = pad6 l.length := by omega
      have ht := pad6_end l.length
      obtain ⟨L, hL⟩ : ∃ L, bitsOf l ++ List.replicate (pad6 l.length) false = L := ⟨_, rfl⟩
      rw [← hlen2] at ht
      rw [hL] at hrow hin hcap HE ht hlen2 ⊢
      have hq : L.length = 6 * ((8 * l.length + pad6 l.length) / 6) := by omega
      obtain ⟨q, hqd⟩ : ∃ q, (8 * l.length + pad6 l.length) / 6 = q := ⟨_, rfl⟩
      rw [hqd] at hq HE
      have ht2 : (((L.length : Nat) : Int) % 6 != 0) = false := by simp [ht]
      have HQ := Lib.hid hq
      have hLb : L.length ≤ 34000000 := by omega
      have hq3 : q ≤ 34000000 := by omega
      clear hlen2 hL hqd ht hq hrow
      go_wp2_with fail
      obtain ⟨wo, rfl⟩ : ∃ wo : World, wo = wr := ⟨_, rfl⟩
      have HO := Lib.hid hbx
      have HI := Lib.hid hin
      clear hbx hin hshape
      go_loopg [6, 7] q (fun g s6 s7 wy => ∃ k : Nat, k + g = q ∧ s7 = .int .i64 ((6 * k : Nat) : Int) ∧ wy.ownsRow wo.heap.size 5 1 s6 k (byteCells (text (sg6 web) (digs 6 k L))) ∧ Below wo.heap.size wo wy)
      case atStart => exact ⟨0, by omega, rfl, World.ownsRow_nil _ _ _ _, Below.refl _ _⟩
      case round =>
        obtain ⟨k, hkg, rfl, hrow, hbx⟩ := hrel
        cases gk with
        | zero =>
          obtain rfl : k = q := by omega
          have hz : ¬ (((6 * k : Nat) : Int) < ((L.length : Nat) : Int)) := by rw [HQ.out]; omega
          have hcv := conv_own hrow
          rw [← HE.out] at hcv
          go_wp2
          go_ret
          exact ⟨rfl, HO.out.trans (hbx.mono HO.out.size)⟩
        | succ g =>
          have hz : ((6 * k : Nat) : Int) < ((L.length : Nat) : Int) := by rw [HQ.out]; omega
          have hz6 : 6 * k + 6 ≤ L.length := by rw [HQ.out]; omega
          obtain ⟨b, o, rfl, hc⟩ := HI.out (by omega)
          have hlt : b < wo.heap.size := cell_lt (hc 0 (by omega))
          have hM : Hid (((L.drop (6 * k)).take 6).length = 6) := by show _ = _; rw [List.length_take, List.length_drop]; omega
          have hin6 : InB wr (some ⟨b, o + 6 * k, none⟩) ((L.drop (6 * k)).take 6) := fun _ => ⟨b, o + 6 * k, rfl, fun i hi => by
            rw [hM.out] at hi
            rw [show o + 6 * k + i = o + (6 * k + i) from by omega, hbx.cell (p := ⟨b, o + (6 * k + i), none⟩) hlt, hc (6 * k + i) (by omega)]
            simp [List.getD, hi]⟩
          have cN := number_c _ (c5 - 6 * k) _ wr hin6 (by rw [hM.out]; omega)
          rw [hM.out] at cN
          have CN := Lib.hid cN
          have HD := Lib.hid (digs_take 6 k L)
          have hd64 : num ((L.drop (6 * k)).take 6) < 64 := by have := num_lt ((L.drop (6 * k)).take 6); rw [hM.out] at this; omega
          obtain ⟨d, hd⟩ : ∃ d, num ((L.drop (6 * k)).take 6) = d := ⟨_, rfl⟩
          rw [hd] at CN HD hd64
          have HS := Lib.hid (sgn_sg6 d web hd64)
          clear cN hin6 hc hd
          go_wp2_with (first
            | (go_at_call 105; refine CN.out.mono ?_; rintro e w2 ⟨rfl, rfl⟩)
            | (go_at_call 104; refine (sign_c _ web (by omega) (by omega) _).mono ?_; rintro e w2 ⟨rfl, rfl⟩; rw [HS.out])
            | (at_builtin; refine wpList_append_own _ rfl _ _ 81 rfl wo.heap.size 5 j0 (.int .u8 0) 1 1 Tryz.underlying81 hj hy0 hy1 hy2 rfl (by decide) _ _ _ rfl (hrow.alloc _) ⟨wr.heap.size, 0, none⟩ 1 1 [.int .u8 ((sg6 web d).toNat : Int)] rfl rfl (cell_one_new _ _ _) (fun x hx => by simp at hx; subst hx; rfl) (by unfold maxLen; omega) (by omega) (by have := hbx.size; simp; omega) ?_; intro v' w1 hown' hgrow _))
          go_roundg g
          case measure => omega
          case rel =>
            refine ⟨k + 1, by omega, by go_num, ?_, (hbx.alloc hbx.size _).grown hgrow (by have := hbx.size; simp; omega) (fun q hq => (hrow.lt q hq).1)⟩
            rw [HD.out, show text (sg6 web) (digs 6 k L ++ [d]) = text (sg6 web) (digs 6 k L) ++ [sg6 web d] from by simp [text], byteCells_snoc]
            exact hown'
    | succ g =>
      have ht := pad6_go l.length j (by omega)
      rw [← hlen2] at ht
      have ht2 : (((bitsOf l ++ List.replicate j false).length : Nat) : Int) % 6 != 0 := by simpa using ht
      have HS : Hid (bitsOf l ++ List.replicate (j + 1) false = (bitsOf l ++ List.replicate j false) ++ [false]) := by show _ = _; rw [List.append_assoc, ← List.replicate_succ']
      obtain ⟨L, hL⟩ : ∃ L, bitsOf l ++ List.replicate j false = L := ⟨_, rfl⟩
      rw [hL] at hrow hin hcap ht2 hlen2 HS ⊢
      have hLb : L.length ≤ 34000000 := by omega
      clear hL ht hlen2 hin hshape
      go_wp2_with (first
        | (at_builtin; refine wpList_append_own _ rfl _ _ 130 rfl w.heap.size 4 i0 (.bool false) 1 1 Tryz.underlying130 hi hz0 hz1 hz2 rfl (by decide) _ _ _ rfl (hrow.alloc _) ⟨wr.heap.size, 0, none⟩ 1 1 [.bool false] rfl rfl (cell_one_new _ _ _) (fun x hx => by simp at hx; subst hx; rfl) (by unfold maxLen; omega) (by omega) (by have := hbx.size; simp; omega) ?_; intro v' w1 hown' hgrow _))
      go_roundg g
      case measure => omega
      case rel =>
        refine ⟨j + 1, by omega, ?_, (hbx.alloc hbx.size _).grown hgrow (by have := hbx.size; simp; omega) (fun q hq => (hrow.lt q hq).1)⟩
        rw [HS.out, bools_snoc, List.length_append]
        exact hown'
set_option maxHeartbeats 400000 in
theorem rbas2_c (p : Option Addr) (cp : Nat) (l : List UInt8) (w : World) (hp : In8 w p l) (hl : l.length ≤ 4194304) :
    Calls Tryz.prog 44 #[.slice p l.length cp] w fun e w' => e = .returned (.string ⟨(basT l).toArray⟩) ∧ Below w.heap.size w w' := by
  have h := sixes2_c p cp l false w hp hl
  rw [text6c] at h
  have hbl := basB_len l
  obtain ⟨B, hB⟩ : ∃ B, basB l = B := ⟨_, rfl⟩
  have HT : Hid (basT l = B ++ List.replicate (lack B.length) 61) := by show _ = _; rw [← hB]; rfl
  rw [hB] at h hbl
  have hb2 : B.length ≤ 18000000 := by omega
  have hlk : lack B.length ≤ 3 := by unfold lack; omega
  have H := Lib.hid h
  clear h hbl hB
  go_enter Tryz.func44, Tryz.ntmps44
  go_wp2_with (go_at_call 74; refine H.out.mono ?_; rintro e w1 ⟨rfl, hb⟩)
  go_loopg [3] (lack B.length) (fun g s3 wx => ∃ (j : Nat) (X : List UInt8), j + g = lack B.length ∧ s3 = .string ⟨X.toArray⟩ ∧ X.length = B.length + j ∧ Hid (X = B ++ List.replicate j 61) ∧ w1 = wx)
  case atStart => exact ⟨0, B, by omega, rfl, rfl, by show _ = _; simp, rfl⟩
  case round =>
    obtain ⟨j, X, hjg, rfl, hX, HX, rfl⟩ := hrel
    cases gk with
    | zero =>
      obtain rfl : j = lack B.length := by omega
      have ht := lack_end2 B.length
      rw [← hX] at ht
      have HXL := Lib.hid hX
      clear hX
      go_wp2_with fail
      go_ret
      exact ⟨ret_string (by rw [HT.out, HX.out]), hb⟩
    | succ g =>
      have ht := lack_go2 B.length j (by omega)
      rw [← hX] at ht
      have hXb : X.length ≤ 18000010 := by omega
      have HXL := Lib.hid hX
      clear hX
      go_wp2_with fail
      go_roundg g
      case measure => omega
      case rel => exact ⟨j + 1, X ++ [61], by omega, congrArg Value.string (ba_append X [61]), by rw [List.length_append, HXL.out]; rfl, by show _ = _; rw [HX.out, List.append_assoc, ← List.replicate_succ'], rfl⟩
end Go.Proofs.YteihjgakhkpgnaaGreatDoor.oct
namespace Go.Proofs.YteihjgakhkpgnaaGreatDoor.rol
open Go.RowKit
open Go.Proofs.YteihjgakhkpgnaaGreatDoor.oct Go.Proofs.YteihjgakhkpgnaaGreatDoor.ref Go.Proofs.YteihjgakhkpgnaaGreatDoor.rows Go.Proofs.YteihjgakhkpgnaaGreatDoor.rowg Go.Proofs.YteihjgakhkpgnaaGreatDoor.trn
open Go.Proofs.YteihjgakhkpgnaaGreatDoor.fld (quote rquote_l)
set_option maxRecDepth 100000 in
set_option maxHeartbeats 400000 in
theorem rheader_c (id sec : T) (w : World) (h1 : id.length + sec.length ≤ 1048576) :
    Calls Tryz.prog 20 #[.string ⟨id.toArray⟩, .string ⟨sec.toArray⟩] w fun e w' => e = .returned (.string ⟨(headP id sec).toArray⟩) ∧ Below w.heap.size w w' := by
  have l1 := fld.quote_len id
  have l2 := fld.quote_len sec
  have HQ1 := Lib.hid (fun W => rquote_l id W (by omega))
  have HQ2 := Lib.hid (fun W => rquote_l sec W (by omega))
  have HR : Hid (headP id sec = wBas ++ basT (quote id ++ 58 :: quote sec)) := rfl
  obtain ⟨a, ha⟩ : ∃ a, quote id = a := ⟨_, rfl⟩
  obtain ⟨b, hb⟩ : ∃ b, quote sec = b := ⟨_, rfl⟩
  rw [ha] at HQ1 HR l1
  rw [hb] at HQ2 HR l2
  have HCV : Hid (∀ W, ∃ W' cp, (convert 9 81 (.string ((⟨a.toArray⟩ : ByteArray) ++ ⟨#[58]⟩ ++ ⟨b.toArray⟩))).run Tryz.prog W = .ok (.slice (some ⟨W.heap.size, 0, none⟩) (a ++ 58 :: b).length cp) W' ∧ In8 W' (some ⟨W.heap.size, 0, none⟩) (a ++ 58 :: b) ∧ (a ++ 58 :: b).length ≤ cp ∧ Below W.heap.size W W') := Lib.hid fun W => by rw [ba3h]; exact conv_row (a ++ 58 :: b) W
  have hlen : (a ++ 58 :: b).length = a.length + (b.length + 1) := by simp
  have hbl := basT_len (a ++ 58 :: b)
  have hn1 : ¬ (9223372036854775807 < a.length + 1) := by omega
  have hn2 : ¬ (9223372036854775807 < a.length + 1 + b.length) := by omega
  have HBS : Hid (∀ W p cp, In8 W p (a ++ 58 :: b) → Calls Tryz.prog 44 #[.slice p (a ++ 58 :: b).length cp] W fun e w' => e = .returned (.string ⟨(basT (a ++ 58 :: b)).toArray⟩) ∧ Below W.heap.size W w') := Lib.hid fun W p cp hp => rbas2_c p cp _ W hp (by omega)
  have hn3 : ¬ (9223372036854775807 < 6 + (basT (a ++ 58 :: b)).length) := by omega
  obtain ⟨m, hm⟩ : ∃ m, (a ++ 58 :: b).length = m := ⟨_, rfl⟩
  obtain ⟨s, hs⟩ : ∃ s, basT (a ++ 58 :: b) = s := ⟨_, rfl⟩
  rw [hm] at HCV
  rw [hm, hs] at HBS
  rw [hs] at HR hn3
  clear ha hb hlen hbl hm hs l1 l2 h1
  go_enter Tryz.func20, Tryz.ntmps20
  go_wp2_with fail
  refine (HQ1.out _).mono ?_
  rintro e w1 ⟨rfl, hb1⟩
  have HB1 := Lib.hid hb1
  clear hb1
  go_wp2_with fail
  refine (HQ2.out _).mono ?_
  rintro e w2 ⟨rfl, hb2⟩
  have HB2 := Lib.hid (bnext HB1.out hb2)
  obtain ⟨w3, cp, hcv, h8, hcp, hb3⟩ := HCV.out w2
  have HB3 := Lib.hid (bnext HB2.out hb3)
  have HBQ := Lib.hid (HBS.out w3 _ cp h8)
  clear hb2 h8 hcp hb3
  go_wp2_with (go_at_call 44; (with_reducible refine HBQ.out.mono ?_); rintro e w4 ⟨rfl, hb4⟩; have HB4 := Lib.hid (bnext HB3.out hb4); clear hb4)
  go_ret
  exact ⟨by rw [HR.out, ← ba2h]; rfl, HB4.out⟩
end Go.Proofs.YteihjgakhkpgnaaGreatDoor.rol

namespace Go.Proofs.YteihjgakhkpgnaaGreatDoor.fld
open Go.RowKit
open Go.Proofs.YteihjgakhkpgnaaGreatDoor.oct Go.Proofs.YteihjgakhkpgnaaGreatDoor.ref
open Go.Lib (byteCells)

set_option maxRecDepth 100000 in
set_option maxHeartbeats 1000000 in
theorem fworth_c (c : UInt8) (w : World) : Calls Tryz.prog 95 #[.int .u8 (c.toNat : Int)] w fun e w' => e = .returned (.int .i64 (worth c : Nat)) ∧ w = w' := by
  have hc := c.toNat_lt
  have HW := Lib.hid (worth_eq c)
  have hwl := worth_le c
  go_enter Tryz.func95, Tryz.ntmps95
  go_wp2_with fail
  go_loop [3] (fun i => ∃ n : Nat, n ≤ 16 ∧ i = .int .i64 n ∧ n ≤ worth c) (fun i => 16 - (intOf i).toNat)
  case atStart => exact ⟨0, by omega, rfl, by omega⟩
  case round =>
    obtain ⟨n, hn, rfl, hle⟩ := hrel
    by_cases hlt : n < 16
    · have HS := Lib.hid (sign_c n hlt w)
      have HWN := Lib.hid (HW.out n hlt)
      obtain ⟨x, hx⟩ : ∃ x, (sg n).toNat = x := ⟨_, rfl⟩
      obtain ⟨y, hy⟩ : ∃ y, c.toNat = y := ⟨_, rfl⟩
      rw [hx] at HS HWN
      rw [hy] at HWN hc ⊢
      have HY := Lib.hid hy
      clear hx hy
      by_cases he : worth c = n
      · by_cases h1 : x = y
        · have hb : ((x : Int) == (y : Int)) = true := by rw [beq_iff_eq]; omega
          go_wp2_with (go_at_call 76; refine HS.out.mono ?_; rintro e w' ⟨rfl, rfl⟩)
          go_ret
          exact ⟨ret_int (by rw [he]), rfl⟩
        · have hb : ((x : Int) == (y : Int)) = false := by rw [beq_eq_false_iff_ne]; omega
          have h9 : 9 < n ∧ 87 + n = y := (HWN.out.1 he).resolve_left h1
          have hi9 : (n : Int) > 9 := by omega
          have hb2 : (87 + (n : Int) == (y : Int)) = true := by rw [beq_iff_eq]; omega
          go_wp2_with (go_at_call 76; refine HS.out.mono ?_; rintro e w' ⟨rfl, rfl⟩)
          go_ret
          exact ⟨ret_int (by rw [he]), rfl⟩
      · have h1 : ¬ x = y := fun h => he (HWN.out.2 (Or.inl h))
        have hb : ((x : Int) == (y : Int)) = false := by rw [beq_eq_false_iff_ne]; omega
        by_cases h9 : 9 < n
        · have h2 : ¬ 87 + n = y := fun h => he (HWN.out.2 (Or.inr ⟨h9, h⟩))
          have hi9 : (n : Int) > 9 := by omega
          have hb2 : (87 + (n : Int) == (y : Int)) = false := by rw [beq_eq_false_iff_ne]; omega
          go_wp2_with (go_at_call 76; refine HS.out.mono ?_; rintro e w' ⟨rfl, rfl⟩)
          go_round
          case rel => exact ⟨n + 1, by omega, by go_num, by omega⟩
          case measure => simp [intOf]; omega
        · have hi9 : ¬ ((n : Int) > 9) := by omega
          go_wp2_with (go_at_call 76; refine HS.out.mono ?_; rintro e w' ⟨rfl, rfl⟩)
          go_round
          case rel => exact ⟨n + 1, by omega, by go_num, by omega⟩
          case measure => simp [intOf]; omega
    · obtain rfl : n = 16 := by omega
      go_wp2_with fail
      go_ret
      exact ⟨ret_int (by omega), rfl⟩
theorem fworth_q (c : UInt8) (m : Int) (hm : m = (c.toNat : Int)) (w : World) : Calls Tryz.prog 95 #[.int .u8 m] w fun e w' => e = .returned (.int .i64 (worth c : Nat)) ∧ w' = w := by
  subst hm; exact (fworth_c c w).mono fun e w' ⟨a, b⟩ => ⟨a, b.symm⟩
set_option maxRecDepth 100000 in
set_option maxHeartbeats 4000000 in
theorem runq_c (s : ByteArray) (w : World) (hs : s.size ≤ 140737488351232) :
    Calls Tryz.prog 66 #[.string s] w fun e w' => e = .returned (unqV (unq s.data.toList)) ∧ Below w.heap.size w w' := by
  have HSL : Hid (s.data.toList.length = s.size) := by show _ = _; rw [Array.length_toList]; rfl
  go_enter Tryz.func66, Tryz.ntmps66
  go_wp2_with fail
  go_loopg [4, 5] s.size (fun g s4 s5 wx => ∃ (k : Nat) (acc : List UInt8), k + g = s.size ∧ s5 = .int .i64 k ∧ acc.length ≤ k ∧ Hid (unq s.data.toList = (unq (s.data.toList.drop k)).map (acc ++ ·)) ∧ wx.ownsRow w.heap.size 5 1 s4 acc.length (byteCells acc) ∧ Below w.heap.size w wx)
  case atStart => exact ⟨0, [], by omega, rfl, Nat.le_refl _, by show _ = _; simp, World.ownsRow_nil _ _ _ _, Below.refl _ _⟩
  case round =>
    obtain ⟨k, acc, hkg, rfl, hal, HU, hrow, hbx⟩ := hrel
    by_cases hg0 : gk = 0
    · have hkz : ¬ ((k : Int) < (s.size : Int)) := by omega
      have HR : Hid (unq s.data.toList = some acc) := by
        show _ = _
        rw [HU.out, List.drop_of_length_le (by rw [HSL.out]; omega)]
        simp [unq]
      have hc := conv_own hrow
      have HBX := Lib.hid hbx
      clear HU hrow hbx
      go_wp2_with fail
      go_ret2
      exact ⟨by rw [HR.out]; rfl, HBX.out⟩
    · have hkz : (k : Int) < (s.size : Int) := by omega
      have hks : k < s.size := by omega
      have HD := Lib.hid (drop_text s k hks)
      obtain ⟨c, hc⟩ : ∃ c, s[k] = c := ⟨_, rfl⟩
      rw [hc] at HD
      have hcl := c.toNat_lt
      have hcc : (s[k].toNat : Int) = (c.toNat : Int) := by rw [hc]
      have HBX := Lib.hid hbx
      by_cases hbad : c.toNat < 33 ∨ 126 < c.toNat
      · have HR : Hid (unq s.data.toList = none) := by show _ = _; rw [HU.out, HD.out, unq_bad hbad]; rfl
        clear HU HD hrow hbx
        rcases hbad with h | h
        · have hI : (c.toNat : Int) < 33 := by omega
          go_wp2_with fail
          go_ret2
          exact ⟨by rw [HR.out]; rfl, HBX.out⟩
        · have hI : (c.toNat : Int) > 126 := by omega
          have hI2 : ¬ ((c.toNat : Int) < 33) := by omega
          go_wp2_with fail
          go_ret2
          exact ⟨by rw [HR.out]; rfl, HBX.out⟩
      · have hI : ¬ ((c.toNat : Int) > 126) := by omega
        have hI2 : ¬ ((c.toNat : Int) < 33) := by omega
        by_cases h37 : c = 37
        · have hb37 : ((c.toNat : Int) == 37) = true := by rw [h37]; rfl
          by_cases hend : s.size ≤ k + 2
          · have hE : (k : Int) + 2 ≥ (s.size : Int) := by omega
            have HR : Hid (unq s.data.toList = none) := by
              show _ = _
              rw [HU.out, HD.out, h37, unq_pct_end (by rw [List.length_drop, HSL.out]; omega)]; rfl
            clear HU HD hrow hbx hbad h37
            go_wp2_with fail
            go_ret2
            exact ⟨by rw [HR.out]; rfl, HBX.out⟩
          · have hE : ¬ ((k : Int) + 2 ≥ (s.size : Int)) := by omega
            have hk1 : k + 1 < s.size := by omega
            have hk2 : k + 2 < s.size := by omega
            have hd1 := drop_text s (k + 1) hk1
            have hd2 := drop_text s (k + 2) hk2
            obtain ⟨a, ha⟩ : ∃ a, s[k + 1] = a := ⟨_, rfl⟩
            obtain ⟨b, hb⟩ : ∃ b, s[k + 2] = b := ⟨_, rfl⟩
            rw [ha] at hd1
            rw [hb] at hd2
            have HD2 : Hid (s.data.toList.drop k = 37 :: a :: b :: s.data.toList.drop (k + 3)) := by show _ = _; rw [HD.out, hd1, hd2, h37]
            have haa : (s[k + 1].toNat : Int) = (a.toNat : Int) := by rw [ha]
            have hbb : (s[k + 2].toNat : Int) = (b.toNat : Int) := by rw [hb]
            have HWA := Lib.hid (fun w => fworth_q a (a.toNat : Int) rfl w)
            have HWB := Lib.hid (fun w => fworth_q b (b.toNat : Int) rfl w)
            have ha16 := worth_le a
            have hb16 := worth_le b
            have HWD : Hid (¬ (worth a < 16 ∧ worth b < 16) → unq s.data.toList = none) := fun hn => by rw [HU.out, HD2.out, unq_pct_bad hn]; rfl
            have HWO : Hid (worth a < 16 → worth b < 16 → unq s.data.toList = (unq (s.data.toList.drop (k + 3))).map ((acc ++ [UInt8.ofNat (16 * worth a + worth b)]) ++ ·)) := fun x y => by rw [HU.out, HD2.out, unq_pct x y, map_snoc]
            obtain ⟨x, hx⟩ : ∃ x, worth a = x := ⟨_, rfl⟩
            obtain ⟨y, hy⟩ : ∃ y, worth b = y := ⟨_, rfl⟩
            rw [hx] at HWA HWD HWO ha16
            rw [hy] at HWB HWD HWO hb16
            clear HU HD HD2 hd1 hd2 hx hy h37 hbad
            by_cases hx16 : x < 16
            · have hxI : ¬ ((x : Int) > 15) := by omega
              by_cases hy16 : y < 16
              · have hyI : ¬ ((y : Int) > 15) := by omega
                have HN := Lib.hid (HWO.out hx16 hy16)
                have hdn : (UInt8.ofNat (16 * x + y)).toNat = 16 * x + y := by rw [UInt8.toNat_ofNat', Nat.mod_eq_of_lt (by omega)]
                obtain ⟨d, hd⟩ : ∃ d, UInt8.ofNat (16 * x + y) = d := ⟨_, rfl⟩
                rw [hd] at HN hdn
                have HCD : Hid (#[Value.int .u8 (16 * (x : Int) + (y : Int))] = (byteCells [d]).toArray) := by
                  show #[Value.int .u8 (16 * (x : Int) + (y : Int))] = #[Value.int .u8 (d.toNat : Int)]
                  rw [show 16 * (x : Int) + (y : Int) = (d.toNat : Int) by omega]
                have m1 : IntKind.i64.wrap (16 * (x : Int)) = 16 * (x : Int) := by rw [IntKind.wrap_i64]; omega
                have m2 : IntKind.i64.wrap (16 * (x : Int) + (y : Int)) = (d.toNat : Int) := by rw [IntKind.wrap_i64]; omega
                have m3 : IntKind.u8.wrap (d.toNat : Int) = (d.toNat : Int) := wraps_u8 _ (by omega) (by omega)
                have m4 : IntKind.i64.wrap ((k : Int) + 1) = (k : Int) + 1 := by rw [IntKind.wrap_i64]; omega
                have m5 : IntKind.i64.wrap ((k : Int) + 2) = (k : Int) + 2 := by rw [IntKind.wrap_i64]; omega
                have m6 : (0 : Int) ≤ (k : Int) + 1 ∧ (k : Int) + 1 < (s.size : Int) := by omega
                have m7 : (0 : Int) ≤ (k : Int) + 2 ∧ (k : Int) + 2 < (s.size : Int) := by omega
                have m8 : ((k : Int) + 1).toNat = k + 1 := by omega
                have m9 : ((k : Int) + 2).toNat = k + 2 := by omega
                clear hd HWD HWO
                go_wp2_with fail
                refine (HWA.out wr).mono ?_
                rintro e w' ⟨rfl, rfl⟩
                go_wp2_with fail
                refine (HWB.out _).mono ?_
                rintro e w' ⟨rfl, rfl⟩
                go_wp2_with fail
                go_quiet ((first | (go_at_call_of 95 (Value.int .u8 (a.toNat : Int)); exact Calls.quiet_of_same (HWA.out _)) | (go_at_call 95; exact Calls.quiet_of_same (HWB.out _))))
                have hrn : (w'.drewN nq).ownsRow w.heap.size 5 1 u4 acc.length (byteCells acc) := hrow
                have hbn := below_drewN hbx nq
                obtain ⟨wn, hwn⟩ : ∃ x, x = w'.drewN nq := ⟨_, rfl⟩
                rw [← hwn] at hrn hbn ⊢
                clear hrow hbx hwn
                go_wp2_with (at_builtin; (refine wpList_append_one rfl (.tmp 62) (.tmp 64) rfl w.heap.size _ acc.length acc rfl hrn d _ HCD.out rfl (by omega) hbn.size ?_); intro g7 c7 w7 hn7 hg7 ho7 hl7; have hb7 := hbn.grown hg7 hbn.size (fun x hx => (hrn.lt _ hx).1); clear hg7 ho7)
                go_roundg (gk - 3)
                case measure => omega
                case rel => exact ⟨k + 3, acc ++ [d], by omega, by go_num, by simp; omega, HN, by rw [List.length_append]; exact hn7, hb7⟩
              · have hyI : (y : Int) > 15 := by omega
                have HR := Lib.hid (HWD.out (by omega))
                clear hrow hbx HWD HWO
                go_wp2_with fail
                refine (HWA.out wr).mono ?_
                rintro e w' ⟨rfl, rfl⟩
                go_wp2_with fail
                refine (HWB.out _).mono ?_
                rintro e w' ⟨rfl, rfl⟩
                go_wp2_with fail
                go_ret2
                exact ⟨by rw [HR.out]; rfl, HBX.out⟩
            · have hxI : (x : Int) > 15 := by omega
              have HR := Lib.hid (HWD.out (by omega))
              clear hrow hbx HWD HWO
              go_wp2_with fail
              refine (HWA.out wr).mono ?_
              rintro e w' ⟨rfl, rfl⟩
              go_wp2_with fail
              go_ret2
              exact ⟨by rw [HR.out]; rfl, HBX.out⟩
        · have hb37 : ((c.toNat : Int) == 37) = false := ne_byte h37
          have HUE := Lib.hid (unq_else (r := s.data.toList.drop (k + 1)) hbad h37)
          by_cases h43 : c = 43
          · have hb43 : ((c.toNat : Int) == 43) = true := by rw [h43]; rfl
            have HN : Hid (unq s.data.toList = (unq (s.data.toList.drop (k + 1))).map ((acc ++ [32]) ++ ·)) := by show _ = _; rw [HU.out, HD.out, HUE.out, if_pos h43, map_snoc]
            clear HU HD HUE hbad h37 h43
            go_wp2_with (at_builtin; (refine wpList_append_one rfl (.tmp 62) (.tmp 64) rfl w.heap.size _ acc.length acc rfl hrow 32 _ rfl rfl (by omega) hbx.size ?_); intro g7 c7 w7 hn7 hg7 ho7 hl7; have hb7 := hbx.grown hg7 hbx.size (fun x hx => (hrow.lt _ hx).1); clear hg7 ho7)
            go_roundg (gk - 1)
            case measure => omega
            case rel => exact ⟨k + 1, acc ++ [32], by omega, by go_num, by simp; omega, HN, by rw [List.length_append]; exact hn7, hb7⟩
          · have hb43 : ((c.toNat : Int) == 43) = false := ne_byte h43
            have HN : Hid (unq s.data.toList = (unq (s.data.toList.drop (k + 1))).map ((acc ++ [c]) ++ ·)) := by show _ = _; rw [HU.out, HD.out, HUE.out, if_neg h43, map_snoc]
            clear HU HD HUE hbad h37 h43
            go_wp2_with (at_builtin; (refine wpList_append_one rfl (.tmp 62) (.tmp 64) rfl w.heap.size _ acc.length acc rfl hrow c _ rfl rfl (by omega) hbx.size ?_); intro g7 c7 w7 hn7 hg7 ho7 hl7; have hb7 := hbx.grown hg7 hbx.size (fun x hx => (hrow.lt _ hx).1); clear hg7 ho7)
            go_roundg (gk - 1)
            case measure => omega
            case rel => exact ⟨k + 1, acc ++ [c], by omega, by go_num, by simp; omega, HN, by rw [List.length_append]; exact hn7, hb7⟩
end Go.Proofs.YteihjgakhkpgnaaGreatDoor.fld

namespace Go.Proofs.YteihjgakhkpgnaaGreatDoor.rol
open Go.RowKit
open Go.Proofs.YteihjgakhkpgnaaGreatDoor.oct Go.Proofs.YteihjgakhkpgnaaGreatDoor.ref Go.Proofs.YteihjgakhkpgnaaGreatDoor.rows Go.Proofs.YteihjgakhkpgnaaGreatDoor.rowg Go.Proofs.YteihjgakhkpgnaaGreatDoor.trn
open Go.Proofs.YteihjgakhkpgnaaGreatDoor.scp (tx Lst lval)
open Go.Proofs.YteihjgakhkpgnaaGreatDoor.fld (quote unq unqV)
open Go.Lib (byteCells)

theorem w8_take {w : World} {b o : Nat} {l : T} (h : In8 w (some ⟨b, o, none⟩) l) (k : Nat) : In8 w (some ⟨b, o, none⟩) (l.take k) := fun hp => by
  have hl : 0 < l.length := by rw [List.length_take] at hp; omega
  obtain ⟨b2, o2, e, hc⟩ := h hl
  refine ⟨b2, o2, e, fun i hi => ?_⟩
  rw [List.length_take] at hi
  rw [hc i (by omega)]
  simp [List.getD, show i < k by omega]
theorem w8_drop {w : World} {b o : Nat} {l : T} (h : In8 w (some ⟨b, o, none⟩) l) (k : Nat) : In8 w (some ⟨b, o + k, none⟩) (l.drop k) := fun hp => by
  rw [List.length_drop] at hp
  obtain ⟨b2, o2, e, hc⟩ := h (by omega)
  cases e
  refine ⟨_, _, rfl, fun i hi => ?_⟩
  rw [List.length_drop] at hi
  rw [Nat.add_assoc, hc (k + i) (by omega)]
  simp [List.getD, List.getElem?_drop]
theorem cut_at {o : T} {k : Nat} (hk : k < o.length) (h : ∀ c ∈ o.take k, c ≠ 58) (he : o.getD k 0 = 58) : shownB o = unq2 (o.take k, o.drop (k + 1)) := by
  have e1 : o = o.take k ++ 58 :: o.drop (k + 1) := by
    have h1 : o.getD k 0 = o[k] := by simp [List.getD, List.getElem?_eq_getElem hk]
    rw [← he, h1, List.getElem_cons_drop, List.take_append_drop]
  have hn : (58 : UInt8) ∉ o.take k := fun hm => h _ hm rfl
  obtain ⟨t1, t2⟩ := tw_app (o.take k) (o.drop (k + 1)) hn
  rw [← e1] at t1 t2
  unfold shownB cutC
  rw [if_pos (by rw [e1]; simp), t1, t2]
theorem own_row9 {w : World} {B n c : Nat} {p : Option Addr} {l : T} (h : w.ownsRow B 5 1 (.slice p n c) n (byteCells l)) : In8 w p l ∧ l.length ≤ c ∧ l.length = n := by
  have hlen : l.length = n := by have := h.1; rw [byteCells_len] at this; omega
  obtain ⟨p2, c2, e, h8⟩ := own_in8' h
  injection e with e1 e2 e3
  subst e1
  refine ⟨h8, ?_, hlen⟩
  rcases h.2 with ⟨h1, h2⟩ | ⟨g, cap, cur, h1, _, h3, h5, _⟩
  · omega
  · injection h1 with _ _ e3; omega
theorem cut_no {o : T} (h : ∀ c ∈ o, c ≠ 58) : shownB o = none := by
  unfold shownB
  rw [if_neg fun hm => h _ hm rfl]
theorem runq_l (l : T) (w : World) (hs : l.length ≤ 140737488351232) :
    Calls Tryz.prog 66 #[.string ⟨l.toArray⟩] w fun e w' => e = .returned (unqV (unq l)) ∧ Below w.heap.size w w' := by
  have h := fld.runq_c ⟨l.toArray⟩ w (by rw [size_mk]; exact hs)
  have e : (⟨l.toArray⟩ : ByteArray).data.toList = l := by simp
  rw [e] at h
  exact h
set_option maxRecDepth 100000 in
set_option maxHeartbeats 1000000 in
theorem rshown_c (s : T) (w : World) (hs : s.length ≤ 1048576) : Calls Tryz.prog 41 #[.string ⟨s.toArray⟩] w fun e w' => ShownA (shownP s) e ∧ Below w.heap.size w w' := by
  have hss : (⟨s.toArray⟩ : ByteArray).size = s.length := size_mk s
  have hsf := suffix_eq s
  have hpf := prefix_eq s
  by_cases hb : s.take 6 = wBas
  · have h6 : 6 ≤ s.length := by have := congrArg List.length hb; rw [List.length_take] at this; have h2 : wBas.length = 6 := rfl; omega
    have HSH := Lib.hid (shown_some hb)
    have i6 : decide ((s.length : Int) < 6) = false := decide_eq_false (by omega)
    have i6n : decide (s.length < 6) = false := decide_eq_false (by omega)
    have hq : (s.take 6 == wBas) = true := by rw [hb]; rfl
    have hq2 : (s.take 6 != wBas) = false := by rw [hb]; rfl
    unfold wBas at hq hq2
    have hdl : (s.drop 6).length ≤ 1048576 := by rw [List.length_drop]; omega
    have HUB := Lib.hid (fun W => runbas_c ⟨(s.drop 6).toArray⟩ W (by rw [size_mk]; omega))
    have e0 : (⟨(s.drop 6).toArray⟩ : ByteArray).data.toList = s.drop 6 := by simp
    rw [e0] at HUB
    obtain ⟨d, hd⟩ : ∃ d, s.drop 6 = d := ⟨_, rfl⟩
    rw [hd] at HUB HSH hdl hsf
    obtain ⟨res, hres⟩ : ∃ res, shownP s = res := ⟨_, rfl⟩
    rw [hres] at HSH ⊢
    have HDL := Lib.hid hdl
    clear hb e0 hd hs hres hdl
    go_enter Tryz.func41, Tryz.ntmps41
    go_wp2_with fail
    refine (HUB.out _).mono ?_
    rintro e w1 (⟨o, v, ho, rfl, hown, hb1⟩ | ⟨hno, rfl, hb1⟩)
    · have HB1 := Lib.hid hb1
      have hu := unbas_of ho
      have hol : o.length ≤ 1048576 := by
        have h1 := basT_len o
        rw [ho] at h1
        have := HDL.out
        omega
      have HR : Hid (res = shownB o) := Lib.hid (by rw [HSH.out, hu])
      obtain ⟨_, p, cp, rfl, _⟩ := own_in8 hown
      obtain ⟨h8, hcp, _⟩ := own_row9 hown
      have H8 := Lib.hid h8
      obtain ⟨m, hm⟩ : ∃ m, o.length = m := ⟨_, rfl⟩
      have HM := Lib.hid hm
      rw [hm] at hol hcp ⊢
      clear hu hown hb1 ho hm h8 HUB
      go_wp2_with fail
      go_loopg [7] m (fun g s7 wx => ∃ k : Nat, k + g = m ∧ s7 = .int .i64 k ∧ Hid (∀ c ∈ o.take k, c ≠ 58) ∧ wx = w1)
      case atStart => exact ⟨0, by omega, rfl, Lib.hid (by simp), rfl⟩
      case round =>
        obtain ⟨k, hkg, rfl, HI, rfl⟩ := hrel
        rcases gk with _ | g
        · obtain rfl : k = m := by omega
          have HR2 : Hid (res = none) := Lib.hid (by
            have h := HI.out
            rw [← HM.out, List.take_length] at h
            rw [HR.out, cut_no h])
          go_wp2_with fail
          go_ret3
          rw [HR2.out]
          exact ⟨⟨[], [], rfl, by simp, by simp⟩, HB1.out⟩
        · have hk : k < o.length := by rw [HM.out]; omega
          have hkI : (k : Int) < (m : Int) := by omega
          obtain ⟨b, oo, hP, hc⟩ := H8.out.at (by omega)
          subst hP
          have hck := hc k hk
          by_cases he : o.getD k 0 = 58
          · have HR1 : Hid (res = unq2 (o.take k, o.drop (k + 1))) := Lib.hid (by rw [HR.out]; exact cut_at hk HI.out he)
            have i1 : k ≤ cp := by omega
            have i1I : (k : Int) ≤ (cp : Int) := by omega
            have i2 : k + 1 ≤ m := by omega
            have i2I : (k : Int) + 1 ≤ (m : Int) := by omega
            have hcv1 := conv_in8 (w8_take H8.out k) (Or.inr ⟨_, _, rfl⟩) cp
            have HC2 : Hid (∀ W, Below wr.heap.size wr W → (convert 81 9 (.slice (some ⟨b, oo + (k + 1), none⟩) (o.drop (k + 1)).length (cp - (k + 1)))).run Tryz.prog W = .ok (.string ⟨(o.drop (k + 1)).toArray⟩) W) := Lib.hid fun W hW => conv_in8 (w8_drop (H8.out.below hW) (k + 1)) (Or.inr ⟨_, _, rfl⟩) _
            rw [show (o.take k).length = k by rw [List.length_take]; omega] at hcv1
            rw [show (o.drop (k + 1)).length = m - (k + 1) by rw [List.length_drop, HM.out]] at HC2
            have ht1 : (o.take k).length ≤ 1048576 := by rw [List.length_take]; omega
            have ht2 : (o.drop (k + 1)).length ≤ 1048576 := by rw [List.length_drop, HM.out]; omega
            have HU1 := Lib.hid (fun W => runq_l (o.take k) W (by omega))
            have HU2 := Lib.hid (fun W => runq_l (o.drop (k + 1)) W (by omega))
            obtain ⟨x1, hx1⟩ : ∃ x, o.take k = x := ⟨_, rfl⟩
            obtain ⟨x2, hx2⟩ : ∃ x, o.drop (k + 1) = x := ⟨_, rfl⟩
            rw [hx1] at HU1 hcv1 ht1 HR1
            rw [hx2] at HU2 HC2 ht2 HR1
            rw [he] at hck
            replace hck : wr.cell? ⟨b, oo + k, none⟩ = some (.int .u8 58) := hck
            have HT1 := Lib.hid ht1
            have HT2 := Lib.hid ht2
            have HX2 := Lib.hid hx2
            clear hx1 hx2 ht1 ht2 hc he HI H8 HR hk
            by_cases hce : cp = k + 1
            · subst hce
              obtain rfl : m = k + 1 := by omega
              have hx0 : x2 = [] := List.eq_nil_of_length_eq_zero (by rw [← HX2.out, List.length_drop, HM.out]; omega)
              subst hx0
              have HC3 : Hid (∀ W : World, (convert 81 9 (.slice (some ⟨b, oo, none⟩) (k + 1 - (k + 1)) 0)).run Tryz.prog W = .ok (.string ⟨#[]⟩) W) := Lib.hid fun W => by
                rw [Nat.sub_self]
                exact conv_in8 (l := []) (fun h => absurd h (by simp)) (Or.inr ⟨_, _, rfl⟩) 0
              have HC4 : Hid (∀ W : World, (convert 81 9 (.slice (some ⟨b, oo, none⟩) 0 0)).run Tryz.prog W = .ok (.string ⟨#[]⟩) W) := Lib.hid fun W => conv_in8 (l := []) (fun h => absurd h (by simp)) (Or.inr ⟨_, _, rfl⟩) 0
              have hn0 : unq ([] : T) = some [] := by unfold unq; rfl
              rw [unqV_some [] [] hn0] at HU2
              clear HC2 HX2
              cases hq1 : unq x1 with
              | none =>
                rw [unqV_none x1 hq1] at HU1
                have HR2 : Hid (res = none) := Lib.hid (by rw [HR1.out]; unfold unq2; rw [hq1])
                clear hq1 HR1
                go_wp2_with (first
                  | (go_at_call_of 66 (Value.string ⟨x1.toArray⟩); (with_reducible refine (HU1.out _).mono ?_); rintro e w3 ⟨rfl, hb3⟩; have HB3 := Lib.hid (bnext HB1.out hb3); have hcv3 := HC3.out w3; have hcv4 := HC4.out w3; clear hb3)
                  | (go_at_call_of 66 (Value.string ⟨#[]⟩); (with_reducible refine (HU2.out _).mono ?_); rintro e w4 ⟨rfl, hb4⟩; have HB4 := Lib.hid (bnext HB3.out hb4); clear hb4))
                go_ret3
                rw [HR2.out]
                exact ⟨⟨[], [], rfl, by simp, by simp⟩, HB4.out⟩
              | some y1 =>
                rw [unqV_some x1 y1 hq1] at HU1
                have HR2 : Hid (res = some (y1, [])) := Lib.hid (by rw [HR1.out]; unfold unq2; rw [hq1, hn0])
                clear hq1 HR1
                go_wp2_with (first
                  | (go_at_call_of 66 (Value.string ⟨x1.toArray⟩); (with_reducible refine (HU1.out _).mono ?_); rintro e w3 ⟨rfl, hb3⟩; have HB3 := Lib.hid (bnext HB1.out hb3); have hcv3 := HC3.out w3; have hcv4 := HC4.out w3; clear hb3)
                  | (go_at_call_of 66 (Value.string ⟨#[]⟩); (with_reducible refine (HU2.out _).mono ?_); rintro e w4 ⟨rfl, hb4⟩; have HB4 := Lib.hid (bnext HB3.out hb4); clear hb4))
                go_ret3
                rw [HR2.out]
                exact ⟨rfl, HB4.out⟩
            clear HX2
            have hcz : decide (cp = k + 1) = false := decide_eq_false hce
            have hcz2 : decide (cp - (k + 1) = 0) = false := decide_eq_false (by omega)
            cases hq1 : unq x1 with
            | none =>
              rw [unqV_none x1 hq1] at HU1
              have HR2 : Hid (res = none) := Lib.hid (by rw [HR1.out]; unfold unq2; rw [hq1])
              clear hq1 HR1
              cases hq2 : unq x2 with
              | none =>
                rw [unqV_none x2 hq2] at HU2
                clear hq2
                go_wp2_with (first
                  | (go_at_call_of 66 (Value.string ⟨x1.toArray⟩); (with_reducible refine (HU1.out _).mono ?_); rintro e w3 ⟨rfl, hb3⟩; have HB3 := Lib.hid (bnext HB1.out hb3); have hcv2 := HC2.out w3 hb3; clear hb3)
                  | (go_at_call_of 66 (Value.string ⟨x2.toArray⟩); (with_reducible refine (HU2.out _).mono ?_); rintro e w4 ⟨rfl, hb4⟩; have HB4 := Lib.hid (bnext HB3.out hb4); clear hb4))
                go_ret3
                rw [HR2.out]
                exact ⟨⟨[], [], rfl, by simp, by simp⟩, HB4.out⟩
              | some y2 =>
                rw [unqV_some x2 y2 hq2] at HU2
                have HL2 := Lib.hid (unq_le hq2)
                clear hq2
                go_wp2_with (first
                  | (go_at_call_of 66 (Value.string ⟨x1.toArray⟩); (with_reducible refine (HU1.out _).mono ?_); rintro e w3 ⟨rfl, hb3⟩; have HB3 := Lib.hid (bnext HB1.out hb3); have hcv2 := HC2.out w3 hb3; clear hb3)
                  | (go_at_call_of 66 (Value.string ⟨x2.toArray⟩); (with_reducible refine (HU2.out _).mono ?_); rintro e w4 ⟨rfl, hb4⟩; have HB4 := Lib.hid (bnext HB3.out hb4); clear hb4))
                go_ret3
                rw [HR2.out]
                exact ⟨⟨[], y2, rfl, by simp, by have := HL2.out; have := HT2.out; omega⟩, HB4.out⟩
            | some y1 =>
              rw [unqV_some x1 y1 hq1] at HU1
              have HL1 := Lib.hid (unq_le hq1)
              cases hq2 : unq x2 with
              | none =>
                have HR2 : Hid (res = none) := Lib.hid (by rw [HR1.out]; unfold unq2; rw [hq1, hq2])
                rw [unqV_none x2 hq2] at HU2
                clear hq1 hq2 HR1
                go_wp2_with (first
                  | (go_at_call_of 66 (Value.string ⟨x1.toArray⟩); (with_reducible refine (HU1.out _).mono ?_); rintro e w3 ⟨rfl, hb3⟩; have HB3 := Lib.hid (bnext HB1.out hb3); have hcv2 := HC2.out w3 hb3; clear hb3)
                  | (go_at_call_of 66 (Value.string ⟨x2.toArray⟩); (with_reducible refine (HU2.out _).mono ?_); rintro e w4 ⟨rfl, hb4⟩; have HB4 := Lib.hid (bnext HB3.out hb4); clear hb4))
                go_ret3
                rw [HR2.out]
                exact ⟨⟨y1, [], rfl, by have := HL1.out; have := HT1.out; omega, by simp⟩, HB4.out⟩
              | some y2 =>
                have HR2 : Hid (res = some (y1, y2)) := Lib.hid (by rw [HR1.out]; unfold unq2; rw [hq1, hq2])
                rw [unqV_some x2 y2 hq2] at HU2
                clear hq1 hq2 HR1
                go_wp2_with (first
                  | (go_at_call_of 66 (Value.string ⟨x1.toArray⟩); (with_reducible refine (HU1.out _).mono ?_); rintro e w3 ⟨rfl, hb3⟩; have HB3 := Lib.hid (bnext HB1.out hb3); have hcv2 := HC2.out w3 hb3; clear hb3)
                  | (go_at_call_of 66 (Value.string ⟨x2.toArray⟩); (with_reducible refine (HU2.out _).mono ?_); rintro e w4 ⟨rfl, hb4⟩; have HB4 := Lib.hid (bnext HB3.out hb4); clear hb4))
                go_ret3
                rw [HR2.out]
                exact ⟨rfl, HB4.out⟩
          · have HNX : Hid (∀ c ∈ o.take (k + 1), c ≠ 58) := Lib.hid fun c hm => by
              rw [List.take_succ_eq_append_getElem hk] at hm
              rcases List.mem_append.1 hm with h | h
              · exact HI.out c h
              · rw [List.mem_singleton.1 h]
                have h1 : o.getD k 0 = o[k] := by simp [List.getD, List.getElem?_eq_getElem hk]
                rw [h1] at he
                exact he
            obtain ⟨x, hx⟩ : ∃ x, o.getD k 0 = x := ⟨_, rfl⟩
            rw [hx] at he hck
            have hb : decide ((x.toNat : Int) = 58) = false := decide_eq_false fun e => he (by
              have h1 : x.toNat = 58 := by omega
              exact UInt8.toNat_inj.1 h1)
            have hb2 : ((x.toNat : Int) == 58) = false := by simpa using hb
            clear hc he hx HI HR hk
            go_wp2_with fail
            go_roundg g
            case measure => omega
            case rel => exact ⟨k + 1, by omega, by go_num, HNX, rfl⟩
    · have hu := unbas_no hno
      have HR : Hid (res = none) := Lib.hid (by rw [HSH.out, hu])
      clear hno hu
      go_wp2_with fail
      go_ret3
      rw [HR.out]
      exact ⟨⟨[], [], rfl, by simp, by simp⟩, hb1⟩
  · have HSH := Lib.hid (shown_none hb)
    obtain ⟨res, hres⟩ : ∃ res, shownP s = res := ⟨_, rfl⟩
    rw [hres] at HSH ⊢
    have hq : (s.take 6 == wBas) = false := by simpa using hb
    have hq2 : (s.take 6 != wBas) = true := by simpa using hb
    unfold wBas at hq hq2
    clear hb hres hsf
    by_cases h6 : s.length < 6
    · have i6 : decide ((s.length : Int) < 6) = true := decide_eq_true (by omega)
      have i6n : decide (s.length < 6) = true := decide_eq_true h6
      go_enter Tryz.func41, Tryz.ntmps41
      go_wp2_with fail
      go_ret3
      rw [HSH.out]
      exact ⟨⟨[], [], rfl, by simp, by simp⟩, Below.refl _ _⟩
    · have i6 : decide ((s.length : Int) < 6) = false := decide_eq_false (by omega)
      have i6n : decide (s.length < 6) = false := decide_eq_false h6
      go_enter Tryz.func41, Tryz.ntmps41
      go_wp2_with fail
      go_ret3
      rw [HSH.out]
      exact ⟨⟨[], [], rfl, by simp, by simp⟩, Below.refl _ _⟩
end Go.Proofs.YteihjgakhkpgnaaGreatDoor.rol

namespace Go.Proofs.YteihjgakhkpgnaaGreatDoor.rol
open Go.RowKit
open Go.Proofs.YteihjgakhkpgnaaGreatDoor.oct Go.Proofs.YteihjgakhkpgnaaGreatDoor.ref Go.Proofs.YteihjgakhkpgnaaGreatDoor.rows Go.Proofs.YteihjgakhkpgnaaGreatDoor.rowg Go.Proofs.YteihjgakhkpgnaaGreatDoor.trn
open Go.Proofs.YteihjgakhkpgnaaGreatDoor.scp (tx Lst lval)
open Go.Proofs.YteihjgakhkpgnaaGreatDoor.fld (Pr InPr getV getN rget_c)
open Go.Lib (byteCells)

set_option maxRecDepth 100000 in
set_option maxHeartbeats 2000000 in
theorem rauth_c (P0 : Option Addr) (C0 : Nat) (xs : List Cm) (s : T) (P : Option Addr) (C : Nat) (ps : List Pr) (w : World) (hp : InC w P0 xs) (hl : xs.length ≤ 140737488355328) (hs : s.length ≤ 1048576) (hf : GoodF w P ps) :
    Calls Tryz.prog 18 #[.slice P0 xs.length C0, .string ⟨s.toArray⟩, .slice P ps.length C] w fun e w' => AuthA (authP (xs.map Cm.ct) s ps) e ∧ Below w.heap.size w w' := by
  have HG1 : Hid (Calls Tryz.prog 40 #[.slice P ps.length C, .string ⟨#[99, 108, 105, 101, 110, 116, 95, 105, 100]⟩] w fun e w' => e = .returned (.tuple #[.string ⟨(getV ps wId).toArray⟩, .int .i64 (getN ps wId : Nat)]) ∧ w = w') := Lib.hid (rget_c P C ps wId w hf.row hf.len)
  have HG2 : Hid (Calls Tryz.prog 40 #[.slice P ps.length C, .string ⟨#[99, 108, 105, 101, 110, 116, 95, 115, 101, 99, 114, 101, 116]⟩] w fun e w' => e = .returned (.tuple #[.string ⟨(getV ps wSec).toArray⟩, .int .i64 (getN ps wSec : Nat)]) ∧ w = w') := Lib.hid (rget_c P C ps wSec w hf.row hf.len)
  have HFI : Hid (∀ W x, Below w.heap.size w W → Calls Tryz.prog 14 #[.slice P0 xs.length C0, .string ⟨x.toArray⟩] W fun e w' => e = .returned (.tuple #[cval (lookM xs x).1, .bool (lookM xs x).2]) ∧ Below W.heap.size W w') := Lib.hid fun W x hW => rfind_c P0 C0 xs x W (inc_below hp hW) hl
  have hlk := lookM_P xs
  have HSW := Lib.hid (rshown_c s w hs)
  obtain ⟨n0, hn0⟩ : ∃ n, xs.length = n := ⟨_, rfl⟩
  obtain ⟨np, hnp⟩ : ∃ n, ps.length = n := ⟨_, rfl⟩
  rw [hn0] at HFI ⊢
  rw [hnp] at HG1 HG2 ⊢
  obtain ⟨L, hL⟩ : ∃ L, xs.map Cm.ct = L := ⟨_, rfl⟩
  rw [hL] at hlk ⊢
  obtain ⟨rr, hrr⟩ : ∃ rr, authP L s ps = rr := ⟨_, rfl⟩
  rw [hrr]
  unfold authP authF authH at hrr
  obtain ⟨nid, hidd⟩ : ∃ id, getV ps wId = id := ⟨_, rfl⟩
  obtain ⟨sv, hsv⟩ : ∃ s, getV ps wSec = s := ⟨_, rfl⟩
  obtain ⟨n1, hn1⟩ : ∃ n, getN ps wId = n := ⟨_, rfl⟩
  obtain ⟨n2, hn2⟩ : ∃ n, getN ps wSec = n := ⟨_, rfl⟩
  rw [hidd, hn1] at HG1
  rw [hsv, hn2] at HG2
  rw [hidd, hsv, hn1, hn2] at hrr
  have FIN1 : Hid (rr = ([], 1) → ∀ w', Below w.heap.size w w' → AuthA rr (.returned (.tuple #[.string ⟨#[]⟩, .int .i64 1])) ∧ Below w.heap.size w w') := Lib.hid fun e w' hb => ⟨by rw [e]; rfl, hb⟩
  have FIN2 : Hid (rr = ([], 2) → ∀ w', Below w.heap.size w w' → AuthA rr (.returned (.tuple #[.string ⟨#[]⟩, .int .i64 2])) ∧ Below w.heap.size w w') := Lib.hid fun e w' hb => ⟨by rw [e]; rfl, hb⟩
  have FINX : Hid (∀ x : T, rr = (x, 0) → ∀ w', Below w.heap.size w w' → AuthA rr (.returned (.tuple #[.string ⟨x.toArray⟩, .int .i64 0])) ∧ Below w.heap.size w w') := Lib.hid fun x e w' hb => ⟨by rw [e]; rfl, hb⟩
  have HBW : Hid (Below w.heap.size w w) := Lib.hid (Below.refl _ _)
  clear hp hl hs hf hn0 hnp hL hidd hsv hn1 hn2
  go_enter Tryz.func18, Tryz.ntmps18
  cases he : s.isEmpty with
  | true =>
    rw [if_pos (List.isEmpty_iff.1 he)] at hrr
    clear HSW
    by_cases h1 : 1 < n1
    · have i1 : decide ((1 : Int) < (n1 : Int)) = true := decide_eq_true (by omega)
      have HR : Hid (rr = ([], 1)) := Lib.hid (by rw [← hrr, if_pos (Or.inl h1)])
      go_wp2_with (first
        | (go_at_call_of 40 (Value.string ⟨#[99, 108, 105, 101, 110, 116, 95, 105, 100]⟩); (with_reducible refine HG1.out.mono ?_); rintro e w1 ⟨rfl, rfl⟩)
        | (go_at_call_of 40 (Value.string ⟨#[99, 108, 105, 101, 110, 116, 95, 115, 101, 99, 114, 101, 116]⟩); (with_reducible refine HG2.out.mono ?_); rintro e w2 ⟨rfl, rfl⟩))
      go_ret2
      exact FIN1.out HR.out _ HBW.out
    have i1 : decide ((1 : Int) < (n1 : Int)) = false := decide_eq_false (by omega)
    by_cases h2 : 1 < n2
    · have i2 : decide ((1 : Int) < (n2 : Int)) = true := decide_eq_true (by omega)
      have HR : Hid (rr = ([], 1)) := Lib.hid (by rw [← hrr, if_pos (Or.inr h2)])
      go_wp2_with (first
        | (go_at_call_of 40 (Value.string ⟨#[99, 108, 105, 101, 110, 116, 95, 105, 100]⟩); (with_reducible refine HG1.out.mono ?_); rintro e w1 ⟨rfl, rfl⟩)
        | (go_at_call_of 40 (Value.string ⟨#[99, 108, 105, 101, 110, 116, 95, 115, 101, 99, 114, 101, 116]⟩); (with_reducible refine HG2.out.mono ?_); rintro e w2 ⟨rfl, rfl⟩))
      go_ret2
      exact FIN1.out HR.out _ HBW.out
    rw [if_neg (show ¬ (1 < n1 ∨ 1 < n2) by omega)] at hrr
    clear i1
    have hlx := hlk nid
    have HOF0 := Lib.hid (fun W hW => HFI.out W nid hW)
    obtain ⟨kn, hkn⟩ : ∃ kn, (lookM xs nid).2 = kn := ⟨_, rfl⟩
    obtain ⟨y, hy⟩ : ∃ y, (lookM xs nid).1 = y := ⟨_, rfl⟩
    rw [hkn, hy] at hlx HOF0
    obtain ⟨yid, ysec, ypub, ⟨P3, C3, l3⟩, ⟨P4, C4, l4⟩, ⟨P5, C5, l5⟩⟩ := y
    have HOF : Hid (∀ W, Below w.heap.size w W → Calls Tryz.prog 14 #[.slice P0 n0 C0, .string ⟨nid.toArray⟩] W fun e w' => e = .returned (.tuple #[.agg #[.string ⟨yid.toArray⟩, .string ⟨ysec.toArray⟩, .bool ypub, .slice P3 l3.length C3, .slice P4 l4.length C4, .slice P5 l5.length C5], .bool kn]) ∧ Below W.heap.size W w') := HOF0
    have hl1 : lookP L nid = (⟨yid, ysec, ypub, l3, l4, l5⟩, kn) := hlx.symm
    rw [hl1] at hrr
    dsimp only at hrr
    have HBQ := HBW
    clear hkn hy hlx hlk hl1 HOF0 HFI
    have FIN0 := Lib.hid (FINX.out nid)
    obtain rfl | rfl : n1 = 0 ∨ n1 = 1 := by omega
    · cases kn <;> obtain rfl | rfl : n2 = 0 ∨ n2 = 1 := by omega
      all_goals
        have HR : Hid (rr = ([], 2)) := Lib.hid (by rw [← hrr, if_pos (Or.inl rfl)])
        go_wp2_with (first
          | (go_at_call_of 40 (Value.string ⟨#[99, 108, 105, 101, 110, 116, 95, 105, 100]⟩); (with_reducible refine HG1.out.mono ?_); rintro e w1 ⟨rfl, rfl⟩)
          | (go_at_call_of 40 (Value.string ⟨#[99, 108, 105, 101, 110, 116, 95, 115, 101, 99, 114, 101, 116]⟩); (with_reducible refine HG2.out.mono ?_); rintro e w2 ⟨rfl, rfl⟩)
          | (go_at_call 14; (with_reducible refine (HOF.out _ HBQ.out).mono ?_); rintro e we ⟨rfl, hbe⟩; obtain ⟨wf, wg, hVe⟩ := var_c we 32 (.string ⟨yid.toArray⟩) (.string ⟨ysec.toArray⟩) (.bool ypub) (.slice P3 l3.length C3) (.slice P4 l4.length C4) (.slice P5 l5.length C5); have he1 := hVe.a; have he2 := hVe.s; obtain ⟨s0, s1, s2, s3, s4, s5⟩ := blk6 hVe.zero; obtain ⟨t0, t1, t2, t3, t4, t5⟩ := frz6 hVe.zero; obtain ⟨v0, v1, v2, v3, v4, v5⟩ := blk6 hVe.blk; have HBG := Lib.hid (bnext HBQ.out (bnext hbe hVe.below)); clear hbe hVe))
        go_ret2
        exact FIN2.out HR.out _ HBG.out
    · cases kn with
      | false =>
        obtain rfl | rfl : n2 = 0 ∨ n2 = 1 := by omega
        all_goals
          have HR : Hid (rr = ([], 2)) := Lib.hid (by rw [← hrr, if_pos (Or.inr rfl)])
          go_wp2_with (first
            | (go_at_call_of 40 (Value.string ⟨#[99, 108, 105, 101, 110, 116, 95, 105, 100]⟩); (with_reducible refine HG1.out.mono ?_); rintro e w1 ⟨rfl, rfl⟩)
            | (go_at_call_of 40 (Value.string ⟨#[99, 108, 105, 101, 110, 116, 95, 115, 101, 99, 114, 101, 116]⟩); (with_reducible refine HG2.out.mono ?_); rintro e w2 ⟨rfl, rfl⟩)
            | (go_at_call 14; (with_reducible refine (HOF.out _ HBQ.out).mono ?_); rintro e we ⟨rfl, hbe⟩; obtain ⟨wf, wg, hVe⟩ := var_c we 32 (.string ⟨yid.toArray⟩) (.string ⟨ysec.toArray⟩) (.bool ypub) (.slice P3 l3.length C3) (.slice P4 l4.length C4) (.slice P5 l5.length C5); have he1 := hVe.a; have he2 := hVe.s; obtain ⟨s0, s1, s2, s3, s4, s5⟩ := blk6 hVe.zero; obtain ⟨t0, t1, t2, t3, t4, t5⟩ := frz6 hVe.zero; obtain ⟨v0, v1, v2, v3, v4, v5⟩ := blk6 hVe.blk; have HBG := Lib.hid (bnext HBQ.out (bnext hbe hVe.below)); clear hbe hVe))
          go_ret2
          exact FIN2.out HR.out _ HBG.out
      | true =>
        rw [if_neg (by simp)] at hrr
        cases ypub with
        | true =>
          obtain rfl | rfl : n2 = 0 ∨ n2 = 1 := by omega
          ·
            have HR : Hid (rr = (nid, 0)) := Lib.hid (by rw [← hrr, if_neg (by simp)])
            go_wp2_with (first
              | (go_at_call_of 40 (Value.string ⟨#[99, 108, 105, 101, 110, 116, 95, 105, 100]⟩); (with_reducible refine HG1.out.mono ?_); rintro e w1 ⟨rfl, rfl⟩)
              | (go_at_call_of 40 (Value.string ⟨#[99, 108, 105, 101, 110, 116, 95, 115, 101, 99, 114, 101, 116]⟩); (with_reducible refine HG2.out.mono ?_); rintro e w2 ⟨rfl, rfl⟩)
              | (go_at_call 14; (with_reducible refine (HOF.out _ HBQ.out).mono ?_); rintro e we ⟨rfl, hbe⟩; obtain ⟨wf, wg, hVe⟩ := var_c we 32 (.string ⟨yid.toArray⟩) (.string ⟨ysec.toArray⟩) (.bool true) (.slice P3 l3.length C3) (.slice P4 l4.length C4) (.slice P5 l5.length C5); have he1 := hVe.a; have he2 := hVe.s; obtain ⟨s0, s1, s2, s3, s4, s5⟩ := blk6 hVe.zero; obtain ⟨t0, t1, t2, t3, t4, t5⟩ := frz6 hVe.zero; obtain ⟨v0, v1, v2, v3, v4, v5⟩ := blk6 hVe.blk; have HBG := Lib.hid (bnext HBQ.out (bnext hbe hVe.below)); clear hbe hVe))
            go_ret2
            exact FIN0.out HR.out _ HBG.out
          ·
            have HR : Hid (rr = ([], 2)) := Lib.hid (by rw [← hrr, if_pos (by simp)])
            go_wp2_with (first
              | (go_at_call_of 40 (Value.string ⟨#[99, 108, 105, 101, 110, 116, 95, 105, 100]⟩); (with_reducible refine HG1.out.mono ?_); rintro e w1 ⟨rfl, rfl⟩)
              | (go_at_call_of 40 (Value.string ⟨#[99, 108, 105, 101, 110, 116, 95, 115, 101, 99, 114, 101, 116]⟩); (with_reducible refine HG2.out.mono ?_); rintro e w2 ⟨rfl, rfl⟩)
              | (go_at_call 14; (with_reducible refine (HOF.out _ HBQ.out).mono ?_); rintro e we ⟨rfl, hbe⟩; obtain ⟨wf, wg, hVe⟩ := var_c we 32 (.string ⟨yid.toArray⟩) (.string ⟨ysec.toArray⟩) (.bool true) (.slice P3 l3.length C3) (.slice P4 l4.length C4) (.slice P5 l5.length C5); have he1 := hVe.a; have he2 := hVe.s; obtain ⟨s0, s1, s2, s3, s4, s5⟩ := blk6 hVe.zero; obtain ⟨t0, t1, t2, t3, t4, t5⟩ := frz6 hVe.zero; obtain ⟨v0, v1, v2, v3, v4, v5⟩ := blk6 hVe.blk; have HBG := Lib.hid (bnext HBQ.out (bnext hbe hVe.below)); clear hbe hVe))
            go_ret2
            exact FIN2.out HR.out _ HBG.out
        | false =>
          obtain rfl | rfl : n2 = 0 ∨ n2 = 1 := by omega
          ·
            have HR : Hid (rr = ([], 2)) := Lib.hid (by rw [← hrr, if_pos (by simp)])
            go_wp2_with (first
              | (go_at_call_of 40 (Value.string ⟨#[99, 108, 105, 101, 110, 116, 95, 105, 100]⟩); (with_reducible refine HG1.out.mono ?_); rintro e w1 ⟨rfl, rfl⟩)
              | (go_at_call_of 40 (Value.string ⟨#[99, 108, 105, 101, 110, 116, 95, 115, 101, 99, 114, 101, 116]⟩); (with_reducible refine HG2.out.mono ?_); rintro e w2 ⟨rfl, rfl⟩)
              | (go_at_call 14; (with_reducible refine (HOF.out _ HBQ.out).mono ?_); rintro e we ⟨rfl, hbe⟩; obtain ⟨wf, wg, hVe⟩ := var_c we 32 (.string ⟨yid.toArray⟩) (.string ⟨ysec.toArray⟩) (.bool false) (.slice P3 l3.length C3) (.slice P4 l4.length C4) (.slice P5 l5.length C5); have he1 := hVe.a; have he2 := hVe.s; obtain ⟨s0, s1, s2, s3, s4, s5⟩ := blk6 hVe.zero; obtain ⟨t0, t1, t2, t3, t4, t5⟩ := frz6 hVe.zero; obtain ⟨v0, v1, v2, v3, v4, v5⟩ := blk6 hVe.blk; have HBG := Lib.hid (bnext HBQ.out (bnext hbe hVe.below)); clear hbe hVe))
            go_ret2
            exact FIN2.out HR.out _ HBG.out
          · by_cases hq : ysec = sv
            · have b2 : (ysec == sv) = true := by simpa using hq
              have b3 : (ysec != sv) = false := by simpa using hq
              rw [if_neg (by simp [hq])] at hrr
              clear hq
              have HR : Hid (rr = (nid, 0)) := Lib.hid (by rw [← hrr])
              go_wp2_with (first
                | (go_at_call_of 40 (Value.string ⟨#[99, 108, 105, 101, 110, 116, 95, 105, 100]⟩); (with_reducible refine HG1.out.mono ?_); rintro e w1 ⟨rfl, rfl⟩)
                | (go_at_call_of 40 (Value.string ⟨#[99, 108, 105, 101, 110, 116, 95, 115, 101, 99, 114, 101, 116]⟩); (with_reducible refine HG2.out.mono ?_); rintro e w2 ⟨rfl, rfl⟩)
                | (go_at_call 14; (with_reducible refine (HOF.out _ HBQ.out).mono ?_); rintro e we ⟨rfl, hbe⟩; obtain ⟨wf, wg, hVe⟩ := var_c we 32 (.string ⟨yid.toArray⟩) (.string ⟨ysec.toArray⟩) (.bool false) (.slice P3 l3.length C3) (.slice P4 l4.length C4) (.slice P5 l5.length C5); have he1 := hVe.a; have he2 := hVe.s; obtain ⟨s0, s1, s2, s3, s4, s5⟩ := blk6 hVe.zero; obtain ⟨t0, t1, t2, t3, t4, t5⟩ := frz6 hVe.zero; obtain ⟨v0, v1, v2, v3, v4, v5⟩ := blk6 hVe.blk; have HBG := Lib.hid (bnext HBQ.out (bnext hbe hVe.below)); clear hbe hVe))
              go_ret2
              exact FIN0.out HR.out _ HBG.out
            · have b2 : (ysec == sv) = false := by simpa using hq
              have b3 : (ysec != sv) = true := by simpa using hq
              have HR : Hid (rr = ([], 2)) := Lib.hid (by rw [← hrr, if_pos (by simp [hq])])
              go_wp2_with (first
                | (go_at_call_of 40 (Value.string ⟨#[99, 108, 105, 101, 110, 116, 95, 105, 100]⟩); (with_reducible refine HG1.out.mono ?_); rintro e w1 ⟨rfl, rfl⟩)
                | (go_at_call_of 40 (Value.string ⟨#[99, 108, 105, 101, 110, 116, 95, 115, 101, 99, 114, 101, 116]⟩); (with_reducible refine HG2.out.mono ?_); rintro e w2 ⟨rfl, rfl⟩)
                | (go_at_call 14; (with_reducible refine (HOF.out _ HBQ.out).mono ?_); rintro e we ⟨rfl, hbe⟩; obtain ⟨wf, wg, hVe⟩ := var_c we 32 (.string ⟨yid.toArray⟩) (.string ⟨ysec.toArray⟩) (.bool false) (.slice P3 l3.length C3) (.slice P4 l4.length C4) (.slice P5 l5.length C5); have he1 := hVe.a; have he2 := hVe.s; obtain ⟨s0, s1, s2, s3, s4, s5⟩ := blk6 hVe.zero; obtain ⟨t0, t1, t2, t3, t4, t5⟩ := frz6 hVe.zero; obtain ⟨v0, v1, v2, v3, v4, v5⟩ := blk6 hVe.blk; have HBG := Lib.hid (bnext HBQ.out (bnext hbe hVe.below)); clear hbe hVe))
              go_ret2
              exact FIN2.out HR.out _ HBG.out
  | false =>
    rw [if_neg (by intro e; rw [e] at he; cases he)] at hrr
    by_cases h2 : 0 < n2
    · have i2 : decide ((0 : Int) < (n2 : Int)) = true := decide_eq_true (by omega)
      have HR : Hid (rr = ([], 1)) := Lib.hid (by rw [← hrr, if_pos (Or.inr h2)])
      go_wp2_with (first
        | (go_at_call_of 40 (Value.string ⟨#[99, 108, 105, 101, 110, 116, 95, 105, 100]⟩); (with_reducible refine HG1.out.mono ?_); rintro e w1 ⟨rfl, rfl⟩)
        | (go_at_call_of 40 (Value.string ⟨#[99, 108, 105, 101, 110, 116, 95, 115, 101, 99, 114, 101, 116]⟩); (with_reducible refine HG2.out.mono ?_); rintro e w2 ⟨rfl, rfl⟩))
      go_ret2
      exact FIN1.out HR.out _ HBW.out
    obtain rfl : n2 = 0 := by omega
    by_cases h1 : 1 < n1
    · have i1 : decide ((1 : Int) < (n1 : Int)) = true := decide_eq_true (by omega)
      have HR : Hid (rr = ([], 1)) := Lib.hid (by rw [← hrr, if_pos (Or.inl h1)])
      go_wp2_with (first
        | (go_at_call_of 40 (Value.string ⟨#[99, 108, 105, 101, 110, 116, 95, 105, 100]⟩); (with_reducible refine HG1.out.mono ?_); rintro e w1 ⟨rfl, rfl⟩)
        | (go_at_call_of 40 (Value.string ⟨#[99, 108, 105, 101, 110, 116, 95, 115, 101, 99, 114, 101, 116]⟩); (with_reducible refine HG2.out.mono ?_); rintro e w2 ⟨rfl, rfl⟩))
      go_ret2
      exact FIN1.out HR.out _ HBW.out
    rw [if_neg (show ¬ (1 < n1 ∨ 0 < 0) by omega)] at hrr
    obtain ⟨sp, hsp⟩ : ∃ sp, shownP s = sp := ⟨_, rfl⟩
    rw [hsp] at hrr HSW
    clear hsp
    cases sp with
    | none =>
      have HSH : Hid (Calls Tryz.prog 41 #[.string ⟨s.toArray⟩] w fun e w' => ∃ a b : T, e = .returned (.tuple #[.string ⟨a.toArray⟩, .string ⟨b.toArray⟩, .bool false]) ∧ Below w.heap.size w w') := Lib.hid (HSW.out.mono fun e w' ⟨⟨a, b, q1, _⟩, q2⟩ => ⟨a, b, q1, q2⟩)
      have HOF : Hid (∀ W (a : T), Below w.heap.size w W → Calls Tryz.prog 14 #[.slice P0 n0 C0, .string ⟨a.toArray⟩] W fun e w' => ∃ (S0 S1 : ByteArray) (bb : Bool) (R3 : Option Addr) (z3 E3 : Nat) (R4 : Option Addr) (z4 E4 : Nat) (R5 : Option Addr) (z5 E5 : Nat) (kn : Bool), e = .returned (.tuple #[.agg #[.string S0, .string S1, .bool bb, .slice R3 z3 E3, .slice R4 z4 E4, .slice R5 z5 E5], .bool kn]) ∧ Below W.heap.size W w') := Lib.hid fun W a hW => (HFI.out W a hW).mono fun e w' ⟨q1, q2⟩ => by
        obtain ⟨S0, S1, bb, R3, z3, E3, R4, z4, E4, R5, z5, E5, ho⟩ := cval_open (lookM xs a).1
        rw [ho] at q1
        exact ⟨S0, S1, bb, R3, z3, E3, R4, z4, E4, R5, z5, E5, _, q1, q2⟩
      clear HSW HFI hlk
      obtain rfl | rfl : n1 = 0 ∨ n1 = 1 := by omega
      all_goals
        have HR : Hid (rr = ([], 2)) := Lib.hid (by rw [← hrr])
        go_wp2_with (first
          | (go_at_call_of 40 (Value.string ⟨#[99, 108, 105, 101, 110, 116, 95, 105, 100]⟩); (with_reducible refine HG1.out.mono ?_); rintro e w1 ⟨rfl, rfl⟩)
          | (go_at_call_of 40 (Value.string ⟨#[99, 108, 105, 101, 110, 116, 95, 115, 101, 99, 114, 101, 116]⟩); (with_reducible refine HG2.out.mono ?_); rintro e w2 ⟨rfl, rfl⟩)
          | (go_at_call 41; (with_reducible refine HSH.out.mono ?_); rintro e w3 ⟨a, a2, rfl, hb3⟩; have HBQ := Lib.hid hb3; clear hb3)
          | (go_at_call 14; (with_reducible refine (HOF.out _ _ HBQ.out).mono ?_); rintro e we ⟨S0, S1, bb, R3, z3, E3, R4, z4, E4, R5, z5, E5, kn, rfl, hbe⟩; obtain ⟨wf, wg, hVe⟩ := var_c we 32 (.string S0) (.string S1) (.bool bb) (.slice R3 z3 E3) (.slice R4 z4 E4) (.slice R5 z5 E5); have he1 := hVe.a; have he2 := hVe.s; obtain ⟨s0, s1, s2, s3, s4, s5⟩ := blk6 hVe.zero; obtain ⟨t0, t1, t2, t3, t4, t5⟩ := frz6 hVe.zero; obtain ⟨v0, v1, v2, v3, v4, v5⟩ := blk6 hVe.blk; have HBG := Lib.hid (bnext HBQ.out (bnext hbe hVe.below)); clear hbe hVe))
        go_ret2
        exact FIN2.out HR.out _ HBG.out
    | some z =>
      obtain ⟨x, y2⟩ := z
      have HSH : Hid (Calls Tryz.prog 41 #[.string ⟨s.toArray⟩] w fun e w' => e = .returned (.tuple #[.string ⟨x.toArray⟩, .string ⟨y2.toArray⟩, .bool true]) ∧ Below w.heap.size w w') := HSW
      have hlx := hlk x
      have HOF0 := Lib.hid (fun W hW => HFI.out W x hW)
      obtain ⟨kn, hkn⟩ : ∃ kn, (lookM xs x).2 = kn := ⟨_, rfl⟩
      obtain ⟨y, hy⟩ : ∃ y, (lookM xs x).1 = y := ⟨_, rfl⟩
      rw [hkn, hy] at hlx HOF0
      obtain ⟨yid, ysec, ypub, ⟨P3, C3, l3⟩, ⟨P4, C4, l4⟩, ⟨P5, C5, l5⟩⟩ := y
      have HOF : Hid (∀ W, Below w.heap.size w W → Calls Tryz.prog 14 #[.slice P0 n0 C0, .string ⟨x.toArray⟩] W fun e w' => e = .returned (.tuple #[.agg #[.string ⟨yid.toArray⟩, .string ⟨ysec.toArray⟩, .bool ypub, .slice P3 l3.length C3, .slice P4 l4.length C4, .slice P5 l5.length C5], .bool kn]) ∧ Below W.heap.size W w') := HOF0
      have hl1 : lookP L x = (⟨yid, ysec, ypub, l3, l4, l5⟩, kn) := hlx.symm
      dsimp only at hrr
      rw [hl1] at hrr
      dsimp only at hrr
      clear hkn hy hlx hlk hl1 HOF0 HFI HSW
      have FIN0 := Lib.hid (FINX.out x)
      cases kn with
      | false =>
        obtain rfl | rfl : n1 = 0 ∨ n1 = 1 := by omega
        all_goals
          have HR : Hid (rr = ([], 2)) := Lib.hid (by rw [← hrr, if_pos (Or.inl rfl)])
          go_wp2_with (first
            | (go_at_call_of 40 (Value.string ⟨#[99, 108, 105, 101, 110, 116, 95, 105, 100]⟩); (with_reducible refine HG1.out.mono ?_); rintro e w1 ⟨rfl, rfl⟩)
            | (go_at_call_of 40 (Value.string ⟨#[99, 108, 105, 101, 110, 116, 95, 115, 101, 99, 114, 101, 116]⟩); (with_reducible refine HG2.out.mono ?_); rintro e w2 ⟨rfl, rfl⟩)
            | (go_at_call 41; (with_reducible refine HSH.out.mono ?_); rintro e w3 ⟨rfl, hb3⟩; have HBQ := Lib.hid hb3; clear hb3)
            | (go_at_call 14; (with_reducible refine (HOF.out _ HBQ.out).mono ?_); rintro e we ⟨rfl, hbe⟩; obtain ⟨wf, wg, hVe⟩ := var_c we 32 (.string ⟨yid.toArray⟩) (.string ⟨ysec.toArray⟩) (.bool ypub) (.slice P3 l3.length C3) (.slice P4 l4.length C4) (.slice P5 l5.length C5); have he1 := hVe.a; have he2 := hVe.s; obtain ⟨s0, s1, s2, s3, s4, s5⟩ := blk6 hVe.zero; obtain ⟨t0, t1, t2, t3, t4, t5⟩ := frz6 hVe.zero; obtain ⟨v0, v1, v2, v3, v4, v5⟩ := blk6 hVe.blk; have HBG := Lib.hid (bnext HBQ.out (bnext hbe hVe.below)); clear hbe hVe))
          go_ret2
          exact FIN2.out HR.out _ HBG.out
      | true =>
        cases ypub with
        | true =>
          obtain rfl | rfl : n1 = 0 ∨ n1 = 1 := by omega
          all_goals
            have HR : Hid (rr = ([], 2)) := Lib.hid (by rw [← hrr, if_pos (Or.inr (Or.inl rfl))])
            go_wp2_with (first
              | (go_at_call_of 40 (Value.string ⟨#[99, 108, 105, 101, 110, 116, 95, 105, 100]⟩); (with_reducible refine HG1.out.mono ?_); rintro e w1 ⟨rfl, rfl⟩)
              | (go_at_call_of 40 (Value.string ⟨#[99, 108, 105, 101, 110, 116, 95, 115, 101, 99, 114, 101, 116]⟩); (with_reducible refine HG2.out.mono ?_); rintro e w2 ⟨rfl, rfl⟩)
              | (go_at_call 41; (with_reducible refine HSH.out.mono ?_); rintro e w3 ⟨rfl, hb3⟩; have HBQ := Lib.hid hb3; clear hb3)
              | (go_at_call 14; (with_reducible refine (HOF.out _ HBQ.out).mono ?_); rintro e we ⟨rfl, hbe⟩; obtain ⟨wf, wg, hVe⟩ := var_c we 32 (.string ⟨yid.toArray⟩) (.string ⟨ysec.toArray⟩) (.bool true) (.slice P3 l3.length C3) (.slice P4 l4.length C4) (.slice P5 l5.length C5); have he1 := hVe.a; have he2 := hVe.s; obtain ⟨s0, s1, s2, s3, s4, s5⟩ := blk6 hVe.zero; obtain ⟨t0, t1, t2, t3, t4, t5⟩ := frz6 hVe.zero; obtain ⟨v0, v1, v2, v3, v4, v5⟩ := blk6 hVe.blk; have HBG := Lib.hid (bnext HBQ.out (bnext hbe hVe.below)); clear hbe hVe))
            go_ret2
            exact FIN2.out HR.out _ HBG.out
        | false =>
          by_cases hq : ysec = y2
          · have b2 : (ysec == y2) = true := by simpa using hq
            have b3 : (ysec != y2) = false := by simpa using hq
            rw [if_neg (by simp [hq])] at hrr
            clear hq
            obtain rfl | rfl : n1 = 0 ∨ n1 = 1 := by omega
            ·
              have HR : Hid (rr = (x, 0)) := Lib.hid (by rw [← hrr, if_neg (by simp)])
              go_wp2_with (first
                | (go_at_call_of 40 (Value.string ⟨#[99, 108, 105, 101, 110, 116, 95, 105, 100]⟩); (with_reducible refine HG1.out.mono ?_); rintro e w1 ⟨rfl, rfl⟩)
                | (go_at_call_of 40 (Value.string ⟨#[99, 108, 105, 101, 110, 116, 95, 115, 101, 99, 114, 101, 116]⟩); (with_reducible refine HG2.out.mono ?_); rintro e w2 ⟨rfl, rfl⟩)
                | (go_at_call 41; (with_reducible refine HSH.out.mono ?_); rintro e w3 ⟨rfl, hb3⟩; have HBQ := Lib.hid hb3; clear hb3)
                | (go_at_call 14; (with_reducible refine (HOF.out _ HBQ.out).mono ?_); rintro e we ⟨rfl, hbe⟩; obtain ⟨wf, wg, hVe⟩ := var_c we 32 (.string ⟨yid.toArray⟩) (.string ⟨ysec.toArray⟩) (.bool false) (.slice P3 l3.length C3) (.slice P4 l4.length C4) (.slice P5 l5.length C5); have he1 := hVe.a; have he2 := hVe.s; obtain ⟨s0, s1, s2, s3, s4, s5⟩ := blk6 hVe.zero; obtain ⟨t0, t1, t2, t3, t4, t5⟩ := frz6 hVe.zero; obtain ⟨v0, v1, v2, v3, v4, v5⟩ := blk6 hVe.blk; have HBG := Lib.hid (bnext HBQ.out (bnext hbe hVe.below)); clear hbe hVe))
              go_ret2
              exact FIN0.out HR.out _ HBG.out
            · by_cases hz : nid = x
              · have b4 : (nid == x) = true := by simpa using hz
                have b5 : (nid != x) = false := by simpa using hz
                have HR : Hid (rr = (x, 0)) := Lib.hid (by rw [← hrr, if_neg (by simp [hz])])
                go_wp2_with (first
                  | (go_at_call_of 40 (Value.string ⟨#[99, 108, 105, 101, 110, 116, 95, 105, 100]⟩); (with_reducible refine HG1.out.mono ?_); rintro e w1 ⟨rfl, rfl⟩)
                  | (go_at_call_of 40 (Value.string ⟨#[99, 108, 105, 101, 110, 116, 95, 115, 101, 99, 114, 101, 116]⟩); (with_reducible refine HG2.out.mono ?_); rintro e w2 ⟨rfl, rfl⟩)
                  | (go_at_call 41; (with_reducible refine HSH.out.mono ?_); rintro e w3 ⟨rfl, hb3⟩; have HBQ := Lib.hid hb3; clear hb3)
                  | (go_at_call 14; (with_reducible refine (HOF.out _ HBQ.out).mono ?_); rintro e we ⟨rfl, hbe⟩; obtain ⟨wf, wg, hVe⟩ := var_c we 32 (.string ⟨yid.toArray⟩) (.string ⟨ysec.toArray⟩) (.bool false) (.slice P3 l3.length C3) (.slice P4 l4.length C4) (.slice P5 l5.length C5); have he1 := hVe.a; have he2 := hVe.s; obtain ⟨s0, s1, s2, s3, s4, s5⟩ := blk6 hVe.zero; obtain ⟨t0, t1, t2, t3, t4, t5⟩ := frz6 hVe.zero; obtain ⟨v0, v1, v2, v3, v4, v5⟩ := blk6 hVe.blk; have HBG := Lib.hid (bnext HBQ.out (bnext hbe hVe.below)); clear hbe hVe))
                go_ret2
                exact FIN0.out HR.out _ HBG.out
              · have b4 : (nid == x) = false := by simpa using hz
                have b5 : (nid != x) = true := by simpa using hz
                have HR : Hid (rr = ([], 1)) := Lib.hid (by rw [← hrr, if_pos ⟨rfl, hz⟩])
                go_wp2_with (first
                  | (go_at_call_of 40 (Value.string ⟨#[99, 108, 105, 101, 110, 116, 95, 105, 100]⟩); (with_reducible refine HG1.out.mono ?_); rintro e w1 ⟨rfl, rfl⟩)
                  | (go_at_call_of 40 (Value.string ⟨#[99, 108, 105, 101, 110, 116, 95, 115, 101, 99, 114, 101, 116]⟩); (with_reducible refine HG2.out.mono ?_); rintro e w2 ⟨rfl, rfl⟩)
                  | (go_at_call 41; (with_reducible refine HSH.out.mono ?_); rintro e w3 ⟨rfl, hb3⟩; have HBQ := Lib.hid hb3; clear hb3)
                  | (go_at_call 14; (with_reducible refine (HOF.out _ HBQ.out).mono ?_); rintro e we ⟨rfl, hbe⟩; obtain ⟨wf, wg, hVe⟩ := var_c we 32 (.string ⟨yid.toArray⟩) (.string ⟨ysec.toArray⟩) (.bool false) (.slice P3 l3.length C3) (.slice P4 l4.length C4) (.slice P5 l5.length C5); have he1 := hVe.a; have he2 := hVe.s; obtain ⟨s0, s1, s2, s3, s4, s5⟩ := blk6 hVe.zero; obtain ⟨t0, t1, t2, t3, t4, t5⟩ := frz6 hVe.zero; obtain ⟨v0, v1, v2, v3, v4, v5⟩ := blk6 hVe.blk; have HBG := Lib.hid (bnext HBQ.out (bnext hbe hVe.below)); clear hbe hVe))
                go_ret2
                exact FIN1.out HR.out _ HBG.out
          · have b2 : (ysec == y2) = false := by simpa using hq
            have b3 : (ysec != y2) = true := by simpa using hq
            obtain rfl | rfl : n1 = 0 ∨ n1 = 1 := by omega
            all_goals
              have HR : Hid (rr = ([], 2)) := Lib.hid (by rw [← hrr, if_pos (Or.inr (Or.inr hq))])
              go_wp2_with (first
                | (go_at_call_of 40 (Value.string ⟨#[99, 108, 105, 101, 110, 116, 95, 105, 100]⟩); (with_reducible refine HG1.out.mono ?_); rintro e w1 ⟨rfl, rfl⟩)
                | (go_at_call_of 40 (Value.string ⟨#[99, 108, 105, 101, 110, 116, 95, 115, 101, 99, 114, 101, 116]⟩); (with_reducible refine HG2.out.mono ?_); rintro e w2 ⟨rfl, rfl⟩)
                | (go_at_call 41; (with_reducible refine HSH.out.mono ?_); rintro e w3 ⟨rfl, hb3⟩; have HBQ := Lib.hid hb3; clear hb3)
                | (go_at_call 14; (with_reducible refine (HOF.out _ HBQ.out).mono ?_); rintro e we ⟨rfl, hbe⟩; obtain ⟨wf, wg, hVe⟩ := var_c we 32 (.string ⟨yid.toArray⟩) (.string ⟨ysec.toArray⟩) (.bool false) (.slice P3 l3.length C3) (.slice P4 l4.length C4) (.slice P5 l5.length C5); have he1 := hVe.a; have he2 := hVe.s; obtain ⟨s0, s1, s2, s3, s4, s5⟩ := blk6 hVe.zero; obtain ⟨t0, t1, t2, t3, t4, t5⟩ := frz6 hVe.zero; obtain ⟨v0, v1, v2, v3, v4, v5⟩ := blk6 hVe.blk; have HBG := Lib.hid (bnext HBQ.out (bnext hbe hVe.below)); clear hbe hVe))
              go_ret2
              exact FIN2.out HR.out _ HBG.out
end Go.Proofs.YteihjgakhkpgnaaGreatDoor.rol

namespace Go.Proofs.YteihjgakhkpgnaaGreatDoor.rol
open Go.RowKit
open Go.Proofs.YteihjgakhkpgnaaGreatDoor.oct Go.Proofs.YteihjgakhkpgnaaGreatDoor.ref Go.Proofs.YteihjgakhkpgnaaGreatDoor.rows Go.Proofs.YteihjgakhkpgnaaGreatDoor.rowg Go.Proofs.YteihjgakhkpgnaaGreatDoor.trn
open Go.Proofs.YteihjgakhkpgnaaGreatDoor.fld (Pr InPr getV getN)

theorem auth_why (l : List CT) (h : T) (ps : List Pr) : (authP l h ps).2 = 0 ∨ (authP l h ps).2 = 1 ∨ (authP l h ps).2 = 2 := by
  unfold authP
  split
  · unfold authF
    repeat' split
    all_goals simp
  · unfold authH
    split
    · simp
    · split
      · simp
      · repeat' split
        all_goals simp
set_option maxRecDepth 100000 in
set_option maxHeartbeats 4000000 in
theorem law_auths (P : Option Addr) (C : Nat) (xs0 : List Cm) (s : T) (Q : Option Addr) (D : Nat) (ps : List Pr) (w : World) (h0 : ArgC w P C xs0) (hs : s.length ≤ 1048576) (hf : GoodF w Q ps) :
    Calls Tryz.prog 4 #[.slice P xs0.length C, .string ⟨s.toArray⟩, .slice Q ps.length D] w fun e w' => e = .returned (.bool true) ∧ Below w.heap.size w w' := by
  obtain ⟨hp, hg⟩ := h0.few
  have HF := Lib.hid (few15_c P C xs0 w h0.cap)
  obtain ⟨xs, hxs⟩ : ∃ xs, xs0.take 70 = xs := ⟨_, rfl⟩
  rw [hxs] at hp hg HF
  have hl : xs.length ≤ 70 := by rw [← hxs, List.length_take]; omega
  obtain ⟨n0, hn0⟩ : ∃ n, xs0.length = n := ⟨_, rfl⟩
  rw [hn0] at HF ⊢
  clear hxs hn0 h0
  have HK := Lib.hid known15_c
  have HAL : Hid (∀ W, Below w.heap.size w W → Calls Tryz.prog 12 #[.slice P xs.length C] W fun e w' => e = .returned (.bool (allB (xs.map Cm.ct))) ∧ Below W.heap.size W w') := Lib.hid fun W hW => all_c P C xs W (inc_below hp hW) (fun x hx => (hg x hx).below hW) (by omega)
  have HNW : Hid (allB (xs.map Cm.ct) = true → ∀ W, Below w.heap.size w W → Calls Tryz.prog 10 #[.slice P xs.length C] W fun e w' => ∃ g ys, e = .returned (.tuple #[.pointer (some ⟨g, 0, none⟩), .int .i64 0]) ∧ RolN w' (fun k => W.heap.size ≤ k ∧ k < w'.heap.size) (some ⟨g, 0, none⟩) ys ∧ ys.map Cm.ct = xs.map Cm.ct ∧ Sec1 ys ∧ Below W.heap.size W w') := Lib.hid fun ha W hW => new_yes (inc_below hp hW) (fun x hx => (hg x hx).below hW) hl ha
  have HRA : Hid (∀ W, Below w.heap.size w W → Calls Tryz.prog 18 #[.slice P xs.length C, .string ⟨s.toArray⟩, .slice Q ps.length D] W fun e w' => AuthA (authP (xs.map Cm.ct) s ps) e ∧ Below W.heap.size W w') := Lib.hid fun W hW => rauth_c P C xs s Q D ps W (inc_below hp hW) (by omega) hs (hf.below hW)
  obtain ⟨L, hL⟩ : ∃ L, xs.map Cm.ct = L := ⟨_, rfl⟩
  obtain ⟨n, hn⟩ : ∃ n, xs.length = n := ⟨_, rfl⟩
  rw [hn] at HF HAL HNW HRA
  rw [hL] at HNW HAL HRA
  obtain ⟨ab, hab⟩ : ∃ b, allB L = b := ⟨_, rfl⟩
  rw [hab] at HAL HNW
  have HFM := Lib.hid hf
  have HSL := Lib.hid hs
  have hwh := auth_why L s ps
  clear hp hg hl hn hL hab hf hs
  have HCUR : Hid (Below w.heap.size w w) := Lib.hid (Below.refl _ _)
  cases ab with
  | false =>
    obtain ⟨np, hnp⟩ : ∃ n, ps.length = n := ⟨_, rfl⟩
    rw [hnp] at HRA ⊢
    clear HNW hnp hwh
    go_enter Tryz.func4, Tryz.ntmps4
    go_wp2_with (first
      | (go_at_call 9; (with_reducible refine HF.out.mono ?_); rintro e w1 ⟨rfl, rfl⟩)
      | (go_at_call 11; (with_reducible refine (HK.out _).mono ?_); rintro e w2 ⟨rfl, hb2⟩; have HCUR := Lib.hid (bnext HCUR.out hb2); clear hb2)
      | (go_at_call 12; (with_reducible refine (HAL.out _ HCUR.out).mono ?_); rintro e w3 ⟨rfl, hb2⟩; have HCUR := Lib.hid (bnext HCUR.out hb2); clear hb2))
    go_ret
    exact ⟨rfl, HCUR.out⟩
  | true =>
    have HNW2 := Lib.hid (HNW.out rfl)
    have HAU : Hid (∀ W g ys F, RolN W F (some ⟨g, 0, none⟩) ys → ys.map Cm.ct = L → Sec1 ys → Below w.heap.size w W → Calls Tryz.prog 17 #[.pointer (some ⟨g, 0, none⟩), .string ⟨s.toArray⟩, .slice Q ps.length D] W fun e w' => AuthA (authP L s ps) e ∧ Below W.heap.size W w') := Lib.hid fun W g ys F hr hy hs1 hW => by
      have h := auth_c hr hs1 s (by have := HSL.out; omega) Q D ps (HFM.out.below hW)
      rw [hy] at h
      exact h
    obtain ⟨np, hnp⟩ : ∃ n, ps.length = n := ⟨_, rfl⟩
    rw [hnp] at HRA HAU ⊢
    obtain ⟨⟨u, v⟩, hrr⟩ : ∃ r, authP L s ps = r := ⟨_, rfl⟩
    rw [hrr] at HRA HAU hwh
    unfold AuthA at HRA HAU
    dsimp only at HRA HAU hwh
    clear HNW hnp hrr
    go_enter Tryz.func4, Tryz.ntmps4
    rcases hwh with rfl | rfl | rfl
    all_goals
      go_wp2_with (first
        | (go_at_call 9; (with_reducible refine HF.out.mono ?_); rintro e w1 ⟨rfl, rfl⟩)
        | (go_at_call 11; (with_reducible refine (HK.out _).mono ?_); rintro e w2 ⟨rfl, hb2⟩; have HCUR := Lib.hid (bnext HCUR.out hb2); clear hb2)
        | (go_at_call 12; (with_reducible refine (HAL.out _ HCUR.out).mono ?_); rintro e w3 ⟨rfl, hb2⟩; have HCUR := Lib.hid (bnext HCUR.out hb2); clear hb2))
      refine (HNW2.out _ HCUR.out).mono ?_
      rintro e w5 ⟨g, ys, rfl, hr, hys, hs1, hb5⟩
      have HB5 := Lib.hid (bnext HCUR.out hb5)
      have HA5 := Lib.hid (HAU.out w5 g ys _ hr hys hs1 HB5.out)
      clear hr hys hs1 hb5
      go_wp2_with (first
        | (go_at_call 17; (with_reducible refine HA5.out.mono ?_); rintro e w6 ⟨rfl, hb6⟩; have HB6 := Lib.hid (bnext HB5.out hb6); clear hb6)
        | (go_at_call 18; (with_reducible refine (HRA.out _ HB6.out).mono ?_); rintro e w7 ⟨rfl, hb7⟩; have HB7 := Lib.hid (bnext HB6.out hb7); clear hb7))
      go_ret
      exact ⟨rfl, HB7.out⟩
theorem g_auths (P : Option Addr) (C : Nat) (xs : List Cm) (s : ByteArray) (Q : Option Addr) (D : Nat) (ps : List Pr) (w : World) (hp : InC w P xs) (hc : xs.length ≤ C) (hg : ∀ x ∈ xs, GoodC w x) (hs : s.size ≤ 1048576) (hq : InPr w Q ps) (hl : ps.length ≤ 1048576) (_ : ps.length ≤ D) (_ : Q = none → D = 0) (hsm : fld.Small ps) :
    Calls Tryz.prog 4 #[.slice P xs.length C, .string s, .slice Q ps.length D] w fun e w' => e = .returned (.bool true) ∧ Below w.heap.size w w' := by
  have h := law_auths P C xs s.data.toList Q D ps w ⟨hp, hc, hg⟩ (by rw [Array.length_toList]; exact hs) ⟨hq, by omega, fun x hx => by have := hsm x hx; omega⟩
  rw [s_of] at h
  exact h
end Go.Proofs.YteihjgakhkpgnaaGreatDoor.rol
