/- The reference's Header, of an Id and a secret of at most 1048576 bytes together (what is spelled is then at most 3145729 bytes); for that the reference's bits, sixes and Basic once more, for rows up to 4194304 bytes. Made by gen_rou.py from the texts of octet. -/
import Derived.Test.YteihjgakhkpgnaaGreatDoorRoOp
namespace Go.Proofs.YteihjgakhkpgnaaGreatDoor.oct
set_option maxRecDepth 100000
open Go.RowKit
open Go.Proofs.YteihjgakhkpgnaaGreatDoor.pl Go.Proofs.YteihjgakhkpgnaaGreatDoor.ref
open Go.Lib (byteCells)

theorem lack_go2 (n j : Nat) (h : j < lack n) : (((n + j : Nat) : Int) % 4 != 0) = true := by rw [bne_iff_ne]; unfold lack at h; omega
theorem lack_end2 (n : Nat) : (((n + lack n : Nat) : Int) % 4 != 0) = false := by rw [bne_eq_false_iff_eq]; unfold lack; omega
theorem text6c (l : List UInt8) : text (sg6 false) (enc 6 l) = basB l := List.map_congr_left fun d hd => basS_sg6 d ((enc_tells (w := 6) (by decide) l).1 d hd)
set_option maxHeartbeats 1000000 in
theorem bits2_c (p : Option Addr) (cp : Nat) (l : List UInt8) (w : World) (hp : In8 w p l) (hl : l.length ≤ 4194304) :
    Calls Tryz.prog 103 #[.slice p l.length cp] w fun e w' =>
      ∃ v, e = .returned v ∧ w'.ownsRow w.heap.size 4 1 v (bitsOf l).length (bools (bitsOf l)) ∧ Below w.heap.size w w' := by
  obtain ⟨i0, hi, hz0, hz1, hz2⟩ := info_parts infoBool
  have HP := Lib.hid hp
  clear hp
  go_enter Tryz.func103, Tryz.ntmps103
  go_wp2
  go_loopg [3, 4] l.length (fun g s3 s4 wx => ∃ k : Nat, k + g = l.length ∧ s4 = .int .i64 k ∧ wx.ownsRow w.heap.size 4 1 s3 (bitsOf (l.take k)).length (bools (bitsOf (l.take k))) ∧ Below w.heap.size w wx)
  case atStart => exact ⟨0, by omega, rfl, World.ownsRow_nil _ _ _ _, Below.refl _ _⟩
  case round =>
    obtain ⟨k, hkg, rfl, hrow, hbx⟩ := hrel
    cases gk with
    | zero =>
      have hkz : ¬ ((k : Int) < (l.length : Int)) := by omega
      have HK : Hid (l.take k = l) := List.take_of_length_le (by omega)
      go_wp2
      go_ret
      have e := HK.out
      rw [e] at hrow
      exact ⟨_, rfl, hrow, hbx⟩
    | succ g =>
      have hkz : (k : Int) < (l.length : Int) := by omega
      obtain ⟨b, o, rfl, hc⟩ := HP.out.at (by omega)
      have hbl : b < w.heap.size := HP.out.blt (by omega)
      have hcell : ∀ wy, Below w.heap.size w wy → wy.cell? ⟨b, o + k, none⟩ = some (.int .u8 ((l.getD k 0).toNat : Int)) := fun wy hy => (hy.cell (p := ⟨b, o + k, none⟩) hbl).trans (hc k (by omega))
      have HC := Lib.hid hcell
      clear hc hcell
      obtain ⟨c, hcd⟩ : ∃ c : UInt8, l.getD k 0 = c := ⟨_, rfl⟩
      have HT : Hid (bitsOf (l.take (k + 1)) = bitsOf (l.take k) ++ bitsN 8 c.toNat) := by
        show _ = _
        rw [List.take_succ_eq_append_getElem (by omega), bitsOf_snoc, ← hcd]; simp [List.getD, List.getElem?_eq_getElem (show k < l.length by omega)]
      have HL : Hid ((bitsOf (l.take k)).length = 8 * k) := by show _ = _; rw [bitsOf_len, List.length_take]; omega
      have hc256 := c.toNat_lt
      rw [hcd] at HC
      clear hcd
      go_wp2
      go_loopg [3, 5] 8 (fun g2 s3 s5 wy => ∃ j : Nat, j + g2 = 8 ∧ s5 = .int .i64 ((128 / 2 ^ j : Nat) : Int) ∧ wy.ownsRow w.heap.size 4 1 s3 (bitsOf (l.take k) ++ (bitsN 8 c.toNat).take j).length (bools (bitsOf (l.take k) ++ (bitsN 8 c.toNat).take j)) ∧ Below w.heap.size w wy)
      case atStart => exact ⟨0, by omega, rfl, by simpa using hrow, hbx⟩
      case round =>
        clear hrow hbx
        obtain ⟨j, hjg, rfl, hrow, hbx⟩ := hrel
        cases gk with
        | zero =>
          obtain rfl : j = 8 := by omega
          go_wp2
          go_roundg g
          case measure => omega
          case rel =>
            refine ⟨k + 1, by omega, by go_num, ?_, hbx⟩
            rw [HT.out]
            rwa [show (bitsN 8 c.toNat).take 8 = bitsN 8 c.toNat from List.take_of_length_le (by simp)] at hrow
        | succ g2 =>
          obtain ⟨h1, h2, h3⟩ := half_at j (by omega)
          have HB := Lib.hid (bit_at c.toNat j (by omega))
          obtain ⟨q1, q2⟩ := quo_bd c.toNat (128 / 2 ^ j) (by omega)
          obtain ⟨hv, hhv⟩ : ∃ hv, 128 / 2 ^ j = hv := ⟨_, rfl⟩
          rw [hhv] at h1 h2 h3 HB q1 q2 ⊢
          have hcw := HC.out _ hbx
          have hlen : (bitsOf (l.take k) ++ (bitsN 8 c.toNat).take j).length ≤ 40000000 := by rw [List.length_append, HL.out, List.length_take]; omega
          have H1 := Lib.hid h1
          clear h1 hhv
          go_wp2_with (first
            | (at_builtin; refine wpList_append_own _ rfl _ _ 130 rfl w.heap.size 4 i0 (.bool false) 1 1 Tryz.underlying130 hi hz0 hz1 hz2 rfl (by decide) _ _ _ rfl (hrow.alloc _) ⟨wr.heap.size, 0, none⟩ 1 1 [.bool ((c.toNat : Int) / (hv : Int) % 2 == 1)] rfl rfl (cell_one_new _ _ _) (fun x hx => by simp at hx; subst hx; rfl) (by unfold maxLen; omega) (by omega) (by have := hbx.size; simp; omega) ?_; intro v' w1 hown' hgrow _))
          go_roundg g2
          case measure => omega
          case rel =>
            refine ⟨j + 1, by omega, ?_, ?_, (hbx.alloc hbx.size _).grown hgrow (by have := hbx.size; simp; omega) (fun q hq => (hrow.lt q hq).1)⟩
            · rw [← H1.out]; simp
            · rw [HB.out, ← List.append_assoc, bools_snoc, List.length_append]
              exact hown'
set_option maxHeartbeats 1000000 in
theorem sixes2_c (p : Option Addr) (cp : Nat) (l : List UInt8) (web : Bool) (w : World) (hp : In8 w p l) (hl : l.length ≤ 4194304) :
    Calls Tryz.prog 74 #[.slice p l.length cp, .bool web] w fun e w' =>
      e = .returned (.string ⟨(text (sg6 web) (enc 6 l)).toArray⟩) ∧ Below w.heap.size w w' := by
  obtain ⟨i0, hi, hz0, hz1, hz2⟩ := info_parts infoBool
  obtain ⟨j0, hj, hy0, hy1, hy2⟩ := info_parts infoByte
  have HP := Lib.hid (bits2_c p cp l w hp hl)
  clear hp
  have HE : Hid (enc 6 l = digs 6 ((8 * l.length + pad6 l.length) / 6) (bitsOf l ++ List.replicate (pad6 l.length) false)) := rfl
  have hP := pad6_lt l.length
  go_enter Tryz.func74, Tryz.ntmps74
  go_wp2_with (go_at_call 103; refine HP.out.mono ?_; rintro e w1 ⟨v, rfl, hown, hb1⟩)
  go_loopg [5] (pad6 l.length) (fun g s5 wx => ∃ j : Nat, j + g = pad6 l.length ∧ wx.ownsRow w.heap.size 4 1 s5 (bitsOf l ++ List.replicate j false).length (bools (bitsOf l ++ List.replicate j false)) ∧ Below w.heap.size w wx)
  case atStart => exact ⟨0, by omega, by simpa using hown, hb1⟩
  case round =>
    clear hown hb1
    obtain ⟨j, hjg, hrow, hbx⟩ := hrel
    obtain ⟨_, p5, c5, rfl, hcap, hshape, hin⟩ := own_inB hrow
    have hlen2 : (bitsOf l ++ List.replicate j false).length = 8 * l.length + j := by rw [List.length_append, bitsOf_len, List.length_replicate]
    cases gk with
    | zero =>
      obtain rfl : j = pad6 l.length := by omega
      have ht := pad6_end l.length
      obtain ⟨L, hL⟩ : ∃ L, bitsOf l ++ List.replicate (pad6 l.length) false = L := ⟨_, rfl⟩
      rw [← hlen2] at ht
      rw [hL] at hrow hin hcap HE ht hlen2 ⊢
      have hq : L.length = 6 * ((8 * l.length + pad6 l.length) / 6) := by omega
      obtain ⟨q, hqd⟩ : ∃ q, (8 * l.length + pad6 l.length) / 6 = q := ⟨_, rfl⟩
      rw [hqd] at hq HE
      have ht2 : (((L.length : Nat) : Int) % 6 != 0) = false := by simp [ht]
      have HQ := Lib.hid hq
      have hLb : L.length ≤ 34000000 := by omega
      have hq3 : q ≤ 34000000 := by omega
      clear hlen2 hL hqd ht hq hrow
      go_wp2_with fail
      obtain ⟨wo, rfl⟩ : ∃ wo : World, wo = wr := ⟨_, rfl⟩
      have HO := Lib.hid hbx
      have HI := Lib.hid hin
      clear hbx hin hshape
      go_loopg [6, 7] q (fun g s6 s7 wy => ∃ k : Nat, k + g = q ∧ s7 = .int .i64 ((6 * k : Nat) : Int) ∧ wy.ownsRow wo.heap.size 5 1 s6 k (byteCells (text (sg6 web) (digs 6 k L))) ∧ Below wo.heap.size wo wy)
      case atStart => exact ⟨0, by omega, rfl, World.ownsRow_nil _ _ _ _, Below.refl _ _⟩
      case round =>
        obtain ⟨k, hkg, rfl, hrow, hbx⟩ := hrel
        cases gk with
        | zero =>
          obtain rfl : k = q := by omega
          have hz : ¬ (((6 * k : Nat) : Int) < ((L.length : Nat) : Int)) := by rw [HQ.out]; omega
          have hcv := conv_own hrow
          rw [← HE.out] at hcv
          go_wp2
          go_ret
          exact ⟨rfl, HO.out.trans (hbx.mono HO.out.size)⟩
        | succ g =>
          have hz : ((6 * k : Nat) : Int) < ((L.length : Nat) : Int) := by rw [HQ.out]; omega
          have hz6 : 6 * k + 6 ≤ L.length := by rw [HQ.out]; omega
          obtain ⟨b, o, rfl, hc⟩ := HI.out (by omega)
          have hlt : b < wo.heap.size := cell_lt (hc 0 (by omega))
          have hM : Hid (((L.drop (6 * k)).take 6).length = 6) := by show _ = _; rw [List.length_take, List.length_drop]; omega
          have hin6 : InB wr (some ⟨b, o + 6 * k, none⟩) ((L.drop (6 * k)).take 6) := fun _ => ⟨b, o + 6 * k, rfl, fun i hi => by
            rw [hM.out] at hi
            rw [show o + 6 * k + i = o + (6 * k + i) from by omega, hbx.cell (p := ⟨b, o + (6 * k + i), none⟩) hlt, hc (6 * k + i) (by omega)]
            simp [List.getD, hi]⟩
          have cN := number_c _ (c5 - 6 * k) _ wr hin6 (by rw [hM.out]; omega)
          rw [hM.out] at cN
          have CN := Lib.hid cN
          have HD := Lib.hid (digs_take 6 k L)
          have hd64 : num ((L.drop (6 * k)).take 6) < 64 := by have := num_lt ((L.drop (6 * k)).take 6); rw [hM.out] at this; omega
          obtain ⟨d, hd⟩ : ∃ d, num ((L.drop (6 * k)).take 6) = d := ⟨_, rfl⟩
          rw [hd] at CN HD hd64
          have HS := Lib.hid (sgn_sg6 d web hd64)
          clear cN hin6 hc hd
          go_wp2_with (first
            | (go_at_call 105; refine CN.out.mono ?_; rintro e w2 ⟨rfl, rfl⟩)
            | (go_at_call 104; refine (sign_c _ web (by omega) (by omega) _).mono ?_; rintro e w2 ⟨rfl, rfl⟩; rw [HS.out])
            | (at_builtin; refine wpList_append_own _ rfl _ _ 81 rfl wo.heap.size 5 j0 (.int .u8 0) 1 1 Tryz.underlying81 hj hy0 hy1 hy2 rfl (by decide) _ _ _ rfl (hrow.alloc _) ⟨wr.heap.size, 0, none⟩ 1 1 [.int .u8 ((sg6 web d).toNat : Int)] rfl rfl (cell_one_new _ _ _) (fun x hx => by simp at hx; subst hx; rfl) (by unfold maxLen; omega) (by omega) (by have := hbx.size; simp; omega) ?_; intro v' w1 hown' hgrow _))
          go_roundg g
          case measure => omega
          case rel =>
            refine ⟨k + 1, by omega, by go_num, ?_, (hbx.alloc hbx.size _).grown hgrow (by have := hbx.size; simp; omega) (fun q hq => (hrow.lt q hq).1)⟩
            rw [HD.out, show text (sg6 web) (digs 6 k L ++ [d]) = text (sg6 web) (digs 6 k L) ++ [sg6 web d] from by simp [text], byteCells_snoc]
            exact hown'
    | succ g =>
      have ht := pad6_go l.length j (by omega)
      rw [← hlen2] at ht
      have ht2 : (((bitsOf l ++ List.replicate j false).length : Nat) : Int) % 6 != 0 := by simpa using ht
      have HS : Hid (bitsOf l ++ List.replicate (j + 1) false = (bitsOf l ++ List.replicate j false) ++ [false]) := by show _ = _; rw [List.append_assoc, ← List.replicate_succ']
      obtain ⟨L, hL⟩ : ∃ L, bitsOf l ++ List.replicate j false = L := ⟨_, rfl⟩
      rw [hL] at hrow hin hcap ht2 hlen2 HS ⊢
      have hLb : L.length ≤ 34000000 := by omega
      clear hL ht hlen2 hin hshape
      go_wp2_with (first
        | (at_builtin; refine wpList_append_own _ rfl _ _ 130 rfl w.heap.size 4 i0 (.bool false) 1 1 Tryz.underlying130 hi hz0 hz1 hz2 rfl (by decide) _ _ _ rfl (hrow.alloc _) ⟨wr.heap.size, 0, none⟩ 1 1 [.bool false] rfl rfl (cell_one_new _ _ _) (fun x hx => by simp at hx; subst hx; rfl) (by unfold maxLen; omega) (by omega) (by have := hbx.size; simp; omega) ?_; intro v' w1 hown' hgrow _))
      go_roundg g
      case measure => omega
      case rel =>
        refine ⟨j + 1, by omega, ?_, (hbx.alloc hbx.size _).grown hgrow (by have := hbx.size; simp; omega) (fun q hq => (hrow.lt q hq).1)⟩
        rw [HS.out, bools_snoc, List.length_append]
        exact hown'
set_option maxHeartbeats 400000 in
theorem rbas2_c (p : Option Addr) (cp : Nat) (l : List UInt8) (w : World) (hp : In8 w p l) (hl : l.length ≤ 4194304) :
    Calls Tryz.prog 44 #[.slice p l.length cp] w fun e w' => e = .returned (.string ⟨(basT l).toArray⟩) ∧ Below w.heap.size w w' := by
  have h := sixes2_c p cp l false w hp hl
  rw [text6c] at h
  have hbl := basB_len l
  obtain ⟨B, hB⟩ : ∃ B, basB l = B := ⟨_, rfl⟩
  have HT : Hid (basT l = B ++ List.replicate (lack B.length) 61) := by show _ = _; rw [← hB]; rfl
  rw [hB] at h hbl
  have hb2 : B.length ≤ 18000000 := by omega
  have hlk : lack B.length ≤ 3 := by unfold lack; omega
  have H := Lib.hid h
  clear h hbl hB
  go_enter Tryz.func44, Tryz.ntmps44
  go_wp2_with (go_at_call 74; refine H.out.mono ?_; rintro e w1 ⟨rfl, hb⟩)
  go_loopg [3] (lack B.length) (fun g s3 wx => ∃ (j : Nat) (X : List UInt8), j + g = lack B.length ∧ s3 = .string ⟨X.toArray⟩ ∧ X.length = B.length + j ∧ Hid (X = B ++ List.replicate j 61) ∧ w1 = wx)
  case atStart => exact ⟨0, B, by omega, rfl, rfl, by show _ = _; simp, rfl⟩
  case round =>
    obtain ⟨j, X, hjg, rfl, hX, HX, rfl⟩ := hrel
    cases gk with
    | zero =>
      obtain rfl : j = lack B.length := by omega
      have ht := lack_end2 B.length
      rw [← hX] at ht
      have HXL := Lib.hid hX
      clear hX
      go_wp2_with fail
      go_ret
      exact ⟨ret_string (by rw [HT.out, HX.out]), hb⟩
    | succ g =>
      have ht := lack_go2 B.length j (by omega)
      rw [← hX] at ht
      have hXb : X.length ≤ 18000010 := by omega
      have HXL := Lib.hid hX
      clear hX
      go_wp2_with fail
      go_roundg g
      case measure => omega
      case rel => exact ⟨j + 1, X ++ [61], by omega, congrArg Value.string (ba_append X [61]), by rw [List.length_append, HXL.out]; rfl, by show _ = _; rw [HX.out, List.append_assoc, ← List.replicate_succ'], rfl⟩
end Go.Proofs.YteihjgakhkpgnaaGreatDoor.oct
namespace Go.Proofs.YteihjgakhkpgnaaGreatDoor.rol
open Go.RowKit
open Go.Proofs.YteihjgakhkpgnaaGreatDoor.oct Go.Proofs.YteihjgakhkpgnaaGreatDoor.ref Go.Proofs.YteihjgakhkpgnaaGreatDoor.rows Go.Proofs.YteihjgakhkpgnaaGreatDoor.rowg Go.Proofs.YteihjgakhkpgnaaGreatDoor.trn
open Go.Proofs.YteihjgakhkpgnaaGreatDoor.fld (quote rquote_l)
set_option maxRecDepth 100000 in
set_option maxHeartbeats 400000 in
theorem rheader_c (id sec : T) (w : World) (h1 : id.length + sec.length ≤ 1048576) :
    Calls Tryz.prog 20 #[.string ⟨id.toArray⟩, .string ⟨sec.toArray⟩] w fun e w' => e = .returned (.string ⟨(headP id sec).toArray⟩) ∧ Below w.heap.size w w' := by
  have l1 := fld.quote_len id
  have l2 := fld.quote_len sec
  have HQ1 := Lib.hid (fun W => rquote_l id W (by omega))
  have HQ2 := Lib.hid (fun W => rquote_l sec W (by omega))
  have HR : Hid (headP id sec = wBas ++ basT (quote id ++ 58 :: quote sec)) := rfl
  obtain ⟨a, ha⟩ : ∃ a, quote id = a := ⟨_, rfl⟩
  obtain ⟨b, hb⟩ : ∃ b, quote sec = b := ⟨_, rfl⟩
  rw [ha] at HQ1 HR l1
  rw [hb] at HQ2 HR l2
  have HCV : Hid (∀ W, ∃ W' cp, (convert 9 81 (.string ((⟨a.toArray⟩ : ByteArray) ++ ⟨#[58]⟩ ++ ⟨b.toArray⟩))).run Tryz.prog W = .ok (.slice (some ⟨W.heap.size, 0, none⟩) (a ++ 58 :: b).length cp) W' ∧ In8 W' (some ⟨W.heap.size, 0, none⟩) (a ++ 58 :: b) ∧ (a ++ 58 :: b).length ≤ cp ∧ Below W.heap.size W W') := Lib.hid fun W => by rw [ba3h]; exact conv_row (a ++ 58 :: b) W
  have hlen : (a ++ 58 :: b).length = a.length + (b.length + 1) := by simp
  have hbl := basT_len (a ++ 58 :: b)
  have hn1 : ¬ (9223372036854775807 < a.length + 1) := by omega
  have hn2 : ¬ (9223372036854775807 < a.length + 1 + b.length) := by omega
  have HBS : Hid (∀ W p cp, In8 W p (a ++ 58 :: b) → Calls Tryz.prog 44 #[.slice p (a ++ 58 :: b).length cp] W fun e w' => e = .returned (.string ⟨(basT (a ++ 58 :: b)).toArray⟩) ∧ Below W.heap.size W w') := Lib.hid fun W p cp hp => rbas2_c p cp _ W hp (by omega)
  have hn3 : ¬ (9223372036854775807 < 6 + (basT (a ++ 58 :: b)).length) := by omega
  obtain ⟨m, hm⟩ : ∃ m, (a ++ 58 :: b).length = m := ⟨_, rfl⟩
  obtain ⟨s, hs⟩ : ∃ s, basT (a ++ 58 :: b) = s := ⟨_, rfl⟩
  rw [hm] at HCV
  rw [hm, hs] at HBS
  rw [hs] at HR hn3
  clear ha hb hlen hbl hm hs l1 l2 h1
  go_enter Tryz.func20, Tryz.ntmps20
  go_wp2_with fail
  refine (HQ1.out _).mono ?_
  rintro e w1 ⟨rfl, hb1⟩
  have HB1 := Lib.hid hb1
  clear hb1
  go_wp2_with fail
  refine (HQ2.out _).mono ?_
  rintro e w2 ⟨rfl, hb2⟩
  have HB2 := Lib.hid (bnext HB1.out hb2)
  obtain ⟨w3, cp, hcv, h8, hcp, hb3⟩ := HCV.out w2
  have HB3 := Lib.hid (bnext HB2.out hb3)
  have HBQ := Lib.hid (HBS.out w3 _ cp h8)
  clear hb2 h8 hcp hb3
  go_wp2_with (go_at_call 44; (with_reducible refine HBQ.out.mono ?_); rintro e w4 ⟨rfl, hb4⟩; have HB4 := Lib.hid (bnext HB3.out hb4); clear hb4)
  go_ret
  exact ⟨by rw [HR.out, ← ba2h]; rfl, HB4.out⟩
end Go.Proofs.YteihjgakhkpgnaaGreatDoor.rol
