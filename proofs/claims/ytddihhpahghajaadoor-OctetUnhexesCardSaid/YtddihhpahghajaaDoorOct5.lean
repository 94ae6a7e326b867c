/- The contract of the reference's sixes: bytes as signs of sixty-four (rows up to 2097152 bytes). -/
import Derived.Test.YtddihhpahghajaaDoorOct4
namespace Go.Proofs.YtddihhpahghajaaDoor.oct
open Go.RowKit
open Go.Proofs.YtddihhpahghajaaDoor.pl
open Go.Lib (byteCells)

def sg6 (web : Bool) (n : Nat) : UInt8 := UInt8.ofNat (sgn n web).toNat
theorem sgn_bd (n : Int) (web : Bool) (h0 : 0 ≤ n) (h1 : n < 64) : 0 ≤ sgn n web ∧ sgn n web < 256 := by
  unfold sgn
  split
  · omega
  split
  · omega
  split
  · omega
  split <;> cases web <;> simp
theorem sgn_sg6 (n : Nat) (web : Bool) (h1 : n < 64) : sgn n web = ((sg6 web n).toNat : Int) := by
  obtain ⟨a, b⟩ := sgn_bd n web (by omega) (by omega)
  unfold sg6
  rw [UInt8.toNat_ofNat', Nat.mod_eq_of_lt (by omega)]
  omega

def pad6 (n : Nat) : Nat := (6 - 8 * n % 6) % 6
theorem pad6_lt (n : Nat) : pad6 n < 6 := Nat.mod_lt _ (by omega)
theorem pad6_go (n j : Nat) (h : j < pad6 n) : ((8 * n + j : Nat) : Int) % 6 ≠ 0 := by unfold pad6 at h; omega
theorem pad6_end (n : Nat) : ((8 * n + pad6 n : Nat) : Int) % 6 = 0 := by unfold pad6; omega

theorem digs_take (w k : Nat) (L : List Bool) : digs w (k + 1) L = digs w k L ++ [num ((L.drop (w * k)).take w)] := by
  induction k generalizing L with
  | zero => simp [digs]
  | succ k ih =>
    rw [digs, ih, digs, List.drop_drop, List.cons_append]
    congr 4
    rw [Nat.mul_succ, Nat.add_comm]

set_option maxHeartbeats 1000000 in
theorem sixes_c (p : Option Addr) (cp : Nat) (l : List UInt8) (web : Bool) (w : World) (hp : In8 w p l) (hl : l.length ≤ 2097152) :
    Calls Tryd.prog 38 #[.slice p l.length cp, .bool web] w fun e w' =>
      e = .returned (.string ⟨(text (sg6 web) (enc 6 l)).toArray⟩) ∧ Below w.heap.size w w' := by
  obtain ⟨i0, hi, hz0, hz1, hz2⟩ := info_parts infoBool
  obtain ⟨j0, hj, hy0, hy1, hy2⟩ := info_parts infoByte
  have HP := Lib.hid (bits_c p cp l w hp hl)
  clear hp
  have HE : Hid (enc 6 l = digs 6 ((8 * l.length + pad6 l.length) / 6) (bitsOf l ++ List.replicate (pad6 l.length) false)) := rfl
  have hP := pad6_lt l.length
  go_enter Tryd.func38, Tryd.ntmps38
  go_wp2_with (go_at_call 47; refine HP.out.mono ?_; rintro e w1 ⟨v, rfl, hown, hb1⟩)
  go_loopg [5] (pad6 l.length) (fun g s5 wx => ∃ j : Nat, j + g = pad6 l.length ∧ wx.ownsRow w.heap.size 4 1 s5 (bitsOf l ++ List.replicate j false).length (bools (bitsOf l ++ List.replicate j false)) ∧ Below w.heap.size w wx)
  case atStart => exact ⟨0, by omega, by simpa using hown, hb1⟩
  case round =>
    clear hown hb1
    obtain ⟨j, hjg, hrow, hbx⟩ := hrel
    obtain ⟨_, p5, c5, rfl, hcap, hshape, hin⟩ := own_inB hrow
    have hlen2 : (bitsOf l ++ List.replicate j false).length = 8 * l.length + j := by rw [List.length_append, bitsOf_len, List.length_replicate]
    cases gk with
    | zero =>
      obtain rfl : j = pad6 l.length := by omega
      have ht := pad6_end l.length
      obtain ⟨L, hL⟩ : ∃ L, bitsOf l ++ List.replicate (pad6 l.length) false = L := ⟨_, rfl⟩
      rw [← hlen2] at ht
      rw [hL] at hrow hin hcap HE ht hlen2 ⊢
      have hq : L.length = 6 * ((8 * l.length + pad6 l.length) / 6) := by omega
      obtain ⟨q, hqd⟩ : ∃ q, (8 * l.length + pad6 l.length) / 6 = q := ⟨_, rfl⟩
      rw [hqd] at hq HE
      have ht2 : (((L.length : Nat) : Int) % 6 != 0) = false := by simp [ht]
      have HQ := Lib.hid hq
      have hLb : L.length ≤ 17000000 := by omega
      have hq3 : q ≤ 17000000 := by omega
      clear hlen2 hL hqd ht hq hrow
      go_wp2_with fail
      obtain ⟨wo, rfl⟩ : ∃ wo : World, wo = wr := ⟨_, rfl⟩
      have HO := Lib.hid hbx
      have HI := Lib.hid hin
      clear hbx hin hshape
      go_loopg [6, 7] q (fun g s6 s7 wy => ∃ k : Nat, k + g = q ∧ s7 = .int .i64 ((6 * k : Nat) : Int) ∧ wy.ownsRow wo.heap.size 5 1 s6 k (byteCells (text (sg6 web) (digs 6 k L))) ∧ Below wo.heap.size wo wy)
      case atStart => exact ⟨0, by omega, rfl, World.ownsRow_nil _ _ _ _, Below.refl _ _⟩
      case round =>
        obtain ⟨k, hkg, rfl, hrow, hbx⟩ := hrel
        cases gk with
        | zero =>
          obtain rfl : k = q := by omega
          have hz : ¬ (((6 * k : Nat) : Int) < ((L.length : Nat) : Int)) := by rw [HQ.out]; omega
          have hcv := conv_own hrow
          rw [← HE.out] at hcv
          go_wp2
          go_ret
          exact ⟨rfl, HO.out.trans (hbx.mono HO.out.size)⟩
        | succ g =>
          have hz : ((6 * k : Nat) : Int) < ((L.length : Nat) : Int) := by rw [HQ.out]; omega
          have hz6 : 6 * k + 6 ≤ L.length := by rw [HQ.out]; omega
          obtain ⟨b, o, rfl, hc⟩ := HI.out (by omega)
          have hlt : b < wo.heap.size := cell_lt (hc 0 (by omega))
          have hM : Hid (((L.drop (6 * k)).take 6).length = 6) := by show _ = _; rw [List.length_take, List.length_drop]; omega
          have hin6 : InB wr (some ⟨b, o + 6 * k, none⟩) ((L.drop (6 * k)).take 6) := fun _ => ⟨b, o + 6 * k, rfl, fun i hi => by
            rw [hM.out] at hi
            rw [show o + 6 * k + i = o + (6 * k + i) from by omega, hbx.cell (p := ⟨b, o + (6 * k + i), none⟩) hlt, hc (6 * k + i) (by omega)]
            simp [List.getD, hi]⟩
          have cN := number_c _ (c5 - 6 * k) _ wr hin6 (by rw [hM.out]; omega)
          rw [hM.out] at cN
          have CN := Lib.hid cN
          have HD := Lib.hid (digs_take 6 k L)
          have hd64 : num ((L.drop (6 * k)).take 6) < 64 := by have := num_lt ((L.drop (6 * k)).take 6); rw [hM.out] at this; omega
          obtain ⟨d, hd⟩ : ∃ d, num ((L.drop (6 * k)).take 6) = d := ⟨_, rfl⟩
          rw [hd] at CN HD hd64
          have HS := Lib.hid (sgn_sg6 d web hd64)
          clear cN hin6 hc hd
          go_wp2_with (first
            | (go_at_call 49; refine CN.out.mono ?_; rintro e w2 ⟨rfl, rfl⟩)
            | (go_at_call 48; refine (sign_c _ web (by omega) (by omega) _).mono ?_; rintro e w2 ⟨rfl, rfl⟩; rw [HS.out])
            | (at_builtin; refine wpList_append_own _ rfl _ _ 22 rfl wo.heap.size 5 j0 (.int .u8 0) 1 1 Tryd.underlying22 hj hy0 hy1 hy2 rfl (by decide) _ _ _ rfl (hrow.alloc _) ⟨wr.heap.size, 0, none⟩ 1 1 [.int .u8 ((sg6 web d).toNat : Int)] rfl rfl (cell_one_new _ _ _) (fun x hx => by simp at hx; subst hx; rfl) (by unfold maxLen; omega) (by omega) (by have := hbx.size; simp; omega) ?_; intro v' w1 hown' hgrow _))
          go_roundg g
          case measure => omega
          case rel =>
            refine ⟨k + 1, by omega, by go_num, ?_, (hbx.alloc hbx.size _).grown hgrow (by have := hbx.size; simp; omega) (fun q hq => (hrow.lt q hq).1)⟩
            rw [HD.out, show text (sg6 web) (digs 6 k L ++ [d]) = text (sg6 web) (digs 6 k L) ++ [sg6 web d] from by simp [text], byteCells_snoc]
            exact hown'
    | succ g =>
      have ht := pad6_go l.length j (by omega)
      rw [← hlen2] at ht
      have ht2 : (((bitsOf l ++ List.replicate j false).length : Nat) : Int) % 6 != 0 := by simpa using ht
      have HS : Hid (bitsOf l ++ List.replicate (j + 1) false = (bitsOf l ++ List.replicate j false) ++ [false]) := by show _ = _; rw [List.append_assoc, ← List.replicate_succ']
      obtain ⟨L, hL⟩ : ∃ L, bitsOf l ++ List.replicate j false = L := ⟨_, rfl⟩
      rw [hL] at hrow hin hcap ht2 hlen2 HS ⊢
      have hLb : L.length ≤ 17000000 := by omega
      clear hL ht hlen2 hin hshape
      go_wp2_with (first
        | (at_builtin; refine wpList_append_own _ rfl _ _ 56 rfl w.heap.size 4 i0 (.bool false) 1 1 Tryd.underlying56 hi hz0 hz1 hz2 rfl (by decide) _ _ _ rfl (hrow.alloc _) ⟨wr.heap.size, 0, none⟩ 1 1 [.bool false] rfl rfl (cell_one_new _ _ _) (fun x hx => by simp at hx; subst hx; rfl) (by unfold maxLen; omega) (by omega) (by have := hbx.size; simp; omega) ?_; intro v' w1 hown' hgrow _))
      go_roundg g
      case measure => omega
      case rel =>
        refine ⟨j + 1, by omega, ?_, (hbx.alloc hbx.size _).grown hgrow (by have := hbx.size; simp; omega) (fun q hq => (hrow.lt q hq).1)⟩
        rw [HS.out, bools_snoc, List.length_append]
        exact hown'
end Go.Proofs.YtddihhpahghajaaDoor.oct
