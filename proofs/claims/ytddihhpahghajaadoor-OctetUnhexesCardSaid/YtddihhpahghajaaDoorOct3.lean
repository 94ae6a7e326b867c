/- Contracts of the reference's bits, number and sixes: the bits of bytes, numbers of bits, signs of sixty-four. For rows of bytes up to 2097152 (known cells). -/
import Derived.Test.YtddihhpahghajaaDoorOct2
import Derived.Test.YtddihhpahghajaaDoorPlain1
namespace Go.Proofs.YtddihhpahghajaaDoor.oct
open Go.RowKit
open Go.Proofs.YtddihhpahghajaaDoor.pl

theorem cell_lt {w : World} {a : Addr} {v : Value} (h : w.cell? a = some v) : a.block < w.heap.size := by
  rcases Nat.lt_or_ge a.block w.heap.size with h' | h'
  · exact h'
  · simp [World.cell?, Array.getElem?_eq_none h'] at h
theorem In8.below {w w' : World} {p : Option Addr} {l : List UInt8} (h : In8 w p l) (hb : Below w.heap.size w w') : In8 w' p l := by
  intro hl
  obtain ⟨b, o, rfl, hc⟩ := h hl
  have hlt : b < w.heap.size := cell_lt (hc 0 hl)
  exact ⟨b, o, rfl, fun i hi => (hb.cell (p := ⟨b, o + i, none⟩) hlt).trans (hc i hi)⟩
theorem In8.blt {w : World} {b o : Nat} {x : Option Nat} {l : List UInt8} (h : In8 w (some ⟨b, o, x⟩) l) (hl : 0 < l.length) : b < w.heap.size := by
  obtain ⟨b', o', h1, hc⟩ := h hl
  cases h1
  exact cell_lt (hc 0 hl)

theorem bnext {w w1 w2 : World} (h : Below w.heap.size w w1) (k : Below w1.heap.size w1 w2) : Below w.heap.size w w2 := h.trans (k.mono h.size)

def bools (l : List Bool) : List Value := l.map Value.bool
@[simp] theorem bools_len (l : List Bool) : (bools l).length = l.length := by simp [bools]
theorem bools_snoc (l : List Bool) (b : Bool) : bools (l ++ [b]) = bools l ++ [.bool b] := by simp [bools]

theorem infoBool : (Tryd.prog.info? 4).map (fun i => (i.zero, i.size, i.bytes)) = some (some (.bool false), 1, 1) := by kernel_rfl
theorem infoByte : (Tryd.prog.info? 5).map (fun i => (i.zero, i.size, i.bytes)) = some (some (.int .u8 0), 1, 1) := by kernel_rfl

theorem bit_at (c j : Nat) (h : j < 8) : (bitsN 8 c).take (j + 1) = (bitsN 8 c).take j ++ [((c : Int) / ((128 / 2 ^ j : Nat) : Int) % 2 == 1)] := by
  have e : ((c : Int) / ((128 / 2 ^ j : Nat) : Int) % 2 == 1) = (c / (128 / 2 ^ j) % 2 == 1) := by
    rw [Bool.eq_iff_iff, beq_iff_eq, beq_iff_eq]
    rw [← Int.natCast_ediv]; omega
  rw [e]
  have : j = 0 ∨ j = 1 ∨ j = 2 ∨ j = 3 ∨ j = 4 ∨ j = 5 ∨ j = 6 ∨ j = 7 := by omega
  rcases this with rfl | rfl | rfl | rfl | rfl | rfl | rfl | rfl <;> (simp [bitsN] <;> rfl)
theorem quo_bd (c h : Nat) (hc : c < 256) : 0 ≤ (c : Int) / (h : Int) ∧ (c : Int) / (h : Int) ≤ 255 := by
  have h1 : ((c / h : Nat) : Int) = (c : Int) / (h : Int) := Int.natCast_ediv c h
  have h2 : c / h ≤ 255 := Nat.le_trans (Nat.div_le_self c h) (by omega)
  rw [← h1]
  exact ⟨Int.natCast_nonneg _, Int.ofNat_le.2 h2⟩
theorem half_at (j : Nat) (h : j < 8) : 128 / 2 ^ j / 2 = 128 / 2 ^ (j + 1) ∧ 1 ≤ 128 / 2 ^ j ∧ 128 / 2 ^ j ≤ 128 := by
  have : j = 0 ∨ j = 1 ∨ j = 2 ∨ j = 3 ∨ j = 4 ∨ j = 5 ∨ j = 6 ∨ j = 7 := by omega
  rcases this with rfl | rfl | rfl | rfl | rfl | rfl | rfl | rfl <;> simp

set_option maxHeartbeats 1000000 in
theorem bits_c (p : Option Addr) (cp : Nat) (l : List UInt8) (w : World) (hp : In8 w p l) (hl : l.length ≤ 2097152) :
    Calls Tryd.prog 47 #[.slice p l.length cp] w fun e w' =>
      ∃ v, e = .returned v ∧ w'.ownsRow w.heap.size 4 1 v (bitsOf l).length (bools (bitsOf l)) ∧ Below w.heap.size w w' := by
  obtain ⟨i0, hi, hz0, hz1, hz2⟩ := info_parts infoBool
  have HP := Lib.hid hp
  clear hp
  go_enter Tryd.func47, Tryd.ntmps47
  go_wp2
  go_loopg [3, 4] l.length (fun g s3 s4 wx => ∃ k : Nat, k + g = l.length ∧ s4 = .int .i64 k ∧ wx.ownsRow w.heap.size 4 1 s3 (bitsOf (l.take k)).length (bools (bitsOf (l.take k))) ∧ Below w.heap.size w wx)
  case atStart => exact ⟨0, by omega, rfl, World.ownsRow_nil _ _ _ _, Below.refl _ _⟩
  case round =>
    obtain ⟨k, hkg, rfl, hrow, hbx⟩ := hrel
    cases gk with
    | zero =>
      have hkz : ¬ ((k : Int) < (l.length : Int)) := by omega
      have HK : Hid (l.take k = l) := List.take_of_length_le (by omega)
      go_wp2
      go_ret
      have e := HK.out
      rw [e] at hrow
      exact ⟨_, rfl, hrow, hbx⟩
    | succ g =>
      have hkz : (k : Int) < (l.length : Int) := by omega
      obtain ⟨b, o, rfl, hc⟩ := HP.out.at (by omega)
      have hbl : b < w.heap.size := HP.out.blt (by omega)
      have hcell : ∀ wy, Below w.heap.size w wy → wy.cell? ⟨b, o + k, none⟩ = some (.int .u8 ((l.getD k 0).toNat : Int)) := fun wy hy => (hy.cell (p := ⟨b, o + k, none⟩) hbl).trans (hc k (by omega))
      have HC := Lib.hid hcell
      clear hc hcell
      obtain ⟨c, hcd⟩ : ∃ c : UInt8, l.getD k 0 = c := ⟨_, rfl⟩
      have HT : Hid (bitsOf (l.take (k + 1)) = bitsOf (l.take k) ++ bitsN 8 c.toNat) := by
        show _ = _
        rw [List.take_succ_eq_append_getElem (by omega), bitsOf_snoc, ← hcd]; simp [List.getD, List.getElem?_eq_getElem (show k < l.length by omega)]
      have HL : Hid ((bitsOf (l.take k)).length = 8 * k) := by show _ = _; rw [bitsOf_len, List.length_take]; omega
      have hc256 := c.toNat_lt
      rw [hcd] at HC
      clear hcd
      go_wp2
      go_loopg [3, 5] 8 (fun g2 s3 s5 wy => ∃ j : Nat, j + g2 = 8 ∧ s5 = .int .i64 ((128 / 2 ^ j : Nat) : Int) ∧ wy.ownsRow w.heap.size 4 1 s3 (bitsOf (l.take k) ++ (bitsN 8 c.toNat).take j).length (bools (bitsOf (l.take k) ++ (bitsN 8 c.toNat).take j)) ∧ Below w.heap.size w wy)
      case atStart => exact ⟨0, by omega, rfl, by simpa using hrow, hbx⟩
      case round =>
        clear hrow hbx
        obtain ⟨j, hjg, rfl, hrow, hbx⟩ := hrel
        cases gk with
        | zero =>
          obtain rfl : j = 8 := by omega
          go_wp2
          go_roundg g
          case measure => omega
          case rel =>
            refine ⟨k + 1, by omega, by go_num, ?_, hbx⟩
            rw [HT.out]
            rwa [show (bitsN 8 c.toNat).take 8 = bitsN 8 c.toNat from List.take_of_length_le (by simp)] at hrow
        | succ g2 =>
          obtain ⟨h1, h2, h3⟩ := half_at j (by omega)
          have HB := Lib.hid (bit_at c.toNat j (by omega))
          obtain ⟨q1, q2⟩ := quo_bd c.toNat (128 / 2 ^ j) (by omega)
          obtain ⟨hv, hhv⟩ : ∃ hv, 128 / 2 ^ j = hv := ⟨_, rfl⟩
          rw [hhv] at h1 h2 h3 HB q1 q2 ⊢
          have hcw := HC.out _ hbx
          have hlen : (bitsOf (l.take k) ++ (bitsN 8 c.toNat).take j).length ≤ 20000000 := by rw [List.length_append, HL.out, List.length_take]; omega
          have H1 := Lib.hid h1
          clear h1 hhv
          go_wp2_with (first
            | (at_builtin; refine wpList_append_own _ rfl _ _ 56 rfl w.heap.size 4 i0 (.bool false) 1 1 Tryd.underlying56 hi hz0 hz1 hz2 rfl (by decide) _ _ _ rfl (hrow.alloc _) ⟨wr.heap.size, 0, none⟩ 1 1 [.bool ((c.toNat : Int) / (hv : Int) % 2 == 1)] rfl rfl (cell_one_new _ _ _) (fun x hx => by simp at hx; subst hx; rfl) (by unfold maxLen; omega) (by omega) (by have := hbx.size; simp; omega) ?_; intro v' w1 hown' hgrow _))
          go_roundg g2
          case measure => omega
          case rel =>
            refine ⟨j + 1, by omega, ?_, ?_, (hbx.alloc hbx.size _).grown hgrow (by have := hbx.size; simp; omega) (fun q hq => (hrow.lt q hq).1)⟩
            · rw [← H1.out]; simp
            · rw [HB.out, ← List.append_assoc, bools_snoc, List.length_append]
              exact hown'

/-- a row of bools at a slice's address -/
def InB (w : World) (p : Option Addr) (l : List Bool) : Prop :=
  0 < l.length → ∃ b o, p = some ⟨b, o, none⟩ ∧ ∀ i, i < l.length → w.cell? ⟨b, o + i, none⟩ = some (.bool (l.getD i false))

theorem num_take {l : List Bool} {k : Nat} (h : k < l.length) : num (l.take (k + 1)) = 2 * num (l.take k) + (l[k]).toNat := by
  rw [List.take_succ_eq_append_getElem h, num_append]
  simp [num, Nat.mul_comm]

set_option maxHeartbeats 400000 in
theorem number_c (p : Option Addr) (cp : Nat) (l : List Bool) (w : World) (hp : InB w p l) (hl : l.length ≤ 8) :
    Calls Tryd.prog 49 #[.slice p l.length cp] w fun e w' => e = .returned (.int .i64 (num l)) ∧ w = w' := by
  have HP := Lib.hid hp
  clear hp
  go_enter Tryd.func49, Tryd.ntmps49
  go_wp2
  go_loop [3, 4] (fun n i => ∃ k m : Nat, k ≤ l.length ∧ i = .int .i64 k ∧ n = .int .i64 m ∧ Hid (m = num (l.take k)) ∧ m < 256) (fun _ i => l.length - (intOf i).toNat)
  case atStart => exact ⟨0, 0, by omega, rfl, rfl, rfl, by omega⟩
  case round =>
    obtain ⟨k, m, hk, rfl, rfl, HM, hm⟩ := hrel
    by_cases hlt : k < l.length
    · obtain ⟨b, o, rfl, hc⟩ := HP.out (by omega)
      have hcell := hc k hlt
      have hbd : 2 * m + (l[k]).toNat < 256 := by
        have := num_take hlt
        rw [← HM.out] at this
        have h2 := num_lt (l.take (k + 1))
        have h3 : 2 ^ (l.take (k + 1)).length ≤ 2 ^ 8 := Nat.pow_le_pow_right (by decide) (by rw [List.length_take]; omega)
        omega
      have HN : Hid (2 * m + (l[k]).toNat = num (l.take (k + 1))) := by show _ = _; rw [num_take hlt, ← HM.out]
      have hb : l.getD k false = l[k] := by simp [List.getD, List.getElem?_eq_getElem hlt]
      rw [hb] at hcell
      clear hc hb
      cases hbit : l[k]
      · rw [hbit] at hcell hbd HN
        clear hbit
        go_wp2
        go_round
        case rel => exact ⟨k + 1, _, by omega, by go_num, by go_num, HN, hbd⟩
        case measure => simp [intOf]; omega
      · rw [hbit] at hcell hbd HN
        clear hbit
        simp only [Bool.toNat_true] at hbd HN
        go_wp2
        go_round
        case rel => exact ⟨k + 1, _, by omega, by go_num, by go_num, HN, hbd⟩
        case measure => simp [intOf]; omega
    · have HE : Hid ((m : Int) = num l) := by show _ = _; rw [HM.out, List.take_of_length_le (by omega)]
      go_wp2
      go_ret
      exact ⟨ret_int HE.out, rfl⟩
end Go.Proofs.YtddihhpahghajaaDoor.oct
