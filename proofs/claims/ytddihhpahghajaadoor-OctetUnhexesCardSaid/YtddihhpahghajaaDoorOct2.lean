/- Contracts of octet.Same and of the reference's Same. The slices' cells are given. -/
import Derived.Test.YtddihhpahghajaaDoorOct1
namespace Go.Proofs.YtddihhpahghajaaDoor.oct
open Go.RowKit

theorem In8.at {w : World} {p : Option Addr} {l : List UInt8} (h : In8 w p l) (hn : 0 < l.length) : ∃ b o, p = some ⟨b, o, none⟩ ∧ ∀ i, i < l.length → w.cell? ⟨b, o + i, none⟩ = some (.int .u8 ((l.getD i 0).toNat : Int)) := h hn

theorem xor_nat (k : IntKind) (j : Nat) (hj : j ≤ k.bits) (hk : ∀ n : Int, 0 ≤ n → n < 2 ^ j → k.wrap n = n) (a b : Nat) (ha : a < 2 ^ j) (hb : b < 2 ^ j) :
    bits .xor k a b = ((a ^^^ b : Nat) : Int) := by
  have hp : 2 ^ j ≤ 2 ^ k.bits := Nat.pow_le_pow_right (by decide) hj
  have ha' : a % 2 ^ k.bits = a := Nat.mod_eq_of_lt (Nat.lt_of_lt_of_le ha hp)
  have hb' : b % 2 ^ k.bits = b := Nat.mod_eq_of_lt (Nat.lt_of_lt_of_le hb hp)
  simp only [bits, BitVec.ofInt_natCast, BitVec.toNat_xor, BitVec.toNat_ofNat, ha', hb']
  exact hk _ (Int.natCast_nonneg _) (by exact_mod_cast Nat.xor_lt_two_pow ha hb)
theorem xor_u8 (a b : UInt8) : bits .xor .u8 (a.toNat : Int) (b.toNat : Int) = ((a ^^^ b).toNat : Int) := by
  rw [xor_nat .u8 8 (by decide) wraps_u8 a.toNat b.toNat a.toNat_lt b.toNat_lt, UInt8.toNat_xor]
theorem orxor (x a b : UInt8) : bits .or .u8 (x.toNat : Int) (bits .xor .u8 (a.toNat : Int) (b.toNat : Int)) = ((x ||| (a ^^^ b)).toNat : Int) := by
  rw [xor_u8, (bits_nat .u8 8 (by decide) wraps_u8 x.toNat (a ^^^ b).toNat x.toNat_lt (a ^^^ b).toNat_lt).2, UInt8.toNat_or]
theorem orxor_zero (x a b : UInt8) : x ||| (a ^^^ b) = 0 ↔ x = 0 ∧ a = b := by
  rw [UInt8.or_eq_zero_iff, UInt8.xor_eq_zero_iff]
theorem take_eq_succ {l m : List UInt8} {k : Nat} (h1 : k < l.length) (h2 : k < m.length) : l.take (k + 1) = m.take (k + 1) ↔ l.take k = m.take k ∧ l[k] = m[k] := by
  rw [List.take_succ_eq_append_getElem h1, List.take_succ_eq_append_getElem h2]
  constructor
  · intro h
    obtain ⟨e1, e2⟩ := List.append_inj h (by simp; omega)
    exact ⟨e1, by simpa using e2⟩
  · rintro ⟨e1, e2⟩; rw [e1, e2]
theorem ret_bool {a b : Bool} (h : a = b) : Ending.returned (.bool a) = .returned (.bool b) := by rw [h]


set_option maxHeartbeats 400000 in
theorem same_c (p q : Option Addr) (cp cq : Nat) (l m : List UInt8) (w : World) (hp : In8 w p l) (hq : In8 w q m) (hl : l.length ≤ 9223372036854775807) :
    Calls Tryd.prog 30 #[.slice p l.length cp, .slice q m.length cq] w fun e w' => e = .returned (.bool (decide (l = m))) ∧ w = w' := by
  by_cases hlen : l.length = m.length
  · have hb : ((l.length : Int) != (m.length : Int)) = false := by simp [hlen]
    have HL := Lib.hid hlen
    clear hlen
    go_enter Tryd.func30, Tryd.ntmps30
    go_wp2
    go_loop [5, 15] (fun d i => ∃ k : Nat, k ≤ l.length ∧ i = .int .i64 k ∧ ∃ x : UInt8, d = .int .u8 (x.toNat : Int) ∧ Hid (x = 0 ↔ l.take k = m.take k)) (fun _ i => l.length - (intOf i).toNat)
    case atStart => exact ⟨0, by omega, rfl, 0, rfl, by show _ ↔ _; simp⟩
    case round =>
      obtain ⟨k, hk, rfl, x, rfl, HX⟩ := hrel
      by_cases hlt : k < l.length
      · obtain ⟨bp, op, rfl, cp'⟩ := hp.at (by omega)
        obtain ⟨bq, oq, rfl, cq'⟩ := hq.at (by rw [← HL.out]; omega)
        have c1 := cp' k hlt
        have c2 := cq' k (by rw [← HL.out]; omega)
        have hm2 : k < m.length := by rw [← HL.out]; omega
        clear cp' cq' hp hq
        go_wp2
        go_round
        case rel => exact ⟨k + 1, by omega, by go_num, x ||| (l[k]'hlt ^^^ m[k]'hm2), by rw [orxor], by show _ ↔ _; rw [orxor_zero, take_eq_succ hlt hm2, HX.out]⟩
        case measure => simp [intOf]; omega
      · have hkl : k = l.length := by omega
        have hfin : (decide ((x.toNat : Int) = 0)) = decide (l = m) := by
          have h1 := HX.out
          rw [hkl, List.take_length, HL.out, List.take_length] at h1
          rw [decide_eq_decide, ← h1]
          constructor
          · intro h; exact UInt8.toNat_inj.1 (by simpa using h)
          · rintro rfl; rfl
        have HF := Lib.hid hfin
        clear hfin
        go_wp2
        go_ret
        exact ⟨ret_bool HF.out, rfl⟩
  · have hb : ((l.length : Int) != (m.length : Int)) = true := by simp; omega
    go_enter Tryd.func30, Tryd.ntmps30
    go_wp2
    go_ret
    exact ⟨ret_bool (decide_eq_false fun h => hlen (by rw [h])).symm, rfl⟩

set_option maxHeartbeats 400000 in
theorem rsame_c (p q : Option Addr) (cp cq : Nat) (l m : List UInt8) (w : World) (hp : In8 w p l) (hq : In8 w q m) (hl : l.length ≤ 9223372036854775807) :
    Calls Tryd.prog 20 #[.slice p l.length cp, .slice q m.length cq] w fun e w' => e = .returned (.bool (decide (l = m))) ∧ ∃ n, w' = w.drewN n := by
  by_cases hlen : l.length = m.length
  · have hb : ((l.length : Int) != (m.length : Int)) = false := by simp [hlen]
    have HL := Lib.hid hlen
    clear hlen
    go_enter Tryd.func20, Tryd.ntmps20
    go_wp2
    go_loopw [5] (fun i wr => (∃ k : Nat, k ≤ l.length ∧ i = .int .i64 k ∧ Hid (l.take k = m.take k)) ∧ ∃ n, wr = w.drewN n) (fun i _ => l.length - (intOf i).toNat)
    case atStart => exact ⟨⟨0, by omega, rfl, rfl⟩, 0, rfl⟩
    case round =>
      obtain ⟨⟨k, hk, rfl, HX⟩, nd, rfl⟩ := hrel
      by_cases hlt : k < l.length
      · obtain ⟨bp, op, rfl, cp'⟩ := hp.at (by omega)
        obtain ⟨bq, oq, rfl, cq'⟩ := hq.at (by rw [← HL.out]; omega)
        have c1 := cp' k hlt
        have c2 := cq' k (by rw [← HL.out]; omega)
        have hm2 : k < m.length := by rw [← HL.out]; omega
        clear cp' cq' hp hq
        by_cases he : l[k] = m[k]
        · have hb2 : (((l[k]).toNat : Int) != ((m[k]).toNat : Int)) = false := by simp [he]
          have HE := Lib.hid he
          clear he
          go_wp2
          go_quiet (fail)
          go_wp2
          go_roundw
          case rel => exact ⟨⟨k + 1, by omega, by go_num, (take_eq_succ hlt hm2).2 ⟨HX.out, HE.out⟩⟩, _, rfl⟩
          case measure => simp [intOf]; omega
        · have hb2 : (((l[k]).toNat : Int) != ((m[k]).toNat : Int)) = true := by
            simp only [bne_iff_ne, ne_eq]
            intro h
            exact he (UInt8.toNat_inj.1 (by omega))
          have HE := Lib.hid he
          clear he
          go_wp2
          go_quiet (fail)
          go_wp2
          go_ret
          exact ⟨ret_bool (decide_eq_false fun h => HE.out (by subst h; rfl)).symm, _, World.drewN_drewN _ _ _⟩
      · have hkl : k = l.length := by omega
        have HF : Hid (l = m) := by
          have h1 := HX.out
          rw [hkl, List.take_length, HL.out, List.take_length] at h1
          exact h1
        clear hkl
        go_wp2
        go_ret
        exact ⟨ret_bool (decide_eq_true HF.out).symm, _, rfl⟩
  · have hb : ((l.length : Int) != (m.length : Int)) = true := by simp; omega
    go_enter Tryd.func20, Tryd.ntmps20
    go_wp2
    go_ret
    exact ⟨ret_bool (decide_eq_false fun h => hlen (by rw [h])).symm, 0, rfl⟩
end Go.Proofs.YtddihhpahghajaaDoor.oct
