/- The contract of the developers' Get. Rows of up to 2^42 pairs, whose values are texts that fit a row. -/
import Derived.Test.YtfgenbmobfbifaaFdv1
import Derived.Test.YtfgenbmobfbifaaFld5
namespace Go.Proofs.Ytfgenbmobfbifaa.fdv
open Go.RowKit
open Go.Proofs.Ytfgenbmobfbifaa.oct Go.Proofs.Ytfgenbmobfbifaa.ref Go.Proofs.Ytfgenbmobfbifaa.fld
open Go.Lib (byteCells)

theorem getV_len (ps : List Pr) (n : List UInt8) (m : Nat) (h : ∀ x ∈ ps, x.2.length ≤ m) : (getV ps n).length ≤ m := by
  unfold getV
  cases hf : ps.find? (fun x => x.1 == n) with
  | none => exact Nat.zero_le _
  | some x => exact h x (List.mem_of_find?_eq_some hf)
set_option maxHeartbeats 2000000 in
theorem dget_c (P : Option Addr) (C : Nat) (ps : List Pr) (n : List UInt8) (w : World) (hp : InPr w P ps) (hl : ps.length ≤ 140737488355328) (hv : ∀ x ∈ ps, x.2.length ≤ 140737488355328) :
    Calls Try.prog 22 #[.slice P ps.length C, tx n] w fun e w' => e = .returned (.tuple #[tx (getV ps n), .int .i64 (getN ps n : Nat)]) ∧ Below w.heap.size w w' := by
  have HV := Lib.hid (getV_len ps n _ hv)
  have HP := Lib.hid hp
  clear hv hp
  unfold tx
  go_enter Try.func22, Try.ntmps22
  go_wp2_with fail
  go_loopg [6, 7, 12] ps.length (fun g s6 s7 s12 wx => ∃ k : Nat, k + g = ps.length ∧ s12 = .int .i64 k ∧ s7 = .int .i64 (getN (ps.take k) n : Nat) ∧ s6 = .string ⟨(getV (ps.take k) n).toArray⟩ ∧ Below w.heap.size w wx)
  case atStart => exact ⟨0, by omega, rfl, rfl, rfl, Below.refl _ _⟩
  case round =>
    obtain ⟨k, hk, rfl, rfl, rfl, hb⟩ := hrel
    cases gk with
    | succ g =>
      have hlt : k < ps.length := by omega
      have hkI : (k : Int) < (ps.length : Int) := by omega
      obtain ⟨b, o, rfl, hc⟩ := (HP.out.below hb) (by omega)
      obtain ⟨c1, c2⟩ := hc k hlt
      unfold tx at c1 c2
      have hT : ps.take (k + 1) = ps.take k ++ [ps[k]] := List.take_succ_eq_append_getElem hlt
      have HN := Lib.hid (getN_snoc (ps.take k) ps[k] n)
      have HH := Lib.hid (getV_hit (ps.take k) ps[k] n)
      have HM := Lib.hid (getV_miss (ps.take k) ps[k] n)
      have HA := Lib.hid (getV_append (ps.take k) [ps[k]] n)
      have hle : getN (ps.take k) n ≤ ps.length := Nat.le_trans (getN_le _ _) (by rw [List.length_take]; omega)
      rw [← hT] at HN HH HM HA
      obtain ⟨x, hx⟩ : ∃ x, ps[k] = x := ⟨_, rfl⟩
      rw [hx] at c1 c2 HN HH HM
      obtain ⟨x1, x2⟩ := x
      dsimp only at c1 c2 HN HH HM
      have HT := Lib.hid hT
      clear hT hx hc
      obtain ⟨m, hm⟩ : ∃ m, getN (ps.take k) n = m := ⟨_, rfl⟩
      rw [hm] at HN HH HA hle ⊢
      clear hm
      have hb9 := hb.alloc hb.size (.cells #[.string ⟨x1.toArray⟩, .string ⟨x2.toArray⟩] 44)
      go_wp2_with fail
      · have he : (!x1 == n) = true := by assumption
        have hef : (x1 == n) = false := by simpa using he
        have H1 : Hid (getN (ps.take (k + 1)) n = m) := by show _ = _; rw [HN.out, hef]; rfl
        have H2 : Hid (getV (ps.take (k + 1)) n = getV (ps.take k) n) := HM.out hef
        go_roundg g
        case measure => omega
        case rel => exact ⟨k + 1, by omega, by go_num, by rw [H1.out], by rw [H2.out], hb9⟩
      · have he : (!x1 == n) = false := by assumption
        have hef : (x1 == n) = true := by simpa using he
        have hm0' : ((m : Int) == 0) = true := by assumption
        have hm0 : m = 0 := by have := (beq_iff_eq.1 hm0'); omega
        have H1 : Hid (getN (ps.take (k + 1)) n = m + 1) := by show _ = _; rw [HN.out, if_pos hef]
        have H2 : Hid (getV (ps.take (k + 1)) n = x2) := HH.out hm0 hef
        go_roundg g
        case measure => omega
        case rel => exact ⟨k + 1, by omega, by go_num, by rw [H1.out]; go_num, by rw [H2.out], hb9⟩
      · have he : (!x1 == n) = false := by assumption
        have hef : (x1 == n) = true := by simpa using he
        have hm0' : ((m : Int) == 0) = false := by assumption
        have hm0 : m ≠ 0 := by have := (beq_eq_false_iff_ne.1 hm0'); omega
        have H1 : Hid (getN (ps.take (k + 1)) n = m + 1) := by show _ = _; rw [HN.out, if_pos hef]
        have H2 : Hid (getV (ps.take (k + 1)) n = getV (ps.take k) n) := HA.out hm0
        go_roundg g
        case measure => omega
        case rel => exact ⟨k + 1, by omega, by go_num, by rw [H1.out]; go_num, by rw [H2.out], hb9⟩
    | zero =>
      obtain rfl : k = ps.length := by omega
      have e : ps.take ps.length = ps := List.take_length
      rw [e]
      clear e
      have HC := Lib.hid (clone_c ⟨(getV ps n).toArray⟩ wr (by have := HV.out; show (getV ps n).toArray.size ≤ _; rw [List.size_toArray]; omega))
      have HB := Lib.hid hb
      clear hb
      go_wp2_with (go_at_call 38; refine HC.out.mono ?_; rintro e w2 ⟨rfl, hb2⟩)
      go_ret2
      exact ⟨rfl, bnext HB.out hb2⟩
end Go.Proofs.Ytfgenbmobfbifaa.fdv
