/- The library's small functions that ring calls: slices.Index and Contains over texts and over ints, cmp.Compare over uint64, cmp.Or of two; what may be a ring's names. No condition beyond what a slice is. -/
import Derived.Test.YtkababeeikhifaaDoorScp3
import Derived.Test.YtkababeeikhifaaDoorRn2
import Derived.Lib.Hide
namespace Go.Proofs.YtkababeeikhifaaDoor.rng
open Go.RowKit
open Go.Proofs.YtkababeeikhifaaDoor.oct Go.Proofs.YtkababeeikhifaaDoor.ref Go.Proofs.YtkababeeikhifaaDoor.rows Go.Proofs.YtkababeeikhifaaDoor.rowg
open Go.Proofs.YtkababeeikhifaaDoor.scp (tx senc senc_len InS ins_below ins_cell take_eqk)

def ienc (n : Nat) : List Value := [.int .i64 (n : Int)]
theorem ienc_len : ∀ a, (ienc a).length = 1 := fun _ => rfl
theorem ienc_one : ∀ a : Nat, ∀ u ∈ ienc a, u.oneCell' = true := fun a u hu => by rw [List.mem_singleton.1 hu]; rfl
theorem senc_one : ∀ a : T, ∀ u ∈ senc a, u.oneCell' = true := fun a u hu => by rw [List.mem_singleton.1 hu]; rfl
abbrev InI (w : World) (P : Option Addr) (l : List Nat) : Prop := InG ienc 1 w P l
theorem ini_cell {w : World} {P : Option Addr} {ms : List Nat} (h : InI w P ms) (i : Nat) (hi : i < ms.length) : ∃ b o, P = some ⟨b, o, none⟩ ∧ w.cell? ⟨b, o + i, none⟩ = some (.int .i64 ((ms[i] : Nat) : Int)) := by
  obtain ⟨b, o, hP, hc⟩ := h.cells i hi
  have := hc 0 (by decide)
  rw [Nat.mul_one, Nat.add_zero] at this
  exact ⟨b, o, hP, this⟩
def idxZ {α : Type} [DecidableEq α] (ms : List α) (x : α) : Int := if x ∈ ms then ((ms.idxOf x : Nat) : Int) else -1
theorem idx_at {α : Type} [DecidableEq α] {ms : List α} {x : α} {k : Nat} (h : k < ms.length) (h0 : x ∉ ms.take k) (h1 : x = ms[k]) : idxZ ms x = (k : Int) := by
  have hm : x ∈ ms := h1 ▸ List.getElem_mem h
  unfold idxZ
  rw [if_pos hm]
  have e : ms = ms.take k ++ x :: ms.drop (k + 1) := by rw [h1, List.getElem_cons_drop, List.take_append_drop]
  rw [e, List.idxOf_append, if_neg h0, List.idxOf_cons_self, List.length_take]
  congr 1
  omega
theorem idx_no {α : Type} [DecidableEq α] {ms : List α} {x : α} (h : x ∉ ms) : idxZ ms x = -1 := if_neg h
def memZ {α : Type} [DecidableEq α] (ms : List α) (x : α) : Bool := decide (0 ≤ idxZ ms x)
theorem memZ_iff {α : Type} [DecidableEq α] (ms : List α) (x : α) : memZ ms x = true ↔ x ∈ ms := by
  unfold memZ idxZ
  rw [decide_eq_true_iff]
  by_cases h : x ∈ ms
  · rw [if_pos h]; exact ⟨fun _ => h, fun _ => by omega⟩
  · rw [if_neg h]; exact ⟨fun h => absurd h (by decide), fun h2 => absurd h2 h⟩
theorem memZ_no {α : Type} [DecidableEq α] {ms : List α} {x : α} (h : x ∉ ms) : memZ ms x = false := by
  cases h2 : memZ ms x with
  | false => rfl
  | true => exact absurd ((memZ_iff ms x).1 h2) h
theorem take_no {α : Type} [DecidableEq α] {ms : List α} {x : α} {k : Nat} (h : k < ms.length) (h0 : x ∉ ms.take k) (h1 : x ≠ ms[k]) : x ∉ ms.take (k + 1) := by
  rw [List.take_succ_eq_append_getElem h, List.mem_append, List.mem_singleton]
  rintro (h2 | h2)
  · exact h0 h2
  · exact h1 h2
set_option maxRecDepth 100000 in
set_option maxHeartbeats 4000000 in
theorem sidx_c (P : Option Addr) (C n : Nat) (ms : List T) (x : T) (w : World) (hp : InS w P ms) (hn : ms.length = n) (hl : n ≤ 140737488355328) :
    Calls Tryd.prog 37 #[.slice P n C, tx x] w fun e w' => e = .returned (.int .i64 (idxZ ms x)) ∧ w = w' := by
  have HP := Lib.hid hp
  have HL := Lib.hid hn
  unfold tx
  clear hp hn
  go_enter Tryd.func37, Tryd.ntmps37
  go_wp2_with fail
  go_loopg [8] n (fun g s6 wx => ∃ k : Nat, k + g = n ∧ s6 = .int .i64 k ∧ Hid (x ∉ ms.take k) ∧ wx = w)
  case atStart => exact ⟨0, by omega, rfl, Lib.hid (by simp), rfl⟩
  case round =>
    obtain ⟨k, hkg, rfl, HN, rfl⟩ := hrel
    rcases gk with _ | g
    · obtain rfl : k = n := by omega
      have HR : Hid (idxZ ms x = -1) := by have h := HN.out; rw [← HL.out, List.take_length] at h; exact Lib.hid (idx_no h)
      go_wp2_with fail
      go_ret
      exact ⟨ret_int HR.out.symm, rfl⟩
    · have hk : k < ms.length := by have := HL.out; omega
      have hkI : (k : Int) < (n : Int) := by omega
      obtain ⟨b, o, rfl, c0⟩ := ins_cell HP.out k hk
      have H1 : Hid (x = ms[k] → idxZ ms x = (k : Int)) := Lib.hid fun e => idx_at hk HN.out e
      have H2 : Hid (x ≠ ms[k] → x ∉ ms.take (k + 1)) := Lib.hid fun e => take_no hk HN.out e
      obtain ⟨x0, hm⟩ : ∃ m, ms[k] = m := ⟨_, rfl⟩
      rw [hm] at c0 H1 H2
      clear hm hk
      by_cases he : x = x0
      · have HR := Lib.hid (H1.out he)
        have hb : (x == x0) = true := by simpa using he
        clear H1 H2 he
        go_wp2_with fail
        go_ret
        exact ⟨ret_int HR.out.symm, rfl⟩
      · have HR := Lib.hid (H2.out he)
        have hb : (x == x0) = false := by simpa using he
        clear H1 H2 he
        go_wp2_with fail
        go_roundg g
        case measure => omega
        case rel => exact ⟨k + 1, by omega, by go_num, HR, rfl⟩
set_option maxHeartbeats 4000000 in
theorem shas_c (P : Option Addr) (C n : Nat) (ms : List T) (x : T) (w : World) (hp : InS w P ms) (hn : ms.length = n) (hl : n ≤ 140737488355328) :
    Calls Tryd.prog 39 #[.slice P n C, tx x] w fun e w' => e = .returned (.bool (memZ ms x)) ∧ w = w' := by
  have HI := Lib.hid (sidx_c P C n ms x w hp hn hl)
  have HG : Hid (decide (0 ≤ idxZ ms x) = memZ ms x) := Lib.hid rfl
  obtain ⟨z, hz⟩ : ∃ z, idxZ ms x = z := ⟨_, rfl⟩
  rw [hz] at HI HG
  unfold tx at *
  clear hz hp hn
  go_enter Tryd.func39, Tryd.ntmps39
  go_wp2_with (go_at_call 37; refine HI.out.mono ?_; rintro e w' ⟨rfl, rfl⟩)
  go_ret
  exact ⟨ret_bool HG.out, rfl⟩
set_option maxRecDepth 100000 in
set_option maxHeartbeats 4000000 in
theorem iidx_c (P : Option Addr) (C n : Nat) (ms : List Nat) (x : Nat) (w : World) (hp : InI w P ms) (hn : ms.length = n) (hl : n ≤ 140737488355328) :
    Calls Tryd.prog 53 #[.slice P n C, .int .i64 (x : Int)] w fun e w' => e = .returned (.int .i64 (idxZ ms x)) ∧ w = w' := by
  have HP := Lib.hid hp
  have HL := Lib.hid hn
  clear hp hn
  go_enter Tryd.func53, Tryd.ntmps53
  go_wp2_with fail
  go_loopg [8] n (fun g s6 wx => ∃ k : Nat, k + g = n ∧ s6 = .int .i64 k ∧ Hid (x ∉ ms.take k) ∧ wx = w)
  case atStart => exact ⟨0, by omega, rfl, Lib.hid (by simp), rfl⟩
  case round =>
    obtain ⟨k, hkg, rfl, HN, rfl⟩ := hrel
    rcases gk with _ | g
    · obtain rfl : k = n := by omega
      have HR : Hid (idxZ ms x = -1) := by have h := HN.out; rw [← HL.out, List.take_length] at h; exact Lib.hid (idx_no h)
      go_wp2_with fail
      go_ret
      exact ⟨ret_int HR.out.symm, rfl⟩
    · have hk : k < ms.length := by have := HL.out; omega
      have hkI : (k : Int) < (n : Int) := by omega
      obtain ⟨b, o, rfl, c0⟩ := ini_cell HP.out k hk
      have H1 : Hid (x = ms[k] → idxZ ms x = (k : Int)) := Lib.hid fun e => idx_at hk HN.out e
      have H2 : Hid (x ≠ ms[k] → x ∉ ms.take (k + 1)) := Lib.hid fun e => take_no hk HN.out e
      obtain ⟨x0, hm⟩ : ∃ m, ms[k] = m := ⟨_, rfl⟩
      rw [hm] at c0 H1 H2
      clear hm hk
      by_cases he : x = x0
      · have HR := Lib.hid (H1.out he)
        have hb : ((x : Int) == (x0 : Int)) = true := by rw [beq_iff_eq]; omega
        have hb2 : (x == x0) = true := by simpa using he
        clear H1 H2 he
        go_wp2_with fail
        go_ret
        exact ⟨ret_int HR.out.symm, rfl⟩
      · have HR := Lib.hid (H2.out he)
        have hb : ((x : Int) == (x0 : Int)) = false := by rw [beq_eq_false_iff_ne]; omega
        have hb2 : (x == x0) = false := by simpa using he
        clear H1 H2 he
        go_wp2_with fail
        go_roundg g
        case measure => omega
        case rel => exact ⟨k + 1, by omega, by go_num, HR, rfl⟩
set_option maxHeartbeats 4000000 in
theorem ihas_c (P : Option Addr) (C n : Nat) (ms : List Nat) (x : Nat) (w : World) (hp : InI w P ms) (hn : ms.length = n) (hl : n ≤ 140737488355328) :
    Calls Tryd.prog 36 #[.slice P n C, .int .i64 (x : Int)] w fun e w' => e = .returned (.bool (memZ ms x)) ∧ w = w' := by
  have HI := Lib.hid (iidx_c P C n ms x w hp hn hl)
  have HG : Hid (decide (0 ≤ idxZ ms x) = memZ ms x) := Lib.hid rfl
  obtain ⟨z, hz⟩ : ∃ z, idxZ ms x = z := ⟨_, rfl⟩
  rw [hz] at HI HG
  clear hz hp hn
  go_enter Tryd.func36, Tryd.ntmps36
  go_wp2_with (go_at_call 53; refine HI.out.mono ?_; rintro e w' ⟨rfl, rfl⟩)
  go_ret
  exact ⟨ret_bool HG.out, rfl⟩
def cmpZ (x y : Nat) : Int := if x < y then -1 else if y < x then 1 else 0
theorem isnan_c (x : Nat) (w : World) : Calls Tryd.prog 45 #[.int .u64 (x : Int)] w fun e w' => e = .returned (.bool false) ∧ w = w' := by
  have hb : ((x : Int) != (x : Int)) = false := by simp
  go_enter Tryd.func45, Tryd.ntmps45
  go_wp2_with fail
  go_ret
  exact ⟨rfl, rfl⟩
set_option maxHeartbeats 4000000 in
theorem cmpu_c (x y : Nat) (w : World) : Calls Tryd.prog 30 #[.int .u64 (x : Int), .int .u64 (y : Int)] w fun e w' => e = .returned (.int .i64 (cmpZ x y)) ∧ w = w' := by
  obtain ⟨z, hz⟩ : ∃ z, cmpZ x y = z := ⟨_, rfl⟩
  rw [hz]
  have HZ := Lib.hid hz
  clear hz
  by_cases h1 : x < y
  · have hI : decide ((x : Int) < (y : Int)) = true := decide_eq_true (by omega)
    have hI2 : decide (x < y) = true := decide_eq_true h1
    obtain rfl : z = -1 := by rw [← HZ.out]; exact if_pos h1
    clear HZ h1
    go_enter Tryd.func30, Tryd.ntmps30
    go_wp2_with (go_at_call 45; refine (isnan_c _ _).mono ?_; rintro e w' ⟨rfl, rfl⟩)
    go_ret
    exact ⟨rfl, rfl⟩
  · have hI : decide ((x : Int) < (y : Int)) = false := decide_eq_false (by omega)
    have hI2 : decide (x < y) = false := decide_eq_false h1
    by_cases h2 : y < x
    · have hJ : decide ((y : Int) < (x : Int)) = true := decide_eq_true (by omega)
      have hJ2 : decide (y < x) = true := decide_eq_true h2
      obtain rfl : z = 1 := by rw [← HZ.out]; unfold cmpZ; rw [if_neg h1, if_pos h2]
      clear HZ h1 h2
      go_enter Tryd.func30, Tryd.ntmps30
      go_wp2_with (go_at_call 45; refine (isnan_c _ _).mono ?_; rintro e w' ⟨rfl, rfl⟩)
      go_ret
      exact ⟨rfl, rfl⟩
    · have hJ : decide ((y : Int) < (x : Int)) = false := decide_eq_false (by omega)
      have hJ2 : decide (y < x) = false := decide_eq_false h2
      obtain rfl : z = 0 := by rw [← HZ.out]; unfold cmpZ; rw [if_neg h1, if_neg h2]
      clear HZ h1 h2
      go_enter Tryd.func30, Tryd.ntmps30
      go_wp2_with (go_at_call 45; refine (isnan_c _ _).mono ?_; rintro e w' ⟨rfl, rfl⟩)
      go_ret
      exact ⟨rfl, rfl⟩
def orZ (a b : Int) : Int := if a = 0 then b else a
set_option maxHeartbeats 4000000 in
theorem or_c (a b : Int) (g C : Nat) (w : World) (h0 : w.cell? ⟨g, 0, none⟩ = some (.int .i64 a)) (h1 : w.cell? ⟨g, 1, none⟩ = some (.int .i64 b)) :
    Calls Tryd.prog 29 #[.slice (some ⟨g, 0, none⟩) 2 C] w fun e w' => e = .returned (.int .i64 (orZ a b)) ∧ w = w' := by
  by_cases ha : a = 0
  · have hz : orZ a b = b := if_pos ha
    rw [hz]
    subst ha
    clear hz
    by_cases hb : b = 0
    · subst hb
      go_enter Tryd.func29, Tryd.ntmps29
      go_wp2_with fail
      refine wp_loop_rounds 3 ?_
      rw [rounds_succ]
      go_wp2_with fail
      rw [rounds_succ]
      go_wp2_with fail
      rw [rounds_succ]
      go_wp2_with fail
      go_ret
      exact ⟨rfl, rfl⟩
    · have hb1 : (b != 0) = true := by simpa using hb
      have hb2 : (b == 0) = false := by simpa using hb
      clear hb
      go_enter Tryd.func29, Tryd.ntmps29
      go_wp2_with fail
      refine wp_loop_rounds 2 ?_
      rw [rounds_succ]
      go_wp2_with fail
      rw [rounds_succ]
      go_wp2_with fail
      go_ret
      exact ⟨rfl, rfl⟩
  · have hz : orZ a b = a := if_neg ha
    rw [hz]
    have hb1 : (a != 0) = true := by simpa using ha
    have hb2 : (a == 0) = false := by simpa using ha
    clear ha hz
    go_enter Tryd.func29, Tryd.ntmps29
    go_wp2_with fail
    refine wp_loop_rounds 1 ?_
    rw [rounds_succ]
    go_wp2_with fail
    go_ret
    exact ⟨rfl, rfl⟩
end Go.Proofs.YtkababeeikhifaaDoor.rng
