/- The developers' plate: New, refusal, change, Arm, Down, Used over the plate's five cells. No condition. -/
import Derived.Test.YtggcdlhgmikemaaPdn
import Derived.Test.YtggcdlhgmikemaaPlt1
namespace Go.Proofs.Ytggcdlhgmikemaa.plt
open Go.RowKit
open Go.Proofs.Ytggcdlhgmikemaa.oct Go.Proofs.Ytggcdlhgmikemaa.ref Go.Proofs.Ytggcdlhgmikemaa.rows

abbrev dptr (g : Nat) : Value := .pointer (some ⟨g, 0, none⟩)
/-- the cells of the developers' plate -/
def pcells (room used : Nat) (m : Value) (k : Int) (down : Bool) : List Value := [.int .i64 (room : Nat), .int .i64 (used : Nat), m, .int .i64 k, .bool down]
def refD (n : T) (down : Bool) : Nat := if nameOk n = false then 1 else if down then 9 else 0
/-- what a change asks, and what stands then: the changes left, the power -/
def chD (n : T) (k : Int) (down : Bool) : Nat × Int × Bool := if refD n down ≠ 0 then (refD n down, k, down) else if k = 0 then (9, k, true) else if 0 < k then (0, k - 1, down) else (0, k, down)
theorem name_ok {n : T} : nameOk n = true ↔ 1 ≤ n.length ∧ n.length ≤ 64 := by unfold nameOk; rw [Bool.and_eq_true, decide_eq_true_iff, decide_eq_true_iff]
set_option maxHeartbeats 2000000 in
theorem refusal_c {w : World} {g room used : Nat} {m : Value} {k : Int} {down : Bool} (h : Blk w g 64 (pcells room used m k down)) (n : T) (hn : n.length ≤ 9223372036854775807) :
    Calls Try.prog 41 #[dptr g, .string ⟨n.toArray⟩] w fun e w' => e = .returned (.int .i64 (refD n down : Nat)) ∧ w = w' := by
  have c4 : w.cell? ⟨g, 4, none⟩ = some (.bool down) := h.cell 4
  unfold refD
  by_cases h0 : n = []
  · subst h0
    rw [if_pos (by rfl)]
    clear h
    go_enter Try.func41, Try.ntmps41
    go_wp2_with fail
    go_ret
    exact ⟨rfl, rfl⟩
  have hl1 : 1 ≤ n.length := by
    cases n with
    | nil => exact absurd rfl h0
    | cons a r => simp
  have e1 : n.isEmpty = false := by
    cases n with
    | nil => exact absurd rfl h0
    | cons a r => rfl
  by_cases h1 : n.length ≤ 64
  · have i1 : ¬ ((n.length : Int) > 64) := by omega
    rw [if_neg (by rw [name_ok.2 ⟨hl1, h1⟩]; simp)]
    cases hd : down with
    | true =>
      rw [hd] at c4
      clear h h0 hl1 h1
      go_enter Try.func41, Try.ntmps41
      go_wp2_with fail
      go_ret
      exact ⟨rfl, rfl⟩
    | false =>
      rw [hd] at c4
      clear h h0 hl1 h1
      go_enter Try.func41, Try.ntmps41
      go_wp2_with fail
      go_ret
      exact ⟨rfl, rfl⟩
  · have i1 : (n.length : Int) > 64 := by omega
    rw [if_pos (by rw [Bool.eq_false_iff]; intro h2; exact h1 (name_ok.1 h2).2)]
    clear h h0 hl1 h1
    go_enter Try.func41, Try.ntmps41
    go_wp2_with fail
    go_ret
    exact ⟨rfl, rfl⟩
set_option maxHeartbeats 2000000 in
theorem change_c {w : World} {g room used : Nat} {m : Value} {k : Int} {down : Bool} (h : Blk w g 64 (pcells room used m k down)) (hk1 : -9223372036854775808 ≤ k) (hk2 : k ≤ 9223372036854775807) (n : T) (hn : n.length ≤ 9223372036854775807) :
    Calls Try.prog 42 #[dptr g, .string ⟨n.toArray⟩] w fun e w' => e = .returned (.int .i64 ((chD n k down).1 : Nat)) ∧ Blk w' g 64 (pcells room used m (chD n k down).2.1 (chD n k down).2.2) ∧ w.grownBy w' (some g) := by
  have c3 : w.cell? ⟨g, 3, none⟩ = some (.int .i64 k) := h.cell 3
  have c4 : w.cell? ⟨g, 4, none⟩ = some (.bool down) := h.cell 4
  have f3 := h.frozen 3
  have f4 := h.frozen 4
  have HR := Lib.hid (refusal_c h n hn)
  have HB := Lib.hid h
  have hsame : w.grownBy w (some g) := World.grownBy.refl w _
  have HS := Lib.hid hsame
  have hlt := h.lt
  unfold chD
  obtain ⟨r, hr⟩ : ∃ r, refD n down = r := ⟨_, rfl⟩
  rw [hr] at HR ⊢
  clear h hsame
  by_cases h0 : r = 0
  · subst h0
    rw [if_neg (by simp)]
    by_cases k0 : k = 0
    · subst k0
      rw [if_pos rfl]
      have HB2 : Hid (Blk (w.setCell ⟨g, 4, none⟩ (.bool true)) g 64 (pcells room used m 0 true) ∧ w.grownBy (w.setCell ⟨g, 4, none⟩ (.bool true)) (some g)) := ⟨HB.out.set 4 _, ⟨rfl, rfl, rfl, by simp, fun k _ hn => Below.heap_setCell _ _ _ _ (by exact fun e => hn (congrArg some e))⟩⟩
      go_enter Try.func42, Try.ntmps42
      go_wp2_with fail
      refine HR.out.mono ?_
      rintro e w1 ⟨rfl, rfl⟩
      go_wp2_with fail
      go_ret
      exact ⟨rfl, HB2.out.1, HB2.out.2⟩
    · rw [if_neg k0]
      have e0 : (k == 0) = false := by rw [beq_eq_false_iff_ne]; exact k0
      by_cases kp : 0 < k
      · rw [if_pos kp]
        have HB2 : Hid (Blk (w.setCell ⟨g, 3, none⟩ (.int .i64 (k - 1))) g 64 (pcells room used m (k - 1) down) ∧ w.grownBy (w.setCell ⟨g, 3, none⟩ (.int .i64 (k - 1))) (some g)) := ⟨HB.out.set 3 _, ⟨rfl, rfl, rfl, by simp, fun k _ hn => Below.heap_setCell _ _ _ _ (by exact fun e => hn (congrArg some e))⟩⟩
        have hw : IntKind.i64.wrap (k - 1) = k - 1 := by rw [IntKind.wrap_i64]; omega
        obtain ⟨k2, hk⟩ : ∃ k2, k - 1 = k2 := ⟨_, rfl⟩
        rw [hk] at HB2 hw ⊢
        go_enter Try.func42, Try.ntmps42
        go_wp2_with fail
        refine HR.out.mono ?_
        rintro e w1 ⟨rfl, rfl⟩
        go_wp2_with fail
        go_ret
        exact ⟨rfl, HB2.out.1, HB2.out.2⟩
      · rw [if_neg kp]
        go_enter Try.func42, Try.ntmps42
        go_wp2_with fail
        refine HR.out.mono ?_
        rintro e w1 ⟨rfl, rfl⟩
        go_wp2_with fail
        go_ret
        exact ⟨rfl, HB.out, HS.out⟩
  · rw [if_pos h0]
    have e0 : ((r : Int) != 0) = true := by rw [bne_iff_ne]; omega
    have e1 : ((r : Int) == 0) = false := by rw [beq_eq_false_iff_ne]; omega
    go_enter Try.func42, Try.ntmps42
    go_wp2_with fail
    refine HR.out.mono ?_
    rintro e w1 ⟨rfl, rfl⟩
    go_wp2_with fail
    go_ret
    exact ⟨rfl, HB.out, HS.out⟩
end Go.Proofs.Ytggcdlhgmikemaa.plt
