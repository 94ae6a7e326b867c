/- The developers' comes, Next, Heal, Shut, Join. -/
import Derived.Test.YtdjgafemmihlgaaLan4
import Derived.StillTailTactics
import Derived.Deep.DeepBigQuietO
namespace Go.Proofs.Ytdjgafemmihlgaa.lan
open Go.RowKit
open Go.Proofs.Ytdjgafemmihlgaa.oct Go.Proofs.Ytdjgafemmihlgaa.ref Go.Proofs.Ytdjgafemmihlgaa.rows Go.Proofs.Ytdjgafemmihlgaa.rowg Go.Proofs.Ytdjgafemmihlgaa.trn
open Go.Lib (byteCells)

theorem freeP_open {s : LS} (hw : Wf s) {i : Nat} (hi : i < s.ps.length) : openP s ((s.ps.getD i zeroPk).a : Nat) ((s.ps.getD i zeroPk).b : Nat) = freeP s (s.ps.getD i zeroPk) := by
  have h := hw.getD hi
  unfold openP freeP
  rw [inN_iff.2 ⟨by omega, by omega⟩, inN_iff.2 ⟨by omega, by omega⟩]
  rfl
/-- where a packet stands -/
theorem LA.pk {w : World} {R : Nat → Prop} {g : Nat} {s : LS} (h : LA w R g s) {i : Nat} (hi : i < s.ps.length) : ∃ (b c : Nat) (x : Qk), w.cell? ⟨g, 1, none⟩ = some (.slice (some ⟨b, 0, none⟩) s.ps.length c) ∧ s.ps.length ≤ c ∧ s.ps.getD i zeroPk = x.f ∧ QOK w R x ∧ w.cell? ⟨b, i * 3, none⟩ = some (.int .i64 (x.a : Nat)) ∧ w.cell? ⟨b, i * 3 + 1, none⟩ = some (.int .i64 (x.b : Nat)) ∧ w.cell? ⟨b, i * 3 + 2, none⟩ = some (.slice x.p x.d.length x.c) ∧ b < w.heap.size ∧ g < w.heap.size := by
  obtain ⟨v, qs, m, cnt, D, h1, h2, _⟩ := h
  obtain ⟨p, c, rfl, hc, _, hat⟩ := h1.way.at
  have hl := map_len h2
  obtain ⟨b, rfl, c0, c1, c2, _⟩ := hat i (by omega)
  refine ⟨b, c, qs[i], ?_, by omega, map_at h2 (by omega), h1.way.each _ (List.getElem_mem _), c0, c1, c2, cell_lt c0, h1.blk.lt⟩
  rw [← hl]
  exact h1.blk.cell 1
set_option maxRecDepth 100000 in
set_option maxHeartbeats 4000000 in
theorem comes_c {w : World} {R : Nat → Prop} {g : Nat} {s : LS} (h : LA w R g s) (hw : Wf s) (i : Nat) (hi : i < s.ps.length) :
    Calls Try.prog 43 #[ptr g, .int .i64 (i : Nat)] w fun e w' => e = .returned (.bool (freeP s (s.ps.getD i zeroPk))) ∧ Below w.heap.size w w' := by
  have hx := hw.getD hi
  rw [← freeP_open hw hi]
  obtain ⟨b, c, x, c1, hlc, hxf, hqo, d0, d1, d2, hb, hg⟩ := h.pk hi
  rw [hxf] at hx ⊢
  have b1 := hw.hi
  have b2 := hw.few
  have C := Lib.hid (fun y : After w => after_of y (open_c (h.below y.below) hw (x.a : Nat) (x.b : Nat) ⟨by omega, by have := hx.1; simp only [Qk.f] at this; omega⟩ ⟨by omega, by have := hx.2.1; simp only [Qk.f] at this; omega⟩))
  have e1 : ∀ y : After w, y.v.cell? ⟨g, 1, none⟩ = some (.slice (some ⟨b, 0, none⟩) s.ps.length c) := fun y => (y.below.cell (p := ⟨g, 1, none⟩) hg).trans c1
  have e2 : ∀ y : After w, y.v.cell? ⟨b, i * 3, none⟩ = some (.int .i64 (x.a : Nat)) := fun y => (y.below.cell (p := ⟨b, i * 3, none⟩) hb).trans d0
  have e3 : ∀ y : After w, y.v.cell? ⟨b, i * 3 + 1, none⟩ = some (.int .i64 (x.b : Nat)) := fun y => (y.below.cell (p := ⟨b, i * 3 + 1, none⟩) hb).trans d1
  have i1 : (0 : Int) ≤ i := by omega
  have i2 : (i : Int) < s.ps.length := by omega
  clear h hw hx hxf hqo c1 d0 d1 d2
  dsimp only [Qk.f]
  go_enter Try.func43, Try.ntmps43
  go_wp2_with fail
  refine wp_region_after (by kernel_rfl) (by kernel_rfl) ?_
  repeat (go_big_quiet_step (first | (rename_i y; go_at_call 13; with_reducible exact C.out y)))
  refine wpQuiet_nil ?_
  rintro ⟨wq, hxb⟩
  dsimp only
  have HB2 := Lib.hid hxb
  clear e1 e2 e3 C hxb
  go_wp2_with fail
  go_ret
  exact ⟨rfl, HB2.out⟩
theorem firstP_take {f : Pk → Bool} : ∀ (l : List Pk) (i j : Nat), j ≤ l.length → (∀ x ∈ l.take j, f x = false) → firstP f l i = firstP f (l.drop j) (i + j)
  | _, _, 0, _, _ => rfl
  | [], _, j + 1, h, _ => by simp at h
  | x :: r, i, j + 1, h, hx => by
    have h0 := hx x (by simp)
    have h1 := firstP_take r (i + 1) j (by simpa using h) (fun y hy => hx y (by simp [hy]))
    rw [show firstP f (x :: r) i = if f x then (i : Int) else firstP f r (i + 1) from rfl, h0, if_neg (by simp), h1, List.drop_succ_cons]
    congr 1
    omega
theorem next_hit {s : LS} {j : Nat} (hj : j < s.ps.length) (hx : ∀ x ∈ s.ps.take j, freeP s x = false) (h : freeP s (s.ps.getD j zeroPk) = true) : nextP s = (j : Int) := by
  unfold nextP
  rw [firstP_take s.ps 0 j (by omega) hx, List.drop_eq_getElem_cons hj, ← getD_at hj]
  rw [show firstP (freeP s) (s.ps.getD j zeroPk :: List.drop (j + 1) s.ps) (0 + j) = if freeP s (s.ps.getD j zeroPk) then ((0 + j : Nat) : Int) else _ from rfl, if_pos h, Nat.zero_add]
theorem next_none {s : LS} (hx : ∀ x ∈ s.ps, freeP s x = false) : nextP s = -1 := by
  unfold nextP
  rw [firstP_take s.ps 0 s.ps.length (Nat.le_refl _) (by rw [List.take_length]; exact hx), List.drop_length]
  rfl
theorem take_more {s : LS} {j : Nat} (hj : j < s.ps.length) (hx : ∀ x ∈ s.ps.take j, freeP s x = false) (h : freeP s (s.ps.getD j zeroPk) = false) : ∀ x ∈ s.ps.take (j + 1), freeP s x = false := by
  intro x hx2
  rw [List.take_succ_eq_append_getElem hj, List.mem_append, List.mem_singleton] at hx2
  rcases hx2 with hx2 | rfl
  · exact hx x hx2
  · rw [← getD_at hj]; exact h
set_option maxRecDepth 100000 in
set_option maxHeartbeats 4000000 in
theorem next_c {w : World} {R : Nat → Prop} {g : Nat} {s : LS} (h : LA w R g s) (hw : Wf s) :
    Calls Try.prog 15 #[ptr g] w fun e w' => e = .returned (.int .i64 (nextP s)) ∧ Below w.heap.size w w' := by
  have HN := Lib.hid (count_c h)
  have HH := Lib.hid h
  have HW := Lib.hid hw
  have b2 := hw.few
  obtain ⟨n, hn⟩ : ∃ n, s.ps.length = n := ⟨_, rfl⟩
  have HL := Lib.hid hn
  rw [hn] at HN b2
  clear h hw hn
  go_enter Try.func15, Try.ntmps15
  go_wp2_with fail
  refine HN.out.mono ?_
  rintro e w1 ⟨rfl, rfl⟩
  go_wp2_with fail
  go_loopg [6] n (fun gk s6 wx => ∃ j : Nat, j + gk = n ∧ s6 = .int .i64 (j : Int) ∧ Hid (∀ x ∈ s.ps.take j, freeP s x = false) ∧ Hid (Below w.heap.size w wx))
  case atStart => exact ⟨0, by omega, rfl, (by show ∀ x ∈ _, _; simp), Below.refl _ _⟩
  case round =>
    obtain ⟨j, hjg, rfl, HX, HB⟩ := hrel
    rcases gk with _ | gk
    · obtain rfl : j = n := by omega
      have HE : Hid (nextP s = -1) := next_none (by have h := HX.out; rwa [← HL.out, List.take_length] at h)
      go_wp2_with fail
      go_ret
      exact ⟨by rw [HE.out]; rfl, HB.out⟩
    · have hj : j < n := by omega
      have hjI : (j : Int) < n := by omega
      have HC := Lib.hid (comes_c (HH.out.below HB.out) HW.out j (by rw [HL.out]; exact hj))
      cases hf : freeP s (s.ps.getD j zeroPk) with
      | true =>
        rw [hf] at HC
        have HE : Hid (nextP s = (j : Int)) := next_hit (by rw [HL.out]; exact hj) HX.out hf
        clear hf
        go_wp2_with fail
        refine HC.out.mono ?_
        rintro e w2 ⟨rfl, hb⟩
        have HB2 := Lib.hid (bnext HB.out hb)
        clear hb
        go_wp2_with fail
        go_ret
        exact ⟨by rw [HE.out]; rfl, HB2.out⟩
      | false =>
        rw [hf] at HC
        have HE : Hid (∀ x ∈ s.ps.take (j + 1), freeP s x = false) := take_more (by rw [HL.out]; exact hj) HX.out hf
        clear hf
        go_wp2_with fail
        refine HC.out.mono ?_
        rintro e w2 ⟨rfl, hb⟩
        have HB2 := Lib.hid (bnext HB.out hb)
        clear hb
        go_wp2_with fail
        go_roundg gk
        case measure => omega
        case rel => exact ⟨j + 1, by omega, by go_num, HE, HB2⟩
theorem next_nil (w : World) : Calls Try.prog 15 #[.pointer none] w fun e w' => e = .returned (.int .i64 (-1)) ∧ w = w' := by
  have HN := Lib.hid (count_nil w)
  go_enter Try.func15, Try.ntmps15
  go_wp2_with fail
  refine HN.out.mono ?_
  rintro e w1 ⟨rfl, rfl⟩
  go_wp2_with fail
  refine wp_loop_rounds 1 ?_
  rw [rounds_succ]
  go_wp2_with fail
  go_ret
  exact ⟨rfl, rfl⟩
end Go.Proofs.Ytdjgafemmihlgaa.lan
