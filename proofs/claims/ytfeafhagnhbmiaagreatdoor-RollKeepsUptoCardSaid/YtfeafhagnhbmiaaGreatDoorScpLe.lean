/- ScopeKeeps by SApi. -/
import Derived.Test.YtfeafhagnhbmiaaGreatDoorScpLc
import Derived.StillTailTactics
namespace Go.Proofs.YtfeafhagnhbmiaaGreatDoor.scp
open Go.RowKit
open Go.Proofs.YtfeafhagnhbmiaaGreatDoor.oct Go.Proofs.YtfeafhagnhbmiaaGreatDoor.ref Go.Proofs.YtfeafhagnhbmiaaGreatDoor.rows Go.Proofs.YtfeafhagnhbmiaaGreatDoor.rowg

def rm : T := [114, 111, 111, 109]
theorem ins_head {w : World} {P : Option Addr} {ps qs : List T} (h : InS w P (ps ++ qs)) : InS w P ps := by
  intro hl
  obtain ⟨b, o, rfl, hc⟩ := h (by rw [List.length_append]; omega)
  refine ⟨b, o, rfl, fun i hi j hj => ?_⟩
  have := hc i (by rw [List.length_append]; omega) j hj
  rw [List.getElem_append_left hi] at this
  exact this
theorem ins_last {w : World} {g : Nat} {ps : List T} {x : T} (h : InS w (some ⟨g, 0, none⟩) (ps ++ [x])) : w.cell? ⟨g, ps.length, none⟩ = some (tx x) := by
  obtain ⟨b, o, e, hc⟩ := h (by simp)
  cases e
  have := hc ps.length (by simp) 0 (by decide)
  rw [List.getElem_append_right (Nat.le_refl _)] at this
  simpa [senc] using this
theorem own_some {w : World} {B : Nat} {v : Value} {n : Nat} {xs : List Value} (h : w.ownsRow B 9 1 v n xs) (h0 : 0 < n) : ∃ g c X, v = .slice (some ⟨g, 0, none⟩) n c ∧ n ≤ c ∧ B ≤ g ∧ Blk w g 9 X ∧ n ≤ X.length ∧ c ≤ 9223372036854775807 := by
  obtain ⟨h3, h1⟩ := h
  rcases h1 with ⟨_, h2⟩ | ⟨g, c, cur, rfl, hB, hg, hn, hm, hs, _⟩
  · rw [h2] at h3; simp at h3; omega
  · exact ⟨g, c, cur.toList, rfl, hn, hB, hg, by rw [Array.length_toList]; omega, by unfold maxLen at hm; omega⟩
theorem own_setCell {w : World} {B n g : Nat} {v : Value} {xs : List Value} (h : w.ownsRow B 9 1 v n xs) (hg : g < B) (o : Nat) (u : Value) : (w.setCell ⟨g, o, none⟩ u).ownsRow B 9 1 v n xs := by
  refine ⟨h.1, ?_⟩
  rcases h.2 with h2 | ⟨g2, cap, cur, h1, h2, h3, h4⟩
  · exact Or.inl h2
  · refine Or.inr ⟨g2, cap, cur, h1, h2, ?_, h4⟩
    rw [Below.heap_setCell _ _ _ _ (by show g2 ≠ g; omega)]
    exact h3
/-- a row of the call's own that may be written: nil, or a block that begins at B or behind -/
def Wr (w : World) (A B : Nat) (p : Option Addr) (n : Nat) : Prop := 0 < n → ∃ g X, p = some ⟨g, 0, none⟩ ∧ A ≤ g ∧ g < B ∧ Blk w g 9 X ∧ n ≤ X.length
theorem wr_of {w : World} {A n c : Nat} {p : Option Addr} {xs : List Value} (h : w.ownsRow A 9 1 (.slice p n c) n xs) : Wr w A w.heap.size p n := fun h0 => by
  obtain ⟨g, c', X, e, _, h2, h3, h4, _⟩ := own_some h h0
  cases e
  exact ⟨g, X, rfl, h2, h3.lt, h3, h4⟩
theorem Wr.below {w w' : World} {A B n : Nat} {p : Option Addr} (h : Wr w A B p n) (hb : Below w.heap.size w w') : Wr w' A B p n := fun h0 => by
  obtain ⟨g, X, e, h1, h2, h3, h4⟩ := h h0
  exact ⟨g, X, e, h1, h2, h3.below hb, h4⟩
theorem Wr.below' {w w' : World} {A B C n : Nat} {p : Option Addr} (h : Wr w A B p n) (hb : Below C w w') (hc : B ≤ C) : Wr w' A B p n := fun h0 => by
  obtain ⟨g, X, e, h1, h2, h3, h4⟩ := h h0
  exact ⟨g, X, e, h1, h2, (hb.block g (by omega)).trans h3, h4⟩
theorem Wr.other {w : World} {A B n : Nat} {p : Option Addr} (h : Wr w A B p n) (g0 o : Nat) (u : Value) (hg : g0 < A ∨ B ≤ g0) : Wr (w.setCell ⟨g0, o, none⟩ u) A B p n := fun h0 => by
  obtain ⟨g, X, e, h1, h2, h3, h4⟩ := h h0
  exact ⟨g, X, e, h1, h2, h3.set_other (by omega) o u, h4⟩
/-- a call's own row: also the row itself, to be written -/
def AnsW (w w' : World) (l : List T) (e : Ending) : Prop := ∃ p c, e = .returned (lval (p, c, l)) ∧ w'.ownsRow w.heap.size 9 1 (lval (p, c, l)) l.length (cells senc l) ∧ Below w.heap.size w w'
theorem rowa_answ {w w' : World} {l : List T} {e : Ending} (h : RowA w w' l e) : AnsW w w' l e := by
  obtain ⟨v, rfl, hown, hb⟩ := h
  obtain ⟨p, c, rfl, _⟩ := own_g senc_len (by decide) hown
  exact ⟨p, c, rfl, hown, hb⟩
end Go.Proofs.YtfeafhagnhbmiaaGreatDoor.scp
