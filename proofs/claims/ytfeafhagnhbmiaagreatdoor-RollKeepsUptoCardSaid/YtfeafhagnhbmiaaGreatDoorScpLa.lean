/- ScopeWords, ScopeSets, ScopeParses by SApi. -/
import Derived.Test.YtfeafhagnhbmiaaGreatDoorGscp
namespace Go.Proofs.YtfeafhagnhbmiaaGreatDoor.scp
open Go.RowKit
open Go.Proofs.YtfeafhagnhbmiaaGreatDoor.oct Go.Proofs.YtfeafhagnhbmiaaGreatDoor.ref Go.Proofs.YtfeafhagnhbmiaaGreatDoor.rows Go.Proofs.YtfeafhagnhbmiaaGreatDoor.rowg

theorem good_few {x : Lst} {w : World} (h : ArgL w x) : GoodL w (x.1, x.2.1, x.2.2.take 300) := by
  refine ⟨?_, ?_, h.nil, fun y hy => h.fit y (List.mem_of_mem_take hy), ?_⟩
  · by_cases hl : 300 ≤ x.2.2.length
    · exact ins_take h.row 300 hl
    · show InS w x.1 (x.2.2.take 300)
      rw [List.take_of_length_le (by omega)]; exact h.row
  · have := h.room
    show (x.2.2.take 300).length ≤ x.2.1
    rw [List.length_take]; omega
  · show (x.2.2.take 300).length ≤ _
    rw [List.length_take]; omega
theorem parse_fit (s : T) : FitS (parseP s).2 ∧ (parseP s).2.length ≤ 32 := by
  unfold parseP
  split
  · exact ⟨(fun x hx => by cases hx), Nat.zero_le _⟩
  split
  · exact ⟨(fun x hx => by cases hx), Nat.zero_le _⟩
  split
  · rename_i hw
    split
    · exact ⟨(fun x hx => by cases hx), Nat.zero_le _⟩
    · rename_i h
      refine ⟨fit_set _, ?_⟩
      show (setP (cutP s)).length ≤ 32
      rw [← once_set _ (fun x hx => List.all_eq_true.1 hw x hx)]; omega
  · exact ⟨(fun x hx => by cases hx), Nat.zero_le _⟩
theorem par_good {w w' : World} {s : T} {e : Ending} (h : ParA w w' (parseP s) e) : ∃ p c, e = .returned (.tuple #[lval (p, c, (parseP s).2), .int .i64 ((parseP s).1 : Nat)]) ∧ GoodL w' (p, c, (parseP s).2) ∧ Below w.heap.size w w' := by
  obtain ⟨v, rfl, hown, hb⟩ := h
  obtain ⟨hf, hl⟩ := parse_fit s
  obtain ⟨p, c, rfl, hg⟩ := own_good hown hf (by omega)
  exact ⟨p, c, rfl, hg, hb⟩
end Go.Proofs.YtfeafhagnhbmiaaGreatDoor.scp
