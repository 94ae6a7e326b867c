/- FieldBack, FieldForth by FApi; what is parsed is short. -/
import Derived.Test.YtfeafhagnhbmiaaGreatDoorFldA
namespace Go.Proofs.YtfeafhagnhbmiaaGreatDoor.fld
open Go.RowKit
open Go.Proofs.YtfeafhagnhbmiaaGreatDoor.oct Go.Proofs.YtfeafhagnhbmiaaGreatDoor.ref Go.Proofs.YtfeafhagnhbmiaaGreatDoor.rows
open Go.Lib (byteCells)

theorem unq_len (n : Nat) : ∀ (l m : List UInt8), l.length ≤ n → unq l = some m → m.length ≤ l.length := by
  induction n with
  | zero =>
    intro l m hl h
    have : l = [] := List.eq_nil_of_length_eq_zero (by omega)
    subst this
    rw [unq] at h
    cases h
    simp
  | succ n ih =>
    intro l m hl h
    cases l with
    | nil => rw [unq] at h; cases h; simp
    | cons c r =>
      rw [List.length_cons] at hl ⊢
      by_cases h1 : c.toNat < 33 ∨ 126 < c.toNat
      · rw [unq_bad h1] at h; cases h
      by_cases h2 : c = 37
      · subst h2
        match r, hl, h with
        | [], _, h => rw [unq_pct_end (by simp)] at h; cases h
        | [a], _, h => rw [unq_pct_end (by simp)] at h; cases h
        | a :: b :: r, hl, h =>
          by_cases hw : worth a < 16 ∧ worth b < 16
          · rw [unq_pct hw.1 hw.2] at h
            cases hr : unq r with
            | none => rw [hr] at h; cases h
            | some q =>
              rw [hr] at h
              cases h
              simp only [List.length_cons] at hl ⊢
              have := ih r q (by omega) hr
              omega
          · rw [unq_pct_bad hw] at h; cases h
      · rw [unq_else h1 h2] at h
        cases hr : unq r with
        | none => rw [hr] at h; cases h
        | some q =>
          rw [hr] at h
          cases h
          rw [List.length_cons]
          have := ih r q (by omega) hr
          omega
theorem split_mem_len (l : List UInt8) : ∀ p ∈ splitAmp l, p.length ≤ l.length := by
  induction l with
  | nil => simp [splitAmp]
  | cons c r ih =>
    intro p hp
    rw [splitAmp] at hp
    have hd : ((splitAmp r).headD []).length ≤ r.length := by
      apply ih
      rw [split_head r]
      simp
    split at hp
    · rcases List.mem_cons.1 hp with rfl | h
      · simp
      · have := ih p h; rw [List.length_cons]; omega
    · rcases List.mem_cons.1 hp with rfl | h
      · rw [List.length_cons, List.length_cons]; omega
      · have := ih p (List.mem_of_mem_tail h); rw [List.length_cons]; omega
theorem pairOf_len {p : List UInt8} {x : Pr} (h : pairOf p = some x) : x.1.length ≤ p.length ∧ x.2.length ≤ p.length := by
  unfold pairOf at h
  have h1 : (cutEq p).1.length ≤ p.length := by unfold cutEq; exact List.Sublist.length_le (List.takeWhile_sublist _)
  have h2 : (cutEq p).2.length ≤ p.length := by unfold cutEq; exact Nat.le_trans (List.Sublist.length_le (List.drop_sublist _ _)) (List.Sublist.length_le (List.dropWhile_sublist _))
  cases ha : unq (cutEq p).1 with
  | none => rw [ha] at h; cases h
  | some a =>
    cases hb : unq (cutEq p).2 with
    | none => rw [ha, hb] at h; cases h
    | some b =>
      rw [ha, hb] at h
      cases h
      exact ⟨Nat.le_trans (unq_len _ _ _ (Nat.le_refl _) ha) h1, Nat.le_trans (unq_len _ _ _ (Nat.le_refl _) hb) h2⟩
theorem runP_small (ps : List (List UInt8)) (hp : ∀ p ∈ ps, p.length ≤ 16384) (acc : List Pr) (ha : ∀ x ∈ acc, x.1.length ≤ 16384 ∧ x.2.length ≤ 16384) : ∀ x ∈ (runP ps acc).2, x.1.length ≤ 16384 ∧ x.2.length ≤ 16384 := by
  induction ps generalizing acc with
  | nil => exact ha
  | cons p ps ih =>
    by_cases h : acc.length = 64
    · rw [runP_64 h]; simp
    cases hx : pairOf p with
    | none => rw [runP_none h hx]; simp
    | some y =>
      rw [runP_some h hx]
      refine ih (fun q hq => hp q (List.mem_cons_of_mem _ hq)) _ ?_
      intro x hx2
      rcases List.mem_append.1 hx2 with h3 | h3
      · exact ha x h3
      · obtain rfl := List.mem_singleton.1 h3
        have := pairOf_len hx
        have := hp p (List.mem_cons_self ..)
        omega
theorem parse_small (l : List UInt8) : Small (parse l).2 := by
  intro x hx
  unfold parse at hx
  split at hx
  · simp at hx
  · rename_i h
    have := runP_small (pieces l) (fun p hp => Nat.le_trans (split_mem_len l p (List.mem_filter.1 hp).1) (by omega)) [] (by simp) x hx
    omega
theorem parse_zero_or (l : List UInt8) : (parse l).1 = 0 ∨ parse l = (2, []) ∨ parse l = (3, []) := by
  unfold parse
  split
  · exact Or.inr (Or.inl rfl)
  · by_cases h : (runP (pieces l) []).1 = 0
    · exact Or.inl h
    · obtain ⟨h1, h2⟩ := runP_err _ _ h
      rcases h2 with h2 | h2
      · exact Or.inr (Or.inl (Prod.ext h2 h1))
      · exact Or.inr (Or.inr (Prod.ext h2 h1))
theorem printR_len (ps : List Pr) : (printR ps).2.length ≤ 16384 := by
  unfold printR
  split
  · simp
  · split
    · simp
    · simpa using (by omega : (prt ps).length ≤ 16384)

end Go.Proofs.YtfeafhagnhbmiaaGreatDoor.fld
