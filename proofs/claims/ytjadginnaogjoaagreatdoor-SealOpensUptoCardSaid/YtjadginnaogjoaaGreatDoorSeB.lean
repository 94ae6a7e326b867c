/- The law SealAlone: of one token just one text is opened by a secret; texts of unlike tokens are unlike. St; the secrets within the reach. -/
import Derived.Test.YtjadginnaogjoaaGreatDoorSeA
namespace Go.Proofs.YtjadginnaogjoaaGreatDoor.sea
open Go.RowKit
open Go.Proofs.YtjadginnaogjoaaGreatDoor.oct Go.Proofs.YtjadginnaogjoaaGreatDoor.ref Go.Proofs.YtjadginnaogjoaaGreatDoor.rows Go.Proofs.YtjadginnaogjoaaGreatDoor.trn
open Go.Proofs.YtjadginnaogjoaaGreatDoor.sha (Rm)
open Go.Lib (byteCells)

def tkB (t u : Tk) : Bool := (t.k == u.k) && ((t.f == u.f) && (t.n == u.n))
theorem tkB_iff {t u : Tk} : tkB t u = true ↔ t = u := by
  unfold tkB
  simp only [Bool.and_eq_true, beq_iff_eq]
  constructor
  · rintro ⟨h1, h2, h3⟩
    cases t; cases u
    simp only at h1 h2 h3
    rw [h1, h2, h3]
  · rintro rfl
    exact ⟨rfl, rfl, rfl⟩
theorem tok_eq (t u : Tk) (w : World) : (binOp .eql 24 (tok t) (tok u)).run Tryz.prog w = .ok (.bool (tkB t u)) w := by
  have h := eq3 t.k t.n u.k u.n ⟨t.f.toArray⟩ ⟨u.f.toArray⟩ w
  rw [tl_mk, tl_mk] at h
  exact h
theorem outO_cases (key s : T) : (∃ u, outO key s = .inl u ∧ Rt u ∧ s = mkS key u) ∨ (∃ n, outO key s = .inr n ∧ (n = 3 ∨ n = 5)) := by
  cases h : readP s with
  | none => exact Or.inr ⟨3, outO_none h, Or.inl rfl⟩
  | some u =>
    obtain ⟨g, hg⟩ := readP_iff.1 h
    by_cases h2 : s.drop (s.length - 16) = tagT key (headT u)
    · refine Or.inl ⟨u, outO_yes h h2, hg.r, ?_⟩
      unfold mkS
      rw [if_pos hg.r, ← h2, hg.drop]
      exact hg.e
    · exact Or.inr ⟨5, outO_no h h2, Or.inr rfl⟩
theorem mk_apart {k1 k2 : T} {t u : Tk} (ht : Rt t) (hu : Rt u) (h : mkS k1 t = mkS k2 u) : t = u := by
  have h1 := mk_read k1 ht
  rw [h, mk_read k2 hu] at h1
  exact (Option.some.inj h1).symm
end Go.Proofs.YtjadginnaogjoaaGreatDoor.sea
