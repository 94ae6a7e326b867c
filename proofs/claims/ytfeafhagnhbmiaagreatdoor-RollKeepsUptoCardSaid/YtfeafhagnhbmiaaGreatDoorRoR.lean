/- RollWithin. No condition beyond what slices and texts are. -/
import Derived.Test.YtfeafhagnhbmiaaGreatDoorRoP
import Derived.Test.YtfeafhagnhbmiaaGreatDoorRoQ
namespace Go.Proofs.YtfeafhagnhbmiaaGreatDoor.rol
open Go.RowKit
open Go.Proofs.YtfeafhagnhbmiaaGreatDoor.oct Go.Proofs.YtfeafhagnhbmiaaGreatDoor.ref Go.Proofs.YtfeafhagnhbmiaaGreatDoor.rows Go.Proofs.YtfeafhagnhbmiaaGreatDoor.rowg Go.Proofs.YtfeafhagnhbmiaaGreatDoor.trn
open Go.Proofs.YtfeafhagnhbmiaaGreatDoor.scp (tx senc senc_len InS ins_below ins_cell lt hasB hasB_iff Lst lval lenc GoodL FitS setP setP_mem setP_idem withinP RowA own_good fit_set setP_len rset_c rhas_c)

/-- clients that are handed in to a law -/
structure ArgC (w : World) (P : Option Addr) (C : Nat) (xs : List Cm) : Prop where
  row : InC w P xs
  cap : xs.length ≤ C
  each : ∀ x ∈ xs, GoodC w x
theorem ArgC.few {w : World} {P : Option Addr} {C : Nat} {xs : List Cm} (h : ArgC w P C xs) : InC w P (xs.take 70) ∧ ∀ x ∈ xs.take 70, GoodC w x := by
  refine ⟨fun h0 => ?_, fun x hx => h.each x (List.mem_of_mem_take hx)⟩
  have h1 : 0 < xs.length := by
    rw [List.length_take] at h0
    omega
  obtain ⟨b, o, hP, hc⟩ := h.row h1
  refine ⟨b, o, hP, fun i hi j hj => ?_⟩
  have hi2 : i < xs.length := by rw [List.length_take] at hi; omega
  rw [hc i hi2 j hj, List.getElem_take]
/-- what a law has of a roll that was made -/
theorem new_yes {P : Option Addr} {C : Nat} {xs : List Cm} {w : World} (hp : InC w P xs) (hg : ∀ x ∈ xs, GoodC w x) (hl : xs.length ≤ 70) (ha : allB (xs.map Cm.ct) = true) :
    Calls Tryz.prog 14 #[.slice P xs.length C] w fun e w' => ∃ g ys, e = .returned (.tuple #[.pointer (some ⟨g, 0, none⟩), .int .i64 0]) ∧ RolN w' (fun k => w.heap.size ≤ k ∧ k < w'.heap.size) (some ⟨g, 0, none⟩) ys ∧ ys.map Cm.ct = xs.map Cm.ct ∧ Sec1 ys ∧ Below w.heap.size w w' :=
  (new_c P C xs w hp hg (by omega)).mono fun e w' ⟨hb, h⟩ => by
    rcases h with ⟨_, g, ys, h1, h2, h3⟩ | ⟨h1, _⟩
    · exact ⟨g, ys, h1, Or.inr ⟨g, rfl, h2⟩, h3, sec1_of h3 (all_right ha).1, hb⟩
    · rw [ha] at h1; cases h1
theorem within_self (l : List T) : withinP l l = true := (scp.within_iff l l).2 fun _ h _ => h
theorem scope_no {l : List CT} {id : T} {a : List T} (h : (scopeP l id a).2 = false) : (scopeP l id a).1 = [] := by
  unfold scopeP at h ⊢
  split
  · rfl
  · rename_i h1
    rw [if_neg h1] at h
    split at h <;> cases h
theorem scope_again {l : List CT} {id : T} {a : List T} (hl : allB l = true) (h : (scopeP l id a).2 = true) : scopeP l id (scopeP l id a).1 = ((scopeP l id a).1, true) ∧ withinP (scopeP l id a).1 (lookP l id).1.sco = true ∧ ((setP a).length = 0 ∨ (scopeP l id a).1 = setP a) ∧ (lookP l id).2 = true := by
  unfold scopeP at h ⊢
  split at h
  · cases h
  · rename_i h1
    rw [if_neg h1]
    have hk : (lookP l id).2 = true := by
      cases hb : (lookP l id).2 with
      | true => rfl
      | false => exact absurd (Or.inl hb) h1
    have hw : withinP (setP a) (lookP l id).1.sco = true := by
      cases hb : withinP (setP a) (lookP l id).1.sco with
      | true => rfl
      | false => exact absurd (Or.inr hb) h1
    have hs : setP (lookP l id).1.sco = (lookP l id).1.sco := (right_small ((all_right hl).1 _ (look_yes hk).1)).set
    by_cases h0 : (setP a).length = 0
    · rw [if_pos h0]
      dsimp only
      refine ⟨?_, within_self _, Or.inl h0, hk⟩
      rw [hs, within_self, hk, if_neg (by simp)]
      split <;> rfl
    · rw [if_neg h0]
      dsimp only
      refine ⟨?_, hw, Or.inr rfl, hk⟩
      rw [setP_idem, hw, hk, if_neg (by simp), if_neg h0]
theorem fit_scope {l : List CT} (hl : allB l = true) (id : T) (a : List T) : FitS (scopeP l id a).1 ∧ (scopeP l id a).1.length ≤ a.length + 32 := by
  have hs := look_small hl id
  unfold scopeP
  split
  · exact ⟨(fun x hx => by cases hx), by simp⟩
  · split
    · exact ⟨fun x hx => by have := hs.2.2.2.2.2.1 x hx; omega, by have := hs.2.2.2.2.1; dsimp only; omega⟩
    · exact ⟨fit_set a, by have := setP_len a; dsimp only; omega⟩
end Go.Proofs.YtfeafhagnhbmiaaGreatDoor.rol
