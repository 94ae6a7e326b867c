/- The reference's Redirect, Scope. No condition beyond what slices and texts are. -/
import Derived.Test.YtfeafhagnhbmiaaGreatDoorRoR
namespace Go.Proofs.YtfeafhagnhbmiaaGreatDoor.rol
open Go.RowKit
open Go.Proofs.YtfeafhagnhbmiaaGreatDoor.oct Go.Proofs.YtfeafhagnhbmiaaGreatDoor.ref Go.Proofs.YtfeafhagnhbmiaaGreatDoor.rows Go.Proofs.YtfeafhagnhbmiaaGreatDoor.rowg Go.Proofs.YtfeafhagnhbmiaaGreatDoor.trn
open Go.Proofs.YtfeafhagnhbmiaaGreatDoor.scp (tx senc senc_len InS ins_below ins_cell lt hasB hasB_iff Lst lval lenc GoodL FitS setP withinP RowA own_good fit_set setP_len rset_c rhas_c)

theorem lookm_good {w : World} {xs : List Cm} (hg : ∀ x ∈ xs, GoodC w x) (hs : ∀ x ∈ xs, Small x.ct) (id : T) : GoodC w (lookM xs id).1 ∧ Few (lookM xs id).1 := by
  cases hb : (lookM xs id).2 with
  | true =>
    have h1 := (lookM_yes hb).1
    have h2 := hs _ h1
    have e1 : (lookM xs id).1.red.2.2.length ≤ 4 := h2.red
    have e2 : (lookM xs id).1.sco.2.2.length ≤ 32 := h2.sco
    have e3 : (lookM xs id).1.gra.2.2.length ≤ 3 := h2.gra
    exact ⟨hg _ h1, by omega, by omega, by omega⟩
  | false =>
    rw [(lookM_no hb).1]
    exact good_zero w
/-- a list that is told, good, and whether -/
def ListG (w w' : World) (r : List T × Bool) (e : Ending) : Prop := ∃ p c, e = .returned (.tuple #[.slice p r.1.length c, .bool r.2]) ∧ GoodL w' (p, c, r.1) ∧ Below w.heap.size w w'
theorem good_nil (w : World) : GoodL w (none, 0, []) := ⟨fun h => absurd h (by simp), Nat.le_refl _, fun _ => rfl, (fun x hx => by cases hx), by simp⟩
end Go.Proofs.YtfeafhagnhbmiaaGreatDoor.rol
