/- roll in plain lists: headers, who shows itself, where to, what for. No condition. -/
import Derived.Test.YtfeafhagnhbmiaaGreatDoorRo1
import Derived.Test.YtfeafhagnhbmiaaGreatDoorOctA
namespace Go.Proofs.YtfeafhagnhbmiaaGreatDoor.rol
open Go.Proofs.YtfeafhagnhbmiaaGreatDoor.scp (setP withinP hasB)
open Go.Proofs.YtfeafhagnhbmiaaGreatDoor.fld (unq quote Pr getV getN unq_quote itself itself_in qB)
open Go.Proofs.YtfeafhagnhbmiaaGreatDoor.oct (basT basT_inj)

open Classical in
noncomputable def unbasP (s : T) : Option T := if h : ∃ o, basT o = s then some h.choose else none
theorem unbas_of {o s : T} (h : basT o = s) : unbasP s = some o := by
  unfold unbasP
  rw [dif_pos ⟨o, h⟩]
  have h2 := (⟨o, h⟩ : ∃ o, basT o = s).choose_spec
  rw [basT_inj (h2.trans h.symm)]
theorem unbas_no {s : T} (h : ∀ o, basT o ≠ s) : unbasP s = none := by
  unfold unbasP
  rw [dif_neg]
  rintro ⟨o, ho⟩
  exact h o ho
/-- what stands ahead of the first colon, and behind it -/
def cutC (b : T) : T × T := (b.takeWhile (· ≠ 58), (b.dropWhile (· ≠ 58)).drop 1)
def unq2 (x : T × T) : Option (T × T) := match unq x.1, unq x.2 with
  | some a, some b => some (a, b)
  | _, _ => none
def shownB (b : T) : Option (T × T) := if (58 : UInt8) ∈ b then unq2 (cutC b) else none
noncomputable def shownP (h : T) : Option (T × T) := if h.take 6 = wBas then (match unbasP (h.drop 6) with | some b => shownB b | none => none) else none
noncomputable def authH (l : List CT) (h : T) (ps : List Pr) : T × Nat :=
  if 1 < getN ps wId ∨ 0 < getN ps wSec then ([], 1) else
  match shownP h with
  | none => ([], 2)
  | some (x, y) => if (lookP l x).2 = false ∨ (lookP l x).1.pub = true ∨ (lookP l x).1.sec ≠ y then ([], 2) else if getN ps wId = 1 ∧ getV ps wId ≠ x then ([], 1) else (x, 0)
def authF (l : List CT) (ps : List Pr) : T × Nat :=
  if 1 < getN ps wId ∨ 1 < getN ps wSec then ([], 1) else
  if getN ps wId = 0 ∨ (lookP l (getV ps wId)).2 = false then ([], 2) else
  if ((lookP l (getV ps wId)).1.pub = true ∧ getN ps wSec = 1) ∨ ((lookP l (getV ps wId)).1.pub = false ∧ (getN ps wSec = 0 ∨ (lookP l (getV ps wId)).1.sec ≠ getV ps wSec)) then ([], 2) else (getV ps wId, 0)
noncomputable def authP (l : List CT) (h : T) (ps : List Pr) : T × Nat := if h = [] then authF l ps else authH l h ps
def redirP (l : List CT) (id uri : T) : T × Bool :=
  if uri = [] ∧ (lookP l id).1.red.length = 1 then ((lookP l id).1.red.getD 0 [], true) else if hasB (lookP l id).1.red uri then (uri, true) else ([], false)
def scopeP (l : List CT) (id : T) (asked : List T) : List T × Bool :=
  if (lookP l id).2 = false ∨ withinP (setP asked) (lookP l id).1.sco = false then ([], false) else if (setP asked).length = 0 then ((lookP l id).1.sco, true) else (setP asked, true)
def headP (id sec : T) : T := wBas ++ basT (quote id ++ 58 :: quote sec)
theorem getV_of_none {ps : List Pr} {n : T} (h : getN ps n = 0) : getV ps n = [] := by
  unfold getN at h
  unfold getV
  have h2 := List.length_eq_zero_iff.1 h
  rw [List.filter_eq_nil_iff] at h2
  have : ps.find? (fun x => x.1 == n) = none := List.find?_eq_none.2 h2
  rw [this]
theorem quote_colon (l : T) : (58 : UInt8) ∉ quote l := by
  unfold quote
  intro h
  obtain ⟨c, _, h2⟩ := List.mem_flatMap.1 h
  revert h2
  have : ∀ n : Fin 256, (58 : UInt8) ∉ qB (UInt8.ofNat n.val) := by decide +kernel
  have h3 := this ⟨c.toNat, UInt8.toNat_lt c⟩
  rwa [show UInt8.ofNat (⟨c.toNat, UInt8.toNat_lt c⟩ : Fin 256).val = c from UInt8.ofNat_toNat] at h3
theorem tw_app (a r : T) (h : (58 : UInt8) ∉ a) : (a ++ 58 :: r).takeWhile (· ≠ 58) = a ∧ ((a ++ 58 :: r).dropWhile (· ≠ 58)).drop 1 = r := by
  induction a with
  | nil => exact ⟨rfl, rfl⟩
  | cons c t ih =>
    have h1 : c ≠ 58 := fun e => h (by rw [e]; exact List.mem_cons_self)
    have h2 := ih fun hm => h (List.mem_cons_of_mem _ hm)
    have h3 : decide (c ≠ 58) = true := decide_eq_true h1
    rw [List.cons_append, List.takeWhile_cons, List.dropWhile_cons, h3]
    simp only [if_true]
    exact ⟨by rw [h2.1], h2.2⟩
theorem shown_head (id sec : T) : shownP (headP id sec) = some (id, sec) := by
  unfold shownP headP
  have e1 : (wBas ++ basT (quote id ++ 58 :: quote sec)).take 6 = wBas := by rw [List.take_append_of_le_length (by decide)]; rfl
  have e2 : (wBas ++ basT (quote id ++ 58 :: quote sec)).drop 6 = basT (quote id ++ 58 :: quote sec) := by rw [List.drop_append_of_le_length (by decide)]; rfl
  rw [if_pos e1, e2, unbas_of rfl]
  show shownB (quote id ++ 58 :: quote sec) = _
  unfold shownB cutC
  obtain ⟨h1, h2⟩ := tw_app (quote id) (quote sec) (quote_colon id)
  rw [if_pos (by simp), h1, h2]
  unfold unq2
  rw [unq_quote, unq_quote]
theorem auth_head (l : List CT) (id sec : T) : authH l (headP id sec) [] = if (lookP l id).2 = false ∨ (lookP l id).1.pub = true ∨ (lookP l id).1.sec ≠ sec then ([], 2) else (id, 0) := by
  unfold authH
  rw [shown_head]
  have e1 : getN [] wId = 0 := rfl
  have e2 : getN [] wSec = 0 := rfl
  rw [e1, e2]
  simp
theorem head_ne (id sec : T) : headP id sec ≠ [] := by unfold headP wBas; simp
theorem auth_both (l : List CT) (id sec : T) (h : (lookP l id).2 = true ∧ (lookP l id).1.pub = false ∧ (lookP l id).1.sec = sec) : authF l [(wId, id), (wSec, sec)] = (id, 0) := by
  have e1 : getN [(wId, id), (wSec, sec)] wId = 1 := rfl
  have e2 : getN [(wId, id), (wSec, sec)] wSec = 1 := rfl
  have e3 : getV [(wId, id), (wSec, sec)] wId = id := rfl
  have e4 : getV [(wId, id), (wSec, sec)] wSec = sec := rfl
  unfold authF
  rw [e1, e2, e3, e4, h.1, h.2.1, h.2.2]
  simp
theorem known_unbas : unbasP [89, 84, 112, 122, 74, 84, 78, 66] = some [97, 58, 115, 37, 51, 65] := unbas_of (by decide +kernel)
end Go.Proofs.YtfeafhagnhbmiaaGreatDoor.rol
