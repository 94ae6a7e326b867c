/- A lane by its words (LS): packets under way, which links are shut; what each call makes of it. -/
import Derived.Test.YtdjgafemmihlgaaMem0
namespace Go.Proofs.Ytdjgafemmihlgaa.lan
open Go.RowKit
open Go.Proofs.Ytdjgafemmihlgaa.oct

abbrev T := List UInt8
abbrev I64 (n : Int) : Prop := -9223372036854775808 ≤ n ∧ n ≤ 9223372036854775807
structure Pk where
  a : Nat
  b : Nat
  d : T
instance : Inhabited Pk := ⟨⟨0, 0, []⟩⟩
/-- a lane: its nodes, its packets, its shut links; cn: how often a link was shut at most -/
structure LS where
  n : Nat
  ps : List Pk
  sh : Nat → Nat → Bool
  cn : Nat
structure Wf (s : LS) : Prop where
  lo : 1 ≤ s.n
  hi : s.n ≤ 32
  few : s.ps.length ≤ 4096
  each : ∀ x ∈ s.ps, x.a < s.n ∧ x.b < s.n ∧ x.d.length ≤ 65544
  cnt : s.cn ≤ 1000000
  self : ∀ a, s.sh a a = false
def inN (n : Nat) (x : Int) : Bool := decide (0 ≤ x) && decide (x < n)
theorem inN_iff {n : Nat} {x : Int} : inN n x = true ↔ 0 ≤ x ∧ x < n := by simp [inN]
theorem inN_no {n : Nat} {x : Int} (h : inN n x = false) : ¬ (0 ≤ x ∧ x < n) := fun h2 => by rw [inN_iff.2 h2] at h; cases h
def newP (n : Nat) : LS := ⟨n, [], fun _ _ => false, 0⟩
def sendP (s : LS) (a b : Int) (d : T) : Nat × LS :=
  if inN s.n a = false ∨ inN s.n b = false then (6, s)
  else if 65544 < d.length then (2, s)
  else if 4096 ≤ s.ps.length then (8, s)
  else (0, { s with ps := s.ps ++ [⟨a.toNat, b.toNat, d⟩] })
/-- a packet's number, if it is one -/
def atP (s : LS) (k : Int) : Option Nat := if 0 ≤ k ∧ k < s.ps.length then some k.toNat else none
def freeP (s : LS) (x : Pk) : Bool := !s.sh x.a x.b
def firstP (f : Pk → Bool) : List Pk → Nat → Int
  | [], _ => -1
  | x :: r, i => if f x then (i : Int) else firstP f r (i + 1)
def nextP (s : LS) : Int := firstP (freeP s) s.ps 0
def gone (s : LS) (i : Nat) : LS := { s with ps := s.ps.eraseIdx i }
def dropP (s : LS) (k : Int) : Nat × LS :=
  match atP s k with
  | none => (6, s)
  | some i => (0, gone s i)
def zeroPk : Pk := ⟨0, 0, []⟩
def takeP (s : LS) (k : Int) : Pk × Nat × LS :=
  match atP s k with
  | none => (zeroPk, 6, s)
  | some i => if freeP s (s.ps.getD i zeroPk) then (s.ps.getD i zeroPk, 0, gone s i) else (zeroPk, 9, s)
def tellP (s : LS) (k : Int) : Pk × Nat :=
  match atP s k with
  | none => (zeroPk, 6)
  | some i => (s.ps.getD i zeroPk, 0)
def addP (s : LS) (x : Pk) : Nat × LS := if 4096 ≤ s.ps.length then (8, s) else (0, { s with ps := s.ps ++ [x] })
def twiceP (s : LS) (k : Int) : Nat × LS :=
  match atP s k with
  | none => (6, s)
  | some i => addP s (s.ps.getD i zeroPk)
def spoil (x : Pk) (j : Nat) (c : UInt8) : Pk := { x with d := x.d.set j (x.d.getD j 0 ^^^ c) }
def spoilP (s : LS) (k j : Int) (c : UInt8) : Nat × LS :=
  match atP s k with
  | none => (6, s)
  | some i => if 0 ≤ j ∧ j < (s.ps.getD i zeroPk).d.length then (0, { s with ps := s.ps.set i (spoil (s.ps.getD i zeroPk) j.toNat c) }) else (6, s)
def linkS (f : Nat → Nat → Bool) (a b : Nat) (v : Bool) (x y : Nat) : Bool := if (x = a ∧ y = b) ∨ (x = b ∧ y = a) then v else f x y
def linkP (s : LS) (a b : Int) (v : Bool) : Nat × LS :=
  if inN s.n a = false ∨ inN s.n b = false ∨ a = b then (6, s) else (0, { s with sh := linkS s.sh a.toNat b.toNat v, cn := s.cn + 1 })
def healP (s : LS) : LS := { s with sh := fun _ _ => false }
def openP (s : LS) (a b : Int) : Bool := inN s.n a && inN s.n b && !s.sh a.toNat b.toNat

theorem atP_some {s : LS} {k : Int} {i : Nat} (h : atP s k = some i) : 0 ≤ k ∧ k = (i : Int) ∧ i < s.ps.length := by
  unfold atP at h
  split at h
  · injection h with h; omega
  · cases h
theorem atP_none {s : LS} {k : Int} (h : atP s k = none) : ¬ (0 ≤ k ∧ k < s.ps.length) := by
  unfold atP at h
  split at h
  · cases h
  · assumption
theorem atP_of {s : LS} {k : Int} (h : 0 ≤ k ∧ k < s.ps.length) : atP s k = some k.toNat := by unfold atP; rw [if_pos h]
theorem atP_no {s : LS} {k : Int} (h : ¬ (0 ≤ k ∧ k < s.ps.length)) : atP s k = none := by unfold atP; rw [if_neg h]
theorem getD_at {l : List Pk} {i : Nat} (h : i < l.length) : l.getD i zeroPk = l[i] := by rw [List.getD_eq_getElem?_getD, List.getElem?_eq_getElem h]; rfl
theorem Wf.add {s : LS} (h : Wf s) {x : Pk} (hx : x.a < s.n ∧ x.b < s.n ∧ x.d.length ≤ 65544) (hl : ¬ (4096 ≤ s.ps.length)) : Wf { s with ps := s.ps ++ [x] } :=
  ⟨h.lo, h.hi, (by show (s.ps ++ [x]).length ≤ _; rw [List.length_append, List.length_singleton]; omega), (fun y hy => by
    have hy : y ∈ s.ps ++ [x] := hy
    rw [List.mem_append, List.mem_singleton] at hy
    rcases hy with hy | rfl
    · exact h.each y hy
    · exact hx), h.cnt, h.self⟩
theorem Wf.send {s : LS} (h : Wf s) (a b : Int) (d : T) : Wf (sendP s a b d).2 := by
  unfold sendP
  by_cases h1 : inN s.n a = false ∨ inN s.n b = false
  · rw [if_pos h1]; exact h
  · rw [if_neg h1]
    by_cases h2 : 65544 < d.length
    · rw [if_pos h2]; exact h
    · rw [if_neg h2]
      by_cases h3 : 4096 ≤ s.ps.length
      · rw [if_pos h3]; exact h
      · rw [if_neg h3]
        have ha : inN s.n a = true := by cases hh : inN s.n a with | true => rfl | false => exact absurd (Or.inl hh) h1
        have hb : inN s.n b = true := by cases hh : inN s.n b with | true => rfl | false => exact absurd (Or.inr hh) h1
        have ha' := inN_iff.1 ha
        have hb' := inN_iff.1 hb
        exact h.add ⟨by show a.toNat < s.n; omega, by show b.toNat < s.n; omega, by show d.length ≤ _; omega⟩ h3
theorem Wf.gone {s : LS} (h : Wf s) (i : Nat) : Wf (gone s i) :=
  ⟨h.lo, h.hi, Nat.le_trans (List.length_eraseIdx_le s.ps i) h.few, fun x hx => h.each x ((List.eraseIdx_sublist s.ps i).subset hx), h.cnt, h.self⟩
theorem Wf.drop {s : LS} (h : Wf s) (k : Int) : Wf (dropP s k).2 := by unfold dropP; split <;> first | exact h | exact h.gone _
theorem Wf.take {s : LS} (h : Wf s) (k : Int) : Wf (takeP s k).2.2 := by
  unfold takeP
  split
  · exact h
  · split
    · exact h.gone _
    · exact h
theorem Wf.getD {s : LS} (h : Wf s) {i : Nat} (hi : i < s.ps.length) : (s.ps.getD i zeroPk).a < s.n ∧ (s.ps.getD i zeroPk).b < s.n ∧ (s.ps.getD i zeroPk).d.length ≤ 65544 := by
  rw [getD_at hi]; exact h.each _ (List.getElem_mem hi)
theorem Wf.twice {s : LS} (h : Wf s) (k : Int) : Wf (twiceP s k).2 := by
  unfold twiceP
  split
  · exact h
  · rename_i i hi
    unfold addP
    split
    · exact h
    · rename_i hl
      exact h.add (h.getD (atP_some hi).2.2) hl
theorem Wf.spoil {s : LS} (h : Wf s) (k j : Int) (c : UInt8) : Wf (spoilP s k j c).2 := by
  unfold spoilP
  split
  · exact h
  · rename_i i hi
    split
    · have hx := h.getD (atP_some hi).2.2
      refine ⟨h.lo, h.hi, (by show (s.ps.set _ _).length ≤ _; rw [List.length_set]; exact h.few), (fun y hy => ?_), h.cnt, h.self⟩
      rcases List.mem_or_eq_of_mem_set (show y ∈ s.ps.set i _ from hy) with hy | rfl
      · exact h.each y hy
      · exact ⟨hx.1, hx.2.1, by show (List.set _ _ _).length ≤ _; rw [List.length_set]; exact hx.2.2⟩
    · exact h
theorem Wf.link {s : LS} (h : Wf s) (a b : Int) (v : Bool) (hc : s.cn < 1000000) : Wf (linkP s a b v).2 := by
  unfold linkP
  split
  · exact h
  · rename_i hn
    refine ⟨h.lo, h.hi, h.few, h.each, (by show s.cn + 1 ≤ _; omega), fun x => ?_⟩
    show linkS _ _ _ _ x x = false
    unfold linkS
    have ha : inN s.n a = true := by cases hh : inN s.n a with | true => rfl | false => exact absurd (Or.inl hh) hn
    have hb : inN s.n b = true := by cases hh : inN s.n b with | true => rfl | false => exact absurd (Or.inr (Or.inl hh)) hn
    have ha' := inN_iff.1 ha
    have hb' := inN_iff.1 hb
    have hne : a ≠ b := fun e => hn (Or.inr (Or.inr e))
    rw [if_neg (by omega)]
    exact h.self x
theorem Wf.heal {s : LS} (h : Wf s) : Wf (healP s) := ⟨h.lo, h.hi, h.few, h.each, h.cnt, fun _ => rfl⟩
theorem Wf.new {n : Nat} (h1 : 1 ≤ n) (h2 : n ≤ 32) : Wf (newP n) := ⟨h1, h2, Nat.zero_le _, (fun x hx => by cases hx), Nat.zero_le _, fun _ => rfl⟩
theorem openP_iff {s : LS} {a b : Int} : openP s a b = true ↔ inN s.n a = true ∧ inN s.n b = true ∧ s.sh a.toNat b.toNat = false := by
  unfold openP
  rw [Bool.and_eq_true, Bool.and_eq_true, Bool.not_eq_true', and_assoc]
end Go.Proofs.Ytdjgafemmihlgaa.lan
