/- Flat objects in plain lists: strings, numbers, members, what is printed, what a text seems to have; what follows of them. No condition. -/
import Derived.Lib.Strings
namespace Go.Proofs.YtjadginnaogjoaaGreatDoor.jsn

/-- a sign by sixteen, small -/
def sg (n : Nat) : UInt8 := if n < 10 then UInt8.ofNat (48 + n) else UInt8.ofNat (87 + n)
/-- 0 to 15; 16: none -/
def worth (c : UInt8) : Nat := if 48 ≤ c.toNat ∧ c.toNat ≤ 57 then c.toNat - 48 else if 97 ≤ c.toNat ∧ c.toNat ≤ 102 then c.toNat - 87 else 16
theorem worth_le (c : UInt8) : worth c ≤ 16 := by unfold worth; split <;> (try split) <;> omega
theorem worth_sg : ∀ n, n < 16 → worth (sg n) = n := by decide
theorem sg_nat : ∀ n, n < 16 → (sg n).toNat = if n < 10 then 48 + n else 87 + n := by decide
/-- a byte in a string -/
def sB (c : UInt8) : List UInt8 := if c.toNat < 32 ∨ 126 < c.toNat then [92, 117, 48, 48, sg (c.toNat / 16), sg (c.toNat % 16)] else if c = 34 ∨ c = 92 then [92, c] else [c]
def strB (l : List UInt8) : List UInt8 := l.flatMap sB
/-- a string -/
def strT (l : List UInt8) : List UInt8 := 34 :: (strB l ++ [34])
theorem sB_len (c : UInt8) : 1 ≤ (sB c).length ∧ (sB c).length ≤ 6 := by unfold sB; split <;> (try split) <;> simp
theorem strB_append (a b : List UInt8) : strB (a ++ b) = strB a ++ strB b := by simp [strB]
theorem strB_cons (c : UInt8) (l : List UInt8) : strB (c :: l) = sB c ++ strB l := rfl
theorem strB_len (l : List UInt8) : l.length ≤ (strB l).length ∧ (strB l).length ≤ 6 * l.length := by
  induction l with
  | nil => simp [strB]
  | cons c l ih =>
    have := sB_len c
    rw [strB_cons, List.length_append, List.length_cons]
    omega
/-- two signs by sixteen, three places on -/
def hexP : List UInt8 → Option UInt8
  | _ :: _ :: _ :: a :: b :: _ => if worth a < 16 ∧ worth b < 16 then some (UInt8.ofNat (16 * worth a + worth b)) else none
  | _ => none
theorem hexP_5 (x p q a b : UInt8) (r : List UInt8) : hexP (x :: p :: q :: a :: b :: r) = if worth a < 16 ∧ worth b < 16 then some (UInt8.ofNat (16 * worth a + worth b)) else none := rfl
theorem hexP_short (r : List UInt8) (h : r.length < 5) : hexP r = none := by
  match r, h with
  | [], _ => rfl
  | [_], _ => rfl
  | [_, _], _ => rfl
  | [_, _, _], _ => rfl
  | [_, _, _, _], _ => rfl
/-- behind a \: the byte that is said, and how many signs say it, the \ among them -/
def escP (r : List UInt8) : UInt8 × Nat := match r.head? with
  | none => (92, 1)
  | some x => if x = 34 ∨ x = 92 then (x, 2) else match hexP r with
    | some y => (y, 6)
    | none => (92, 1)
/-- the byte that a string's rest begins with, and how many signs say it -/
def stepP (c : UInt8) (r : List UInt8) : UInt8 × Nat := if c = 92 then escP r else (c, 1)
theorem escP_n (r : List UInt8) : 1 ≤ (escP r).2 ∧ (escP r).2 ≤ 6 ∧ (escP r).2 ≤ r.length + 1 := by
  unfold escP
  match r with
  | [] => simp
  | x :: r' =>
    simp only [List.head?_cons]
    by_cases h : x = 34 ∨ x = 92
    · rw [if_pos h]; simp
    · rw [if_neg h]
      match r' with
      | [] => simp [hexP]
      | [_] => simp [hexP]
      | [_, _] => simp [hexP]
      | [_, _, _] => simp [hexP]
      | p :: q :: a :: b :: r'' =>
        rw [hexP_5]
        by_cases h2 : worth a < 16 ∧ worth b < 16
        · simp [h2]
        · simp [h2]
theorem stepP_n (c : UInt8) (r : List UInt8) : 1 ≤ (stepP c r).2 ∧ (stepP c r).2 ≤ 6 ∧ (stepP c r).2 ≤ r.length + 1 := by
  unfold stepP
  split
  · exact escP_n r
  · simp
/-- a string's rest, unread: its bytes, and what stands behind it -/
def strP : List UInt8 → Option (List UInt8 × List UInt8)
  | [] => none
  | c :: r => if c = 34 then some ([], r) else (strP ((c :: r).drop (stepP c r).2)).map (fun y => ((stepP c r).1 :: y.1, y.2))
termination_by l => l.length
decreasing_by
  have := stepP_n c r
  rw [List.length_drop, List.length_cons]
  omega
theorem strP_nil : strP [] = none := by rw [strP]
theorem strP_end (r : List UInt8) : strP (34 :: r) = some ([], r) := by rw [strP, if_pos rfl]
theorem strP_cons {c : UInt8} (r : List UInt8) (h : c ≠ 34) : strP (c :: r) = (strP ((c :: r).drop (stepP c r).2)).map (fun y => ((stepP c r).1 :: y.1, y.2)) := by rw [strP, if_neg h]
theorem strP_sB (c : UInt8) (l : List UInt8) (y : List UInt8 × List UInt8) (h : strP l = some y) : strP (sB c ++ l) = some (c :: y.1, y.2) := by
  unfold sB
  by_cases h1 : c.toNat < 32 ∨ 126 < c.toNat
  · rw [if_pos h1]
    have w1 := worth_sg (c.toNat / 16) (by have := c.toNat_lt; omega)
    have w2 := worth_sg (c.toNat % 16) (by omega)
    have l1 : c.toNat / 16 < 16 := by have := c.toNat_lt; omega
    have l2 : c.toNat % 16 < 16 := by omega
    show strP (92 :: 117 :: 48 :: 48 :: sg (c.toNat / 16) :: sg (c.toNat % 16) :: l) = _
    have e : 16 * (c.toNat / 16) + c.toNat % 16 = c.toNat := by omega
    have hs : stepP 92 (117 :: 48 :: 48 :: sg (c.toNat / 16) :: sg (c.toNat % 16) :: l) = (c, 6) := by
      have hx : hexP (117 :: 48 :: 48 :: sg (c.toNat / 16) :: sg (c.toNat % 16) :: l) = some c := by
        rw [hexP_5, w1, w2, if_pos ⟨l1, l2⟩, e]
        simp
      unfold stepP escP
      rw [if_pos rfl, hx]
      rfl
    rw [strP_cons _ (by decide), hs]
    show (strP l).map _ = _
    rw [h]; rfl
  · rw [if_neg h1]
    by_cases h2 : c = 34 ∨ c = 92
    · rw [if_pos h2]
      show strP (92 :: c :: l) = _
      have hs : stepP 92 (c :: l) = (c, 2) := by
        unfold stepP escP
        rw [if_pos rfl]
        simp only [List.head?_cons, h2, if_true]
      rw [strP_cons _ (by decide), hs]
      show (strP l).map _ = _
      rw [h]; rfl
    · rw [if_neg h2]
      show strP (c :: l) = _
      have hs : stepP c l = (c, 1) := by unfold stepP; rw [if_neg (fun e => h2 (Or.inr e))]
      rw [strP_cons _ (fun e => h2 (Or.inl e)), hs]
      show (strP l).map _ = _
      rw [h]; rfl
theorem strP_str (l r : List UInt8) : strP (strB l ++ 34 :: r) = some (l, r) := by
  induction l with
  | nil => exact strP_end r
  | cons c l ih =>
    rw [strB_cons, List.append_assoc]
    exact strP_sB c _ _ ih
theorem strP_len : ∀ (n : Nat) (l : List UInt8), l.length ≤ n → ∀ y, strP l = some y → y.1.length + y.2.length + 1 ≤ l.length
  | n, [], _, y, h => by rw [strP_nil] at h; cases h
  | 0, c :: r, hl, _, _ => by simp at hl
  | n + 1, c :: r, hl, y, h => by
    by_cases h1 : c = 34
    · subst h1; rw [strP_end] at h; cases h; simp
    · rw [strP_cons _ h1] at h
      have hs := stepP_n c r
      cases hp : strP ((c :: r).drop (stepP c r).2) with
      | none => rw [hp] at h; cases h
      | some z =>
        rw [hp] at h
        cases h
        have hl2 : ((c :: r).drop (stepP c r).2).length ≤ n := by
          rw [List.length_drop]
          have : (c :: r).length ≤ n + 1 := hl
          omega
        have := strP_len n _ hl2 z hp
        rw [List.length_drop] at this
        simp only [List.length_cons] at this hs ⊢
        omega
/-- the digits of a number, the last one last -/
def natD (n : Nat) : List UInt8 := if n < 10 then [UInt8.ofNat (48 + n)] else natD (n / 10) ++ [UInt8.ofNat (48 + n % 10)]
termination_by n
theorem natD_small {n : Nat} (h : n < 10) : natD n = [UInt8.ofNat (48 + n)] := by rw [natD, if_pos h]
theorem natD_big {n : Nat} (h : ¬ n < 10) : natD n = natD (n / 10) ++ [UInt8.ofNat (48 + n % 10)] := by rw [natD, if_neg h]
def intD (n : Int) : List UInt8 := if n < 0 then 45 :: natD n.natAbs else natD n.natAbs
theorem natD_pos (n : Nat) : 0 < (natD n).length := by
  rw [natD]; split <;> simp
theorem natD_len : ∀ (j n : Nat), n < 10 ^ (j + 1) → (natD n).length ≤ j + 1
  | 0, n, h => by rw [natD_small (by omega)]; simp
  | j + 1, n, h => by
    by_cases h1 : n < 10
    · rw [natD_small h1]; simp
    · rw [natD_big h1, List.length_append, List.length_singleton]
      have := natD_len j (n / 10) (by rw [Nat.pow_succ] at h; omega)
      omega
theorem natD_digit (n : Nat) : ∀ c ∈ natD n, 48 ≤ c.toNat ∧ c.toNat ≤ 57 := by
  induction n using Nat.strongRecOn with
  | ind n ih =>
    intro c hc
    by_cases h1 : n < 10
    · rw [natD_small h1, List.mem_singleton] at hc
      rw [hc, UInt8.toNat_ofNat', Nat.mod_eq_of_lt (by omega)]
      omega
    · rw [natD_big h1, List.mem_append, List.mem_singleton] at hc
      rcases hc with hc | rfl
      · exact ih (n / 10) (by omega) c hc
      · rw [UInt8.toNat_ofNat', Nat.mod_eq_of_lt (by omega)]
        omega
/-- what digits say, ahead of which acc was said -/
def valD (acc : Nat) (l : List UInt8) : Nat := l.foldl (fun a c => 10 * a + (c.toNat - 48)) acc
theorem valD_natD (n : Nat) : valD 0 (natD n) = n := by
  induction n using Nat.strongRecOn with
  | ind n ih =>
    by_cases h1 : n < 10
    · rw [natD_small h1]
      show 10 * 0 + _ = n
      rw [UInt8.toNat_ofNat', Nat.mod_eq_of_lt (by omega)]
      omega
    · rw [natD_big h1, valD, List.foldl_append]
      show 10 * valD 0 (natD (n / 10)) + _ = n
      rw [ih (n / 10) (by omega), UInt8.toNat_ofNat', Nat.mod_eq_of_lt (by omega)]
      omega
/-- a member -/
structure Mem where
  name : List UInt8
  kind : Int
  text : List UInt8
  n : Int
  b : Bool
deriving DecidableEq
def inForm (m : Mem) : Bool := (decide (m.kind = 0) && decide (m.n = 0) && !m.b) || (decide (m.kind = 1) && m.text.isEmpty && !m.b) || (decide (m.kind = 2) && m.text.isEmpty && decide (m.n = 0))
def valT (m : Mem) : List UInt8 := if m.kind = 0 then strT m.text else if m.kind = 1 then intD m.n else if m.b then [116, 114, 117, 101] else [102, 97, 108, 115, 101]
def memT (m : Mem) : List UInt8 := strT m.name ++ 58 :: valT m
/-- members with , between -/
def memsT : List Mem → List UInt8
  | [] => []
  | m :: r => if r.isEmpty then memT m else memT m ++ 44 :: memsT r
def objT (ms : List Mem) : List UInt8 := 123 :: (memsT ms ++ [125])
/-- in form, with unlike names -/
def okM : List Mem → Bool
  | [] => true
  | m :: r => inForm m && !(r.any fun x => x.name == m.name) && okM r
def printJ (ms : List Mem) : Nat × List UInt8 := if 64 < ms.length then (2, []) else if okM ms = true then (if 16384 < (objT ms).length then (2, []) else (0, objT ms)) else (3, [])
end Go.Proofs.YtjadginnaogjoaaGreatDoor.jsn
