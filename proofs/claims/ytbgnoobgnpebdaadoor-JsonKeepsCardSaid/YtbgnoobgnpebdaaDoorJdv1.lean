/- The developers' reader in plain lists: what each of its steps answers (none: it gives up), and that it reads just the texts of objects. No condition. -/
import Derived.Test.YtbgnoobgnpebdaaDoorJsnLb
import Derived.Lib.ItoaNum
import Derived.Lib.IndexAny
import Derived.Lib.AtoiAll
import Derived.Lib.AtoiAllCases
namespace Go.Proofs.YtbgnoobgnpebdaaDoor.jdv
open Go.Proofs.YtbgnoobgnpebdaaDoor.jsn
open Go.Lib (hasPrefix trimPrefix)

def plainC (c : UInt8) : Bool := decide (32 ≤ c.toNat) && decide (c.toNat ≤ 126)
def markC (c : UInt8) : Bool := c == 34 || c == 92
def tookP (p l : List UInt8) : Option (List UInt8) := if hasPrefix l p = true then some (l.drop p.length) else none
def fourP : List UInt8 → Option (Nat × List UInt8)
  | [] => none
  | c :: r => if worth c < 16 then some (worth c, r) else none
def nextP (k : Bool) : List UInt8 → Option (UInt8 × List UInt8)
  | [] => none
  | c :: r => if plainC c = true ∧ markC c = k then some (c, r) else none
def escO (l : List UInt8) : Option (UInt8 × List UInt8) :=
  match fourP l with
  | none => none
  | some (a, r) => match fourP r with
    | none => none
    | some (b, r2) => if plainC (UInt8.ofNat (16 * a + b)) = true then none else some (UInt8.ofNat (16 * a + b), r2)
def octP (l : List UInt8) : Option (UInt8 × List UInt8) :=
  if hasPrefix l [92, 117, 48, 48] = true then escO (l.drop 4)
  else if hasPrefix l [92] = true then nextP true (l.drop 1)
  else nextP false l
def bodyP : Nat → List UInt8 → Option (List UInt8 × List UInt8)
  | 0, _ => none
  | f + 1, l => if hasPrefix l [34] = true then some ([], l.drop 1) else match octP l with
    | none => none
    | some (c, r) => (bodyP f r).map (fun y => (c :: y.1, y.2))
def textP (l : List UInt8) : Option (List UInt8 × List UInt8) := if hasPrefix l [34] = true then bodyP l.length (l.drop 1) else none
def ixP (l : List UInt8) : Int := Lib.indexAny l [44, 125]
def numP (l : List UInt8) : Option (Int × List UInt8) :=
  if ixP l < 0 then none else match Lib.atoiAll (l.take (ixP l).toNat) with
  | .ok v => if Lib.itoa v = l.take (ixP l).toNat then some (v, l.drop (ixP l).toNat) else none
  | _ => none
def valP (nm l : List UInt8) : Option (Mem × List UInt8) :=
  if hasPrefix l [34] = true then (textP l).map (fun y => (⟨nm, 0, y.1, 0, false⟩, y.2))
  else if hasPrefix l [116, 114, 117, 101] = true then some (⟨nm, 2, [], 0, true⟩, l.drop 4)
  else if hasPrefix l [102, 97, 108, 115, 101] = true then some (⟨nm, 2, [], 0, false⟩, l.drop 5)
  else (numP l).map (fun y => (⟨nm, 1, [], y.1, false⟩, y.2))
def memP (l : List UInt8) : Option (Mem × List UInt8) :=
  match textP l with
  | none => none
  | some (nm, r) => if hasPrefix r [58] = true then valP nm (r.drop 1) else none
def moreP : Nat → List Mem → List UInt8 → Option (List Mem × List UInt8)
  | f, acc, l => if hasPrefix l [44] = true then (match f with
      | 0 => none
      | g + 1 => match memP (l.drop 1) with
        | none => none
        | some (m, r) => moreP g (acc ++ [m]) r) else some (acc, l)
def memsP (l : List UInt8) : Option (List Mem × List UInt8) :=
  if hasPrefix l [125] = true then some ([], l) else match memP l with
  | none => none
  | some (m, r) => moreP 63 [m] r
def unl : List Mem → Bool
  | [] => true
  | m :: r => !(r.any fun x => x.name == m.name) && unl r
def objP (l : List UInt8) : Option (List Mem) :=
  if hasPrefix l [123] = true then (match memsP (l.drop 1) with
    | none => none
    | some (ms, r) => if hasPrefix r [125] = true then (if r.drop 1 = [] ∧ unl ms = true then some ms else none) else none) else none

theorem fourP_cons (c : UInt8) (r : List UInt8) : fourP (c :: r) = if worth c < 16 then some (worth c, r) else none := rfl
theorem nextP_cons (k : Bool) (c : UInt8) (r : List UInt8) : nextP k (c :: r) = if plainC c = true ∧ markC c = k then some (c, r) else none := rfl
theorem hp_iff (l p : List UInt8) : hasPrefix l p = true ↔ ∃ r, l = p ++ r := by
  unfold hasPrefix
  rw [List.isPrefixOf_iff_prefix]
  exact ⟨fun ⟨r, h⟩ => ⟨r, h.symm⟩, fun ⟨r, h⟩ => ⟨r, h.symm⟩⟩
theorem hp1 (l : List UInt8) (x : UInt8) : hasPrefix l [x] = true ↔ ∃ r, l = x :: r := hp_iff l [x]
theorem hp_ne {x y : UInt8} (r : List UInt8) (h : x ≠ y) : hasPrefix (x :: r) [y] = false := by
  rw [Bool.eq_false_iff]
  intro h1
  obtain ⟨r', h2⟩ := (hp1 _ _).1 h1
  cases h2
  exact h rfl
theorem hp_self (x : UInt8) (r : List UInt8) : hasPrefix (x :: r) [x] = true := (hp1 _ _).2 ⟨r, rfl⟩
theorem hp_head {x y : UInt8} (r p : List UInt8) (h : x ≠ y) : hasPrefix (x :: r) (y :: p) = false := by
  rw [Bool.eq_false_iff]
  intro h1
  obtain ⟨r', h2⟩ := (hp_iff _ _).1 h1
  cases h2
  exact h rfl
theorem sg_worth : ∀ n : Nat, n < 256 → worth (UInt8.ofNat n) < 16 → sg (worth (UInt8.ofNat n)) = UInt8.ofNat n := by decide +kernel
theorem sg_worth' (x : UInt8) (h : worth x < 16) : sg (worth x) = x := by
  have := sg_worth x.toNat x.toNat_lt
  rw [UInt8.ofNat_toNat] at this
  exact this h
theorem fourP_some {l r : List UInt8} {a : Nat} (h : fourP l = some (a, r)) : ∃ x, l = x :: r ∧ worth x = a ∧ a < 16 := by
  cases l with
  | nil => cases h
  | cons c l =>
    rw [fourP_cons] at h
    by_cases h1 : worth c < 16
    · rw [if_pos h1] at h; cases h; exact ⟨c, rfl, rfl, h1⟩
    · rw [if_neg h1] at h; cases h
theorem fourP_sg (n : Nat) (hn : n < 16) (r : List UInt8) : fourP (sg n :: r) = some (n, r) := by
  rw [fourP_cons, worth_sg n hn, if_pos hn]
theorem plainC_iff (c : UInt8) : plainC c = true ↔ ¬ (c.toNat < 32 ∨ 126 < c.toNat) := by
  unfold plainC
  rw [Bool.and_eq_true, decide_eq_true_iff, decide_eq_true_iff]
  omega
theorem markC_iff (c : UInt8) : markC c = true ↔ (c = 34 ∨ c = 92) := by simp [markC]
theorem nextP_some {k : Bool} {l r : List UInt8} {c : UInt8} (h : nextP k l = some (c, r)) : l = c :: r ∧ plainC c = true ∧ markC c = k := by
  cases l with
  | nil => cases h
  | cons x l =>
    rw [nextP_cons] at h
    by_cases h1 : plainC x = true ∧ markC x = k
    · rw [if_pos h1] at h; cases h; exact ⟨rfl, h1.1, h1.2⟩
    · rw [if_neg h1] at h; cases h
theorem octP_sound {l r : List UInt8} {c : UInt8} (h : octP l = some (c, r)) : l = sB c ++ r := by
  unfold octP at h
  by_cases h1 : hasPrefix l [92, 117, 48, 48] = true
  · rw [if_pos h1] at h
    obtain ⟨l, rfl⟩ := (hp_iff _ _).1 h1
    change escO l = _ at h
    unfold escO at h
    cases h2 : fourP l with
    | none => rw [h2] at h; cases h
    | some y =>
      obtain ⟨a, r1⟩ := y
      rw [h2] at h
      dsimp only at h
      obtain ⟨x, rfl, hx, ha⟩ := fourP_some h2
      cases h3 : fourP r1 with
      | none => rw [h3] at h; cases h
      | some y =>
        obtain ⟨b, r2⟩ := y
        rw [h3] at h
        dsimp only at h
        obtain ⟨z, rfl, hz, hb⟩ := fourP_some h3
        by_cases h4 : plainC (UInt8.ofNat (16 * a + b)) = true
        · rw [if_pos h4] at h; cases h
        · rw [if_neg h4] at h
          cases h
          have hn : (UInt8.ofNat (16 * a + b)).toNat = 16 * a + b := by rw [UInt8.toNat_ofNat', Nat.mod_eq_of_lt (by omega)]
          unfold sB
          rw [if_pos (by rw [plainC_iff] at h4; exact Classical.not_not.1 h4), hn, show (16 * a + b) / 16 = a by omega, show (16 * a + b) % 16 = b by omega, ← hx, ← hz, sg_worth' x (by omega), sg_worth' z (by omega)]
          rfl
  · rw [if_neg h1] at h
    by_cases h2 : hasPrefix l [92] = true
    · rw [if_pos h2] at h
      obtain ⟨l, rfl⟩ := (hp1 _ _).1 h2
      obtain ⟨h3, h4, h5⟩ := nextP_some h
      change l = _ at h3
      subst h3
      unfold sB
      rw [if_neg ((plainC_iff c).1 h4), if_pos ((markC_iff c).1 h5)]
      rfl
    · rw [if_neg h2] at h
      obtain ⟨h3, h4, h5⟩ := nextP_some h
      subst h3
      unfold sB
      rw [if_neg ((plainC_iff c).1 h4), if_neg (fun e => by rw [(markC_iff c).2 e] at h5; cases h5)]
      rfl
theorem octP_sB (c : UInt8) (r : List UInt8) : octP (sB c ++ r) = some (c, r) := by
  unfold sB
  have hc := c.toNat_lt
  by_cases h1 : c.toNat < 32 ∨ 126 < c.toNat
  · rw [if_pos h1]
    unfold octP
    rw [if_pos (show hasPrefix ([92, 117, 48, 48, sg (c.toNat / 16), sg (c.toNat % 16)] ++ r) [92, 117, 48, 48] = true from (hp_iff _ _).2 ⟨sg (c.toNat / 16) :: sg (c.toNat % 16) :: r, rfl⟩)]
    show escO (sg (c.toNat / 16) :: sg (c.toNat % 16) :: r) = _
    unfold escO
    rw [fourP_sg _ (by omega)]
    dsimp only
    rw [fourP_sg _ (by omega)]
    dsimp only
    rw [show 16 * (c.toNat / 16) + c.toNat % 16 = c.toNat by omega, UInt8.ofNat_toNat, if_neg (fun h => (plainC_iff c).1 h h1)]
  · rw [if_neg h1]
    have hp := (plainC_iff c).2 h1
    by_cases h2 : c = 34 ∨ c = 92
    · rw [if_pos h2]
      unfold octP
      rw [if_neg, if_pos (show hasPrefix ([92, c] ++ r) [92] = true from hp_self _ _)]
      · show nextP true (c :: r) = _
        rw [nextP_cons, if_pos ⟨hp, (markC_iff c).2 h2⟩]
      · intro h3
        obtain ⟨r', h4⟩ := (hp_iff _ _).1 h3
        rcases h2 with rfl | rfl <;> cases h4
    · rw [if_neg h2]
      unfold octP
      have hne : c ≠ 92 := fun e => h2 (Or.inr e)
      rw [if_neg (by rw [show ([c] : List UInt8) ++ r = c :: r from rfl, hp_head _ _ hne]; decide), if_neg (by rw [show ([c] : List UInt8) ++ r = c :: r from rfl, hp_ne _ hne]; decide)]
      show nextP false (c :: r) = _
      rw [nextP_cons, if_pos ⟨hp, by rw [Bool.eq_false_iff]; exact fun e => h2 ((markC_iff c).1 e)⟩]
theorem octP_len {l r : List UInt8} {c : UInt8} (h : octP l = some (c, r)) : r.length < l.length := by
  rw [octP_sound h, List.length_append]
  have := sB_len c
  omega
theorem bodyP_sound : ∀ (f : Nat) (l t r : List UInt8), bodyP f l = some (t, r) → l = strB t ++ 34 :: r
  | 0, l, t, r, h => by cases h
  | f + 1, l, t, r, h => by
    unfold bodyP at h
    by_cases h1 : hasPrefix l [34] = true
    · rw [if_pos h1] at h
      obtain ⟨l, rfl⟩ := (hp1 _ _).1 h1
      cases h
      rfl
    · rw [if_neg h1] at h
      cases h2 : octP l with
      | none => rw [h2] at h; cases h
      | some y =>
        obtain ⟨c, r1⟩ := y
        rw [h2] at h
        dsimp only at h
        cases h3 : bodyP f r1 with
        | none => rw [h3] at h; cases h
        | some z =>
          obtain ⟨t1, r2⟩ := z
          rw [h3] at h
          cases h
          rw [octP_sound h2, bodyP_sound f r1 t1 _ h3, strB_cons, List.append_assoc]
theorem sB_no34 (c : UInt8) (r : List UInt8) : hasPrefix (sB c ++ r) [34] = false := by
  unfold sB
  split
  · exact hp_ne _ (by decide)
  · split
    · exact hp_ne _ (by decide)
    · rename_i h
      exact hp_ne _ (fun e => h (Or.inl e))
theorem bodyP_str : ∀ (t r : List UInt8) (f : Nat), t.length < f → bodyP f (strB t ++ 34 :: r) = some (t, r)
  | _, _, 0, h => by omega
  | [], r, f + 1, _ => by
    show bodyP (f + 1) (34 :: r) = _
    unfold bodyP
    rw [if_pos (hp_self _ _)]
    rfl
  | c :: t, r, f + 1, h => by
    rw [strB_cons, List.append_assoc]
    unfold bodyP
    rw [if_neg (by rw [sB_no34]; decide), octP_sB]
    dsimp only
    rw [bodyP_str t r f (by simpa using h)]
    rfl
theorem textP_sound {l t r : List UInt8} (h : textP l = some (t, r)) : l = strT t ++ r := by
  unfold textP at h
  by_cases h1 : hasPrefix l [34] = true
  · rw [if_pos h1] at h
    obtain ⟨l, rfl⟩ := (hp1 _ _).1 h1
    have hb := bodyP_sound _ _ _ _ h
    change l = _ at hb
    rw [hb]
    simp [strT]
  · rw [if_neg h1] at h; cases h
theorem textP_str (t r : List UInt8) : textP (strT t ++ r) = some (t, r) := by
  unfold textP
  have e : strT t ++ r = 34 :: (strB t ++ 34 :: r) := by simp [strT]
  rw [e, if_pos (hp_self _ _)]
  show bodyP _ (strB t ++ 34 :: r) = _
  refine bodyP_str t r _ ?_
  have := (strB_len t).1
  simp only [List.length_cons, List.length_append]
  omega
theorem decD (n : Nat) : Lib.decDigits n = natD n := by
  induction n using Nat.strongRecOn with
  | ind n ih =>
    rw [Lib.decDigits, natD]
    by_cases h : n < 10
    · rw [dif_pos h, if_pos h]
    · rw [dif_neg h, if_neg h, ih _ (by omega)]
theorem itoaD (n : Int) : Lib.itoa n = intD n := by
  unfold Lib.itoa intD
  rw [decD, decD]
  by_cases h : n < 0
  · rw [if_pos h, if_pos h]
  · rw [if_neg h, if_neg h, show n.toNat = n.natAbs by omega]
theorem parse_dig : ∀ (l : List UInt8) (acc : Nat), (∀ c ∈ l, 48 ≤ c.toNat ∧ c.toNat ≤ 57) → valD acc l < 18446744073709551616 → Lib.parseUint10 acc l = .ok (valD acc l)
  | [], acc, _, _ => rfl
  | c :: r, acc, hd, hv => by
    have hc := hd c (by simp)
    have hmono : ∀ (l : List UInt8) (a : Nat), a ≤ valD a l := by
      intro l
      induction l with
      | nil => intro a; exact Nat.le_refl _
      | cons x l ih => intro a; exact Nat.le_trans (by omega) (ih (10 * a + (x.toNat - 48)))
    have hm := hmono r (10 * acc + (c.toNat - 48))
    have hv' : valD (10 * acc + (c.toNat - 48)) r < 18446744073709551616 := hv
    unfold Lib.parseUint10
    rw [if_pos hc, if_neg (by omega), if_neg (by omega), show acc * 10 = 10 * acc by omega]
    exact parse_dig r _ (fun x hx => hd x (by simp [hx])) hv'
theorem atoi_intD (n : Int) (h1 : -9223372036854775808 ≤ n) (h2 : n ≤ 9223372036854775807) : Lib.atoiAll (intD n) = .ok n := by
  have hN := valD_natD n.natAbs
  have hP : Lib.parseMag (natD n.natAbs) = .ok n.natAbs := by
    unfold Lib.parseMag
    rw [if_neg (fun e => by have := natD_pos n.natAbs; rw [e] at this; simp at this), parse_dig _ 0 (natD_digit _) (by rw [hN]; omega), hN]
  unfold intD
  by_cases h : n < 0
  · rw [if_pos h, Lib.atoiAll_minus, hP]
    show (if 9223372036854775808 < n.natAbs then Lib.NumEnd.range else Lib.NumEnd.ok (-(n.natAbs : Int))) = Lib.NumEnd.ok n
    rw [if_neg (by omega), show -(n.natAbs : Int) = n by omega]
  · rw [if_neg h]
    obtain ⟨c, r, hc, h3, h4⟩ := natD_head n.natAbs
    rw [hc] at hP ⊢
    rw [Lib.atoiAll_plain c r (by omega) (by omega), hP]
    show (if 9223372036854775808 ≤ n.natAbs then Lib.NumEnd.range else Lib.NumEnd.ok (n.natAbs : Int)) = Lib.NumEnd.ok n
    rw [if_neg (by omega), show (n.natAbs : Int) = n by omega]
theorem intD_signs (n : Int) : ∀ c ∈ intD n, (c = 45 ∨ (48 ≤ c.toNat ∧ c.toNat ≤ 57)) := by
  intro c hc
  unfold intD at hc
  by_cases h : n < 0
  · rw [if_pos h] at hc
    rcases List.mem_cons.1 hc with rfl | hc
    · exact Or.inl rfl
    · exact Or.inr (natD_digit _ c hc)
  · rw [if_neg h] at hc
    exact Or.inr (natD_digit _ c hc)
theorem ix_int (n : Int) (x : UInt8) (r : List UInt8) (hx : x = 44 ∨ x = 125) : ixP (intD n ++ x :: r) = ((intD n).length : Int) := by
  unfold ixP
  refine Lib.indexAny_hit (x := x) ?_ (by simp) (by rcases hx with rfl | rfl <;> decide)
  intro j b hj hb
  rw [List.getElem?_append_left hj] at hb
  have hm := intD_signs n b (List.mem_of_getElem? hb)
  rcases hm with rfl | hm
  · decide
  · rw [Bool.eq_false_iff]
    intro h
    simp only [List.contains_eq_mem, List.mem_cons, List.not_mem_nil, or_false, decide_eq_true_iff] at h
    rcases h with rfl | rfl <;> simp at hm
theorem numP_int (n : Int) (h1 : -9223372036854775808 ≤ n) (h2 : n ≤ 9223372036854775807) (x : UInt8) (r : List UInt8) (hx : x = 44 ∨ x = 125) : numP (intD n ++ x :: r) = some (n, x :: r) := by
  have e := ix_int n x r hx
  unfold numP
  rw [e, if_neg (by omega), show ((intD n).length : Int).toNat = (intD n).length by simp, List.take_left', atoi_intD n h1 h2]
  · dsimp only
    rw [if_pos (itoaD n), List.drop_left']
    rfl
  · rfl
theorem numP_sound {l r : List UInt8} {n : Int} (h : numP l = some (n, r)) : l = intD n ++ r ∧ -9223372036854775808 ≤ n ∧ n ≤ 9223372036854775807 := by
  unfold numP at h
  by_cases h1 : ixP l < 0
  · rw [if_pos h1] at h; cases h
  · rw [if_neg h1] at h
    rcases h2 : Lib.atoiAll (l.take (ixP l).toNat) with v | _ | _
    · rw [h2] at h
      dsimp only at h
      by_cases h3 : Lib.itoa v = l.take (ixP l).toNat
      · rw [if_pos h3] at h
        cases h
        refine ⟨?_, Lib.atoiAll_bounds h2⟩
        rw [← itoaD, h3, List.take_append_drop]
      · rw [if_neg h3] at h; cases h
    · rw [h2] at h; cases h
    · rw [h2] at h; cases h
end Go.Proofs.YtbgnoobgnpebdaaDoor.jdv
