/- What a text seems to have (as the document's answer looks for it); a text of right members has just these. No condition. -/
import Derived.Test.YtjadginnaogjoaaGreatDoorJsn1
import Derived.WalkKit
import Derived.WalkSmall
namespace Go.Proofs.YtjadginnaogjoaaGreatDoor.jsn
open Go.RowKit

def w64 (n : Int) : Int := Go.IntKind.i64.wrap n
theorem w64_id {n : Int} (h1 : -9223372036854775808 ≤ n) (h2 : n ≤ 9223372036854775807) : w64 n = n := by unfold w64; rw [IntKind.wrap_i64]; omega
def isD (c : UInt8) : Bool := decide (47 < c.toNat) && decide (c.toNat < 58)
/-- up to k digits, below 0: the number, what stands behind -/
def digP : Nat → Int → List UInt8 → Int × List UInt8
  | k + 1, n, c :: r => if isD c then digP k (w64 (w64 (10 * n) - ((c.toNat : Int) - 48))) r else (n, c :: r)
  | _, n, r => (n, r)
/-- the member of a name whose value a text begins with -/
def valueP (name l : List UInt8) : Option (Mem × List UInt8) :=
  if l.head? = some 34 then (strP l.tail).map fun y => (⟨name, 0, y.1, 0, false⟩, y.2)
  else if l.take 4 = [116, 114, 117, 101] then some (⟨name, 2, [], 0, true⟩, l.drop 4)
  else if l.take 5 = [102, 97, 108, 115, 101] then some (⟨name, 2, [], 0, false⟩, l.drop 5)
  else
    let below := decide (l.head? = some 45)
    let r := if below then l.tail else l
    let d := digP 19 0 r
    if d.2.length = r.length then none else some (⟨name, 1, [], if below then d.1 else w64 (-d.1), false⟩, d.2)
/-- the members that a text seems to have -/
def seem : Nat → List UInt8 → List Mem
  | 0, _ => []
  | f + 1, l => match l with
    | [] => []
    | q :: r => if q = 34 then match strP r with
      | none => []
      | some (nm, r2) => match r2 with
        | [] => []
        | c :: r3 => if c = 58 then match valueP nm r3 with
          | none => []
          | some (m, r4) => m :: (match r4 with
            | [] => []
            | x :: r5 => if x = 44 then seem f r5 else [])
          else []
      else []
theorem seem_q (f : Nat) (r : List UInt8) : seem (f + 1) (34 :: r) = match strP r with
      | none => []
      | some (nm, r2) => match r2 with
        | [] => []
        | c :: r3 => if c = 58 then match valueP nm r3 with
          | none => []
          | some (m, r4) => m :: (match r4 with
            | [] => []
            | x :: r5 => if x = 44 then seem f r5 else [])
          else [] := by rw [seem.eq_def]; rfl
theorem seem_n (f : Nat) (q : UInt8) (r : List UInt8) (h : q ≠ 34) : seem f (q :: r) = [] := by
  cases f with
  | zero => rfl
  | succ f => rw [seem.eq_def]; simp only [h, if_false]
theorem seem_nil (f : Nat) : seem f [] = [] := by
  cases f <;> rfl
def i64 (m : Mem) : Prop := -9223372036854775808 ≤ m.n ∧ m.n ≤ 9223372036854775807
theorem digP_stop (k : Nat) (n : Int) (r : List UInt8) (h : ∀ c r', r = c :: r' → isD c = false) : digP k n r = (n, r) := by
  cases k with
  | zero => rfl
  | succ k =>
    cases r with
    | nil => rfl
    | cons c r' =>
      rw [digP, h c r' rfl]
      rfl
theorem isD_iff (c : UInt8) : isD c = true ↔ 48 ≤ c.toNat ∧ c.toNat ≤ 57 := by
  unfold isD
  simp only [Bool.and_eq_true, decide_eq_true_eq]
  omega
theorem digP_run : ∀ (l : List UInt8) (k acc : Nat) (r : List UInt8), l.length ≤ k → (∀ c ∈ l, 48 ≤ c.toNat ∧ c.toNat ≤ 57) → (∀ c r', r = c :: r' → isD c = false) → valD acc l ≤ 9223372036854775808 → digP k (-(acc : Int)) (l ++ r) = (-(valD acc l : Int), r)
  | [], k, acc, r, _, _, hr, _ => digP_stop k _ r hr
  | c :: l, 0, acc, r, hk, _, _, _ => by simp at hk
  | c :: l, k + 1, acc, r, hk, hd, hr, hv => by
    have hc := hd c (by simp)
    have hmono : ∀ (l : List UInt8) (a : Nat), a ≤ valD a l := by
      intro l
      induction l with
      | nil => exact fun a => Nat.le_refl _
      | cons x l ih => intro a; exact Nat.le_trans (by omega) (ih (10 * a + (x.toNat - 48)))
    have hv2 : valD acc (c :: l) = valD (10 * acc + (c.toNat - 48)) l := rfl
    have h1 := hmono l (10 * acc + (c.toNat - 48))
    rw [hv2] at hv
    rw [List.cons_append, digP, if_pos ((isD_iff c).2 hc), hv2]
    have e1 : w64 (10 * -(acc : Int)) = -((10 * acc : Nat) : Int) := by rw [w64_id (by omega) (by omega)]; omega
    have e2 : w64 (-((10 * acc : Nat) : Int) - ((c.toNat : Int) - 48)) = -((10 * acc + (c.toNat - 48) : Nat) : Int) := by rw [w64_id (by omega) (by omega)]; omega
    rw [e1, e2]
    exact digP_run l k _ r (by simpa using hk) (fun x hx => hd x (by simp [hx])) hr hv
theorem natD_head (n : Nat) : ∃ c r, natD n = c :: r ∧ 48 ≤ c.toNat ∧ c.toNat ≤ 57 := by
  cases h : natD n with
  | nil => have := natD_pos n; rw [h] at this; simp at this
  | cons c r => exact ⟨c, r, rfl, natD_digit n c (by rw [h]; simp)⟩
/-- no digit -/
def nd (r : List UInt8) : Prop := ∀ c r', r = c :: r' → isD c = false
theorem value_str (nm t r : List UInt8) : valueP nm (strT t ++ r) = some (⟨nm, 0, t, 0, false⟩, r) := by
  unfold valueP strT
  rw [List.cons_append, if_pos (by simp), List.tail_cons, List.append_assoc]
  show (strP (strB t ++ 34 :: r)).map _ = _
  rw [strP_str]; rfl
theorem value_true (nm r : List UInt8) : valueP nm ([116, 114, 117, 101] ++ r) = some (⟨nm, 2, [], 0, true⟩, r) := by
  unfold valueP
  rw [if_neg (by simp), if_pos (by simp)]
  simp
theorem value_false (nm r : List UInt8) : valueP nm ([102, 97, 108, 115, 101] ++ r) = some (⟨nm, 2, [], 0, false⟩, r) := by
  unfold valueP
  rw [if_neg (by simp), if_neg (by simp), if_pos (by simp)]
  simp
theorem take_head {l a : List UInt8} {k : Nat} {x : UInt8} (h : l.take (k + 1) = x :: a) : l.head? = some x := by
  cases l with
  | nil => simp at h
  | cons c r => simp at h; simp [h.1]
theorem value_int (nm r : List UInt8) (n : Int) (h1 : -9223372036854775808 ≤ n) (h2 : n ≤ 9223372036854775807) (hr : nd r) : valueP nm (intD n ++ r) = some (⟨nm, 1, [], n, false⟩, r) := by
  obtain ⟨c, t, hc, hd1, hd2⟩ := natD_head n.natAbs
  have hv := valD_natD n.natAbs
  have hl : (natD n.natAbs).length ≤ 19 := natD_len 18 _ (by omega)
  have hrun := digP_run (natD n.natAbs) 19 0 r hl (natD_digit _) hr (by rw [hv]; omega)
  rw [hv] at hrun
  have hne : ∀ k : Nat, c ≠ 34 ∧ c ≠ 45 ∧ c ≠ 116 ∧ c ≠ 102 := fun _ => by
    refine ⟨?_, ?_, ?_, ?_⟩ <;> (rintro rfl; revert hd1 hd2; decide)
  obtain ⟨n1, n2, n3, n4⟩ := hne 0
  have hlen : r.length ≠ (natD n.natAbs ++ r).length := by
    have := natD_pos n.natAbs
    rw [List.length_append]; omega
  unfold valueP
  by_cases hn : n < 0
  · have e : intD n = 45 :: natD n.natAbs := by unfold intD; rw [if_pos hn]
    rw [e, List.cons_append, if_neg (by simp), if_neg (by simp), if_neg (by simp)]
    simp only [List.head?_cons, decide_true, if_true, List.tail_cons]
    have hz : ((0 : Nat) : Int) = 0 := rfl
    rw [show (-((0 : Nat) : Int)) = 0 by omega] at hrun
    rw [hrun]
    simp only [hlen, if_false]
    congr 3
    omega
  · have e : intD n = natD n.natAbs := by unfold intD; rw [if_neg hn]
    have hh : (natD n.natAbs ++ r).head? = some c := by rw [hc]; rfl
    rw [e, if_neg (by rw [hh]; simpa using n1), if_neg (fun h => n3 (by have := take_head (k := 3) h; rw [hh] at this; simpa using this)), if_neg (fun h => n4 (by have := take_head (k := 4) h; rw [hh] at this; simpa using this))]
    have hb : decide ((natD n.natAbs ++ r).head? = some 45) = false := by rw [hh]; simpa using n2
    simp only [hb]
    rw [show (-((0 : Nat) : Int)) = 0 by omega] at hrun
    simp only [Bool.false_eq_true, if_false, hrun, hlen]
    rw [Int.neg_neg, w64_id (by omega) (by omega)]
    congr 3
    omega
theorem inForm_cases {m : Mem} (h : inForm m = true) : (m.kind = 0 ∧ m.n = 0 ∧ m.b = false) ∨ (m.kind = 1 ∧ m.text = [] ∧ m.b = false) ∨ (m.kind = 2 ∧ m.text = [] ∧ m.n = 0) := by
  unfold inForm at h
  simp only [Bool.or_eq_true, Bool.and_eq_true, decide_eq_true_eq, List.isEmpty_iff, Bool.not_eq_true'] at h
  rcases h with (⟨⟨a, b⟩, c⟩ | ⟨⟨a, b⟩, c⟩) | ⟨⟨a, b⟩, c⟩
  · exact Or.inl ⟨a, b, c⟩
  · exact Or.inr (Or.inl ⟨a, b, c⟩)
  · exact Or.inr (Or.inr ⟨a, b, c⟩)
theorem value_val (m : Mem) (r : List UInt8) (h : inForm m = true) (hi : i64 m) (hr : nd r) : valueP m.name (valT m ++ r) = some (m, r) := by
  obtain ⟨nm, k, t, n, b⟩ := m
  rcases inForm_cases h with ⟨a1, a2, a3⟩ | ⟨a1, a2, a3⟩ | ⟨a1, a2, a3⟩ <;> simp only at a1 a2 a3 <;> subst a1 a2 a3
  · exact value_str nm t r
  · exact value_int nm r n hi.1 hi.2 hr
  · cases b
    · exact value_false nm r
    · exact value_true nm r
theorem seem_mem (f : Nat) (m : Mem) (x : UInt8) (r : List UInt8) (h : inForm m = true) (hi : i64 m) (hx : isD x = false) : seem (f + 1) (memT m ++ x :: r) = m :: (if x = 44 then seem f r else []) := by
  have hv := value_val m (x :: r) h hi (fun c r' e => by cases e; exact hx)
  unfold memT strT
  rw [List.cons_append, List.cons_append, seem_q]
  simp only [List.append_assoc, List.cons_append, List.nil_append]
  rw [strP_str]
  simp only [if_true, hv]
theorem okM_cons {m : Mem} {r : List Mem} (h : okM (m :: r) = true) : inForm m = true ∧ (∀ x ∈ r, x.name ≠ m.name) ∧ okM r = true := by
  rw [okM, Bool.and_eq_true, Bool.and_eq_true] at h
  refine ⟨h.1.1, fun x hx e => ?_, h.2⟩
  have h2 := h.1.2
  rw [Bool.not_eq_true', List.any_eq_false] at h2
  exact h2 x hx (by simp [e])
/-- a text of right members seems to have just these -/
theorem seem_obj : ∀ (ms : List Mem) (f : Nat), ms.length ≤ f → okM ms = true → (∀ m ∈ ms, i64 m) → seem f (memsT ms ++ [125]) = ms
  | [], f, _, _, _ => by
    cases f with
    | zero => rfl
    | succ f => rw [memsT, List.nil_append]; exact seem_n _ _ _ (by decide)
  | m :: r, 0, hl, _, _ => by simp at hl
  | m :: r, f + 1, hl, h, hi => by
    obtain ⟨h1, _, h3⟩ := okM_cons h
    rw [memsT]
    by_cases hr : r.isEmpty = true
    · rw [if_pos hr]
      obtain rfl : r = [] := by simpa using hr
      rw [seem_mem f m 125 [] h1 (hi m (by simp)) (by decide), if_neg (by decide)]
    · rw [if_neg hr, List.append_assoc, List.cons_append, seem_mem f m 44 _ h1 (hi m (by simp)) (by decide), if_pos rfl, seem_obj r f (by simpa using hl) h3 (fun x hx => hi x (by simp [hx]))]
theorem printJ_ok {ms : List Mem} {s : List UInt8} (h : printJ ms = (0, s)) : ms.length ≤ 64 ∧ okM ms = true ∧ s = objT ms ∧ s.length ≤ 16384 := by
  unfold printJ at h
  by_cases h1 : 64 < ms.length
  · rw [if_pos h1] at h; cases h
  · rw [if_neg h1] at h
    by_cases h2 : okM ms = true
    · rw [if_pos h2] at h
      by_cases h3 : 16384 < (objT ms).length
      · rw [if_pos h3] at h; cases h
      · rw [if_neg h3] at h
        cases h
        exact ⟨by omega, h2, rfl, by omega⟩
    · rw [if_neg h2] at h; cases h
/-- right members are read off their text -/
theorem seem_print {ms : List Mem} {s : List UInt8} (h : printJ ms = (0, s)) (hi : ∀ m ∈ ms, i64 m) : seem 65 (s.drop 1) = ms := by
  obtain ⟨h1, h2, rfl, _⟩ := printJ_ok h
  exact seem_obj ms 65 (by omega) h2 hi
/-- what a text is parsed to -/
def parseJ (s : List UInt8) : Nat × List Mem := if 16384 < s.length then (2, []) else if printJ (seem 65 (s.drop 1)) = (0, s) then (0, seem 65 (s.drop 1)) else (3, [])
theorem parse_printed {ms : List Mem} {s : List UInt8} (h : printJ ms = (0, s)) (hi : ∀ m ∈ ms, i64 m) : parseJ s = (0, ms) := by
  have h1 := seem_print h hi
  obtain ⟨_, _, _, h4⟩ := printJ_ok h
  unfold parseJ
  rw [h1, if_neg (by omega), if_pos h]
theorem parse_ok {s : List UInt8} (h : (parseJ s).1 = 0) : printJ (parseJ s).2 = (0, s) := by
  unfold parseJ at h ⊢
  by_cases h1 : 16384 < s.length
  · rw [if_pos h1] at h; cases h
  · rw [if_neg h1] at h ⊢
    by_cases h2 : printJ (seem 65 (s.drop 1)) = (0, s)
    · rw [if_pos h2]; exact h2
    · rw [if_neg h2] at h; cases h
theorem parse_err {s : List UInt8} (h : (parseJ s).1 ≠ 0) : (parseJ s).2 = [] := by
  unfold parseJ at h ⊢
  by_cases h1 : 16384 < s.length
  · rw [if_pos h1]
  · rw [if_neg h1] at h ⊢
    by_cases h2 : printJ (seem 65 (s.drop 1)) = (0, s)
    · rw [if_pos h2] at h; exact absurd rfl h
    · rw [if_neg h2]
end Go.Proofs.YtjadginnaogjoaaGreatDoor.jsn
