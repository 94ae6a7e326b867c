/- Several texts in one: Fld1, Fld2, Fld3, Fld4, Fld5, Fld6, Fld7, Fld8. Conditions: as each theorem says. -/
import Derived.Lib.Strings
import Derived.Test.YtfeafhagnhbmiaaGreatDoorBaseA
import Derived.BigGuardPart
import Derived.Laws.StructEq
import Derived.BigQuiet
import Derived.Deep.QuietTactic
namespace Go.Proofs.YtfeafhagnhbmiaaGreatDoor.fld

def sg (n : Nat) : UInt8 := if n < 10 then UInt8.ofNat (48 + n) else UInt8.ofNat (55 + n)
def itself (c : UInt8) : Bool :=
  (decide (64 < c.toNat) && decide (c.toNat < 91)) || (decide (96 < c.toNat) && decide (c.toNat < 123)) || (decide (47 < c.toNat) && decide (c.toNat < 58)) ||
    decide (c.toNat = 42) || decide (c.toNat = 45) || decide (c.toNat = 46) || decide (c.toNat = 95)
/-- a byte, quoted -/
def qB (c : UInt8) : List UInt8 := if itself c then [c] else if c = 32 then [43] else [37, sg (c.toNat / 16), sg (c.toNat % 16)]
def quote (l : List UInt8) : List UInt8 := l.flatMap qB
def worth (c : UInt8) : Nat :=
  if 48 ≤ c.toNat ∧ c.toNat ≤ 57 then c.toNat - 48 else if 65 ≤ c.toNat ∧ c.toNat ≤ 70 then c.toNat - 55 else if 97 ≤ c.toNat ∧ c.toNat ≤ 102 then c.toNat - 87 else 16
theorem worth_le (c : UInt8) : worth c ≤ 16 := by unfold worth; split <;> (try split) <;> (try split) <;> omega
def unq : List UInt8 → Option (List UInt8)
  | [] => some []
  | c :: r =>
    if c.toNat < 33 ∨ 126 < c.toNat then none
    else if c = 37 then
      match r with
      | a :: b :: r' => if worth a < 16 ∧ worth b < 16 then (unq r').map (UInt8.ofNat (16 * worth a + worth b) :: ·) else none
      | _ => none
    else (unq r).map ((if c = 43 then 32 else c) :: ·)
termination_by l => l.length

theorem all_bytes {p : UInt8 → Prop} (h : ∀ n : Fin 256, p (UInt8.ofNat n.val)) (c : UInt8) : p c := by
  have := h ⟨c.toNat, c.toNat_lt⟩
  simpa using this
theorem worth_sg : ∀ n, n < 16 → worth (sg n) = n := by decide
theorem sg_plain : ∀ n, n < 16 → sg n ≠ 38 ∧ sg n ≠ 61 := by decide
theorem itself_in (c : UInt8) : itself c = true → 33 ≤ c.toNat ∧ c.toNat ≤ 126 ∧ c ≠ 37 ∧ c ≠ 43 ∧ c ≠ 38 ∧ c ≠ 61 := by
  revert c
  exact fun c => all_bytes (p := fun c => itself c = true → 33 ≤ c.toNat ∧ c.toNat ≤ 126 ∧ c ≠ 37 ∧ c ≠ 43 ∧ c ≠ 38 ∧ c ≠ 61) (by decide +kernel) c
theorem unq_cons (c : UInt8) (r : List UInt8) : unq (c :: r) = if c.toNat < 33 ∨ 126 < c.toNat then none
    else if c = 37 then
      match r with
      | a :: b :: r' => if worth a < 16 ∧ worth b < 16 then (unq r').map (UInt8.ofNat (16 * worth a + worth b) :: ·) else none
      | _ => none
    else (unq r).map ((if c = 43 then 32 else c) :: ·) := by rw [unq.eq_def]
theorem unq_qB (c : UInt8) (l m : List UInt8) (h : unq l = some m) : unq (qB c ++ l) = some (c :: m) := by
  unfold qB
  by_cases h1 : itself c = true
  · obtain ⟨a1, a2, a3, a4, _⟩ := itself_in c h1
    rw [if_pos h1, List.cons_append, List.nil_append, unq_cons]
    simp only [a3, a4, h, if_false, Option.map_some]
    rw [if_neg (by omega)]
  · rw [if_neg h1]
    by_cases h2 : c = 32
    · subst h2
      rw [if_pos rfl, List.cons_append, List.nil_append, unq_cons]
      simp [h]
    · rw [if_neg h2]
      have w1 := worth_sg (c.toNat / 16) (by have := c.toNat_lt; omega)
      have w2 := worth_sg (c.toNat % 16) (by omega)
      simp only [List.cons_append, List.nil_append]
      rw [unq_cons]
      simp only [w1, w2, h, Option.map_some]
      have e : 16 * (c.toNat / 16) + c.toNat % 16 = c.toNat := by omega
      have l1 : c.toNat / 16 < 16 := by have := c.toNat_lt; omega
      have l2 : c.toNat % 16 < 16 := by omega
      simp [e, l1, l2]
theorem unq_quote (l : List UInt8) : unq (quote l) = some l := by
  induction l with
  | nil => simp [quote, unq]
  | cons c l ih =>
    show unq (qB c ++ quote l) = _
    exact unq_qB c _ _ ih
theorem qB_plain (c x : UInt8) (h : x ∈ qB c) : x ≠ 38 ∧ x ≠ 61 := by
  unfold qB at h
  by_cases h1 : itself c = true
  · rw [if_pos h1] at h
    obtain rfl : x = c := by simpa using h
    exact ⟨(itself_in x h1).2.2.2.2.1, (itself_in x h1).2.2.2.2.2⟩
  · rw [if_neg h1] at h
    by_cases h2 : c = 32
    · rw [if_pos h2] at h
      obtain rfl : x = 43 := by simpa using h
      decide
    · rw [if_neg h2] at h
      simp only [List.mem_cons, List.not_mem_nil, or_false] at h
      rcases h with rfl | rfl | rfl
      · decide
      · exact sg_plain _ (by have := c.toNat_lt; omega)
      · exact sg_plain _ (by omega)
theorem quote_plain (l : List UInt8) (x : UInt8) (h : x ∈ quote l) : x ≠ 38 ∧ x ≠ 61 := by
  obtain ⟨c, _, hc⟩ := List.mem_flatMap.1 h
  exact qB_plain c x hc

/-- what stands between the & -/
def splitAmp : List UInt8 → List (List UInt8)
  | [] => [[]]
  | c :: r => if c = 38 then [] :: splitAmp r else ((c :: (splitAmp r).headD []) :: (splitAmp r).tail)
def pieces (l : List UInt8) : List (List UInt8) := (splitAmp l).filter (fun p => !p.isEmpty)
theorem splitAmp_ne (l : List UInt8) : splitAmp l ≠ [] := by
  cases l with
  | nil => simp [splitAmp]
  | cons c r => unfold splitAmp; split <;> simp
theorem split_head (l : List UInt8) : splitAmp l = (splitAmp l).headD [] :: (splitAmp l).tail := by
  cases h : splitAmp l with
  | nil => exact absurd h (splitAmp_ne l)
  | cons a b => rfl
theorem split_amp (a b : List UInt8) : splitAmp (a ++ 38 :: b) = splitAmp a ++ splitAmp b := by
  induction a with
  | nil => simp [splitAmp]
  | cons c a ih =>
    rw [List.cons_append, splitAmp, splitAmp]
    by_cases h : c = 38
    · rw [if_pos h, if_pos h, ih]; rfl
    · rw [if_neg h, if_neg h, ih]
      have := split_head a
      rw [this]; rfl
theorem split_plain (a : List UInt8) (h : ∀ x ∈ a, x ≠ 38) : splitAmp a = [a] := by
  induction a with
  | nil => rfl
  | cons c a ih =>
    rw [splitAmp, if_neg (h c (by simp)), ih (fun x hx => h x (by simp [hx]))]
    rfl
theorem pieces_amp (a b : List UInt8) : pieces (a ++ 38 :: b) = pieces a ++ pieces b := by
  unfold pieces; rw [split_amp, List.filter_append]

abbrev Pr := List UInt8 × List UInt8
def prPair (x : Pr) : List UInt8 := quote x.1 ++ 61 :: quote x.2
def prt : List Pr → List UInt8
  | [] => []
  | x :: r => if r.isEmpty then prPair x else prPair x ++ 38 :: prt r
theorem prPair_plain (x : Pr) (c : UInt8) (h : c ∈ prPair x) : c ≠ 38 := by
  unfold prPair at h
  simp only [List.mem_append, List.mem_cons] at h
  rcases h with h | rfl | h
  · exact (quote_plain _ _ h).1
  · decide
  · exact (quote_plain _ _ h).1
theorem pieces_prt (ps : List Pr) : pieces (prt ps) = ps.map prPair := by
  have one : ∀ x, pieces (prPair x) = [prPair x] := by
    intro x
    unfold pieces
    rw [split_plain _ (fun c hc => prPair_plain x c hc)]
    simp [prPair]
  induction ps with
  | nil => simp [prt, pieces, splitAmp]
  | cons x r ih =>
    unfold prt
    by_cases h : r.isEmpty = true
    · rw [if_pos h]
      obtain rfl : r = [] := by simpa using h
      rw [one]; rfl
    · rw [if_neg h, pieces_amp, one, ih]; rfl
/-- name and value of a piece -/
def cutEq (p : List UInt8) : Pr := (p.takeWhile (· ≠ 61), (p.dropWhile (· ≠ 61)).drop 1)
def pairOf (p : List UInt8) : Option Pr := match unq (cutEq p).1, unq (cutEq p).2 with
  | some n, some v => some (n, v)
  | _, _ => none
theorem cutEq_pr (x : Pr) : cutEq (prPair x) = (quote x.1, quote x.2) := by
  unfold cutEq prPair
  have h : ∀ c ∈ quote x.1, (decide (c ≠ 61)) = true := fun c hc => by simpa using (quote_plain _ _ hc).2
  rw [List.takeWhile_append_of_pos h, List.dropWhile_append_of_pos h]
  simp
theorem pairOf_pr (x : Pr) : pairOf (prPair x) = some x := by
  unfold pairOf
  rw [cutEq_pr]
  simp [unq_quote]
/-- the pieces, one behind the other: an error's number and the pairs -/
def runP : List (List UInt8) → List Pr → Nat × List Pr
  | [], acc => (0, acc)
  | p :: ps, acc => if acc.length = 64 then (2, []) else match pairOf p with
    | none => (3, [])
    | some x => runP ps (acc ++ [x])
def parse (l : List UInt8) : Nat × List Pr := if 16384 < l.length then (2, []) else runP (pieces l) []
def allOf : List (List UInt8) → Option (List Pr)
  | [] => some []
  | p :: ps => match pairOf p, allOf ps with
    | some x, some l => some (x :: l)
    | _, _ => none
theorem runP_ok (ps : List (List UInt8)) (acc : List Pr) (ha : acc.length ≤ 64) (l : List Pr) (h : allOf ps = some l) (hl : acc.length + l.length ≤ 64) : runP ps acc = (0, acc ++ l) := by
  induction ps generalizing acc l with
  | nil => simp [allOf] at h; subst h; simp [runP]
  | cons p ps ih =>
    rw [allOf] at h
    cases hp : pairOf p with
    | none => simp [hp] at h
    | some x =>
      cases hq : allOf ps with
      | none => simp [hp, hq] at h
      | some m =>
        simp [hp, hq] at h
        subst h
        simp only [List.length_cons] at hl
        rw [runP, if_neg (by omega), hp]
        show runP ps (acc ++ [x]) = _
        rw [ih (acc ++ [x]) (by simp; omega) m hq (by simp; omega)]
        simp
theorem runP_zero (ps : List (List UInt8)) (acc : List Pr) (ha : acc.length ≤ 64) (h : (runP ps acc).1 = 0) : ∃ l, allOf ps = some l ∧ acc.length + l.length ≤ 64 ∧ (runP ps acc).2 = acc ++ l := by
  induction ps generalizing acc with
  | nil => exact ⟨[], rfl, by simpa using ha, by simp [runP]⟩
  | cons p ps ih =>
    rw [runP] at h ⊢
    by_cases h64 : acc.length = 64
    · rw [if_pos h64] at h; cases h
    · rw [if_neg h64] at h ⊢
      cases hp : pairOf p with
      | none => simp [hp] at h
      | some x =>
        simp only [hp] at h ⊢
        obtain ⟨l, h1, h2, h3⟩ := ih (acc ++ [x]) (by simp; omega) h
        refine ⟨x :: l, by simp [allOf, hp, h1], by simp at h2 ⊢; omega, by rw [h3]; simp⟩
theorem runP_err (ps : List (List UInt8)) (acc : List Pr) (h : (runP ps acc).1 ≠ 0) : (runP ps acc).2 = [] ∧ ((runP ps acc).1 = 2 ∨ (runP ps acc).1 = 3) := by
  induction ps generalizing acc with
  | nil => exact absurd rfl h
  | cons p ps ih =>
    rw [runP] at h ⊢
    by_cases h64 : acc.length = 64
    · rw [if_pos h64]; exact ⟨rfl, Or.inl rfl⟩
    · rw [if_neg h64] at h ⊢
      cases hp : pairOf p with
      | none => exact ⟨rfl, Or.inr rfl⟩
      | some x =>
        simp only [hp] at h ⊢
        exact ih _ h
theorem allOf_pr (ps : List Pr) : allOf (ps.map prPair) = some ps := by
  induction ps with
  | nil => rfl
  | cons x r ih => simp [allOf, pairOf_pr, ih]
theorem allOf_append (a b : List (List UInt8)) : allOf (a ++ b) = match allOf a, allOf b with | some l, some m => some (l ++ m) | _, _ => none := by
  induction a with
  | nil => cases h : allOf b <;> simp [allOf, h]
  | cons p a ih =>
    rw [List.cons_append, allOf, allOf, ih]
    cases pairOf p <;> cases allOf a <;> cases allOf b <;> rfl
theorem allOf_len (ps : List (List UInt8)) (l : List Pr) (h : allOf ps = some l) : l.length = ps.length := by
  induction ps generalizing l with
  | nil => simp [allOf] at h; subst h; rfl
  | cons p ps ih =>
    rw [allOf] at h
    cases hp : pairOf p with
    | none => simp [hp] at h
    | some x =>
      cases hq : allOf ps with
      | none => simp [hp, hq] at h
      | some m =>
        simp [hp, hq] at h
        subst h
        simp [ih m hq]
def printR (ps : List Pr) : Nat × List UInt8 := if 64 < ps.length then (2, []) else if 16384 < (prt ps).length then (2, []) else (0, prt ps)
/-- what is printed is parsed as it was -/
theorem parse_print (ps : List Pr) (h : (printR ps).1 = 0) : parse (printR ps).2 = (0, ps) := by
  unfold printR at h ⊢
  by_cases h1 : 64 < ps.length
  · rw [if_pos h1] at h; cases h
  · rw [if_neg h1] at h ⊢
    by_cases h2 : 16384 < (prt ps).length
    · rw [if_pos h2] at h; cases h
    · rw [if_neg h2]
      show parse (prt ps) = _
      unfold parse
      rw [if_neg h2, pieces_prt]
      have := runP_ok (ps.map prPair) [] (by simp) ps (allOf_pr ps) (by simp; omega)
      simpa using this
theorem printR_err (ps : List Pr) (h : (printR ps).1 ≠ 0) : printR ps = (2, []) := by
  unfold printR at h ⊢
  split
  · rfl
  · rename_i h1
    rw [if_neg h1] at h
    split
    · rfl
    · rename_i h2
      rw [if_neg h2] at h
      exact absurd rfl h
theorem parse_err (l : List UInt8) (h : (parse l).1 ≠ 0) : (parse l).2 = [] := by
  unfold parse at h ⊢
  split
  · rfl
  · rename_i h1
    rw [if_neg h1] at h
    exact (runP_err _ _ h).1
/-- two forms are one -/
theorem parse_join (a b : List UInt8) (hl : a.length + b.length < 16384) :
    ((parse a).1 = 0 ∧ (parse b).1 = 0 ∧ (parse a).2.length + (parse b).2.length ≤ 64 → parse (a ++ 38 :: b) = (0, (parse a).2 ++ (parse b).2)) ∧
    (¬ ((parse a).1 = 0 ∧ (parse b).1 = 0 ∧ (parse a).2.length + (parse b).2.length ≤ 64) → (parse (a ++ 38 :: b)).1 ≠ 0) := by
  have ea : parse a = runP (pieces a) [] := by unfold parse; rw [if_neg (by omega)]
  have eb : parse b = runP (pieces b) [] := by unfold parse; rw [if_neg (by omega)]
  have ej : parse (a ++ 38 :: b) = runP (pieces a ++ pieces b) [] := by unfold parse; rw [if_neg (by simp; omega), pieces_amp]
  rw [ea, eb, ej]
  constructor
  · rintro ⟨h1, h2, h3⟩
    obtain ⟨l, l1, _, l3⟩ := runP_zero _ _ (by simp) h1
    obtain ⟨m, m1, _, m3⟩ := runP_zero _ _ (by simp) h2
    rw [l3, m3] at h3 ⊢
    simp only [List.nil_append] at h3 ⊢
    have := runP_ok (pieces a ++ pieces b) [] (by simp) (l ++ m) (by rw [allOf_append, l1, m1]) (by simp; omega)
    simpa using this
  · intro hn hz
    apply hn
    obtain ⟨r, r1, r2, _⟩ := runP_zero _ _ (by simp) hz
    rw [allOf_append] at r1
    cases ha : allOf (pieces a) with
    | none => simp [ha] at r1
    | some l =>
      cases hb : allOf (pieces b) with
      | none => simp [ha, hb] at r1
      | some m =>
        simp [ha, hb] at r1
        subst r1
        simp at r2
        have p1 := runP_ok (pieces a) [] (by simp) l ha (by simp; omega)
        have p2 := runP_ok (pieces b) [] (by simp) m hb (by simp; omega)
        rw [p1, p2]
        exact ⟨rfl, rfl, by simp; omega⟩
/-- what a name stands for -/
def getV (ps : List Pr) (n : List UInt8) : List UInt8 := match ps.find? (fun x => x.1 == n) with | some x => x.2 | none => []
def getN (ps : List Pr) (n : List UInt8) : Nat := (ps.filter fun x => x.1 == n).length
theorem getN_append (a b : List Pr) (n) : getN (a ++ b) n = getN a n + getN b n := by simp [getN]
theorem getV_append (a b : List Pr) (n) (h : getN a n ≠ 0) : getV (a ++ b) n = getV a n := by
  unfold getV
  have hx : ∃ x, a.find? (fun x => x.1 == n) = some x := by
    cases hf : a.find? (fun x => x.1 == n) with
    | some x => exact ⟨x, rfl⟩
    | none =>
      exfalso; apply h
      rw [List.find?_eq_none] at hf
      unfold getN
      rw [List.filter_eq_nil_iff.2 (by simpa using hf)]; rfl
  obtain ⟨x, hx⟩ := hx
  rw [List.find?_append, hx]; rfl
end Go.Proofs.YtfeafhagnhbmiaaGreatDoor.fld

namespace Go.Proofs.YtfeafhagnhbmiaaGreatDoor.fld
open Go.RowKit
open Go.Proofs.YtfeafhagnhbmiaaGreatDoor.oct Go.Proofs.YtfeafhagnhbmiaaGreatDoor.ref
open Go.Lib (byteCells)

theorem sg_nat : ∀ n, n < 16 → (sg n).toNat = if n < 10 then 48 + n else 55 + n := by decide
theorem worth_eq (c : UInt8) (n : Nat) (hn : n < 16) : worth c = n ↔ ((sg n).toNat = c.toNat ∨ (9 < n ∧ 87 + n = c.toNat)) := by
  rw [sg_nat n hn]
  unfold worth
  have := c.toNat_lt
  by_cases h : n < 10
  · rw [if_pos h]; constructor <;> (intro h2; (repeat' split at h2) <;> (try split) <;> (try split) <;> (try split) <;> omega)
  · rw [if_neg h]; constructor <;> (intro h2; (repeat' split at h2) <;> (try split) <;> (try split) <;> (try split) <;> omega)
end Go.Proofs.YtfeafhagnhbmiaaGreatDoor.fld

namespace Go.Proofs.YtfeafhagnhbmiaaGreatDoor.fld
open Go.RowKit
open Go.Proofs.YtfeafhagnhbmiaaGreatDoor.oct Go.Proofs.YtfeafhagnhbmiaaGreatDoor.ref
open Go.Lib (byteCells)

theorem qB_len (c : UInt8) : (qB c).length ≤ 3 := by unfold qB; split <;> (try split) <;> simp
theorem quote_len (l : List UInt8) : (quote l).length ≤ 3 * l.length := by
  induction l with
  | nil => simp [quote]
  | cons c l ih =>
    have e : quote (c :: l) = qB c ++ quote l := rfl
    rw [e, List.length_append, List.length_cons]
    have := qB_len c
    omega
theorem quote_append (a b : List UInt8) : quote (a ++ b) = quote a ++ quote b := by simp [quote]
theorem quote_snoc (l : List UInt8) (c : UInt8) : quote (l ++ [c]) = quote l ++ qB c := by rw [quote_append]; simp [quote]
theorem take_text (s : ByteArray) (k : Nat) (h : k < s.size) : s.data.toList.take (k + 1) = s.data.toList.take k ++ [s[k]] := by
  rw [List.take_succ_eq_append_getElem (by simpa using h)]; rfl

theorem ne_byte {c d : UInt8} (h : c ≠ d) : ((c.toNat : Int) == (d.toNat : Int)) = false := by
  rw [beq_eq_false_iff_ne]
  intro e
  exact h (UInt8.toNat_inj.1 (by omega))
end Go.Proofs.YtfeafhagnhbmiaaGreatDoor.fld

namespace Go.Proofs.YtfeafhagnhbmiaaGreatDoor.fld
open Go.RowKit
open Go.Proofs.YtfeafhagnhbmiaaGreatDoor.oct Go.Proofs.YtfeafhagnhbmiaaGreatDoor.ref
open Go.Lib (byteCells)

/-- what Unquote answers -/
def unqV (o : Option (List UInt8)) : Value := match o with
  | some m => .tuple #[.string ⟨m.toArray⟩, .int .i64 0]
  | none => .tuple #[.string ⟨#[]⟩, .int .i64 3]
theorem drop_text (s : ByteArray) (k : Nat) (h : k < s.size) : s.data.toList.drop k = s[k] :: s.data.toList.drop (k + 1) := by
  rw [List.drop_eq_getElem_cons (by simpa using h)]; rfl
theorem unq_bad {c : UInt8} {r : List UInt8} (h : c.toNat < 33 ∨ 126 < c.toNat) : unq (c :: r) = none := by rw [unq_cons, if_pos h]
theorem unq_pct_end {r : List UInt8} (h : r.length < 2) : unq (37 :: r) = none := by
  rw [unq_cons, if_neg (by decide), if_pos rfl]
  match r, h with
  | [], _ => rfl
  | [_], _ => rfl
theorem unq_pct_bad {a b : UInt8} {r : List UInt8} (h : ¬ (worth a < 16 ∧ worth b < 16)) : unq (37 :: a :: b :: r) = none := by
  rw [unq_cons, if_neg (by decide), if_pos rfl]
  show (if worth a < 16 ∧ worth b < 16 then _ else none) = none
  rw [if_neg h]
theorem unq_pct {a b : UInt8} {r : List UInt8} (h1 : worth a < 16) (h2 : worth b < 16) : unq (37 :: a :: b :: r) = (unq r).map (UInt8.ofNat (16 * worth a + worth b) :: ·) := by
  rw [unq_cons, if_neg (by decide), if_pos rfl]
  show (if worth a < 16 ∧ worth b < 16 then _ else none) = _
  rw [if_pos ⟨h1, h2⟩]
theorem unq_else {c : UInt8} {r : List UInt8} (h : ¬ (c.toNat < 33 ∨ 126 < c.toNat)) (h2 : c ≠ 37) : unq (c :: r) = (unq r).map ((if c = 43 then 32 else c) :: ·) := by
  rw [unq_cons, if_neg h, if_neg h2]
theorem map_snoc (o : Option (List UInt8)) (acc : List UInt8) (c : UInt8) : (o.map (c :: ·)).map (acc ++ ·) = o.map ((acc ++ [c]) ++ ·) := by
  cases o <;> simp

end Go.Proofs.YtfeafhagnhbmiaaGreatDoor.fld

namespace Go.Proofs.YtfeafhagnhbmiaaGreatDoor.fld
open Go.RowKit
open Go.Proofs.YtfeafhagnhbmiaaGreatDoor.oct Go.Proofs.YtfeafhagnhbmiaaGreatDoor.ref
open Go.Lib (byteCells)

/-- a text's cell -/
def tx (l : List UInt8) : Value := .string ⟨l.toArray⟩
/-- a row of pairs at a slice's address -/
def InPr (w : World) (P : Option Addr) (ps : List Pr) : Prop :=
  0 < ps.length → ∃ b o, P = some ⟨b, o, none⟩ ∧ ∀ i (h : i < ps.length), w.cell? ⟨b, o + i * 2, none⟩ = some (tx (ps[i]).1) ∧ w.cell? ⟨b, o + i * 2 + 1, none⟩ = some (tx (ps[i]).2)
theorem InPr.below {w w' : World} {P : Option Addr} {ps : List Pr} (h : InPr w P ps) (hb : Below w.heap.size w w') : InPr w' P ps := by
  intro hl
  obtain ⟨b, o, rfl, hc⟩ := h hl
  have hlt : b < w.heap.size := cell_lt (hc 0 hl).1
  exact ⟨b, o, rfl, fun i hi => ⟨(hb.cell (p := ⟨b, o + i * 2, none⟩) hlt).trans (hc i hi).1, (hb.cell (p := ⟨b, o + i * 2 + 1, none⟩) hlt).trans (hc i hi).2⟩⟩
theorem drewN_add (w : World) (a b : Nat) : (w.drewN a).drewN b = w.drewN (a + b) := by
  unfold World.drewN
  simp [Nat.add_assoc]
theorem take_eqk {α : Type} {l m : List α} {k : Nat} (h1 : k < l.length) (h2 : k < m.length) : l.take (k + 1) = m.take (k + 1) ↔ l.take k = m.take k ∧ l[k] = m[k] := by
  rw [List.take_succ_eq_append_getElem h1, List.take_succ_eq_append_getElem h2]
  constructor
  · intro h
    obtain ⟨e1, e2⟩ := List.append_inj h (by simp; omega)
    exact ⟨e1, by simpa using e2⟩
  · rintro ⟨e1, e2⟩; rw [e1, e2]
theorem getN_snoc (ps : List Pr) (x : Pr) (n) : getN (ps ++ [x]) n = getN ps n + if x.1 == n then 1 else 0 := by
  rw [getN_append]; congr 1
  by_cases h : (x.1 == n) = true <;> simp [getN, h]
theorem getV_hit (ps : List Pr) (x : Pr) (n) (h : getN ps n = 0) (hx : x.1 == n) : getV (ps ++ [x]) n = x.2 := by
  have hf : ps.find? (fun x => x.1 == n) = none := by
    rw [List.find?_eq_none]
    intro y hy hc
    have : y ∈ ps.filter (fun x => x.1 == n) := List.mem_filter.2 ⟨hy, hc⟩
    unfold getN at h
    rw [List.eq_nil_of_length_eq_zero h] at this
    cases this
  unfold getV
  rw [List.find?_append, hf]
  simp [hx]
theorem getV_miss (ps : List Pr) (x : Pr) (n) (hx : (x.1 == n) = false) : getV (ps ++ [x]) n = getV ps n := by
  unfold getV
  rw [List.find?_append]
  cases ps.find? (fun x => x.1 == n) <;> simp [hx]
theorem getN_le (ps : List Pr) (n) : getN ps n ≤ ps.length := List.length_filter_le _ _

end Go.Proofs.YtfeafhagnhbmiaaGreatDoor.fld

namespace Go.Proofs.YtfeafhagnhbmiaaGreatDoor.fld
open Go.RowKit
open Go.Proofs.YtfeafhagnhbmiaaGreatDoor.oct Go.Proofs.YtfeafhagnhbmiaaGreatDoor.ref
open Go.Lib (byteCells)

theorem prt_snoc (ps : List Pr) (x : Pr) : prt (ps ++ [x]) = if ps.isEmpty then prPair x else prt ps ++ 38 :: prPair x := by
  induction ps with
  | nil => simp [prt]
  | cons y r ih =>
    rw [List.cons_append, prt]
    have h1 : (r ++ [x]).isEmpty = false := by cases r <;> rfl
    rw [h1, ih]
    by_cases h : r.isEmpty = true
    · obtain rfl : r = [] := by simpa using h
      simp [prt]
    · have h2 : r.isEmpty = false := by simpa using h
      rw [h2]
      simp [prt, h2]
theorem prt_le (ps : List Pr) (x : Pr) : (prt ps).length ≤ (prt (ps ++ [x])).length := by
  rw [prt_snoc]
  split
  · rename_i h
    obtain rfl : ps = [] := by simpa using h
    simp [prt]
  · rw [List.length_append]; omega
theorem prt_take_le (ps : List Pr) (k : Nat) (hk : k ≤ ps.length) : (prt (ps.take k)).length ≤ (prt ps).length := by
  obtain ⟨d, hd⟩ : ∃ d, ps.length = k + d := ⟨ps.length - k, by omega⟩
  induction d generalizing k with
  | zero => rw [List.take_of_length_le (by omega)]; exact Nat.le_refl _
  | succ d ih =>
    have h := ih (k + 1) (by omega) (by omega)
    rw [List.take_succ_eq_append_getElem (by omega)] at h
    exact Nat.le_trans (prt_le _ _) h
theorem prPair_len (x : Pr) : (prPair x).length ≤ 3 * x.1.length + 3 * x.2.length + 1 := by
  unfold prPair
  rw [List.length_append, List.length_cons]
  have := quote_len x.1
  have := quote_len x.2
  omega
/-- texts of at most so many bytes -/
def Small (ps : List Pr) : Prop := ∀ x ∈ ps, x.1.length ≤ 1048576 ∧ x.2.length ≤ 1048576
theorem ba4 (a b c : List UInt8) : ((⟨a.toArray⟩ : ByteArray) ++ ⟨#[38]⟩ ++ ⟨b.toArray⟩ ++ ⟨#[61]⟩ ++ ⟨c.toArray⟩) = ⟨(a ++ 38 :: (b ++ 61 :: c)).toArray⟩ := by ext1; simp
theorem ba3 (a b c : List UInt8) : ((⟨a.toArray⟩ : ByteArray) ++ ⟨b.toArray⟩ ++ ⟨#[61]⟩ ++ ⟨c.toArray⟩) = ⟨(a ++ (b ++ 61 :: c)).toArray⟩ := by ext1; simp
end Go.Proofs.YtfeafhagnhbmiaaGreatDoor.fld

namespace Go.Proofs.YtfeafhagnhbmiaaGreatDoor.fld
open Go.RowKit
open Go.Proofs.YtfeafhagnhbmiaaGreatDoor.oct Go.Proofs.YtfeafhagnhbmiaaGreatDoor.ref Go.Proofs.YtfeafhagnhbmiaaGreatDoor.rows
open Go.Lib (byteCells)

/-- what pair answers -/
def pairV (o : Option Pr) : Value := match o with
  | some x => .tuple #[.agg #[tx x.1, tx x.2], .int .i64 0]
  | none => .tuple #[.agg #[tx [], tx []], .int .i64 3]
theorem cutEq_end {l : List UInt8} (h : ∀ x ∈ l, x ≠ 61) : cutEq l = (l, []) := by
  unfold cutEq
  have h2 : ∀ x ∈ l, (decide (x ≠ 61)) = true := fun x hx => by simpa using h x hx
  have e1 := List.takeWhile_append_of_pos (p := fun x : UInt8 => decide (x ≠ 61)) (l₁ := l) (l₂ := []) h2
  have e2 := List.dropWhile_append_of_pos (p := fun x : UInt8 => decide (x ≠ 61)) (l₁ := l) (l₂ := []) h2
  rw [List.append_nil] at e1 e2
  rw [e1, e2]
  simp
theorem cutEq_mid {a b : List UInt8} (h : ∀ x ∈ a, x ≠ 61) : cutEq (a ++ 61 :: b) = (a, b) := by
  unfold cutEq
  have h2 : ∀ x ∈ a, (decide (x ≠ 61)) = true := fun x hx => by simpa using h x hx
  rw [List.takeWhile_append_of_pos h2, List.dropWhile_append_of_pos h2]
  simp
theorem text_extract (s : ByteArray) (a b : Nat) : (s.extract a b).data.toList = (s.data.toList.take b).drop a := by
  rw [Lib.extract_data]
  simp [List.drop_take]
theorem text_upto (s : ByteArray) (k : Nat) : (s.extract 0 k).data.toList = s.data.toList.take k := by rw [text_extract, List.drop_zero]
theorem text_from (s : ByteArray) (k : Nat) : (s.extract k s.size).data.toList = s.data.toList.drop k := by
  rw [text_extract, List.take_of_length_le (by rw [Array.length_toList]; exact Nat.le_refl _)]
theorem infoP : (Tryz.prog.info? 63).map (·.size) = some 2 := by kernel_rfl

/-- a result that lies in a variable, and one that lies in a slot -/
theorem results_pair {P : Program} {fn : Func} {p q : Tmp} {ty : TypeId} (h : fn.results = #[.cell p ty, .tmp q]) (tmps : Array Value) (w : World) (g : Nat) (t : TypeId) (x y u : Value) {d : TypeDesc}
    (hp : tmps.getD p undef = .pointer (some ⟨g, 0, none⟩)) (hq : tmps.getD q undef = u) (hB : Blk w g t [x, y]) (hu : P.underlying ty = some d) (hd : (match d with | .struct _ | .array _ _ => true | _ => false) = true) (hi : (P.info? ty).map (·.size) = some 2) :
    (results fn tmps).run P w = .ok (.tuple #[.agg #[x, y], u]) w := by
  have hp' : tmps[p]?.getD undef = .pointer (some ⟨g, 0, none⟩) := by simpa using hp
  have hq' : tmps[q]?.getD undef = u := by simpa using hq
  have hl := run_loadVar_row (P := P) w g t ty #[x, y] (0, 0) d hB hu hd hi
  simp [results, h, hp', hq', asAddr, hl]
end Go.Proofs.YtfeafhagnhbmiaaGreatDoor.fld

namespace Go.Proofs.YtfeafhagnhbmiaaGreatDoor.fld
open Go.RowKit
open Go.Proofs.YtfeafhagnhbmiaaGreatDoor.oct Go.Proofs.YtfeafhagnhbmiaaGreatDoor.ref Go.Proofs.YtfeafhagnhbmiaaGreatDoor.rows
open Go.Lib (byteCells)

/-- the cells of a row of pairs -/
def pcells (ps : List Pr) : List Value := ps.flatMap fun x => [tx x.1, tx x.2]
theorem pcells_append (a b : List Pr) : pcells (a ++ b) = pcells a ++ pcells b := by simp [pcells]
theorem pcells_len (ps : List Pr) : (pcells ps).length = ps.length * 2 := by
  induction ps with
  | nil => rfl
  | cons x r ih =>
    have e : pcells (x :: r) = [tx x.1, tx x.2] ++ pcells r := rfl
    rw [e, List.length_append, ih]
    simp
    omega
theorem pcells_at (ps : List Pr) (i : Nat) (h : i < ps.length) : (pcells ps)[i * 2]? = some (tx (ps[i]).1) ∧ (pcells ps)[i * 2 + 1]? = some (tx (ps[i]).2) := by
  induction ps generalizing i with
  | nil => simp at h
  | cons x r ih =>
    have e : pcells (x :: r) = [tx x.1, tx x.2] ++ pcells r := rfl
    rw [e]
    cases i with
    | zero => exact ⟨rfl, rfl⟩
    | succ i =>
      have h2 := ih i (by simpa using h)
      constructor
      · rw [List.getElem?_append_right (by simp; omega)]
        simp only [List.length_cons, List.length_nil]
        rw [show (i + 1) * 2 - (0 + 1 + 1) = i * 2 by omega]
        simpa using h2.1
      · rw [List.getElem?_append_right (by simp; omega)]
        simp only [List.length_cons, List.length_nil]
        rw [show (i + 1) * 2 + 1 - (0 + 1 + 1) = i * 2 + 1 by omega]
        simpa using h2.2
theorem own_pairs {w : World} {B e : Nat} {v : Value} {ps : List Pr} (h : w.ownsRow B e 2 v ps.length (pcells ps)) : ∃ p c, v = .slice p ps.length c ∧ ps.length ≤ c ∧ (p = none → c = 0) ∧ InPr w p ps := by
  obtain ⟨h0, h1⟩ := h
  rcases h1 with ⟨rfl, hx⟩ | ⟨g, cp, cur, rfl, _, hg, hn, hm, hs, ht⟩
  · have hl := pcells_len ps
    rw [hx] at hl
    have hz : ps.length = 0 := by simp at hl; omega
    rw [hz]
    exact ⟨none, 0, rfl, Nat.le_refl _, fun _ => rfl, fun hp => by omega⟩
  · refine ⟨_, cp, rfl, hn, (fun h => by cases h), fun hp => ⟨g, 0, rfl, fun i hi => ?_⟩⟩
    have hc : ∀ j, j < ps.length * 2 → w.cell? ⟨g, j, none⟩ = (pcells ps)[j]? := by
      intro j hj
      rw [cell_of_row w g j cur e (0, 0) hg, ← ht, List.getElem?_take, if_pos (by omega)]
      simp
    have h2 := pcells_at ps i hi
    rw [Nat.zero_add]
    exact ⟨(hc _ (by omega)).trans h2.1, (hc _ (by omega)).trans h2.2⟩

theorem own_belowS {w w' : World} {B e n z : Nat} {v : Value} {xs : List Value} (h : w.ownsRow B e z v n xs) (hb : Below w.heap.size w w') : w'.ownsRow B e z v n xs := by
  refine ⟨h.1, ?_⟩
  rcases h.2 with h2 | ⟨g, cap, cur, h1, h2, h3, h4⟩
  · exact Or.inl h2
  · refine Or.inr ⟨g, cap, cur, h1, h2, ?_, h4⟩
    rw [hb.block g (Array.getElem?_eq_some_iff.1 h3).1]
    exact h3
theorem new_cells (W : World) (g e : Nat) (hg : g = W.heap.size) (xs : List Value) : ∀ j u, xs[j]? = some u → (W.alloc (.cells xs.toArray e)).cell? ((⟨g, 0, none⟩ : Addr).add j) = some u := by
  intro j u h
  subst hg
  rw [show (⟨W.heap.size, 0, none⟩ : Addr).add j = ⟨W.heap.size, j, none⟩ from by unfold Addr.add; split <;> simp_all]
  rw [World.cell?_alloc_at _ _ _ _ rfl]
  simpa using h
theorem runP_64 {p : List UInt8} {r : List (List UInt8)} {acc : List Pr} (h : acc.length = 64) : runP (p :: r) acc = (2, []) := by rw [runP, if_pos h]
theorem runP_none {p : List UInt8} {r : List (List UInt8)} {acc : List Pr} (h : acc.length ≠ 64) (h2 : pairOf p = none) : runP (p :: r) acc = (3, []) := by rw [runP, if_neg h, h2]
theorem runP_some {p : List UInt8} {r : List (List UInt8)} {acc : List Pr} {x : Pr} (h : acc.length ≠ 64) (h2 : pairOf p = some x) : runP (p :: r) acc = runP r (acc ++ [x]) := by rw [runP, if_neg h, h2]
theorem pieces_step {l : List UInt8} {f i : Nat} (hf : f ≤ i) (hi : i ≤ l.length) (hn : ∀ x ∈ (l.drop f).take (i - f), x ≠ 38) (hend : i = l.length ∨ ∃ h : i < l.length, l[i] = 38) :
    pieces (l.drop f) = (if i = f then [] else [(l.drop f).take (i - f)]) ++ pieces (l.drop (i + 1)) := by
  have hp : pieces ((l.drop f).take (i - f)) = if i = f then [] else [(l.drop f).take (i - f)] := by
    unfold pieces
    rw [split_plain _ hn]
    by_cases h : i = f
    · subst h; simp
    · rw [if_neg h]
      have : ((l.drop f).take (i - f)).isEmpty = false := by
        cases hq : (l.drop f).take (i - f) with
        | nil =>
          have := congrArg List.length hq
          rw [List.length_take, List.length_drop] at this
          simp at this; omega
        | cons a b => rfl
      simp [this]
  rcases hend with h | ⟨h, hc⟩
  · have e : l.drop (i + 1) = [] := List.drop_eq_nil_of_le (by omega)
    have e2 : (l.drop f).take (i - f) = l.drop f := List.take_of_length_le (by rw [List.length_drop]; omega)
    rw [e, show pieces [] = [] from by simp [pieces, splitAmp], List.append_nil, ← hp, e2]
  · have e : l.drop f = (l.drop f).take (i - f) ++ 38 :: l.drop (i + 1) := by
      conv => lhs; rw [← List.take_append_drop (i - f) (l.drop f)]
      rw [List.drop_drop, show f + (i - f) = i by omega, List.drop_eq_getElem_cons h, hc]
    rw [← hp, ← pieces_amp, ← e]
theorem noamp_step {l : List UInt8} {f i : Nat} (hf : f ≤ i) (h : i < l.length) (hn : ∀ x ∈ (l.drop f).take (i - f), x ≠ 38) (hc : l[i] ≠ 38) : ∀ x ∈ (l.drop f).take (i + 1 - f), x ≠ 38 := by
  intro x hx
  rw [show i + 1 - f = (i - f) + 1 by omega, List.take_succ_eq_append_getElem (by rw [List.length_drop]; omega), List.mem_append, List.mem_singleton] at hx
  rcases hx with hx | rfl
  · exact hn x hx
  · rw [List.getElem_drop]
    simpa [show f + (i - f) = i by omega] using hc
theorem infoPair : (Tryz.prog.info? 63).map (fun i => (i.zero, i.size, i.bytes)) = some (some (.agg #[tx [], tx []]), 2, 32) := by kernel_rfl
/-- what Parse answers: a row of the call's own -/
def ParseV (w w' : World) (r : Nat × List Pr) (e : Ending) : Prop := ∃ v, e = .returned (.tuple #[v, .int .i64 (r.1 : Nat)]) ∧ w'.ownsRow w.heap.size 63 2 v r.2.length (pcells r.2) ∧ Below w.heap.size w w'

end Go.Proofs.YtfeafhagnhbmiaaGreatDoor.fld
