/- Forms in plain lists: what is quoted, unquoted, printed, parsed, found; and what follows of them. No condition. -/
import Derived.Lib.Strings
namespace Go.Proofs.YtjadginnaogjoaaGreatDoor.fld

def sg (n : Nat) : UInt8 := if n < 10 then UInt8.ofNat (48 + n) else UInt8.ofNat (55 + n)
def itself (c : UInt8) : Bool :=
  (decide (64 < c.toNat) && decide (c.toNat < 91)) || (decide (96 < c.toNat) && decide (c.toNat < 123)) || (decide (47 < c.toNat) && decide (c.toNat < 58)) ||
    decide (c.toNat = 42) || decide (c.toNat = 45) || decide (c.toNat = 46) || decide (c.toNat = 95)
/-- a byte, quoted -/
def qB (c : UInt8) : List UInt8 := if itself c then [c] else if c = 32 then [43] else [37, sg (c.toNat / 16), sg (c.toNat % 16)]
def quote (l : List UInt8) : List UInt8 := l.flatMap qB
def worth (c : UInt8) : Nat :=
  if 48 ≤ c.toNat ∧ c.toNat ≤ 57 then c.toNat - 48 else if 65 ≤ c.toNat ∧ c.toNat ≤ 70 then c.toNat - 55 else if 97 ≤ c.toNat ∧ c.toNat ≤ 102 then c.toNat - 87 else 16
theorem worth_le (c : UInt8) : worth c ≤ 16 := by unfold worth; split <;> (try split) <;> (try split) <;> omega
def unq : List UInt8 → Option (List UInt8)
  | [] => some []
  | c :: r =>
    if c.toNat < 33 ∨ 126 < c.toNat then none
    else if c = 37 then
      match r with
      | a :: b :: r' => if worth a < 16 ∧ worth b < 16 then (unq r').map (UInt8.ofNat (16 * worth a + worth b) :: ·) else none
      | _ => none
    else (unq r).map ((if c = 43 then 32 else c) :: ·)
termination_by l => l.length

theorem all_bytes {p : UInt8 → Prop} (h : ∀ n : Fin 256, p (UInt8.ofNat n.val)) (c : UInt8) : p c := by
  have := h ⟨c.toNat, c.toNat_lt⟩
  simpa using this
theorem worth_sg : ∀ n, n < 16 → worth (sg n) = n := by decide
theorem sg_plain : ∀ n, n < 16 → sg n ≠ 38 ∧ sg n ≠ 61 := by decide
theorem itself_in (c : UInt8) : itself c = true → 33 ≤ c.toNat ∧ c.toNat ≤ 126 ∧ c ≠ 37 ∧ c ≠ 43 ∧ c ≠ 38 ∧ c ≠ 61 := by
  revert c
  exact fun c => all_bytes (p := fun c => itself c = true → 33 ≤ c.toNat ∧ c.toNat ≤ 126 ∧ c ≠ 37 ∧ c ≠ 43 ∧ c ≠ 38 ∧ c ≠ 61) (by decide +kernel) c
theorem unq_cons (c : UInt8) (r : List UInt8) : unq (c :: r) = if c.toNat < 33 ∨ 126 < c.toNat then none
    else if c = 37 then
      match r with
      | a :: b :: r' => if worth a < 16 ∧ worth b < 16 then (unq r').map (UInt8.ofNat (16 * worth a + worth b) :: ·) else none
      | _ => none
    else (unq r).map ((if c = 43 then 32 else c) :: ·) := by rw [unq.eq_def]
theorem unq_qB (c : UInt8) (l m : List UInt8) (h : unq l = some m) : unq (qB c ++ l) = some (c :: m) := by
  unfold qB
  by_cases h1 : itself c = true
  · obtain ⟨a1, a2, a3, a4, _⟩ := itself_in c h1
    rw [if_pos h1, List.cons_append, List.nil_append, unq_cons]
    simp only [a3, a4, h, if_false, Option.map_some]
    rw [if_neg (by omega)]
  · rw [if_neg h1]
    by_cases h2 : c = 32
    · subst h2
      rw [if_pos rfl, List.cons_append, List.nil_append, unq_cons]
      simp [h]
    · rw [if_neg h2]
      have w1 := worth_sg (c.toNat / 16) (by have := c.toNat_lt; omega)
      have w2 := worth_sg (c.toNat % 16) (by omega)
      simp only [List.cons_append, List.nil_append]
      rw [unq_cons]
      simp only [w1, w2, h, Option.map_some]
      have e : 16 * (c.toNat / 16) + c.toNat % 16 = c.toNat := by omega
      have l1 : c.toNat / 16 < 16 := by have := c.toNat_lt; omega
      have l2 : c.toNat % 16 < 16 := by omega
      simp [e, l1, l2]
theorem unq_quote (l : List UInt8) : unq (quote l) = some l := by
  induction l with
  | nil => simp [quote, unq]
  | cons c l ih =>
    show unq (qB c ++ quote l) = _
    exact unq_qB c _ _ ih
theorem qB_plain (c x : UInt8) (h : x ∈ qB c) : x ≠ 38 ∧ x ≠ 61 := by
  unfold qB at h
  by_cases h1 : itself c = true
  · rw [if_pos h1] at h
    obtain rfl : x = c := by simpa using h
    exact ⟨(itself_in x h1).2.2.2.2.1, (itself_in x h1).2.2.2.2.2⟩
  · rw [if_neg h1] at h
    by_cases h2 : c = 32
    · rw [if_pos h2] at h
      obtain rfl : x = 43 := by simpa using h
      decide
    · rw [if_neg h2] at h
      simp only [List.mem_cons, List.not_mem_nil, or_false] at h
      rcases h with rfl | rfl | rfl
      · decide
      · exact sg_plain _ (by have := c.toNat_lt; omega)
      · exact sg_plain _ (by omega)
theorem quote_plain (l : List UInt8) (x : UInt8) (h : x ∈ quote l) : x ≠ 38 ∧ x ≠ 61 := by
  obtain ⟨c, _, hc⟩ := List.mem_flatMap.1 h
  exact qB_plain c x hc

/-- what stands between the & -/
def splitAmp : List UInt8 → List (List UInt8)
  | [] => [[]]
  | c :: r => if c = 38 then [] :: splitAmp r else ((c :: (splitAmp r).headD []) :: (splitAmp r).tail)
def pieces (l : List UInt8) : List (List UInt8) := (splitAmp l).filter (fun p => !p.isEmpty)
theorem splitAmp_ne (l : List UInt8) : splitAmp l ≠ [] := by
  cases l with
  | nil => simp [splitAmp]
  | cons c r => unfold splitAmp; split <;> simp
theorem split_head (l : List UInt8) : splitAmp l = (splitAmp l).headD [] :: (splitAmp l).tail := by
  cases h : splitAmp l with
  | nil => exact absurd h (splitAmp_ne l)
  | cons a b => rfl
theorem split_amp (a b : List UInt8) : splitAmp (a ++ 38 :: b) = splitAmp a ++ splitAmp b := by
  induction a with
  | nil => simp [splitAmp]
  | cons c a ih =>
    rw [List.cons_append, splitAmp, splitAmp]
    by_cases h : c = 38
    · rw [if_pos h, if_pos h, ih]; rfl
    · rw [if_neg h, if_neg h, ih]
      have := split_head a
      rw [this]; rfl
theorem split_plain (a : List UInt8) (h : ∀ x ∈ a, x ≠ 38) : splitAmp a = [a] := by
  induction a with
  | nil => rfl
  | cons c a ih =>
    rw [splitAmp, if_neg (h c (by simp)), ih (fun x hx => h x (by simp [hx]))]
    rfl
theorem pieces_amp (a b : List UInt8) : pieces (a ++ 38 :: b) = pieces a ++ pieces b := by
  unfold pieces; rw [split_amp, List.filter_append]

abbrev Pr := List UInt8 × List UInt8
def prPair (x : Pr) : List UInt8 := quote x.1 ++ 61 :: quote x.2
def prt : List Pr → List UInt8
  | [] => []
  | x :: r => if r.isEmpty then prPair x else prPair x ++ 38 :: prt r
theorem prPair_plain (x : Pr) (c : UInt8) (h : c ∈ prPair x) : c ≠ 38 := by
  unfold prPair at h
  simp only [List.mem_append, List.mem_cons] at h
  rcases h with h | rfl | h
  · exact (quote_plain _ _ h).1
  · decide
  · exact (quote_plain _ _ h).1
theorem pieces_prt (ps : List Pr) : pieces (prt ps) = ps.map prPair := by
  have one : ∀ x, pieces (prPair x) = [prPair x] := by
    intro x
    unfold pieces
    rw [split_plain _ (fun c hc => prPair_plain x c hc)]
    simp [prPair]
  induction ps with
  | nil => simp [prt, pieces, splitAmp]
  | cons x r ih =>
    unfold prt
    by_cases h : r.isEmpty = true
    · rw [if_pos h]
      obtain rfl : r = [] := by simpa using h
      rw [one]; rfl
    · rw [if_neg h, pieces_amp, one, ih]; rfl
/-- name and value of a piece -/
def cutEq (p : List UInt8) : Pr := (p.takeWhile (· ≠ 61), (p.dropWhile (· ≠ 61)).drop 1)
def pairOf (p : List UInt8) : Option Pr := match unq (cutEq p).1, unq (cutEq p).2 with
  | some n, some v => some (n, v)
  | _, _ => none
theorem cutEq_pr (x : Pr) : cutEq (prPair x) = (quote x.1, quote x.2) := by
  unfold cutEq prPair
  have h : ∀ c ∈ quote x.1, (decide (c ≠ 61)) = true := fun c hc => by simpa using (quote_plain _ _ hc).2
  rw [List.takeWhile_append_of_pos h, List.dropWhile_append_of_pos h]
  simp
theorem pairOf_pr (x : Pr) : pairOf (prPair x) = some x := by
  unfold pairOf
  rw [cutEq_pr]
  simp [unq_quote]
/-- the pieces, one behind the other: an error's number and the pairs -/
def runP : List (List UInt8) → List Pr → Nat × List Pr
  | [], acc => (0, acc)
  | p :: ps, acc => if acc.length = 64 then (2, []) else match pairOf p with
    | none => (3, [])
    | some x => runP ps (acc ++ [x])
def parse (l : List UInt8) : Nat × List Pr := if 16384 < l.length then (2, []) else runP (pieces l) []
def allOf : List (List UInt8) → Option (List Pr)
  | [] => some []
  | p :: ps => match pairOf p, allOf ps with
    | some x, some l => some (x :: l)
    | _, _ => none
theorem runP_ok (ps : List (List UInt8)) (acc : List Pr) (ha : acc.length ≤ 64) (l : List Pr) (h : allOf ps = some l) (hl : acc.length + l.length ≤ 64) : runP ps acc = (0, acc ++ l) := by
  induction ps generalizing acc l with
  | nil => simp [allOf] at h; subst h; simp [runP]
  | cons p ps ih =>
    rw [allOf] at h
    cases hp : pairOf p with
    | none => simp [hp] at h
    | some x =>
      cases hq : allOf ps with
      | none => simp [hp, hq] at h
      | some m =>
        simp [hp, hq] at h
        subst h
        simp only [List.length_cons] at hl
        rw [runP, if_neg (by omega), hp]
        show runP ps (acc ++ [x]) = _
        rw [ih (acc ++ [x]) (by simp; omega) m hq (by simp; omega)]
        simp
theorem runP_zero (ps : List (List UInt8)) (acc : List Pr) (ha : acc.length ≤ 64) (h : (runP ps acc).1 = 0) : ∃ l, allOf ps = some l ∧ acc.length + l.length ≤ 64 ∧ (runP ps acc).2 = acc ++ l := by
  induction ps generalizing acc with
  | nil => exact ⟨[], rfl, by simpa using ha, by simp [runP]⟩
  | cons p ps ih =>
    rw [runP] at h ⊢
    by_cases h64 : acc.length = 64
    · rw [if_pos h64] at h; cases h
    · rw [if_neg h64] at h ⊢
      cases hp : pairOf p with
      | none => simp [hp] at h
      | some x =>
        simp only [hp] at h ⊢
        obtain ⟨l, h1, h2, h3⟩ := ih (acc ++ [x]) (by simp; omega) h
        refine ⟨x :: l, by simp [allOf, hp, h1], by simp at h2 ⊢; omega, by rw [h3]; simp⟩
theorem runP_err (ps : List (List UInt8)) (acc : List Pr) (h : (runP ps acc).1 ≠ 0) : (runP ps acc).2 = [] ∧ ((runP ps acc).1 = 2 ∨ (runP ps acc).1 = 3) := by
  induction ps generalizing acc with
  | nil => exact absurd rfl h
  | cons p ps ih =>
    rw [runP] at h ⊢
    by_cases h64 : acc.length = 64
    · rw [if_pos h64]; exact ⟨rfl, Or.inl rfl⟩
    · rw [if_neg h64] at h ⊢
      cases hp : pairOf p with
      | none => exact ⟨rfl, Or.inr rfl⟩
      | some x =>
        simp only [hp] at h ⊢
        exact ih _ h
theorem allOf_pr (ps : List Pr) : allOf (ps.map prPair) = some ps := by
  induction ps with
  | nil => rfl
  | cons x r ih => simp [allOf, pairOf_pr, ih]
theorem allOf_append (a b : List (List UInt8)) : allOf (a ++ b) = match allOf a, allOf b with | some l, some m => some (l ++ m) | _, _ => none := by
  induction a with
  | nil => cases h : allOf b <;> simp [allOf, h]
  | cons p a ih =>
    rw [List.cons_append, allOf, allOf, ih]
    cases pairOf p <;> cases allOf a <;> cases allOf b <;> rfl
theorem allOf_len (ps : List (List UInt8)) (l : List Pr) (h : allOf ps = some l) : l.length = ps.length := by
  induction ps generalizing l with
  | nil => simp [allOf] at h; subst h; rfl
  | cons p ps ih =>
    rw [allOf] at h
    cases hp : pairOf p with
    | none => simp [hp] at h
    | some x =>
      cases hq : allOf ps with
      | none => simp [hp, hq] at h
      | some m =>
        simp [hp, hq] at h
        subst h
        simp [ih m hq]
def printR (ps : List Pr) : Nat × List UInt8 := if 64 < ps.length then (2, []) else if 16384 < (prt ps).length then (2, []) else (0, prt ps)
/-- what is printed is parsed as it was -/
theorem parse_print (ps : List Pr) (h : (printR ps).1 = 0) : parse (printR ps).2 = (0, ps) := by
  unfold printR at h ⊢
  by_cases h1 : 64 < ps.length
  · rw [if_pos h1] at h; cases h
  · rw [if_neg h1] at h ⊢
    by_cases h2 : 16384 < (prt ps).length
    · rw [if_pos h2] at h; cases h
    · rw [if_neg h2]
      show parse (prt ps) = _
      unfold parse
      rw [if_neg h2, pieces_prt]
      have := runP_ok (ps.map prPair) [] (by simp) ps (allOf_pr ps) (by simp; omega)
      simpa using this
theorem printR_err (ps : List Pr) (h : (printR ps).1 ≠ 0) : printR ps = (2, []) := by
  unfold printR at h ⊢
  split
  · rfl
  · rename_i h1
    rw [if_neg h1] at h
    split
    · rfl
    · rename_i h2
      rw [if_neg h2] at h
      exact absurd rfl h
theorem parse_err (l : List UInt8) (h : (parse l).1 ≠ 0) : (parse l).2 = [] := by
  unfold parse at h ⊢
  split
  · rfl
  · rename_i h1
    rw [if_neg h1] at h
    exact (runP_err _ _ h).1
/-- two forms are one -/
theorem parse_join (a b : List UInt8) (hl : a.length + b.length < 16384) :
    ((parse a).1 = 0 ∧ (parse b).1 = 0 ∧ (parse a).2.length + (parse b).2.length ≤ 64 → parse (a ++ 38 :: b) = (0, (parse a).2 ++ (parse b).2)) ∧
    (¬ ((parse a).1 = 0 ∧ (parse b).1 = 0 ∧ (parse a).2.length + (parse b).2.length ≤ 64) → (parse (a ++ 38 :: b)).1 ≠ 0) := by
  have ea : parse a = runP (pieces a) [] := by unfold parse; rw [if_neg (by omega)]
  have eb : parse b = runP (pieces b) [] := by unfold parse; rw [if_neg (by omega)]
  have ej : parse (a ++ 38 :: b) = runP (pieces a ++ pieces b) [] := by unfold parse; rw [if_neg (by simp; omega), pieces_amp]
  rw [ea, eb, ej]
  constructor
  · rintro ⟨h1, h2, h3⟩
    obtain ⟨l, l1, _, l3⟩ := runP_zero _ _ (by simp) h1
    obtain ⟨m, m1, _, m3⟩ := runP_zero _ _ (by simp) h2
    rw [l3, m3] at h3 ⊢
    simp only [List.nil_append] at h3 ⊢
    have := runP_ok (pieces a ++ pieces b) [] (by simp) (l ++ m) (by rw [allOf_append, l1, m1]) (by simp; omega)
    simpa using this
  · intro hn hz
    apply hn
    obtain ⟨r, r1, r2, _⟩ := runP_zero _ _ (by simp) hz
    rw [allOf_append] at r1
    cases ha : allOf (pieces a) with
    | none => simp [ha] at r1
    | some l =>
      cases hb : allOf (pieces b) with
      | none => simp [ha, hb] at r1
      | some m =>
        simp [ha, hb] at r1
        subst r1
        simp at r2
        have p1 := runP_ok (pieces a) [] (by simp) l ha (by simp; omega)
        have p2 := runP_ok (pieces b) [] (by simp) m hb (by simp; omega)
        rw [p1, p2]
        exact ⟨rfl, rfl, by simp; omega⟩
/-- what a name stands for -/
def getV (ps : List Pr) (n : List UInt8) : List UInt8 := match ps.find? (fun x => x.1 == n) with | some x => x.2 | none => []
def getN (ps : List Pr) (n : List UInt8) : Nat := (ps.filter fun x => x.1 == n).length
theorem getN_append (a b : List Pr) (n) : getN (a ++ b) n = getN a n + getN b n := by simp [getN]
theorem getV_append (a b : List Pr) (n) (h : getN a n ≠ 0) : getV (a ++ b) n = getV a n := by
  unfold getV
  have hx : ∃ x, a.find? (fun x => x.1 == n) = some x := by
    cases hf : a.find? (fun x => x.1 == n) with
    | some x => exact ⟨x, rfl⟩
    | none =>
      exfalso; apply h
      rw [List.find?_eq_none] at hf
      unfold getN
      rw [List.filter_eq_nil_iff.2 (by simpa using hf)]; rfl
  obtain ⟨x, hx⟩ := hx
  rw [List.find?_append, hx]; rfl
end Go.Proofs.YtjadginnaogjoaaGreatDoor.fld
