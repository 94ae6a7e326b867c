/- Sets of words in plain lists: order, words, sets, texts of sets; what follows of them. No condition. -/
import Derived.Lib.Strings
namespace Go.Proofs.YtkababeeikhifaaDoor.scp

abbrev T := List UInt8
/-- byte by byte -/
abbrev lt (a b : T) : Bool := Go.Op.bytesLess a b
theorem lt_irrefl : ∀ a : T, lt a a = false
  | [] => rfl
  | x :: a => by
    have h := lt_irrefl a
    show (decide (x < x) || (x == x && Go.Op.bytesLess a a)) = false
    rw [show Go.Op.bytesLess a a = false from h, decide_eq_false (UInt8.lt_irrefl x)]
    simp
theorem lt_cons (x y : UInt8) (a b : T) : lt (x :: a) (y :: b) = true ↔ x < y ∨ (x = y ∧ lt a b = true) := by
  show (decide (x < y) || (x == y && Go.Op.bytesLess a b)) = true ↔ _
  rw [Bool.or_eq_true, Bool.and_eq_true, decide_eq_true_iff, beq_iff_eq]
theorem lt_nil (a : T) : lt a [] = false := by cases a <;> rfl
theorem lt_trans : ∀ {a b c : T}, lt a b = true → lt b c = true → lt a c = true
  | _, b, [], _, h => by rw [lt_nil b] at h; cases h
  | a, [], _ :: _, h, _ => by rw [lt_nil a] at h; cases h
  | [], _ :: _, _ :: _, _, _ => rfl
  | x :: a, y :: b, z :: c, h1, h2 => by
    rw [lt_cons] at h1 h2 ⊢
    rcases h1 with h1 | ⟨rfl, h1⟩
    · rcases h2 with h2 | ⟨rfl, h2⟩
      · exact Or.inl (UInt8.lt_trans h1 h2)
      · exact Or.inl h1
    · rcases h2 with h2 | ⟨rfl, h2⟩
      · exact Or.inl h2
      · exact Or.inr ⟨rfl, lt_trans h1 h2⟩
theorem lt_total : ∀ {a b : T}, lt a b = false → lt b a = false → a = b
  | [], [], _, _ => rfl
  | [], _ :: _, h, _ => by cases h
  | _ :: _, [], _, h => by cases h
  | x :: a, y :: b, h1, h2 => by
    have n1 : ¬ (x < y ∨ (x = y ∧ lt a b = true)) := fun h => by rw [(lt_cons x y a b).2 h] at h1; cases h1
    have n2 : ¬ (y < x ∨ (y = x ∧ lt b a = true)) := fun h => by rw [(lt_cons y x b a).2 h] at h2; cases h2
    have hxy : x = y := by
      rcases Nat.lt_trichotomy x.toNat y.toNat with h | h | h
      · exact absurd (Or.inl (UInt8.lt_iff_toNat_lt.2 h)) n1
      · exact UInt8.toNat_inj.1 h
      · exact absurd (Or.inl (UInt8.lt_iff_toNat_lt.2 h)) n2
    subst hxy
    have e : a = b := lt_total (by cases h : lt a b with | false => rfl | true => exact absurd (Or.inr ⟨rfl, h⟩) n1) (by cases h : lt b a with | false => rfl | true => exact absurd (Or.inr ⟨rfl, h⟩) n2)
    rw [e]
theorem lt_asymm {a b : T} (h : lt a b = true) : lt b a = false := by
  cases h2 : lt b a with
  | false => rfl
  | true => have := lt_trans h h2; rw [lt_irrefl] at this; cases this
def okC (c : UInt8) : Bool := decide (c.toNat = 33) || (decide (35 ≤ c.toNat) && decide (c.toNat ≤ 91)) || (decide (93 ≤ c.toNat) && decide (c.toNat ≤ 126))
def wordB (s : T) : Bool := decide (1 ≤ s.length) && decide (s.length ≤ 64) && s.all okC
def hasB (l : List T) (s : T) : Bool := l.any (fun x => x == s)
theorem hasB_iff (l : List T) (s : T) : hasB l s = true ↔ s ∈ l := by
  unfold hasB
  rw [List.any_eq_true]
  constructor
  · rintro ⟨x, hx, he⟩; rw [beq_iff_eq] at he; rwa [← he]
  · intro h; exact ⟨s, h, by simp⟩
/-- the words below x, x, the others -/
def insP (x : T) (out : List T) : List T := out.takeWhile (fun y => lt y x) ++ x :: out.dropWhile (fun y => lt y x)
def addP (out : List T) (x : T) : List T := if wordB x && !hasB out x then insP x out else out
def setP (l : List T) : List T := l.foldl addP []
theorem setP_snoc (l : List T) (x : T) : setP (l ++ [x]) = addP (setP l) x := by simp [setP]
def Srt (l : List T) : Prop := l.Pairwise (fun a b => lt a b = true)
theorem insP_mem (x y : T) (out : List T) : y ∈ insP x out ↔ y = x ∨ y ∈ out := by
  unfold insP
  conv => rhs; rw [← List.takeWhile_append_dropWhile (p := fun y => lt y x) (l := out)]
  simp only [List.mem_append, List.mem_cons]
  constructor
  · rintro (h | h | h)
    · exact Or.inr (Or.inl h)
    · exact Or.inl h
    · exact Or.inr (Or.inr h)
  · rintro (h | h | h)
    · exact Or.inr (Or.inl h)
    · exact Or.inl h
    · exact Or.inr (Or.inr h)
theorem insP_cons (x y : T) (out : List T) : insP x (y :: out) = if lt y x = true then y :: insP x out else x :: y :: out := by
  unfold insP
  cases h : lt y x with
  | true => simp [h]
  | false => simp [h]
theorem insP_srt (x : T) : ∀ (out : List T), Srt out → x ∉ out → Srt (insP x out)
  | [], _, _ => by unfold insP Srt; simp
  | y :: out, h, hx => by
    rw [insP_cons]
    obtain ⟨h1, h2⟩ := List.pairwise_cons.1 h
    by_cases hc : lt y x = true
    · rw [if_pos hc]
      refine List.pairwise_cons.2 ⟨fun z hz => ?_, insP_srt x out h2 (fun e => hx (by simp [e]))⟩
      rcases (insP_mem x z out).1 hz with rfl | hz
      · exact hc
      · exact h1 z hz
    · rw [if_neg hc]
      have hxy : lt x y = true := by
        cases h3 : lt x y with
        | true => rfl
        | false => exact absurd (lt_total h3 (by simpa using hc)) (fun e => hx (by simp [e]))
      refine List.pairwise_cons.2 ⟨fun z hz => ?_, h⟩
      rcases List.mem_cons.1 hz with rfl | hz
      · exact hxy
      · exact lt_trans hxy (h1 z hz)
theorem addP_srt (out : List T) (x : T) (h : Srt out) : Srt (addP out x) := by
  unfold addP
  split
  · rename_i hc
    rw [Bool.and_eq_true, Bool.not_eq_true'] at hc
    exact insP_srt x out h (fun e => by rw [(hasB_iff out x).2 e] at hc; exact absurd hc.2 (by decide))
  · exact h
theorem addP_mem (out : List T) (x y : T) : y ∈ addP out x ↔ (y = x ∧ wordB x = true) ∨ y ∈ out := by
  unfold addP
  by_cases hw : wordB x = true
  · by_cases hh : hasB out x = true
    · rw [hw, hh]
      simp only [Bool.not_true, Bool.and_false, Bool.false_eq_true, if_false, and_true]
      refine ⟨Or.inr, fun h => ?_⟩
      rcases h with rfl | h
      · exact (hasB_iff _ _).1 hh
      · exact h
    · rw [hw, show hasB out x = false by simpa using hh]
      simp only [Bool.not_false, Bool.and_true, if_true, and_true]
      exact insP_mem x y out
  · rw [show wordB x = false by simpa using hw]
    simp
theorem setP_srt (l : List T) : Srt (setP l) := by
  have go : ∀ (l out : List T), Srt out → Srt (l.foldl addP out) := by
    intro l
    induction l with
    | nil => intro out h; exact h
    | cons x l ih => intro out h; exact ih _ (addP_srt out x h)
  exact go l [] List.Pairwise.nil
theorem setP_mem (l : List T) (y : T) : y ∈ setP l ↔ y ∈ l ∧ wordB y = true := by
  have go : ∀ (l out : List T), y ∈ l.foldl addP out ↔ (y ∈ l ∧ wordB y = true) ∨ y ∈ out := by
    intro l
    induction l with
    | nil => intro out; simp
    | cons x l ih =>
      intro out
      rw [List.foldl_cons, ih, addP_mem, List.mem_cons]
      constructor
      · rintro (h | ⟨rfl, h⟩ | h)
        · exact Or.inl ⟨Or.inr h.1, h.2⟩
        · exact Or.inl ⟨Or.inl rfl, h⟩
        · exact Or.inr h
      · rintro (⟨rfl | h, h2⟩ | h)
        · exact Or.inr (Or.inl ⟨rfl, h2⟩)
        · exact Or.inl ⟨h, h2⟩
        · exact Or.inr (Or.inr h)
  have := go l []
  simpa [setP] using this
theorem srt_ext : ∀ {a b : List T}, Srt a → Srt b → (∀ y, y ∈ a ↔ y ∈ b) → a = b
  | [], [], _, _, _ => rfl
  | [], y :: b, _, _, h => by have := (h y).2 (by simp); cases this
  | x :: a, [], _, _, h => by have := (h x).1 (by simp); cases this
  | x :: a, y :: b, ha, hb, h => by
    obtain ⟨a1, a2⟩ := List.pairwise_cons.1 ha
    obtain ⟨b1, b2⟩ := List.pairwise_cons.1 hb
    have hxy : x = y := by
      rcases List.mem_cons.1 ((h x).1 (by simp)) with e | hx
      · exact e
      · rcases List.mem_cons.1 ((h y).2 (by simp)) with e | hy
        · exact e.symm
        · have h1 := b1 x hx
          rw [lt_asymm (a1 y hy)] at h1
          cases h1
    subst hxy
    have e : a = b := srt_ext a2 b2 (fun z => by
      constructor
      · intro hz
        rcases List.mem_cons.1 ((h z).1 (by simp [hz])) with rfl | hz2
        · have := a1 z hz; rw [lt_irrefl] at this; cases this
        · exact hz2
      · intro hz
        rcases List.mem_cons.1 ((h z).2 (by simp [hz])) with rfl | hz2
        · have := b1 z hz; rw [lt_irrefl] at this; cases this
        · exact hz2)
    rw [e]
theorem setP_eq {l m : List T} (h : ∀ y, wordB y = true → (y ∈ l ↔ y ∈ m)) : setP l = setP m :=
  srt_ext (setP_srt l) (setP_srt m) (fun y => by
    rw [setP_mem, setP_mem]
    constructor
    · exact fun ⟨h1, h2⟩ => ⟨(h y h2).1 h1, h2⟩
    · exact fun ⟨h1, h2⟩ => ⟨(h y h2).2 h1, h2⟩)
theorem setP_of_srt {l : List T} (h : Srt l) (hw : ∀ y ∈ l, wordB y = true) : setP l = l :=
  srt_ext (setP_srt l) h (fun y => by rw [setP_mem]; exact ⟨fun h => h.1, fun h => ⟨h, hw y h⟩⟩)
theorem srt_nodup {l : List T} (h : Srt l) : l.Nodup :=
  h.imp (fun {a b} hab e => by subst e; rw [lt_irrefl] at hab; cases hab)
def withinP (a b : List T) : Bool := a.all (fun x => !wordB x || hasB b x)
def meetP (a b : List T) : List T := setP (a.filter (hasB b))
def bothP (ls : List (List T)) : List T := setP ls.flatten
/-- each once, in the order in which they come -/
def onceP (l : List T) : List T := l.foldl (fun out x => if hasB out x then out else out ++ [x]) []
def joinP : List T → T
  | [] => []
  | [x] => x
  | x :: y :: r => x ++ 32 :: joinP (y :: r)
def printP (l : List T) : T := joinP (setP l)
/-- what stands between blanks -/
def cutP : T → List T
  | [] => [[]]
  | c :: r => if c = 32 then [] :: cutP r else match cutP r with
    | [] => [[c]]
    | x :: m => (c :: x) :: m
def parseP (s : T) : Nat × List T :=
  if 16384 < s.length then (2, []) else if s = [] then (0, []) else
  if (cutP s).all wordB then (if 32 < (onceP (cutP s)).length then (2, []) else (0, setP (cutP s))) else (3, [])
end Go.Proofs.YtkababeeikhifaaDoor.scp
