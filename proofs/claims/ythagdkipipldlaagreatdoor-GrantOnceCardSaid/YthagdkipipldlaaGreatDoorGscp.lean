/- Several texts in one: Scp1, Scp2, Scp3, Scp4, Scp5, Scp6, Scp7, ScpApi. Conditions: as each theorem says. -/
import Derived.Lib.Strings
import Derived.Test.YthagdkipipldlaaGreatDoorBaseA
import Derived.WalkKit
import Derived.WalkSmall
import Derived.BigGuardPart
import Derived.BigQuiet
import Derived.Deep.QuietTactic
import Derived.Deep.Onto
import Derived.Deep.CutBlock
import Derived.Deep.DeepCutAuto
namespace Go.Proofs.YthagdkipipldlaaGreatDoor.scp

abbrev T := List UInt8
/-- byte by byte -/
abbrev lt (a b : T) : Bool := Go.Op.bytesLess a b
theorem lt_irrefl : ∀ a : T, lt a a = false
  | [] => rfl
  | x :: a => by
    have h := lt_irrefl a
    show (decide (x < x) || (x == x && Go.Op.bytesLess a a)) = false
    rw [show Go.Op.bytesLess a a = false from h, decide_eq_false (UInt8.lt_irrefl x)]
    simp
theorem lt_cons (x y : UInt8) (a b : T) : lt (x :: a) (y :: b) = true ↔ x < y ∨ (x = y ∧ lt a b = true) := by
  show (decide (x < y) || (x == y && Go.Op.bytesLess a b)) = true ↔ _
  rw [Bool.or_eq_true, Bool.and_eq_true, decide_eq_true_iff, beq_iff_eq]
theorem lt_nil (a : T) : lt a [] = false := by cases a <;> rfl
theorem lt_trans : ∀ {a b c : T}, lt a b = true → lt b c = true → lt a c = true
  | _, b, [], _, h => by rw [lt_nil b] at h; cases h
  | a, [], _ :: _, h, _ => by rw [lt_nil a] at h; cases h
  | [], _ :: _, _ :: _, _, _ => rfl
  | x :: a, y :: b, z :: c, h1, h2 => by
    rw [lt_cons] at h1 h2 ⊢
    rcases h1 with h1 | ⟨rfl, h1⟩
    · rcases h2 with h2 | ⟨rfl, h2⟩
      · exact Or.inl (UInt8.lt_trans h1 h2)
      · exact Or.inl h1
    · rcases h2 with h2 | ⟨rfl, h2⟩
      · exact Or.inl h2
      · exact Or.inr ⟨rfl, lt_trans h1 h2⟩
theorem lt_total : ∀ {a b : T}, lt a b = false → lt b a = false → a = b
  | [], [], _, _ => rfl
  | [], _ :: _, h, _ => by cases h
  | _ :: _, [], _, h => by cases h
  | x :: a, y :: b, h1, h2 => by
    have n1 : ¬ (x < y ∨ (x = y ∧ lt a b = true)) := fun h => by rw [(lt_cons x y a b).2 h] at h1; cases h1
    have n2 : ¬ (y < x ∨ (y = x ∧ lt b a = true)) := fun h => by rw [(lt_cons y x b a).2 h] at h2; cases h2
    have hxy : x = y := by
      rcases Nat.lt_trichotomy x.toNat y.toNat with h | h | h
      · exact absurd (Or.inl (UInt8.lt_iff_toNat_lt.2 h)) n1
      · exact UInt8.toNat_inj.1 h
      · exact absurd (Or.inl (UInt8.lt_iff_toNat_lt.2 h)) n2
    subst hxy
    have e : a = b := lt_total (by cases h : lt a b with | false => rfl | true => exact absurd (Or.inr ⟨rfl, h⟩) n1) (by cases h : lt b a with | false => rfl | true => exact absurd (Or.inr ⟨rfl, h⟩) n2)
    rw [e]
theorem lt_asymm {a b : T} (h : lt a b = true) : lt b a = false := by
  cases h2 : lt b a with
  | false => rfl
  | true => have := lt_trans h h2; rw [lt_irrefl] at this; cases this
def okC (c : UInt8) : Bool := decide (c.toNat = 33) || (decide (35 ≤ c.toNat) && decide (c.toNat ≤ 91)) || (decide (93 ≤ c.toNat) && decide (c.toNat ≤ 126))
def wordB (s : T) : Bool := decide (1 ≤ s.length) && decide (s.length ≤ 64) && s.all okC
def hasB (l : List T) (s : T) : Bool := l.any (fun x => x == s)
theorem hasB_iff (l : List T) (s : T) : hasB l s = true ↔ s ∈ l := by
  unfold hasB
  rw [List.any_eq_true]
  constructor
  · rintro ⟨x, hx, he⟩; rw [beq_iff_eq] at he; rwa [← he]
  · intro h; exact ⟨s, h, by simp⟩
/-- the words below x, x, the others -/
def insP (x : T) (out : List T) : List T := out.takeWhile (fun y => lt y x) ++ x :: out.dropWhile (fun y => lt y x)
def addP (out : List T) (x : T) : List T := if wordB x && !hasB out x then insP x out else out
def setP (l : List T) : List T := l.foldl addP []
theorem setP_snoc (l : List T) (x : T) : setP (l ++ [x]) = addP (setP l) x := by simp [setP]
def Srt (l : List T) : Prop := l.Pairwise (fun a b => lt a b = true)
theorem insP_mem (x y : T) (out : List T) : y ∈ insP x out ↔ y = x ∨ y ∈ out := by
  unfold insP
  conv => rhs; rw [← List.takeWhile_append_dropWhile (p := fun y => lt y x) (l := out)]
  simp only [List.mem_append, List.mem_cons]
  constructor
  · rintro (h | h | h)
    · exact Or.inr (Or.inl h)
    · exact Or.inl h
    · exact Or.inr (Or.inr h)
  · rintro (h | h | h)
    · exact Or.inr (Or.inl h)
    · exact Or.inl h
    · exact Or.inr (Or.inr h)
theorem insP_cons (x y : T) (out : List T) : insP x (y :: out) = if lt y x = true then y :: insP x out else x :: y :: out := by
  unfold insP
  cases h : lt y x with
  | true => simp [h]
  | false => simp [h]
theorem insP_srt (x : T) : ∀ (out : List T), Srt out → x ∉ out → Srt (insP x out)
  | [], _, _ => by unfold insP Srt; simp
  | y :: out, h, hx => by
    rw [insP_cons]
    obtain ⟨h1, h2⟩ := List.pairwise_cons.1 h
    by_cases hc : lt y x = true
    · rw [if_pos hc]
      refine List.pairwise_cons.2 ⟨fun z hz => ?_, insP_srt x out h2 (fun e => hx (by simp [e]))⟩
      rcases (insP_mem x z out).1 hz with rfl | hz
      · exact hc
      · exact h1 z hz
    · rw [if_neg hc]
      have hxy : lt x y = true := by
        cases h3 : lt x y with
        | true => rfl
        | false => exact absurd (lt_total h3 (by simpa using hc)) (fun e => hx (by simp [e]))
      refine List.pairwise_cons.2 ⟨fun z hz => ?_, h⟩
      rcases List.mem_cons.1 hz with rfl | hz
      · exact hxy
      · exact lt_trans hxy (h1 z hz)
theorem addP_srt (out : List T) (x : T) (h : Srt out) : Srt (addP out x) := by
  unfold addP
  split
  · rename_i hc
    rw [Bool.and_eq_true, Bool.not_eq_true'] at hc
    exact insP_srt x out h (fun e => by rw [(hasB_iff out x).2 e] at hc; exact absurd hc.2 (by decide))
  · exact h
theorem addP_mem (out : List T) (x y : T) : y ∈ addP out x ↔ (y = x ∧ wordB x = true) ∨ y ∈ out := by
  unfold addP
  by_cases hw : wordB x = true
  · by_cases hh : hasB out x = true
    · rw [hw, hh]
      simp only [Bool.not_true, Bool.and_false, Bool.false_eq_true, if_false, and_true]
      refine ⟨Or.inr, fun h => ?_⟩
      rcases h with rfl | h
      · exact (hasB_iff _ _).1 hh
      · exact h
    · rw [hw, show hasB out x = false by simpa using hh]
      simp only [Bool.not_false, Bool.and_true, if_true, and_true]
      exact insP_mem x y out
  · rw [show wordB x = false by simpa using hw]
    simp
theorem setP_srt (l : List T) : Srt (setP l) := by
  have go : ∀ (l out : List T), Srt out → Srt (l.foldl addP out) := by
    intro l
    induction l with
    | nil => intro out h; exact h
    | cons x l ih => intro out h; exact ih _ (addP_srt out x h)
  exact go l [] List.Pairwise.nil
theorem setP_mem (l : List T) (y : T) : y ∈ setP l ↔ y ∈ l ∧ wordB y = true := by
  have go : ∀ (l out : List T), y ∈ l.foldl addP out ↔ (y ∈ l ∧ wordB y = true) ∨ y ∈ out := by
    intro l
    induction l with
    | nil => intro out; simp
    | cons x l ih =>
      intro out
      rw [List.foldl_cons, ih, addP_mem, List.mem_cons]
      constructor
      · rintro (h | ⟨rfl, h⟩ | h)
        · exact Or.inl ⟨Or.inr h.1, h.2⟩
        · exact Or.inl ⟨Or.inl rfl, h⟩
        · exact Or.inr h
      · rintro (⟨rfl | h, h2⟩ | h)
        · exact Or.inr (Or.inl ⟨rfl, h2⟩)
        · exact Or.inl ⟨h, h2⟩
        · exact Or.inr (Or.inr h)
  have := go l []
  simpa [setP] using this
theorem srt_ext : ∀ {a b : List T}, Srt a → Srt b → (∀ y, y ∈ a ↔ y ∈ b) → a = b
  | [], [], _, _, _ => rfl
  | [], y :: b, _, _, h => by have := (h y).2 (by simp); cases this
  | x :: a, [], _, _, h => by have := (h x).1 (by simp); cases this
  | x :: a, y :: b, ha, hb, h => by
    obtain ⟨a1, a2⟩ := List.pairwise_cons.1 ha
    obtain ⟨b1, b2⟩ := List.pairwise_cons.1 hb
    have hxy : x = y := by
      rcases List.mem_cons.1 ((h x).1 (by simp)) with e | hx
      · exact e
      · rcases List.mem_cons.1 ((h y).2 (by simp)) with e | hy
        · exact e.symm
        · have h1 := b1 x hx
          rw [lt_asymm (a1 y hy)] at h1
          cases h1
    subst hxy
    have e : a = b := srt_ext a2 b2 (fun z => by
      constructor
      · intro hz
        rcases List.mem_cons.1 ((h z).1 (by simp [hz])) with rfl | hz2
        · have := a1 z hz; rw [lt_irrefl] at this; cases this
        · exact hz2
      · intro hz
        rcases List.mem_cons.1 ((h z).2 (by simp [hz])) with rfl | hz2
        · have := b1 z hz; rw [lt_irrefl] at this; cases this
        · exact hz2)
    rw [e]
theorem setP_eq {l m : List T} (h : ∀ y, wordB y = true → (y ∈ l ↔ y ∈ m)) : setP l = setP m :=
  srt_ext (setP_srt l) (setP_srt m) (fun y => by
    rw [setP_mem, setP_mem]
    constructor
    · exact fun ⟨h1, h2⟩ => ⟨(h y h2).1 h1, h2⟩
    · exact fun ⟨h1, h2⟩ => ⟨(h y h2).2 h1, h2⟩)
theorem setP_of_srt {l : List T} (h : Srt l) (hw : ∀ y ∈ l, wordB y = true) : setP l = l :=
  srt_ext (setP_srt l) h (fun y => by rw [setP_mem]; exact ⟨fun h => h.1, fun h => ⟨h, hw y h⟩⟩)
theorem srt_nodup {l : List T} (h : Srt l) : l.Nodup :=
  h.imp (fun {a b} hab e => by subst e; rw [lt_irrefl] at hab; cases hab)
def withinP (a b : List T) : Bool := a.all (fun x => !wordB x || hasB b x)
def meetP (a b : List T) : List T := setP (a.filter (hasB b))
def bothP (ls : List (List T)) : List T := setP ls.flatten
/-- each once, in the order in which they come -/
def onceP (l : List T) : List T := l.foldl (fun out x => if hasB out x then out else out ++ [x]) []
def joinP : List T → T
  | [] => []
  | [x] => x
  | x :: y :: r => x ++ 32 :: joinP (y :: r)
def printP (l : List T) : T := joinP (setP l)
/-- what stands between blanks -/
def cutP : T → List T
  | [] => [[]]
  | c :: r => if c = 32 then [] :: cutP r else match cutP r with
    | [] => [[c]]
    | x :: m => (c :: x) :: m
def parseP (s : T) : Nat × List T :=
  if 16384 < s.length then (2, []) else if s = [] then (0, []) else
  if (cutP s).all wordB then (if 32 < (onceP (cutP s)).length then (2, []) else (0, setP (cutP s))) else (3, [])
end Go.Proofs.YthagdkipipldlaaGreatDoor.scp

namespace Go.Proofs.YthagdkipipldlaaGreatDoor.scp

theorem cutP_blank (r : T) : cutP (32 :: r) = [] :: cutP r := by rw [cutP, if_pos rfl]
theorem cutP_sign {c : UInt8} (r : T) (h : c ≠ 32) (x : T) (m : List T) (hc : cutP r = x :: m) : cutP (c :: r) = (c :: x) :: m := by rw [cutP, if_neg h, hc]
theorem cutP_ne : ∀ s : T, ∃ x m, cutP s = x :: m
  | [] => ⟨[], [], rfl⟩
  | c :: r => by
    by_cases h : c = 32
    · subst h; exact ⟨_, _, cutP_blank r⟩
    · obtain ⟨x, m, hc⟩ := cutP_ne r
      exact ⟨_, _, cutP_sign r h x m hc⟩
theorem cutP_app : ∀ (a r : T), (32 : UInt8) ∉ a → ∀ x m, cutP r = x :: m → cutP (a ++ r) = (a ++ x) :: m
  | [], r, _, x, m, h => h
  | c :: a, r, h, x, m, hc => by
    rw [List.cons_append]
    exact cutP_sign (a ++ r) (fun e => h (by simp [e])) (a ++ x) m (cutP_app a r (fun e => h (by simp [e])) x m hc)
theorem cutP_join : ∀ (l : List T), l ≠ [] → (∀ x ∈ l, (32 : UInt8) ∉ x) → cutP (joinP l) = l
  | [], h, _ => absurd rfl h
  | [x], _, h => by
    have := cutP_app x [] (h x (by simp)) [] [] rfl
    simpa [joinP] using this
  | x :: y :: r, _, h => by
    have h2 := cutP_join (y :: r) (by simp) (fun z hz => h z (by simp [hz]))
    have := cutP_app x (32 :: joinP (y :: r)) (h x (by simp)) [] _ (cutP_blank _)
    rw [joinP, this, h2]
    simp
theorem cutP_len : ∀ s : T, ((cutP s).map (fun x => x.length + 1)).sum = s.length + 1
  | [] => rfl
  | c :: r => by
    have ih := cutP_len r
    by_cases h : c = 32
    · subst h
      rw [cutP_blank, List.map_cons, List.sum_cons, ih]
      simp; omega
    · obtain ⟨x, m, hc⟩ := cutP_ne r
      rw [hc, List.map_cons, List.sum_cons] at ih
      rw [cutP_sign r h x m hc, List.map_cons, List.sum_cons]
      simp only [List.length_cons]
      omega
theorem joinP_len : ∀ l : List T, l ≠ [] → (joinP l).length + 1 = (l.map (fun x => x.length + 1)).sum
  | [], h => absurd rfl h
  | [x], _ => by simp [joinP]
  | x :: y :: r, _ => by
    have ih := joinP_len (y :: r) (by simp)
    rw [joinP, List.length_append, List.length_cons, List.map_cons, List.sum_cons, ← ih]
    omega
theorem word_blank {s : T} (h : wordB s = true) : (32 : UInt8) ∉ s := by
  intro hm
  unfold wordB at h
  rw [Bool.and_eq_true, List.all_eq_true] at h
  have := h.2 _ hm
  revert this
  decide
theorem word_len {s : T} (h : wordB s = true) : 1 ≤ s.length ∧ s.length ≤ 64 := by
  unfold wordB at h
  rw [Bool.and_eq_true, Bool.and_eq_true, decide_eq_true_iff, decide_eq_true_iff] at h
  exact h.1
theorem sum_sub (f : T → Nat) : ∀ (a b : List T), a.Nodup → (∀ x ∈ a, x ∈ b) → (a.map f).sum ≤ (b.map f).sum
  | [], _, _, _ => by simp
  | x :: a, b, ha, h => by
    obtain ⟨h1, h2⟩ := List.nodup_cons.1 ha
    have hx := h x (by simp)
    have hp := List.perm_cons_erase hx
    have hs : (b.map f).sum = f x + ((b.erase x).map f).sum := by
      rw [(hp.map f).sum_nat, List.map_cons, List.sum_cons]
    rw [hs, List.map_cons, List.sum_cons]
    have := sum_sub f a (b.erase x) h2 (fun y hy => (List.mem_erase_of_ne (fun e => h1 (by rw [← e]; exact hy))).2 (h y (by simp [hy])))
    omega
theorem len_sub (a b : List T) (ha : a.Nodup) (h : ∀ x ∈ a, x ∈ b) : a.length ≤ b.length := by
  have hs := sum_sub (fun _ => 1) a b ha h
  have e : ∀ l : List T, (l.map (fun _ => 1)).sum = l.length := by
    intro l
    induction l with
    | nil => rfl
    | cons x l ih => rw [List.map_cons, List.sum_cons, ih, List.length_cons]; omega
  rw [e, e] at hs
  exact hs
theorem onceP_spec (l : List T) : (onceP l).Nodup ∧ ∀ y, y ∈ onceP l ↔ y ∈ l := by
  have go : ∀ (l out : List T), out.Nodup → (l.foldl (fun out x => if hasB out x then out else out ++ [x]) out).Nodup ∧ ∀ y, y ∈ l.foldl (fun out x => if hasB out x then out else out ++ [x]) out ↔ y ∈ l ∨ y ∈ out := by
    intro l
    induction l with
    | nil => intro out h; exact ⟨h, fun y => by simp⟩
    | cons x l ih =>
      intro out h
      rw [List.foldl_cons]
      by_cases hh : hasB out x = true
      · rw [if_pos hh]
        obtain ⟨h1, h2⟩ := ih out h
        refine ⟨h1, fun y => ?_⟩
        rw [h2, List.mem_cons]
        constructor
        · rintro (h | h)
          · exact Or.inl (Or.inr h)
          · exact Or.inr h
        · rintro ((rfl | h) | h)
          · exact Or.inr ((hasB_iff _ _).1 hh)
          · exact Or.inl h
          · exact Or.inr h
      · rw [if_neg hh]
        have hn : x ∉ out := fun e => hh ((hasB_iff _ _).2 e)
        obtain ⟨h1, h2⟩ := ih (out ++ [x]) (by
          rw [List.nodup_append]
          refine ⟨h, by simp, fun a ha b hb => ?_⟩
          rw [List.mem_singleton] at hb
          subst hb
          exact fun e => hn (by rw [← e]; exact ha))
        refine ⟨h1, fun y => ?_⟩
        rw [h2, List.mem_cons, List.mem_append, List.mem_singleton]
        constructor
        · rintro (h | h | h)
          · exact Or.inl (Or.inr h)
          · exact Or.inr h
          · exact Or.inl (Or.inl h)
        · rintro ((h | h) | h)
          · exact Or.inr (Or.inr h)
          · exact Or.inl h
          · exact Or.inr (Or.inl h)
  obtain ⟨h1, h2⟩ := go l [] List.nodup_nil
  exact ⟨h1, fun y => by rw [show onceP l = l.foldl (fun out x => if hasB out x then out else out ++ [x]) [] from rfl, h2]; simp⟩
theorem once_set (l : List T) (h : ∀ x ∈ l, wordB x = true) : (onceP l).length = (setP l).length := by
  obtain ⟨h1, h2⟩ := onceP_spec l
  refine Nat.le_antisymm (len_sub _ _ h1 (fun x hx => ?_)) (len_sub _ _ (srt_nodup (setP_srt l)) (fun x hx => ?_))
  · exact (setP_mem l x).2 ⟨(h2 x).1 hx, h x ((h2 x).1 hx)⟩
  · exact (h2 x).2 ((setP_mem l x).1 hx).1
theorem join_most (l : List T) (hw : ∀ x ∈ l, wordB x = true) (hl : l.length ≤ 32) : (joinP l).length ≤ 16384 := by
  by_cases hn : l = []
  · subst hn; decide
  · have h1 := joinP_len l hn
    have go : ∀ l : List T, (∀ x ∈ l, wordB x = true) → (l.map (fun x => x.length + 1)).sum ≤ 65 * l.length := by
      intro l
      induction l with
      | nil => intro _; simp
      | cons x l ih =>
        intro h
        have h2 := ih (fun y hy => h y (by simp [hy]))
        have h3 := (word_len (h x (by simp))).2
        rw [List.map_cons, List.sum_cons, List.length_cons]
        omega
    have := go l hw
    omega
/-- a set of few words that is printed is parsed to itself -/
theorem parse_join (l : List T) (hs : Srt l) (hw : ∀ x ∈ l, wordB x = true) (hl : l.length ≤ 32) : parseP (joinP l) = (0, l) := by
  unfold parseP
  rw [if_neg (by have := join_most l hw hl; omega)]
  by_cases hn : l = []
  · subst hn; rfl
  · have hc := cutP_join l hn (fun x hx => word_blank (hw x hx))
    have hj : joinP l ≠ [] := by
      intro e
      have h1 := joinP_len l hn
      rw [e] at h1
      cases l with
      | nil => exact hn rfl
      | cons x r =>
        have := (word_len (hw x (by simp))).1
        rw [List.map_cons, List.sum_cons] at h1
        simp only [List.length_nil] at h1
        omega
    rw [if_neg hj, hc, if_pos (List.all_eq_true.2 hw), once_set l hw, setP_of_srt hs hw, if_neg (by omega)]
theorem setP_idem (l : List T) : setP (setP l) = setP l := setP_of_srt (setP_srt l) (fun y hy => ((setP_mem l y).1 hy).2)
theorem parse_print (l : List T) (h : (setP l).length ≤ 32) : parseP (printP (setP l)) = (0, setP l) := by
  unfold printP
  rw [setP_idem]
  exact parse_join (setP l) (setP_srt l) (fun y hy => ((setP_mem l y).1 hy).2) h
/-- what is parsed -/
theorem parse_ok {s : T} (h : (parseP s).1 = 0) : (parseP s).2.length ≤ 32 ∧ parseP (printP (parseP s).2) = (0, (parseP s).2) ∧ (printP (parseP s).2).length ≤ s.length ∧ ∃ l, (parseP s).2 = setP l := by
  unfold parseP at h
  by_cases h1 : 16384 < s.length
  · rw [if_pos h1] at h; cases h
  · rw [if_neg h1] at h
    by_cases h2 : s = []
    · subst h2
      exact ⟨by decide, by decide, by decide, [], rfl⟩
    · rw [if_neg h2] at h
      by_cases h3 : (cutP s).all wordB = true
      · rw [if_pos h3] at h
        by_cases h4 : 32 < (onceP (cutP s)).length
        · rw [if_pos h4] at h; cases h
        · have hv : parseP s = (0, setP (cutP s)) := by unfold parseP; rw [if_neg h1, if_neg h2, if_pos h3, if_neg h4]
          have hw := List.all_eq_true.1 h3
          have hl : (setP (cutP s)).length ≤ 32 := by rw [← once_set _ hw]; omega
          rw [hv]
          refine ⟨hl, parse_print _ hl, ?_, _, rfl⟩
          show (printP (setP (cutP s))).length ≤ s.length
          unfold printP
          rw [setP_idem]
          by_cases hn : setP (cutP s) = []
          · rw [hn]; exact Nat.zero_le _
          · have e1 := joinP_len _ hn
            have e2 := cutP_len s
            have e3 := sum_sub (fun x => x.length + 1) (setP (cutP s)) (cutP s) (srt_nodup (setP_srt _)) (fun x hx => ((setP_mem _ x).1 hx).1)
            omega
      · rw [if_neg h3] at h; cases h
theorem parse_err {s : T} (h : (parseP s).1 ≠ 0) : (parseP s).2 = [] := by
  unfold parseP at h ⊢
  by_cases h1 : 16384 < s.length
  · rw [if_pos h1]
  · rw [if_neg h1] at h ⊢
    by_cases h2 : s = []
    · rw [if_pos h2]
    · rw [if_neg h2] at h ⊢
      by_cases h3 : (cutP s).all wordB = true
      · rw [if_pos h3] at h ⊢
        by_cases h4 : 32 < (onceP (cutP s)).length
        · rw [if_pos h4]
        · rw [if_neg h4] at h; exact absurd rfl h
      · rw [if_neg h3]
theorem within_iff (a b : List T) : withinP a b = true ↔ ∀ x ∈ a, wordB x = true → x ∈ b := by
  unfold withinP
  rw [List.all_eq_true]
  constructor
  · intro h x hx hw
    have := h x hx
    rw [hw] at this
    exact (hasB_iff b x).1 (by simpa using this)
  · intro h x hx
    cases hw : wordB x with
    | false => rfl
    | true => rw [(hasB_iff b x).2 (h x hx hw)]; rfl
theorem meet_mem (a b : List T) (y : T) : y ∈ meetP a b ↔ (y ∈ a ∧ y ∈ b) ∧ wordB y = true := by
  unfold meetP
  rw [setP_mem, List.mem_filter, hasB_iff]
theorem both_mem (a b : List T) (y : T) : y ∈ bothP [a, b] ↔ (y ∈ a ∨ y ∈ b) ∧ wordB y = true := by
  unfold bothP
  rw [setP_mem]
  simp
/-- the orders of sets -/
theorem orders (a b : List T) :
    withinP a b = decide (meetP a b = setP a) ∧ withinP a b = decide (bothP [a, b] = setP b) ∧ withinP (meetP a b) a = true ∧ withinP (meetP a b) b = true ∧ withinP a (bothP [a, b]) = true ∧ withinP b (bothP [a, b]) = true ∧
      meetP b a = meetP a b ∧ bothP [b, a] = bothP [a, b] ∧ (meetP a b).length + (bothP [a, b]).length = (setP a).length + (setP b).length := by
  have hm : Srt (meetP a b) := setP_srt _
  have hu : Srt (bothP [a, b]) := setP_srt _
  refine ⟨?_, ?_, (within_iff _ _).2 fun x hx _ => ((meet_mem a b x).1 hx).1.1, (within_iff _ _).2 fun x hx _ => ((meet_mem a b x).1 hx).1.2, (within_iff _ _).2 fun x hx hw => (both_mem a b x).2 ⟨Or.inl hx, hw⟩, (within_iff _ _).2 fun x hx hw => (both_mem a b x).2 ⟨Or.inr hx, hw⟩, ?_, ?_, ?_⟩
  · rw [Bool.eq_iff_iff, within_iff, decide_eq_true_iff]
    constructor
    · intro h
      exact srt_ext hm (setP_srt a) (fun y => by rw [meet_mem, setP_mem]; exact ⟨fun h2 => ⟨h2.1.1, h2.2⟩, fun h2 => ⟨⟨h2.1, h y h2.1 h2.2⟩, h2.2⟩⟩)
    · intro h x hx hw
      have := (setP_mem a x).2 ⟨hx, hw⟩
      rw [← h] at this
      exact ((meet_mem a b x).1 this).1.2
  · rw [Bool.eq_iff_iff, within_iff, decide_eq_true_iff]
    constructor
    · intro h
      exact srt_ext hu (setP_srt b) (fun y => by
        rw [both_mem, setP_mem]
        exact ⟨fun h2 => ⟨by rcases h2.1 with h3 | h3; exact h y h3 h2.2; exact h3, h2.2⟩, fun h2 => ⟨Or.inr h2.1, h2.2⟩⟩)
    · intro h x hx hw
      have := (both_mem a b x).2 ⟨Or.inl hx, hw⟩
      rw [h] at this
      exact ((setP_mem b x).1 this).1
  · exact srt_ext (setP_srt _) hm (fun y => by
      rw [meet_mem, meet_mem]
      exact ⟨fun h => ⟨⟨h.1.2, h.1.1⟩, h.2⟩, fun h => ⟨⟨h.1.2, h.1.1⟩, h.2⟩⟩)
  · exact srt_ext (setP_srt _) hu (fun y => by
      rw [both_mem, both_mem]
      exact ⟨fun h => ⟨h.1.symm, h.2⟩, fun h => ⟨h.1.symm, h.2⟩⟩)
  · have nm := srt_nodup hm
    have nu := srt_nodup hu
    have nx := srt_nodup (setP_srt a)
    have ny := srt_nodup (setP_srt b)
    have e1 : (meetP a b).length = ((setP a).filter (hasB (setP b))).length := by
      refine Nat.le_antisymm (len_sub _ _ nm fun x hx => ?_) (len_sub _ _ (nx.filter _) fun x hx => ?_)
      · obtain ⟨⟨h1, h2⟩, h3⟩ := (meet_mem a b x).1 hx
        exact List.mem_filter.2 ⟨(setP_mem a x).2 ⟨h1, h3⟩, (hasB_iff _ _).2 ((setP_mem b x).2 ⟨h2, h3⟩)⟩
      · obtain ⟨h1, h2⟩ := List.mem_filter.1 hx
        obtain ⟨h3, h4⟩ := (setP_mem a x).1 h1
        exact (meet_mem a b x).2 ⟨⟨h3, ((setP_mem b x).1 ((hasB_iff _ _).1 h2)).1⟩, h4⟩
    have e2 : (bothP [a, b]).length = (setP b ++ (setP a).filter (fun x => !hasB (setP b) x)).length := by
      refine Nat.le_antisymm (len_sub _ _ nu fun x hx => ?_) (len_sub _ _ ?_ fun x hx => ?_)
      · obtain ⟨h1, h2⟩ := (both_mem a b x).1 hx
        rw [List.mem_append, List.mem_filter]
        by_cases hb : x ∈ setP b
        · exact Or.inl hb
        · rcases h1 with h1 | h1
          · exact Or.inr ⟨(setP_mem a x).2 ⟨h1, h2⟩, by
              have : hasB (setP b) x = false := by
                cases h3 : hasB (setP b) x with
                | false => rfl
                | true => exact absurd ((hasB_iff _ _).1 h3) hb
              rw [this]; rfl⟩
          · exact absurd ((setP_mem b x).2 ⟨h1, h2⟩) hb
      · rw [List.nodup_append]
        refine ⟨ny, nx.filter _, fun x hx y hy e => ?_⟩
        subst e
        have h := (List.mem_filter.1 hy).2
        rw [(hasB_iff _ _).2 hx] at h
        cases h
      · rw [List.mem_append, List.mem_filter] at hx
        rcases hx with hx | ⟨hx, _⟩
        · obtain ⟨h1, h2⟩ := (setP_mem b x).1 hx
          exact (both_mem a b x).2 ⟨Or.inr h1, h2⟩
        · obtain ⟨h1, h2⟩ := (setP_mem a x).1 hx
          exact (both_mem a b x).2 ⟨Or.inl h1, h2⟩
    have e3 : ∀ (p : T → Bool) (l : List T), (l.filter p).length + (l.filter (fun x => !p x)).length = l.length := by
      intro p l
      induction l with
      | nil => rfl
      | cons x l ih =>
        cases h : p x with
        | true => simp only [List.filter_cons, h, if_true, Bool.not_true, Bool.false_eq_true, if_false, List.length_cons]; omega
        | false => simp only [List.filter_cons, h, if_true, Bool.not_false, Bool.false_eq_true, if_false, List.length_cons]; omega
    rw [e1, e2, List.length_append]
    have := e3 (hasB (setP b)) (setP a)
    omega
end Go.Proofs.YthagdkipipldlaaGreatDoor.scp

namespace Go.Proofs.YthagdkipipldlaaGreatDoor.scp
open Go.RowKit
open Go.Proofs.YthagdkipipldlaaGreatDoor.oct Go.Proofs.YthagdkipipldlaaGreatDoor.ref Go.Proofs.YthagdkipipldlaaGreatDoor.rows Go.Proofs.YthagdkipipldlaaGreatDoor.rowg

/-- a text's cell -/
def tx (l : T) : Value := .string ⟨l.toArray⟩
def senc (a : T) : List Value := [tx a]
theorem senc_len : ∀ a, (senc a).length = 1 := fun _ => rfl
/-- a row of texts at a slice's address -/
abbrev InS (w : World) (P : Option Addr) (l : List T) : Prop := InG senc 1 w P l
theorem ins_below {w w' : World} {P : Option Addr} {ms : List T} (h : InS w P ms) (hb : Below w.heap.size w w') : InS w' P ms := InG.below senc_len (by decide) h hb
theorem ins_cell {w : World} {P : Option Addr} {ms : List T} (h : InS w P ms) (i : Nat) (hi : i < ms.length) : ∃ b o, P = some ⟨b, o, none⟩ ∧ w.cell? ⟨b, o + i, none⟩ = some (.string ⟨(ms[i]).toArray⟩) := by
  obtain ⟨b, o, e, hc⟩ := InG.cells h i hi
  have h0 := hc 0 (by decide)
  rw [Nat.mul_one, Nat.add_zero] at h0
  exact ⟨b, o, e, h0⟩
theorem drewN_add (w : World) (a b : Nat) : (w.drewN a).drewN b = w.drewN (a + b) := by
  unfold World.drewN
  simp [Nat.add_assoc]
theorem take_eqk {α : Type} {l m : List α} {k : Nat} (h1 : k < l.length) (h2 : k < m.length) : l.take (k + 1) = m.take (k + 1) ↔ l.take k = m.take k ∧ l[k] = m[k] := by
  rw [List.take_succ_eq_append_getElem h1, List.take_succ_eq_append_getElem h2]
  constructor
  · intro h
    obtain ⟨e1, e2⟩ := List.append_inj h (by simp; omega)
    exact ⟨e1, by simpa using e2⟩
  · rintro ⟨e1, e2⟩; rw [e1, e2]
theorem hasB_take (l : List T) (s : T) (k : Nat) (h : k < l.length) (h0 : hasB (l.take k) s = false) : (l[k] = s → hasB l s = true) ∧ (l[k] ≠ s → hasB (l.take (k + 1)) s = false) := by
  constructor
  · intro e; rw [hasB_iff, ← e]; exact List.getElem_mem h
  · intro e
    unfold hasB at h0 ⊢
    rw [List.take_succ_eq_append_getElem h, List.any_append, h0]
    simpa using e
set_option maxRecDepth 100000 in
set_option maxHeartbeats 4000000 in
theorem rhas_c (P : Option Addr) (C : Nat) (ms : List T) (n : T) (w : World) (hp : InS w P ms) (hl : ms.length ≤ 140737488355328) :
    Calls Tryz.prog 62 #[.slice P ms.length C, tx n] w fun e w' => e = .returned (.bool (hasB ms n)) ∧ w = w' := by
  have HP := Lib.hid hp
  clear hp
  unfold tx
  go_enter Tryz.func62, Tryz.ntmps62
  go_wp2_with fail
  go_loopg [5] ms.length (fun g s6 wx => ∃ k : Nat, k + g = ms.length ∧ s6 = .int .i64 k ∧ Hid (hasB (ms.take k) n = false) ∧ wx = w)
  case atStart => exact ⟨0, by omega, rfl, rfl, rfl⟩
  case round =>
    obtain ⟨k, hkg, rfl, HN, rfl⟩ := hrel
    rcases gk with _ | g
    · obtain rfl : k = ms.length := by omega
      have HR : Hid (hasB ms n = false) := by have h := HN.out; rwa [List.take_length] at h
      go_wp2_with fail
      go_ret
      exact ⟨ret_bool HR.out.symm, rfl⟩
    · have hk : k < ms.length := by omega
      have hkI : (k : Int) < (ms.length : Int) := by omega
      obtain ⟨b, o, rfl, c0⟩ := ins_cell HP.out k hk
      obtain ⟨h1, h2⟩ := hasB_take ms n k hk HN.out
      obtain ⟨x0, hm⟩ : ∃ m, ms[k] = m := ⟨_, rfl⟩
      rw [hm] at c0 h1 h2
      have H1 := Lib.hid h1
      have H2 := Lib.hid h2
      clear h1 h2 hm
      by_cases he : x0 = n
      · have HR := Lib.hid (H1.out he)
        have hb : (x0 == n) = true := by simpa using he
        clear H1 H2 he
        go_wp2_with fail
        go_ret
        exact ⟨ret_bool HR.out.symm, rfl⟩
      · have HR := Lib.hid (H2.out he)
        have hb : (x0 == n) = false := by simpa using he
        clear H1 H2 he
        go_wp2_with fail
        go_roundg g
        case measure => omega
        case rel => exact ⟨k + 1, by omega, by go_num, HR, rfl⟩
theorem okC_text (s : ByteArray) (k : Nat) (h : k < s.size) (h0 : (s.data.toList.take k).all okC = true) : (okC s[k] = true → (s.data.toList.take (k + 1)).all okC = true) ∧ (okC s[k] = false → s.data.toList.all okC = false) := by
  have h1 : k < s.data.toList.length := by simpa using h
  have e : s[k] = s.data.toList[k] := rfl
  rw [e]
  constructor
  · intro h2
    rw [List.take_succ_eq_append_getElem h1, List.all_append, h0, List.all_cons, h2]
    rfl
  · intro h2
    cases h3 : s.data.toList.all okC with
    | false => rfl
    | true =>
      rw [List.all_eq_true] at h3
      rw [h3 _ (List.getElem_mem h1)] at h2
      cases h2
set_option maxRecDepth 100000 in
set_option maxHeartbeats 8000000 in
theorem rword_c (s : ByteArray) (w : World) :
    Calls Tryz.prog 61 #[.string s] w fun e w' => e = .returned (.bool (wordB s.data.toList)) ∧ w = w' := by
  have HSL : Hid (s.data.toList.length = s.size) := by show _ = _; rw [Array.length_toList]; rfl
  by_cases h0 : 1 ≤ s.size
  · by_cases h64 : s.size ≤ 64
    · have HW : Hid (wordB s.data.toList = s.data.toList.all okC) := by
        show _ = _
        unfold wordB
        rw [HSL.out, decide_eq_true h0, decide_eq_true h64]; rfl
      have i0 : ¬ ((s.size : Int) < 1) := by omega
      have i64 : ¬ ((s.size : Int) > 64) := by omega
      go_enter Tryz.func61, Tryz.ntmps61
      go_wp2_with fail
      go_loopg [3] s.size (fun g s6 wx => ∃ k : Nat, k + g = s.size ∧ s6 = .int .i64 k ∧ Hid ((s.data.toList.take k).all okC = true) ∧ wx = w)
      case atStart => exact ⟨0, by omega, rfl, rfl, rfl⟩
      case round =>
        obtain ⟨k, hkg, rfl, HN, rfl⟩ := hrel
        rcases gk with _ | g
        · obtain rfl : k = s.size := by omega
          have HR : Hid (wordB s.data.toList = true) := by
            have h := HN.out
            rw [List.take_of_length_le (by rw [HSL.out]; exact Nat.le_refl _)] at h
            show _ = _
            rw [HW.out]; exact h
          go_wp2_with fail
          go_ret
          exact ⟨ret_bool HR.out.symm, rfl⟩
        · have hk : k < s.size := by omega
          have hkI : (k : Int) < (s.size : Int) := by omega
          obtain ⟨h1, h2⟩ := okC_text s k hk HN.out
          rw [← HW.out] at h2
          obtain ⟨c, hc⟩ : ∃ c, s[k] = c := ⟨_, rfl⟩
          have hcc : (s[k].toNat : Int) = (c.toNat : Int) := by rw [hc]
          rw [hc] at h1 h2
          have H1 := Lib.hid h1
          have H2 := Lib.hid h2
          have HOK : Hid (okC c = (decide (c.toNat = 33) || (decide (35 ≤ c.toNat) && decide (c.toNat ≤ 91)) || (decide (93 ≤ c.toNat) && decide (c.toNat ≤ 126)))) := rfl
          have hcl := c.toNat_lt
          clear h1 h2 hc
          obtain ⟨n, hn⟩ : ∃ n, c.toNat = n := ⟨_, rfl⟩
          rw [hn] at hcc hcl HOK
          clear hn
          by_cases hok : okC c = true
          · have HR := Lib.hid (H1.out hok)
            have ho := hok
            rw [HOK.out] at ho
            simp only [Bool.or_eq_true, Bool.and_eq_true, decide_eq_true_eq] at ho
            clear H1 H2 hok HOK
            go_wp2_with fail
            all_goals first
              | (go_roundg g
                 case measure => omega
                 case rel => exact ⟨k + 1, by omega, by go_num, HR, rfl⟩)
              | (exfalso; omega)
          · have HR := Lib.hid (H2.out (by simpa using hok))
            have ho := hok
            rw [HOK.out] at ho
            simp only [Bool.or_eq_true, Bool.and_eq_true, decide_eq_true_eq] at ho
            clear H1 H2 hok HOK
            go_wp2_with fail
            all_goals first
              | (go_ret; exact ⟨ret_bool HR.out.symm, rfl⟩)
              | (exfalso; omega)
    · have HW : Hid (wordB s.data.toList = false) := by
        show _ = _
        unfold wordB
        rw [HSL.out, decide_eq_true h0, decide_eq_false h64]; rfl
      have i0 : ¬ ((s.size : Int) < 1) := by omega
      have i64 : (s.size : Int) > 64 := by omega
      go_enter Tryz.func61, Tryz.ntmps61
      go_wp2_with fail
      go_ret
      exact ⟨ret_bool HW.out.symm, rfl⟩
  · have HW : Hid (wordB s.data.toList = false) := by
      show _ = _
      unfold wordB
      rw [HSL.out, decide_eq_false h0]; rfl
    have i0 : (s.size : Int) < 1 := by omega
    go_enter Tryz.func61, Tryz.ntmps61
    go_wp2_with fail
    go_ret
    exact ⟨ret_bool HW.out.symm, rfl⟩
end Go.Proofs.YthagdkipipldlaaGreatDoor.scp

namespace Go.Proofs.YthagdkipipldlaaGreatDoor.scp
open Go.RowKit
open Go.Proofs.YthagdkipipldlaaGreatDoor.oct Go.Proofs.YthagdkipipldlaaGreatDoor.ref Go.Proofs.YthagdkipipldlaaGreatDoor.rows Go.Proofs.YthagdkipipldlaaGreatDoor.rowg

theorem infoStr : (Tryz.prog.info? 9).map (fun i => (i.zero, i.size, i.bytes)) = some (some (.string ⟨#[]⟩), 1, 16) := by kernel_rfl
theorem senc_one : ∀ a : T, ∀ u ∈ senc a, u.oneCell' = true := fun a u hu => by rw [List.mem_singleton.1 hu]; rfl
theorem setP_len (l : List T) : (setP l).length ≤ l.length := len_sub _ _ (srt_nodup (setP_srt l)) fun x hx => ((setP_mem l x).1 hx).1
theorem setP_take (l : List T) (k : Nat) (h : k < l.length) : setP (l.take (k + 1)) = addP (setP (l.take k)) l[k] := by
  rw [List.take_succ_eq_append_getElem h, setP_snoc]
theorem insP_at (x : T) (out : List T) (j : Nat) (hj : j ≤ out.length) (h1 : (out.take j).all (fun y => lt y x) = true) (h2 : ∀ h : j < out.length, lt out[j] x = false) : insP x out = out.take j ++ x :: out.drop j := by
  induction out generalizing j with
  | nil => simp [insP]
  | cons y out ih =>
    rcases j with _ | j
    · have := h2 (by simp)
      rw [insP_cons, if_neg (by simpa using this)]
      simp
    · rw [List.take_succ_cons, List.all_cons, Bool.and_eq_true] at h1
      rw [insP_cons, if_pos h1.1, ih j (by simpa using hj) h1.2 (fun h => by have := h2 (by simpa using h); simpa using this)]
      simp
theorem all_take (x : T) (out : List T) (j : Nat) (hj : j < out.length) (h1 : (out.take j).all (fun y => lt y x) = true) (h2 : lt out[j] x = true) : (out.take (j + 1)).all (fun y => lt y x) = true := by
  rw [List.take_succ_eq_append_getElem hj, List.all_append, h1]
  simp only [List.all_cons, List.all_nil, h2]
  rfl
/-- a row of texts of the call's own: nil and empty, or a block -/
theorem own_two {w : World} {B : Nat} {v : Value} {ps : List T} (h : w.ownsRow B 9 1 v ps.length (cells senc ps)) :
    (v = .slice none 0 0 ∧ ps = []) ∨ ∃ g c, v = .slice (some ⟨g, 0, none⟩) ps.length c ∧ ps.length ≤ c ∧ c ≤ maxLen ∧ B ≤ g ∧ InS w (some ⟨g, 0, none⟩) ps := by
  obtain ⟨p, c, hv, hc, hn, hin⟩ := own_g senc_len (by decide) h
  rcases h.2 with ⟨h1, hx⟩ | ⟨g, cp, cur, h1, hB, hg, hn2, hm, hs, ht⟩
  · rw [h1] at hv
    injection hv with e1 e2 e3
    subst e1
    exact Or.inl ⟨by rw [h1], ing_nil hin⟩
  · rw [h1] at hv
    injection hv with e1 e2 e3
    subst e1
    subst e3
    exact Or.inr ⟨g, cp, h1, hn2, hm, hB, hin⟩
theorem ins_take {w : World} {P : Option Addr} {l : List T} (h : InS w P l) (j : Nat) (hj : j ≤ l.length) : InS w P (l.take j) := fun hl => by
  rw [List.length_take] at hl
  obtain ⟨b, o, e, hc⟩ := h (by omega)
  refine ⟨b, o, e, fun i hi j2 hj2 => ?_⟩
  rw [List.length_take] at hi
  rw [hc i (by omega) j2 hj2, List.getElem_take]
theorem ins_drop {w : World} {b o : Nat} {l : List T} (h : InS w (some ⟨b, o, none⟩) l) (j : Nat) (hj : j ≤ l.length) : InS w (some ⟨b, o + j, none⟩) (l.drop j) := fun hl => by
  rw [List.length_drop] at hl
  obtain ⟨b2, o2, e, hc⟩ := h (by omega)
  cases e
  refine ⟨b, o + j, rfl, fun i hi j2 hj2 => ?_⟩
  rw [List.length_drop] at hi
  have := hc (j + i) (by omega) j2 hj2
  rw [List.getElem_drop, ← this]
  congr 2; simp only [Nat.mul_one]; omega
theorem ins_one (W : World) (x : T) (e : Nat) : InS (W.alloc (.cells #[.string ⟨x.toArray⟩] e)) (some ⟨W.heap.size, 0, none⟩) [x] := fun _ =>
  ⟨W.heap.size, 0, rfl, fun i hi j hj => by
    rw [List.length_singleton] at hi
    obtain rfl : i = 0 := by omega
    obtain rfl : j = 0 := by omega
    rw [World.cell?_alloc_at _ _ _ _ rfl]
    rfl⟩
/-- what Set answers -/
def RowA (w w' : World) (l : List T) (e : Ending) : Prop := ∃ v, e = .returned v ∧ w'.ownsRow w.heap.size 9 1 v l.length (cells senc l) ∧ Below w.heap.size w w'
set_option maxRecDepth 100000 in
set_option maxHeartbeats 8000000 in
theorem rset_c (P : Option Addr) (C : Nat) (l : List T) (w : World) (hp : InS w P l) (hl : l.length ≤ 4194304) :
    Calls Tryz.prog 81 #[.slice P l.length C] w fun e w' => RowA w w' (setP l) e := by
  have HP := Lib.hid hp
  obtain ⟨i0, hi0, hz0, hz1, hz2⟩ := info_parts infoStr
  clear hp
  go_enter Tryz.func81, Tryz.ntmps81
  go_wp2_with fail
  go_loopg [3, 4] l.length (fun g s3 s4 wx => ∃ k : Nat, k + g = l.length ∧ s4 = .int .i64 k ∧ ∃ out, Hid (setP (l.take k) = out) ∧ Hid (wx.ownsRow w.heap.size 9 1 s3 out.length (cells senc out)) ∧ Below w.heap.size w wx)
  case atStart => exact ⟨0, by omega, rfl, [], rfl, World.ownsRow_nil _ _ _ _, Below.refl _ _⟩
  case round =>
    obtain ⟨k, hkg, rfl, out, HO, HOW, hbx⟩ := hrel
    have HBX := Lib.hid hbx
    rcases gk with _ | g
    · obtain rfl : k = l.length := by omega
      have HR : Hid (setP l = out) := by have h := HO.out; rwa [List.take_length] at h
      go_wp2_with fail
      go_ret
      exact ⟨_, rfl, by rw [HR.out]; exact HOW.out, HBX.out⟩
    · have hk : k < l.length := by omega
      have hkI : (k : Int) < (l.length : Int) := by omega
      have HPX := Lib.hid (ins_below HP.out hbx)
      obtain ⟨b, o, rfl, c0⟩ := ins_cell HPX.out k hk
      have hol : out.length ≤ 4194304 := by
        have := setP_len (l.take k)
        rw [HO.out, List.length_take] at this
        omega
      have HST := Lib.hid (setP_take l k hk)
      rw [HO.out] at HST
      obtain ⟨x, hx⟩ : ∃ x, l[k] = x := ⟨_, rfl⟩
      rw [hx] at c0 HST
      have HWD := Lib.hid (fun w => rword_c ⟨x.toArray⟩ w)
      rw [show (⟨x.toArray⟩ : ByteArray).data.toList = x from rfl] at HWD
      clear hx hbx
      by_cases hw : wordB x = true
      · rw [hw] at HWD
        obtain ⟨p, co, hv, hco, hno, hin⟩ := own_g senc_len (by decide) HOW.out
        subst hv
        have HIN := Lib.hid hin
        have HHS := Lib.hid (rhas_c p co out x wr hin (by omega))
        clear hin
        by_cases hh : hasB out x = true
        · have HSK : Hid (setP (l.take (k + 1)) = out) := by show _ = _; rw [HST.out]; unfold addP; rw [hw, hh]; rfl
          rw [hh] at HHS
          clear hw hh HST
          go_wp2_with (first
            | (go_at_call 61; refine (HWD.out wr).mono ?_; rintro e w' ⟨rfl, rfl⟩)
            | (go_at_call 62; refine HHS.out.mono ?_; rintro e w' ⟨rfl, rfl⟩))
          go_roundg g
          case measure => omega
          case rel => exact ⟨k + 1, by omega, by go_num, out, HSK, HOW, HBX.out⟩
        · have hhf : hasB out x = false := by simpa using hh
          have HSK : Hid (setP (l.take (k + 1)) = insP x out) := by show _ = _; rw [HST.out]; unfold addP; rw [hw, hhf]; rfl
          rw [hhf] at HHS
          obtain ⟨W, hW⟩ : ∃ W, W = wr := ⟨_, rfl⟩
          subst hW
          clear hw hh hhf HST
          go_upto_block 2 with (first
            | (go_at_call 61; refine (HWD.out W).mono ?_; rintro e w' ⟨rfl, rfl⟩)
            | (go_at_call 62; refine HHS.out.mono ?_; rintro e w' ⟨rfl, rfl⟩))
          go_cut [5] from 7 to 60 (fun s5 wx => ∃ j : Nat, s5 = .int .i64 j ∧ j ≤ out.length ∧ Hid (insP x out = out.take j ++ x :: out.drop j) ∧ ∃ nd, wx = W.drewN nd)
          case first =>
            go_wp2_with fail
            go_loopg [5] out.length (fun g s5 wx => ∃ j : Nat, j + g = out.length ∧ s5 = .int .i64 j ∧ Hid ((out.take j).all (fun y => lt y x) = true) ∧ ∃ nd, wx = W.drewN nd)
            case atStart => exact ⟨0, by omega, rfl, rfl, 0, rfl⟩
            case round =>
              obtain ⟨j, hjg, rfl, HA, nd, hwy⟩ := hrel
              have HWY := Lib.hid hwy
              clear hwy
              rcases gk with _ | g2
              · have hj : j = out.length := by omega
                have HF : Hid (insP x out = out.take j ++ x :: out.drop j) := insP_at x out j (by omega) HA.out (fun h => by omega)
                have hd : decide ((j : Int) < (out.length : Int)) = false := decide_eq_false (by omega)
                go_wp2_with fail
                go_quiet (fail)
                go_wp2_with fail
                go_meet
                exact ⟨j, rfl, by omega, HF, nd + nq, by rw [HWY.out]; exact drewN_add W nd nq⟩
              · have hj : j < out.length := by omega
                have hjI : (j : Int) < (out.length : Int) := by omega
                obtain ⟨b2, o2, rfl, d0⟩ := ins_cell HIN.out j hj
                have HAT := Lib.hid (all_take x out j hj HA.out)
                have HAF := Lib.hid (fun h : lt out[j] x = false => insP_at x out j (by omega) HA.out (fun _ => h))
                obtain ⟨y, hy⟩ : ∃ y, out[j] = y := ⟨_, rfl⟩
                rw [hy] at d0 HAT HAF
                replace d0 : wr.cell? ⟨b2, o2 + j, none⟩ = some (.string ⟨y.toArray⟩) := by rw [HWY.out]; exact d0
                have c1 : wr.cell? ⟨b, o + k, none⟩ = some (.string ⟨x.toArray⟩) := by rw [HWY.out]; exact c0
                clear hy c0
                by_cases hlt : lt y x = true
                · have HE2 := Lib.hid (HAT.out hlt)
                  have hb : Go.Op.bytesLess y x = true := hlt
                  clear hlt HAT HAF
                  go_wp2_with fail
                  go_quiet (fail)
                  go_wp2_with fail
                  go_roundg g2
                  case measure => omega
                  case rel => exact ⟨j + 1, by omega, by go_num, HE2, nd + nq, by rw [HWY.out]; exact drewN_add W nd nq⟩
                · have hb : Go.Op.bytesLess y x = false := by simpa using hlt
                  have HF := Lib.hid (HAF.out hb)
                  clear hlt HAT HAF
                  go_wp2_with fail
                  go_quiet (fail)
                  go_wp2_with fail
                  go_meet
                  exact ⟨j, rfl, by omega, HF, nd + nq, by rw [HWY.out]; exact drewN_add W nd nq⟩
          case rest =>
            obtain ⟨j, rfl, hj, HF, nd, hwy⟩ := hcut
            subst hwy
            have HBC := Lib.hid (below_drewN HBX.out nd)
            have HC : Hid (∀ w', Below (W.drewN nd).heap.size (W.drewN nd) w' → w'.cell? ⟨b, o + k, none⟩ = some (.string ⟨x.toArray⟩)) := fun w' hb => (hb.cell (p := ⟨b, o + k, none⟩) (cell_lt c0)).trans c0
            have HINC : Hid (InS (W.drewN nd) p out) := HIN.out
            have HE0 := Lib.hid (own_emptyG (enc := senc) (k := 1) (W.drewN nd) 9)
            have HOW2 : Hid ((Value.slice p out.length co = .slice none 0 0 ∧ out = []) ∨ ∃ g c, Value.slice p out.length co = .slice (some ⟨g, 0, none⟩) out.length c ∧ out.length ≤ c ∧ c ≤ maxLen ∧ w.heap.size ≤ g ∧ InS W (some ⟨g, 0, none⟩) out) := own_two HOW.out
            obtain ⟨Z, hZ⟩ : ∃ Z, Z = W.drewN nd := ⟨_, rfl⟩
            rw [← hZ] at HBC HC HINC HE0 ⊢
            have hjI : (j : Int) ≤ (out.length : Int) := by omega
            clear hZ HOW HIN HBX HPX HHS HWD c0
            rcases HOW2.out with ⟨hv, hoe⟩ | ⟨g0, c2, hv, hc2, hcm, hg0, _⟩
            · injection hv with e1 e2 e3
              subst e1
              subst e3
              subst hoe
              obtain rfl : j = 0 := by simpa using hj
              clear e2 HOW2 hno hjI
              clear hol hco hj
              rw [show ([] : List T).length = 0 from rfl, show ((0 : Nat) : Int) = 0 from rfl]
              have HN : Hid (∀ w' : World, InS w' none ([] : List T)) := fun w' hl => by simp at hl
              go_wp2_with (first
                | (at_builtin; refine wpList_append_g senc_len (by decide) senc_one rfl (.tmp 44) (.tmp 47) 35 9 rfl Tryz.underlying35 hi0 hz0 hz1 hz2 rfl Z.heap.size _ 0 (cells senc []) rfl HE0.out _ 0 _ [] rfl (HN.out _) rfl (fun _ => rfl) (by unfold maxLen; omega) (by omega) (by simp) ?_; intro v2 w2 hown2 hgrow2; have hb2 := ((Below.refl Z.heap.size Z).alloc (Nat.le_refl _) _).grown hgrow2 (by simp) (fun k hk => (HE0.out.lt k hk).1); have d2 := HC.out w2 hb2; have HO2 := Lib.hid hown2; have HB2 := Lib.hid hb2; clear hown2 hgrow2 hb2)
                | (at_builtin; refine wpList_append_g senc_len (by decide) senc_one rfl (.tmp 49) (.tmp 54) 35 9 rfl Tryz.underlying35 hi0 hz0 hz1 hz2 rfl Z.heap.size _ (0 + 0) _ rfl (HO2.out.alloc _) (some ⟨w2.heap.size, 0, none⟩) 1 1 [x] rfl (ins_one w2 x _) rfl (fun h => by cases h) (by unfold maxLen; omega) (by omega) (by have := HB2.out.size; simp; omega) ?_; intro v3 w3 hown3 hgrow3; have hb3 := (HB2.out.alloc HB2.out.size _).grown hgrow3 (by have := HB2.out.size; simp; omega) (fun k hk => (HO2.out.lt k hk).1); have HO3 := Lib.hid hown3; have HB3 := Lib.hid hb3; clear hown3 hgrow3 hb3 d2)
                | (at_builtin; (refine wpList_append_g senc_len (by decide) senc_one rfl (.tmp 56) (.tmp 59) 35 9 rfl Tryz.underlying35 hi0 hz0 hz1 hz2 rfl Z.heap.size _ (0 + 0 + 1) _ rfl HO3.out _ 0 _ [] rfl (HN.out _) rfl (fun _ => rfl) (by unfold maxLen; omega) (by omega) HB3.out.size ?_); intro v4 w4 hown4 hgrow4; have hb4 := HB3.out.grown hgrow4 HB3.out.size (fun k hk => (HO3.out.lt k hk).1); have HO4 := Lib.hid hown4; have HB4 := Lib.hid hb4; clear hown4 hgrow4 hb4))
              all_goals
                go_roundg g
                case measure => omega
                refine ⟨k + 1, by omega, by go_num, insP x [], HSK, ?_, bnext HBC.out HB4.out⟩
                show w4.ownsRow _ _ _ _ _ _
                exact HO4.out.mono HBC.out.size
            · injection hv with e1 e2 e3
              subst e1
              subst e3
              clear e2 HOW2 hno
              have hjc : (j : Int) ≤ (co : Int) := by omega
              have hoc : (out.length : Int) ≤ (co : Int) := by omega
              have HD : Hid (∀ w', Below Z.heap.size Z w' → InS w' (some ⟨g0, j, none⟩) (out.drop j)) := fun w' hb => by
                have := ins_below (ins_drop HINC.out j hj) hb
                rwa [Nat.zero_add] at this
              have HDX : Hid (∀ w', Below Z.heap.size Z w' → InS w' (if co = j then some ⟨g0, 0, none⟩ else some ⟨g0, j, none⟩) (out.drop j)) := fun w' hb => by
                split
                · intro hl; rw [List.length_drop] at hl; omega
                · exact HD.out w' hb
              go_wp2_with (first
                | (at_builtin; refine wpList_append_g senc_len (by decide) senc_one rfl (.tmp 44) (.tmp 47) 35 9 rfl Tryz.underlying35 hi0 hz0 hz1 hz2 rfl Z.heap.size _ 0 (cells senc []) rfl HE0.out _ j _ (out.take j) rfl (ins_below (ins_take HINC.out j hj) ((Below.refl _ _).alloc (Nat.le_refl _) _)) (by rw [List.length_take]; omega) (fun h => by cases h) (by unfold maxLen; omega) (by omega) (by simp) ?_; intro v2 w2 hown2 hgrow2; have hb2 := ((Below.refl Z.heap.size Z).alloc (Nat.le_refl _) _).grown hgrow2 (by simp) (fun k hk => (HE0.out.lt k hk).1); have d2 := HC.out w2 hb2; have HO2 := Lib.hid hown2; have HB2 := Lib.hid hb2; clear hown2 hgrow2 hb2)
                | (at_builtin; refine wpList_append_g senc_len (by decide) senc_one rfl (.tmp 49) (.tmp 54) 35 9 rfl Tryz.underlying35 hi0 hz0 hz1 hz2 rfl Z.heap.size _ (0 + j) _ rfl (HO2.out.alloc _) (some ⟨w2.heap.size, 0, none⟩) 1 1 [x] rfl (ins_one w2 x _) rfl (fun h => by cases h) (by unfold maxLen; omega) (by omega) (by have := HB2.out.size; simp; omega) ?_; intro v3 w3 hown3 hgrow3; have hb3 := (HB2.out.alloc HB2.out.size _).grown hgrow3 (by have := HB2.out.size; simp; omega) (fun k hk => (HO2.out.lt k hk).1); have HO3 := Lib.hid hown3; have HB3 := Lib.hid hb3; clear hown3 hgrow3 hb3 d2)
                | (at_builtin; refine wpList_append_g senc_len (by decide) senc_one rfl (.tmp 56) (.tmp 59) 35 9 rfl Tryz.underlying35 hi0 hz0 hz1 hz2 rfl Z.heap.size _ (0 + j + 1) _ rfl HO3.out _ (out.length - j) _ (out.drop j) rfl (HDX.out w3 HB3.out) (by rw [List.length_drop]) (fun h => by split at h <;> cases h) (by unfold maxLen; omega) (by omega) HB3.out.size ?_; intro v4 w4 hown4 hgrow4; have hb4 := HB3.out.grown hgrow4 HB3.out.size (fun k hk => (HO3.out.lt k hk).1); have HO4 := Lib.hid hown4; have HB4 := Lib.hid hb4; clear hown4 hgrow4 hb4))
              all_goals
                go_roundg g
                case measure => omega
                refine ⟨k + 1, by omega, by go_num, insP x out, HSK, ?_, bnext HBC.out HB4.out⟩
                show w4.ownsRow _ _ _ _ _ _
                have hn : 0 + j + 1 + (out.length - j) = (insP x out).length := by rw [HF.out, List.length_append, List.length_cons, List.length_take, List.length_drop]; omega
                have hc : cells senc [] ++ cells senc (out.take j) ++ cells senc [x] ++ cells senc (out.drop j) = cells senc (insP x out) := by
                  rw [HF.out, ← List.singleton_append, cells_append, cells_append]
                  simp [cells]
                have h := HO4.out
                rw [hn, hc] at h
                exact h.mono HBC.out.size
      · have HSK : Hid (setP (l.take (k + 1)) = out) := by show _ = _; rw [HST.out]; unfold addP; rw [show wordB x = false by simpa using hw]; rfl
        rw [show wordB x = false by simpa using hw] at HWD
        clear hw HST
        go_wp2_with (go_at_call 61; refine (HWD.out wr).mono ?_; rintro e w' ⟨rfl, rfl⟩)
        go_roundg g
        case measure => omega
        case rel => exact ⟨k + 1, by omega, by go_num, out, HSK, HOW, HBX.out⟩
end Go.Proofs.YthagdkipipldlaaGreatDoor.scp

namespace Go.Proofs.YthagdkipipldlaaGreatDoor.scp
open Go.RowKit
open Go.Proofs.YthagdkipipldlaaGreatDoor.oct Go.Proofs.YthagdkipipldlaaGreatDoor.ref Go.Proofs.YthagdkipipldlaaGreatDoor.rows Go.Proofs.YthagdkipipldlaaGreatDoor.rowg

theorem all_step {α : Type} (p : α → Bool) (l : List α) (k : Nat) (h : k < l.length) (h0 : (l.take k).all p = true) : (p l[k] = true → (l.take (k + 1)).all p = true) ∧ (p l[k] = false → l.all p = false) := by
  constructor
  · intro h2
    rw [List.take_succ_eq_append_getElem h, List.all_append, h0, List.all_cons, h2]
    rfl
  · intro h2
    cases h3 : l.all p with
    | false => rfl
    | true =>
      rw [List.all_eq_true] at h3
      rw [h3 _ (List.getElem_mem h)] at h2
      cases h2
set_option maxRecDepth 100000 in
set_option maxHeartbeats 4000000 in
theorem rwithin_c (P : Option Addr) (C : Nat) (l : List T) (Q : Option Addr) (D : Nat) (m : List T) (w : World) (hp : InS w P l) (hq : InS w Q m) (hl : l.length ≤ 4194304) (hm : m.length ≤ 4194304) :
    Calls Tryz.prog 32 #[.slice P l.length C, .slice Q m.length D] w fun e w' => e = .returned (.bool (withinP l m)) ∧ w = w' := by
  have HP := Lib.hid hp
  have HH := Lib.hid (fun n => rhas_c Q D m n w hq (by omega))
  clear hp hq
  go_enter Tryz.func32, Tryz.ntmps32
  go_wp2_with fail
  go_loopg [5] l.length (fun g s6 wx => ∃ k : Nat, k + g = l.length ∧ s6 = .int .i64 k ∧ Hid ((l.take k).all (fun x => !wordB x || hasB m x) = true) ∧ wx = w)
  case atStart => exact ⟨0, by omega, rfl, rfl, rfl⟩
  case round =>
    obtain ⟨k, hkg, rfl, HN, rfl⟩ := hrel
    rcases gk with _ | g
    · obtain rfl : k = l.length := by omega
      have HR : Hid (withinP l m = true) := by have h := HN.out; rwa [List.take_length] at h
      go_wp2_with fail
      go_ret
      exact ⟨ret_bool HR.out.symm, rfl⟩
    · have hk : k < l.length := by omega
      have hkI : (k : Int) < (l.length : Int) := by omega
      obtain ⟨b, o, rfl, c0⟩ := ins_cell HP.out k hk
      obtain ⟨h1, h2⟩ := all_step _ l k hk HN.out
      obtain ⟨x, hx⟩ : ∃ x, l[k] = x := ⟨_, rfl⟩
      rw [hx] at c0 h1 h2
      have H1 := Lib.hid h1
      have H2 : Hid ((!wordB x || hasB m x) = false → withinP l m = false) := h2
      have HWD := Lib.hid (rword_c ⟨x.toArray⟩ wr)
      rw [show (⟨x.toArray⟩ : ByteArray).data.toList = x from rfl] at HWD
      have HHS := Lib.hid (HH.out x)
      clear h1 h2 hx
      by_cases hw : wordB x = true
      · rw [hw] at HWD
        by_cases hh : hasB m x = true
        · have HR := Lib.hid (H1.out (by rw [hh, Bool.or_true]))
          rw [hh] at HHS
          clear hw hh H1 H2
          go_wp2_with (first
            | (go_at_call 61; refine HWD.out.mono ?_; rintro e w' ⟨rfl, rfl⟩)
            | (go_at_call 62; refine HHS.out.mono ?_; rintro e w' ⟨rfl, rfl⟩))
          go_roundg g
          case measure => omega
          case rel => exact ⟨k + 1, by omega, by go_num, HR, rfl⟩
        · have HR := Lib.hid (H2.out (by rw [hw, show hasB m x = false by simpa using hh]; rfl))
          rw [show hasB m x = false by simpa using hh] at HHS
          clear hw hh H1 H2
          go_wp2_with (first
            | (go_at_call 61; refine HWD.out.mono ?_; rintro e w' ⟨rfl, rfl⟩)
            | (go_at_call 62; refine HHS.out.mono ?_; rintro e w' ⟨rfl, rfl⟩))
          go_ret
          exact ⟨ret_bool HR.out.symm, rfl⟩
      · have hwf : wordB x = false := by simpa using hw
        have HR := Lib.hid (H1.out (by rw [hwf]; rfl))
        rw [hwf] at HWD
        clear hw hwf H1 H2
        go_wp2_with (go_at_call 61; refine HWD.out.mono ?_; rintro e w' ⟨rfl, rfl⟩)
        go_roundg g
        case measure => omega
        case rel => exact ⟨k + 1, by omega, by go_num, HR, rfl⟩
theorem filter_take (l m : List T) (k : Nat) (h : k < l.length) : (l.take (k + 1)).filter (hasB m) = (l.take k).filter (hasB m) ++ (if hasB m l[k] = true then [l[k]] else []) := by
  rw [List.take_succ_eq_append_getElem h, List.filter_append]
  congr 1
  by_cases hh : hasB m l[k] = true
  · rw [if_pos hh]; simp [hh]
  · rw [if_neg hh]; simp [hh]
end Go.Proofs.YthagdkipipldlaaGreatDoor.scp

namespace Go.Proofs.YthagdkipipldlaaGreatDoor.scp
open Go.RowKit
open Go.Proofs.YthagdkipipldlaaGreatDoor.oct Go.Proofs.YthagdkipipldlaaGreatDoor.ref Go.Proofs.YthagdkipipldlaaGreatDoor.rows Go.Proofs.YthagdkipipldlaaGreatDoor.rowg

theorem joinP_snoc : ∀ (l : List T) (x : T), joinP (l ++ [x]) = if l = [] then x else joinP l ++ 32 :: x
  | [], x => rfl
  | [y], x => rfl
  | y :: z :: r, x => by
    have := joinP_snoc (z :: r) x
    rw [if_neg (by simp)] at this
    rw [if_neg (by simp), List.cons_append, List.cons_append, joinP, ← List.cons_append, this, joinP]
    simp
theorem joinP_le (n : Nat) : ∀ (l : List T), (∀ x ∈ l, x.length ≤ n) → (joinP l).length ≤ l.length * (n + 1)
  | [], _ => by simp [joinP]
  | [x], h => by have := h x (by simp); simp [joinP]; omega
  | x :: y :: r, h => by
    have ih := joinP_le n (y :: r) (fun z hz => h z (by simp [hz]))
    have hx := h x (by simp)
    rw [joinP, List.length_append, List.length_cons, show (x :: y :: r).length = (y :: r).length + 1 from rfl, Nat.succ_mul]
    omega
set_option maxRecDepth 100000 in
set_option maxHeartbeats 4000000 in
theorem rprint_c (P : Option Addr) (C : Nat) (l : List T) (w : World) (hp : InS w P l) (hl : l.length ≤ 4194304) :
    Calls Tryz.prog 82 #[.slice P l.length C] w fun e w' => e = .returned (tx (printP l)) ∧ Below w.heap.size w w' := by
  have HS := Lib.hid (rset_c P C l w hp hl)
  have HB : Hid (∀ k, (joinP ((setP l).take k)).length ≤ 4194304 * 65) := fun k => by
    have h1 := joinP_le 64 ((setP l).take k) (fun x hx => (word_len ((setP_mem l x).1 (List.mem_of_mem_take hx)).2).2)
    have h2 := setP_len l
    have h3 : ((setP l).take k).length ≤ 4194304 := by rw [List.length_take]; omega
    exact Nat.le_trans h1 (Nat.mul_le_mul_right 65 h3)
  have HW : Hid (∀ x ∈ setP l, x.length ≤ 64) := fun x hx => (word_len ((setP_mem l x).1 hx).2).2
  have hsl : (setP l).length ≤ 4194304 := by have := setP_len l; omega
  clear hp
  have HPR : Hid (printP l = joinP (setP l)) := rfl
  obtain ⟨S, hS⟩ : ∃ S, setP l = S := ⟨_, rfl⟩
  rw [hS] at HS HB HW HPR hsl
  clear hS
  rw [HPR.out]
  unfold tx
  go_enter Tryz.func82, Tryz.ntmps82
  go_wp2_with fail
  refine HS.out.mono ?_
  rintro e w2 ⟨v, rfl, hown, hb2⟩
  obtain ⟨p, c, rfl, hc, hn, hin⟩ := own_g senc_len (by decide) hown
  have HIN := Lib.hid hin
  have HB2 := Lib.hid hb2
  clear hown hin hb2 HS
  go_wp2_with fail
  go_loopg [3, 5] S.length (fun g s3 s5 wx => ∃ k : Nat, k + g = S.length ∧ s5 = .int .i64 k ∧ s3 = .string ⟨(joinP (S.take k)).toArray⟩ ∧ wx = w2)
  case atStart => exact ⟨0, by omega, rfl, rfl, rfl⟩
  case round =>
    obtain ⟨k, hkg, rfl, rfl, rfl⟩ := hrel
    rcases gk with _ | g
    · obtain rfl : k = S.length := by omega
      rw [List.take_length]
      go_wp2_with fail
      go_ret
      exact ⟨rfl, HB2.out⟩
    · have hk : k < S.length := by omega
      have hkI : (k : Int) < (S.length : Int) := by omega
      obtain ⟨b, o, rfl, c0⟩ := ins_cell HIN.out k hk
      have HT := Lib.hid (joinP_snoc (S.take k) S[k])
      rw [← List.take_succ_eq_append_getElem hk] at HT
      have hJ := HB.out k
      have hx := HW.out S[k] (List.getElem_mem hk)
      obtain ⟨x, hxe⟩ : ∃ x, S[k] = x := ⟨_, rfl⟩
      rw [hxe] at c0 HT hx
      have HE : Hid (S.take k = [] ↔ k = 0) := by
        show _ ↔ _
        rw [List.take_eq_nil_iff]
        constructor
        · rintro (h | h)
          · exact h
          · rw [h] at hk; simp at hk
        · exact Or.inl
      obtain ⟨J, hJe⟩ : ∃ J, joinP (S.take k) = J := ⟨_, rfl⟩
      rw [hJe] at hJ HT ⊢
      have HJe := Lib.hid hJe
      clear hJe hxe
      have hs1 : ((⟨J.toArray⟩ : ByteArray)).size = J.length := size_mk J
      have hs2 : ((⟨x.toArray⟩ : ByteArray)).size = x.length := size_mk x
      by_cases h0 : k = 0
      · have HN : Hid (joinP (S.take (k + 1)) = J ++ x) := by
          show _ = _
          rw [HT.out, if_pos (HE.out.2 h0), ← HJe.out, HE.out.2 h0]; rfl
        have i0 : ¬ ((k : Int) > 0) := by omega
        clear h0 HT HE
        go_wp2_with fail
        go_roundg g
        case measure => omega
        case rel => exact ⟨k + 1, by omega, by go_num, by rw [HN.out]; exact congrArg Value.string (ba_append J x), rfl⟩
      · have HN : Hid (joinP (S.take (k + 1)) = (J ++ [32]) ++ x) := by
          show _ = _
          rw [HT.out, if_neg (fun h => h0 (HE.out.1 h))]; simp
        have i0 : (k : Int) > 0 := by omega
        clear h0 HT HE
        go_wp2_with fail
        go_roundg g
        case measure => omega
        case rel => exact ⟨k + 1, by omega, by go_num, by rw [HN.out]; exact congrArg Value.string ((congrArg (· ++ _) (ba_append J [32])).trans (ba_append (J ++ [32]) x)), rfl⟩
end Go.Proofs.YthagdkipipldlaaGreatDoor.scp

namespace Go.Proofs.YthagdkipipldlaaGreatDoor.scp
open Go.RowKit
open Go.Proofs.YthagdkipipldlaaGreatDoor.oct Go.Proofs.YthagdkipipldlaaGreatDoor.ref Go.Proofs.YthagdkipipldlaaGreatDoor.rows Go.Proofs.YthagdkipipldlaaGreatDoor.rowg

theorem text_extract (s : ByteArray) (a b : Nat) : (s.extract a b).data.toList = (s.data.toList.drop a).take (b - a) := by
  rw [Lib.extract_data]
theorem cut_blank_at (t : T) (f k : Nat) (hf : f ≤ k) (hk : k < t.length) (hc : t[k] = 32) (hn : (32 : UInt8) ∉ (t.drop f).take (k - f)) : cutP (t.drop f) = (t.drop f).take (k - f) :: cutP (t.drop (k + 1)) := by
  have e : t.drop f = (t.drop f).take (k - f) ++ 32 :: t.drop (k + 1) := by
    conv => lhs; rw [← List.take_append_drop (k - f) (t.drop f)]
    rw [List.drop_drop, show f + (k - f) = k by omega, List.drop_eq_getElem_cons hk, hc]
  have h := cutP_app _ (32 :: t.drop (k + 1)) hn [] _ (cutP_blank _)
  rw [← e, List.append_nil] at h
  exact h
theorem cut_end (t : T) (f : Nat) (hn : (32 : UInt8) ∉ (t.drop f).take (t.length - f)) : cutP (t.drop f) = [(t.drop f).take (t.length - f)] := by
  have e : (t.drop f).take (t.length - f) = t.drop f := List.take_of_length_le (by rw [List.length_drop]; omega)
  rw [e] at hn ⊢
  have h := cutP_app (t.drop f) [] hn [] [] rfl
  rwa [List.append_nil] at h
theorem blank_step (t : T) (f k : Nat) (hf : f ≤ k) (hk : k < t.length) (hc : t[k] ≠ 32) (hn : (32 : UInt8) ∉ (t.drop f).take (k - f)) : (32 : UInt8) ∉ (t.drop f).take (k + 1 - f) := by
  have hl : k - f < (t.drop f).length := by rw [List.length_drop]; omega
  rw [show k + 1 - f = k - f + 1 by omega, List.take_succ_eq_append_getElem hl, List.mem_append, List.mem_singleton, List.getElem_drop]
  rintro (h | h)
  · exact hn h
  · refine hc ?_
    rw [h]
    congr 1; omega
theorem onceP_snoc (d : List T) (x : T) : onceP (d ++ [x]) = if hasB (onceP d) x = true then onceP d else onceP d ++ [x] := by
  unfold onceP
  rw [List.foldl_append]
  rfl
theorem once_le (d : List T) : (onceP d).length ≤ d.length := len_sub _ _ (onceP_spec d).1 fun x hx => ((onceP_spec d).2 x).1 hx
theorem cut_count (t : T) : (cutP t).length ≤ t.length + 1 := by
  rw [← cutP_len]
  induction cutP t with
  | nil => simp
  | cons x l ih => rw [List.map_cons, List.sum_cons, List.length_cons]; omega
/-- what Parse answers -/
def ParA (w w' : World) (r : Nat × List T) (e : Ending) : Prop := ∃ v, e = .returned (.tuple #[v, .int .i64 (r.1 : Nat)]) ∧ w'.ownsRow w.heap.size 9 1 v r.2.length (cells senc r.2) ∧ Below w.heap.size w w'
/-- how far the cutting is: at k, the word in hand begins at f, d is done -/
structure CutI (t : T) (k f : Nat) (d : List T) : Prop where
  inn : k ≤ t.length → f ≤ k ∧ cutP t = d ++ cutP (t.drop f) ∧ (32 : UInt8) ∉ (t.drop f).take (k - f)
  out : k = t.length + 1 → cutP t = d
  ok : d.all wordB = true
  len : d.length ≤ t.length + 1
theorem cuti_start (t : T) : CutI t 0 0 [] := ⟨fun _ => ⟨Nat.le_refl _, rfl, by simp⟩, fun h => by omega, rfl, by simp⟩
theorem cuti_sign {t : T} {k f : Nat} {d : List T} (h : CutI t k f d) (hk : k < t.length) (hc : t[k] ≠ 32) : CutI t (k + 1) f d := by
  obtain ⟨h1, h2, h3⟩ := h.inn (by omega)
  exact ⟨fun _ => ⟨by omega, h2, blank_step t f k h1 hk hc h3⟩, fun e => by omega, h.ok, h.len⟩
theorem cuti_seg {t : T} {k f : Nat} {d : List T} (h : CutI t k f d) (hk : k ≤ t.length) (hc : ∀ h : k < t.length, t[k] = 32) : cutP t = d ++ (t.drop f).take (k - f) :: (if k < t.length then cutP (t.drop (k + 1)) else []) := by
  obtain ⟨h1, h2, h3⟩ := h.inn hk
  by_cases hlt : k < t.length
  · rw [if_pos hlt, h2, cut_blank_at t f k h1 hlt (hc hlt) h3]
  · obtain rfl : k = t.length := by omega
    rw [if_neg hlt, h2, cut_end t f h3]
theorem cuti_word {t : T} {k f : Nat} {d : List T} (h : CutI t k f d) (hk : k ≤ t.length) (hc : ∀ h : k < t.length, t[k] = 32) (hw : wordB ((t.drop f).take (k - f)) = true) : CutI t (k + 1) (k + 1) (d ++ [(t.drop f).take (k - f)]) := by
  have e := cuti_seg h hk hc
  refine ⟨fun h2 => ⟨Nat.le_refl _, ?_, by simp⟩, fun h2 => ?_, ?_, ?_⟩
  · rw [e, if_pos (by omega)]; simp
  · rw [e, if_neg (by omega)]
  · rw [List.all_append, h.ok, List.all_cons, hw]; rfl
  · have h2 := cut_count t
    rw [e, List.length_append, List.length_cons] at h2
    rw [List.length_append, List.length_singleton]; omega
theorem cuti_bad {t : T} {k f : Nat} {d : List T} (h : CutI t k f d) (hk : k ≤ t.length) (hc : ∀ h : k < t.length, t[k] = 32) (hw : wordB ((t.drop f).take (k - f)) = false) : (cutP t).all wordB = false := by
  rw [cuti_seg h hk hc, List.all_append, List.all_cons, hw, Bool.false_and, Bool.and_false]
theorem parse_long {t : T} (h : 16384 < t.length) : parseP t = (2, []) := by unfold parseP; rw [if_pos h]
theorem parse_bad {t : T} (h : ¬ 16384 < t.length) (h0 : t ≠ []) (hc : (cutP t).all wordB = false) : parseP t = (3, []) := by
  unfold parseP; rw [if_neg h, if_neg h0, hc]; rfl
theorem parse_many {t : T} {d : List T} (h : ¬ 16384 < t.length) (h0 : t ≠ []) (hd : cutP t = d) (hc : d.all wordB = true) : parseP t = if 32 < (onceP d).length then (2, []) else (0, setP (onceP d)) := by
  unfold parseP
  rw [if_neg h, if_neg h0, hd, hc, if_pos rfl]
  rw [show setP (onceP d) = setP d from setP_eq fun y _ => (onceP_spec d).2 y]
end Go.Proofs.YthagdkipipldlaaGreatDoor.scp

namespace Go.Proofs.YthagdkipipldlaaGreatDoor.scp
open Go.RowKit
open Go.Proofs.YthagdkipipldlaaGreatDoor.oct Go.Proofs.YthagdkipipldlaaGreatDoor.ref Go.Proofs.YthagdkipipldlaaGreatDoor.rows Go.Proofs.YthagdkipipldlaaGreatDoor.rowg

/-- texts that have a size -/
def FitS (l : List T) : Prop := ∀ x ∈ l, x.length ≤ 140737488351232
/-- a list at a slice's address: where, its room, its texts -/
abbrev Lst := Option Addr × Nat × List T
def lval (x : Lst) : Value := .slice x.1 x.2.2.length x.2.1
def lenc (x : Lst) : List Value := [lval x]
structure GoodL (w : World) (x : Lst) : Prop where
  row : InS w x.1 x.2.2
  room : x.2.2.length ≤ x.2.1
  nil : x.1 = none → x.2.1 = 0
  fit : FitS x.2.2
  few : x.2.2.length ≤ 4194304
theorem GoodL.below {w w' : World} {x : Lst} (h : GoodL w x) (hb : Below w.heap.size w w') : GoodL w' x := ⟨ins_below h.row hb, h.room, h.nil, h.fit, h.few⟩
/-- a list that is handed in: as long as memory bears -/
structure ArgL (w : World) (x : Lst) : Prop where
  row : InS w x.1 x.2.2
  room : x.2.2.length ≤ x.2.1
  nil : x.1 = none → x.2.1 = 0
  fit : FitS x.2.2
theorem ins_new (W : World) (l : List T) (e : Nat) : InS (W.alloc (.cells (cells senc l).toArray e)) (some ⟨W.heap.size, 0, none⟩) l := by
  intro _
  refine ⟨_, _, rfl, ?_⟩
  intro i hi j hj
  have h := new_cellsG W W.heap.size e rfl (cells senc l) (i * 1 + j)
  have hc := cells_at senc_len l i hi j hj
  have hl : j < (senc l[i]).length := by rw [senc_len]; exact hj
  rw [List.getElem?_eq_getElem hl] at hc ⊢
  have h2 := h _ hc
  rw [add_none] at h2
  rw [show 0 + i * 1 + j = 0 + (i * 1 + j) by omega]
  exact h2
/-- a row of the call's own is a good list -/
theorem own_good {w : World} {B : Nat} {v : Value} {l : List T} (h : w.ownsRow B 9 1 v l.length (cells senc l)) (hf : FitS l) (hl : l.length ≤ 4194304) : ∃ p c, v = lval (p, c, l) ∧ GoodL w (p, c, l) := by
  obtain ⟨p, c, hv, hc, hn, hin⟩ := own_g senc_len (by decide) h
  exact ⟨p, c, hv, hin, hc, hn, hf, hl⟩
theorem fit_set (l : List T) : FitS (setP l) := fun x hx => by have := (word_len ((setP_mem l x).1 hx).2).2; omega
theorem known_parse : parseP [98, 32, 97, 32, 98] = (0, [[97], [98]]) := by decide +kernel
theorem known_print : printP [[98], [], [97]] = [97, 32, 98] := by decide +kernel
theorem known_within : withinP [[97]] [[97], [98]] = true := by decide +kernel
theorem known_word : wordB [97] = true := by decide +kernel
end Go.Proofs.YthagdkipipldlaaGreatDoor.scp
