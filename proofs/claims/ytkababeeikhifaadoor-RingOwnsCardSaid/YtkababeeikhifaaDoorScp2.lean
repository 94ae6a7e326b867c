/- What follows of sets of words in plain lists: printed and parsed, within, in common, together. No condition. -/
import Derived.Test.YtkababeeikhifaaDoorScp1
namespace Go.Proofs.YtkababeeikhifaaDoor.scp

theorem cutP_blank (r : T) : cutP (32 :: r) = [] :: cutP r := by rw [cutP, if_pos rfl]
theorem cutP_sign {c : UInt8} (r : T) (h : c ≠ 32) (x : T) (m : List T) (hc : cutP r = x :: m) : cutP (c :: r) = (c :: x) :: m := by rw [cutP, if_neg h, hc]
theorem cutP_ne : ∀ s : T, ∃ x m, cutP s = x :: m
  | [] => ⟨[], [], rfl⟩
  | c :: r => by
    by_cases h : c = 32
    · subst h; exact ⟨_, _, cutP_blank r⟩
    · obtain ⟨x, m, hc⟩ := cutP_ne r
      exact ⟨_, _, cutP_sign r h x m hc⟩
theorem cutP_app : ∀ (a r : T), (32 : UInt8) ∉ a → ∀ x m, cutP r = x :: m → cutP (a ++ r) = (a ++ x) :: m
  | [], r, _, x, m, h => h
  | c :: a, r, h, x, m, hc => by
    rw [List.cons_append]
    exact cutP_sign (a ++ r) (fun e => h (by simp [e])) (a ++ x) m (cutP_app a r (fun e => h (by simp [e])) x m hc)
theorem cutP_join : ∀ (l : List T), l ≠ [] → (∀ x ∈ l, (32 : UInt8) ∉ x) → cutP (joinP l) = l
  | [], h, _ => absurd rfl h
  | [x], _, h => by
    have := cutP_app x [] (h x (by simp)) [] [] rfl
    simpa [joinP] using this
  | x :: y :: r, _, h => by
    have h2 := cutP_join (y :: r) (by simp) (fun z hz => h z (by simp [hz]))
    have := cutP_app x (32 :: joinP (y :: r)) (h x (by simp)) [] _ (cutP_blank _)
    rw [joinP, this, h2]
    simp
theorem cutP_len : ∀ s : T, ((cutP s).map (fun x => x.length + 1)).sum = s.length + 1
  | [] => rfl
  | c :: r => by
    have ih := cutP_len r
    by_cases h : c = 32
    · subst h
      rw [cutP_blank, List.map_cons, List.sum_cons, ih]
      simp; omega
    · obtain ⟨x, m, hc⟩ := cutP_ne r
      rw [hc, List.map_cons, List.sum_cons] at ih
      rw [cutP_sign r h x m hc, List.map_cons, List.sum_cons]
      simp only [List.length_cons]
      omega
theorem joinP_len : ∀ l : List T, l ≠ [] → (joinP l).length + 1 = (l.map (fun x => x.length + 1)).sum
  | [], h => absurd rfl h
  | [x], _ => by simp [joinP]
  | x :: y :: r, _ => by
    have ih := joinP_len (y :: r) (by simp)
    rw [joinP, List.length_append, List.length_cons, List.map_cons, List.sum_cons, ← ih]
    omega
theorem word_blank {s : T} (h : wordB s = true) : (32 : UInt8) ∉ s := by
  intro hm
  unfold wordB at h
  rw [Bool.and_eq_true, List.all_eq_true] at h
  have := h.2 _ hm
  revert this
  decide
theorem word_len {s : T} (h : wordB s = true) : 1 ≤ s.length ∧ s.length ≤ 64 := by
  unfold wordB at h
  rw [Bool.and_eq_true, Bool.and_eq_true, decide_eq_true_iff, decide_eq_true_iff] at h
  exact h.1
theorem sum_sub (f : T → Nat) : ∀ (a b : List T), a.Nodup → (∀ x ∈ a, x ∈ b) → (a.map f).sum ≤ (b.map f).sum
  | [], _, _, _ => by simp
  | x :: a, b, ha, h => by
    obtain ⟨h1, h2⟩ := List.nodup_cons.1 ha
    have hx := h x (by simp)
    have hp := List.perm_cons_erase hx
    have hs : (b.map f).sum = f x + ((b.erase x).map f).sum := by
      rw [(hp.map f).sum_nat, List.map_cons, List.sum_cons]
    rw [hs, List.map_cons, List.sum_cons]
    have := sum_sub f a (b.erase x) h2 (fun y hy => (List.mem_erase_of_ne (fun e => h1 (by rw [← e]; exact hy))).2 (h y (by simp [hy])))
    omega
theorem len_sub (a b : List T) (ha : a.Nodup) (h : ∀ x ∈ a, x ∈ b) : a.length ≤ b.length := by
  have hs := sum_sub (fun _ => 1) a b ha h
  have e : ∀ l : List T, (l.map (fun _ => 1)).sum = l.length := by
    intro l
    induction l with
    | nil => rfl
    | cons x l ih => rw [List.map_cons, List.sum_cons, ih, List.length_cons]; omega
  rw [e, e] at hs
  exact hs
theorem onceP_spec (l : List T) : (onceP l).Nodup ∧ ∀ y, y ∈ onceP l ↔ y ∈ l := by
  have go : ∀ (l out : List T), out.Nodup → (l.foldl (fun out x => if hasB out x then out else out ++ [x]) out).Nodup ∧ ∀ y, y ∈ l.foldl (fun out x => if hasB out x then out else out ++ [x]) out ↔ y ∈ l ∨ y ∈ out := by
    intro l
    induction l with
    | nil => intro out h; exact ⟨h, fun y => by simp⟩
    | cons x l ih =>
      intro out h
      rw [List.foldl_cons]
      by_cases hh : hasB out x = true
      · rw [if_pos hh]
        obtain ⟨h1, h2⟩ := ih out h
        refine ⟨h1, fun y => ?_⟩
        rw [h2, List.mem_cons]
        constructor
        · rintro (h | h)
          · exact Or.inl (Or.inr h)
          · exact Or.inr h
        · rintro ((rfl | h) | h)
          · exact Or.inr ((hasB_iff _ _).1 hh)
          · exact Or.inl h
          · exact Or.inr h
      · rw [if_neg hh]
        have hn : x ∉ out := fun e => hh ((hasB_iff _ _).2 e)
        obtain ⟨h1, h2⟩ := ih (out ++ [x]) (by
          rw [List.nodup_append]
          refine ⟨h, by simp, fun a ha b hb => ?_⟩
          rw [List.mem_singleton] at hb
          subst hb
          exact fun e => hn (by rw [← e]; exact ha))
        refine ⟨h1, fun y => ?_⟩
        rw [h2, List.mem_cons, List.mem_append, List.mem_singleton]
        constructor
        · rintro (h | h | h)
          · exact Or.inl (Or.inr h)
          · exact Or.inr h
          · exact Or.inl (Or.inl h)
        · rintro ((h | h) | h)
          · exact Or.inr (Or.inr h)
          · exact Or.inl h
          · exact Or.inr (Or.inl h)
  obtain ⟨h1, h2⟩ := go l [] List.nodup_nil
  exact ⟨h1, fun y => by rw [show onceP l = l.foldl (fun out x => if hasB out x then out else out ++ [x]) [] from rfl, h2]; simp⟩
theorem once_set (l : List T) (h : ∀ x ∈ l, wordB x = true) : (onceP l).length = (setP l).length := by
  obtain ⟨h1, h2⟩ := onceP_spec l
  refine Nat.le_antisymm (len_sub _ _ h1 (fun x hx => ?_)) (len_sub _ _ (srt_nodup (setP_srt l)) (fun x hx => ?_))
  · exact (setP_mem l x).2 ⟨(h2 x).1 hx, h x ((h2 x).1 hx)⟩
  · exact (h2 x).2 ((setP_mem l x).1 hx).1
theorem join_most (l : List T) (hw : ∀ x ∈ l, wordB x = true) (hl : l.length ≤ 32) : (joinP l).length ≤ 16384 := by
  by_cases hn : l = []
  · subst hn; decide
  · have h1 := joinP_len l hn
    have go : ∀ l : List T, (∀ x ∈ l, wordB x = true) → (l.map (fun x => x.length + 1)).sum ≤ 65 * l.length := by
      intro l
      induction l with
      | nil => intro _; simp
      | cons x l ih =>
        intro h
        have h2 := ih (fun y hy => h y (by simp [hy]))
        have h3 := (word_len (h x (by simp))).2
        rw [List.map_cons, List.sum_cons, List.length_cons]
        omega
    have := go l hw
    omega
/-- a set of few words that is printed is parsed to itself -/
theorem parse_join (l : List T) (hs : Srt l) (hw : ∀ x ∈ l, wordB x = true) (hl : l.length ≤ 32) : parseP (joinP l) = (0, l) := by
  unfold parseP
  rw [if_neg (by have := join_most l hw hl; omega)]
  by_cases hn : l = []
  · subst hn; rfl
  · have hc := cutP_join l hn (fun x hx => word_blank (hw x hx))
    have hj : joinP l ≠ [] := by
      intro e
      have h1 := joinP_len l hn
      rw [e] at h1
      cases l with
      | nil => exact hn rfl
      | cons x r =>
        have := (word_len (hw x (by simp))).1
        rw [List.map_cons, List.sum_cons] at h1
        simp only [List.length_nil] at h1
        omega
    rw [if_neg hj, hc, if_pos (List.all_eq_true.2 hw), once_set l hw, setP_of_srt hs hw, if_neg (by omega)]
theorem setP_idem (l : List T) : setP (setP l) = setP l := setP_of_srt (setP_srt l) (fun y hy => ((setP_mem l y).1 hy).2)
theorem parse_print (l : List T) (h : (setP l).length ≤ 32) : parseP (printP (setP l)) = (0, setP l) := by
  unfold printP
  rw [setP_idem]
  exact parse_join (setP l) (setP_srt l) (fun y hy => ((setP_mem l y).1 hy).2) h
/-- what is parsed -/
theorem parse_ok {s : T} (h : (parseP s).1 = 0) : (parseP s).2.length ≤ 32 ∧ parseP (printP (parseP s).2) = (0, (parseP s).2) ∧ (printP (parseP s).2).length ≤ s.length ∧ ∃ l, (parseP s).2 = setP l := by
  unfold parseP at h
  by_cases h1 : 16384 < s.length
  · rw [if_pos h1] at h; cases h
  · rw [if_neg h1] at h
    by_cases h2 : s = []
    · subst h2
      exact ⟨by decide, by decide, by decide, [], rfl⟩
    · rw [if_neg h2] at h
      by_cases h3 : (cutP s).all wordB = true
      · rw [if_pos h3] at h
        by_cases h4 : 32 < (onceP (cutP s)).length
        · rw [if_pos h4] at h; cases h
        · have hv : parseP s = (0, setP (cutP s)) := by unfold parseP; rw [if_neg h1, if_neg h2, if_pos h3, if_neg h4]
          have hw := List.all_eq_true.1 h3
          have hl : (setP (cutP s)).length ≤ 32 := by rw [← once_set _ hw]; omega
          rw [hv]
          refine ⟨hl, parse_print _ hl, ?_, _, rfl⟩
          show (printP (setP (cutP s))).length ≤ s.length
          unfold printP
          rw [setP_idem]
          by_cases hn : setP (cutP s) = []
          · rw [hn]; exact Nat.zero_le _
          · have e1 := joinP_len _ hn
            have e2 := cutP_len s
            have e3 := sum_sub (fun x => x.length + 1) (setP (cutP s)) (cutP s) (srt_nodup (setP_srt _)) (fun x hx => ((setP_mem _ x).1 hx).1)
            omega
      · rw [if_neg h3] at h; cases h
theorem parse_err {s : T} (h : (parseP s).1 ≠ 0) : (parseP s).2 = [] := by
  unfold parseP at h ⊢
  by_cases h1 : 16384 < s.length
  · rw [if_pos h1]
  · rw [if_neg h1] at h ⊢
    by_cases h2 : s = []
    · rw [if_pos h2]
    · rw [if_neg h2] at h ⊢
      by_cases h3 : (cutP s).all wordB = true
      · rw [if_pos h3] at h ⊢
        by_cases h4 : 32 < (onceP (cutP s)).length
        · rw [if_pos h4]
        · rw [if_neg h4] at h; exact absurd rfl h
      · rw [if_neg h3]
theorem within_iff (a b : List T) : withinP a b = true ↔ ∀ x ∈ a, wordB x = true → x ∈ b := by
  unfold withinP
  rw [List.all_eq_true]
  constructor
  · intro h x hx hw
    have := h x hx
    rw [hw] at this
    exact (hasB_iff b x).1 (by simpa using this)
  · intro h x hx
    cases hw : wordB x with
    | false => rfl
    | true => rw [(hasB_iff b x).2 (h x hx hw)]; rfl
theorem meet_mem (a b : List T) (y : T) : y ∈ meetP a b ↔ (y ∈ a ∧ y ∈ b) ∧ wordB y = true := by
  unfold meetP
  rw [setP_mem, List.mem_filter, hasB_iff]
theorem both_mem (a b : List T) (y : T) : y ∈ bothP [a, b] ↔ (y ∈ a ∨ y ∈ b) ∧ wordB y = true := by
  unfold bothP
  rw [setP_mem]
  simp
/-- the orders of sets -/
theorem orders (a b : List T) :
    withinP a b = decide (meetP a b = setP a) ∧ withinP a b = decide (bothP [a, b] = setP b) ∧ withinP (meetP a b) a = true ∧ withinP (meetP a b) b = true ∧ withinP a (bothP [a, b]) = true ∧ withinP b (bothP [a, b]) = true ∧
      meetP b a = meetP a b ∧ bothP [b, a] = bothP [a, b] ∧ (meetP a b).length + (bothP [a, b]).length = (setP a).length + (setP b).length := by
  have hm : Srt (meetP a b) := setP_srt _
  have hu : Srt (bothP [a, b]) := setP_srt _
  refine ⟨?_, ?_, (within_iff _ _).2 fun x hx _ => ((meet_mem a b x).1 hx).1.1, (within_iff _ _).2 fun x hx _ => ((meet_mem a b x).1 hx).1.2, (within_iff _ _).2 fun x hx hw => (both_mem a b x).2 ⟨Or.inl hx, hw⟩, (within_iff _ _).2 fun x hx hw => (both_mem a b x).2 ⟨Or.inr hx, hw⟩, ?_, ?_, ?_⟩
  · rw [Bool.eq_iff_iff, within_iff, decide_eq_true_iff]
    constructor
    · intro h
      exact srt_ext hm (setP_srt a) (fun y => by rw [meet_mem, setP_mem]; exact ⟨fun h2 => ⟨h2.1.1, h2.2⟩, fun h2 => ⟨⟨h2.1, h y h2.1 h2.2⟩, h2.2⟩⟩)
    · intro h x hx hw
      have := (setP_mem a x).2 ⟨hx, hw⟩
      rw [← h] at this
      exact ((meet_mem a b x).1 this).1.2
  · rw [Bool.eq_iff_iff, within_iff, decide_eq_true_iff]
    constructor
    · intro h
      exact srt_ext hu (setP_srt b) (fun y => by
        rw [both_mem, setP_mem]
        exact ⟨fun h2 => ⟨by rcases h2.1 with h3 | h3; exact h y h3 h2.2; exact h3, h2.2⟩, fun h2 => ⟨Or.inr h2.1, h2.2⟩⟩)
    · intro h x hx hw
      have := (both_mem a b x).2 ⟨Or.inl hx, hw⟩
      rw [h] at this
      exact ((setP_mem b x).1 this).1
  · exact srt_ext (setP_srt _) hm (fun y => by
      rw [meet_mem, meet_mem]
      exact ⟨fun h => ⟨⟨h.1.2, h.1.1⟩, h.2⟩, fun h => ⟨⟨h.1.2, h.1.1⟩, h.2⟩⟩)
  · exact srt_ext (setP_srt _) hu (fun y => by
      rw [both_mem, both_mem]
      exact ⟨fun h => ⟨h.1.symm, h.2⟩, fun h => ⟨h.1.symm, h.2⟩⟩)
  · have nm := srt_nodup hm
    have nu := srt_nodup hu
    have nx := srt_nodup (setP_srt a)
    have ny := srt_nodup (setP_srt b)
    have e1 : (meetP a b).length = ((setP a).filter (hasB (setP b))).length := by
      refine Nat.le_antisymm (len_sub _ _ nm fun x hx => ?_) (len_sub _ _ (nx.filter _) fun x hx => ?_)
      · obtain ⟨⟨h1, h2⟩, h3⟩ := (meet_mem a b x).1 hx
        exact List.mem_filter.2 ⟨(setP_mem a x).2 ⟨h1, h3⟩, (hasB_iff _ _).2 ((setP_mem b x).2 ⟨h2, h3⟩)⟩
      · obtain ⟨h1, h2⟩ := List.mem_filter.1 hx
        obtain ⟨h3, h4⟩ := (setP_mem a x).1 h1
        exact (meet_mem a b x).2 ⟨⟨h3, ((setP_mem b x).1 ((hasB_iff _ _).1 h2)).1⟩, h4⟩
    have e2 : (bothP [a, b]).length = (setP b ++ (setP a).filter (fun x => !hasB (setP b) x)).length := by
      refine Nat.le_antisymm (len_sub _ _ nu fun x hx => ?_) (len_sub _ _ ?_ fun x hx => ?_)
      · obtain ⟨h1, h2⟩ := (both_mem a b x).1 hx
        rw [List.mem_append, List.mem_filter]
        by_cases hb : x ∈ setP b
        · exact Or.inl hb
        · rcases h1 with h1 | h1
          · exact Or.inr ⟨(setP_mem a x).2 ⟨h1, h2⟩, by
              have : hasB (setP b) x = false := by
                cases h3 : hasB (setP b) x with
                | false => rfl
                | true => exact absurd ((hasB_iff _ _).1 h3) hb
              rw [this]; rfl⟩
          · exact absurd ((setP_mem b x).2 ⟨h1, h2⟩) hb
      · rw [List.nodup_append]
        refine ⟨ny, nx.filter _, fun x hx y hy e => ?_⟩
        subst e
        have h := (List.mem_filter.1 hy).2
        rw [(hasB_iff _ _).2 hx] at h
        cases h
      · rw [List.mem_append, List.mem_filter] at hx
        rcases hx with hx | ⟨hx, _⟩
        · obtain ⟨h1, h2⟩ := (setP_mem b x).1 hx
          exact (both_mem a b x).2 ⟨Or.inr h1, h2⟩
        · obtain ⟨h1, h2⟩ := (setP_mem a x).1 hx
          exact (both_mem a b x).2 ⟨Or.inl h1, h2⟩
    have e3 : ∀ (p : T → Bool) (l : List T), (l.filter p).length + (l.filter (fun x => !p x)).length = l.length := by
      intro p l
      induction l with
      | nil => rfl
      | cons x l ih =>
        cases h : p x with
        | true => simp only [List.filter_cons, h, if_true, Bool.not_true, Bool.false_eq_true, if_false, List.length_cons]; omega
        | false => simp only [List.filter_cons, h, if_true, Bool.not_false, Bool.false_eq_true, if_false, List.length_cons]; omega
    rw [e1, e2, List.length_append]
    have := e3 (hasB (setP b)) (setP a)
    omega
end Go.Proofs.YtkababeeikhifaaDoor.scp
