/- The developers' reader in plain lists reads just the texts of objects: obj_parse. No condition. -/
import Derived.Test.YtbgnoobgnpebdaaDoorJdv1
namespace Go.Proofs.YtbgnoobgnpebdaaDoor.jdv
open Go.Proofs.YtbgnoobgnpebdaaDoor.jsn
open Go.Lib (hasPrefix trimPrefix)

theorem valP_sound {nm l r : List UInt8} {m : Mem} (h : valP nm l = some (m, r)) : l = valT m ++ r ∧ m.name = nm ∧ inForm m = true ∧ i64 m := by
  unfold valP at h
  by_cases h1 : hasPrefix l [34] = true
  · rw [if_pos h1] at h
    cases h2 : textP l with
    | none => rw [h2] at h; cases h
    | some y =>
      obtain ⟨t, r1⟩ := y
      rw [h2] at h
      cases h
      refine ⟨?_, rfl, rfl, by unfold i64; dsimp only; omega⟩
      rw [textP_sound h2]
      rfl
  · rw [if_neg h1] at h
    by_cases h2 : hasPrefix l [116, 114, 117, 101] = true
    · rw [if_pos h2] at h
      obtain ⟨l, rfl⟩ := (hp_iff _ _).1 h2
      cases h
      exact ⟨rfl, rfl, rfl, by unfold i64; dsimp only; omega⟩
    · rw [if_neg h2] at h
      by_cases h3 : hasPrefix l [102, 97, 108, 115, 101] = true
      · rw [if_pos h3] at h
        obtain ⟨l, rfl⟩ := (hp_iff _ _).1 h3
        cases h
        exact ⟨rfl, rfl, rfl, by unfold i64; dsimp only; omega⟩
      · rw [if_neg h3] at h
        cases h4 : numP l with
        | none => rw [h4] at h; cases h
        | some y =>
          obtain ⟨n, r1⟩ := y
          rw [h4] at h
          cases h
          obtain ⟨h5, h6, h7⟩ := numP_sound h4
          exact ⟨h5, rfl, rfl, h6, h7⟩
theorem valP_val (m : Mem) (x : UInt8) (r : List UInt8) (h : inForm m = true) (hi : i64 m) (hx : x = 44 ∨ x = 125) : valP m.name (valT m ++ x :: r) = some (m, x :: r) := by
  obtain ⟨nm, k, t, n, b⟩ := m
  unfold valP
  rcases inForm_cases h with ⟨hk, hn, hb⟩ | ⟨hk, ht, hb⟩ | ⟨hk, ht, hn⟩
  · dsimp only at hk hn hb
    subst hk hn hb
    show (if hasPrefix (strT t ++ x :: r) [34] = true then (textP (strT t ++ x :: r)).map _ else _) = _
    rw [if_pos (show hasPrefix (strT t ++ x :: r) [34] = true from hp_self _ _), textP_str]
    rfl
  · dsimp only at hk ht hb
    subst hk ht hb
    obtain ⟨c, d, hcd⟩ : ∃ c d, intD n = c :: d := by
      cases hh : intD n with
      | nil =>
        exfalso
        unfold intD at hh
        have := natD_pos n.natAbs
        split at hh
        · cases hh
        · rw [hh] at this; simp at this
      | cons c d => exact ⟨c, d, rfl⟩
    have hc := intD_signs n c (by rw [hcd]; simp)
    have hne : c ≠ 34 ∧ c ≠ 116 ∧ c ≠ 102 := by
      rcases hc with rfl | hc
      · decide
      · refine ⟨?_, ?_, ?_⟩ <;> (rintro rfl; revert hc; decide)
    show (if hasPrefix (intD n ++ x :: r) [34] = true then _ else if hasPrefix (intD n ++ x :: r) [116, 114, 117, 101] = true then _ else if hasPrefix (intD n ++ x :: r) [102, 97, 108, 115, 101] = true then _ else (numP (intD n ++ x :: r)).map _) = _
    rw [numP_int n hi.1 hi.2 x r hx]
    rw [hcd, List.cons_append, if_neg (by rw [hp_head _ _ hne.1]; decide), if_neg (by rw [hp_head _ _ hne.2.1]; decide), if_neg (by rw [hp_head _ _ hne.2.2]; decide)]
    rfl
  · dsimp only at hk ht hn
    subst hk ht hn
    cases b
    · show (if hasPrefix (102 :: ([97, 108, 115, 101] ++ x :: r)) [34] = true then _ else if hasPrefix (102 :: ([97, 108, 115, 101] ++ x :: r)) [116, 114, 117, 101] = true then _ else if hasPrefix (102 :: ([97, 108, 115, 101] ++ x :: r)) [102, 97, 108, 115, 101] = true then _ else _) = _
      rw [if_neg (by rw [hp_head _ _ (by decide)]; decide), if_neg (by rw [hp_head _ _ (by decide)]; decide), if_pos (show hasPrefix (102 :: ([97, 108, 115, 101] ++ x :: r)) [102, 97, 108, 115, 101] = true from (hp_iff _ _).2 ⟨x :: r, rfl⟩)]
      rfl
    · show (if hasPrefix (116 :: ([114, 117, 101] ++ x :: r)) [34] = true then _ else if hasPrefix (116 :: ([114, 117, 101] ++ x :: r)) [116, 114, 117, 101] = true then _ else _) = _
      rw [if_neg (by rw [hp_head _ _ (by decide)]; decide), if_pos (show hasPrefix (116 :: ([114, 117, 101] ++ x :: r)) [116, 114, 117, 101] = true from (hp_iff _ _).2 ⟨x :: r, rfl⟩)]
      rfl
theorem memP_sound {l r : List UInt8} {m : Mem} (h : memP l = some (m, r)) : l = memT m ++ r ∧ inForm m = true ∧ i64 m := by
  unfold memP at h
  cases h1 : textP l with
  | none => rw [h1] at h; cases h
  | some y =>
    obtain ⟨nm, r1⟩ := y
    rw [h1] at h
    dsimp only at h
    by_cases h2 : hasPrefix r1 [58] = true
    · rw [if_pos h2] at h
      obtain ⟨r1, rfl⟩ := (hp1 _ _).1 h2
      obtain ⟨h3, h4, h5, h6⟩ := valP_sound h
      change r1 = _ at h3
      refine ⟨?_, h5, h6⟩
      rw [textP_sound h1, h3, memT, h4]
      simp
    · rw [if_neg h2] at h; cases h
theorem memP_mem (m : Mem) (x : UInt8) (r : List UInt8) (h : inForm m = true) (hi : i64 m) (hx : x = 44 ∨ x = 125) : memP (memT m ++ x :: r) = some (m, x :: r) := by
  unfold memP
  have e : memT m ++ x :: r = strT m.name ++ 58 :: (valT m ++ x :: r) := by simp [memT]
  rw [e, textP_str]
  dsimp only
  rw [if_pos (hp_self _ _)]
  exact valP_val m x r h hi hx
/-- members each with a , ahead -/
def commas (ms : List Mem) : List UInt8 := ms.flatMap fun m => 44 :: memT m
theorem memsT_cons (m : Mem) (r : List Mem) : memsT (m :: r) = memT m ++ commas r := by
  induction r generalizing m with
  | nil => simp [memsT, commas]
  | cons a r ih =>
    rw [memsT, if_neg (by simp), ih a]
    simp [commas]
theorem memsT_append (a : List Mem) (ha : a ≠ []) (b : List Mem) : memsT (a ++ b) = memsT a ++ commas b := by
  cases a with
  | nil => exact absurd rfl ha
  | cons m a => rw [List.cons_append, memsT_cons, memsT_cons]; simp [commas]
theorem moreP_eq (f : Nat) (acc : List Mem) (l : List UInt8) : moreP f acc l = if hasPrefix l [44] = true then (match f with
      | 0 => none
      | g + 1 => match memP (l.drop 1) with
        | none => none
        | some (m, r) => moreP g (acc ++ [m]) r) else some (acc, l) := by
  cases f <;> rfl
theorem moreP_stop (f : Nat) (acc : List Mem) (l : List UInt8) (h : hasPrefix l [44] = false) : moreP f acc l = some (acc, l) := by rw [moreP_eq, if_neg (by rw [h]; decide)]
theorem moreP_full (acc : List Mem) (l : List UInt8) (h : hasPrefix l [44] = true) : moreP 0 acc l = none := by rw [moreP_eq, if_pos h]
theorem moreP_none (f : Nat) (acc : List Mem) (l : List UInt8) (h : hasPrefix l [44] = true) (hm : memP (l.drop 1) = none) : moreP f acc l = none := by
  rw [moreP_eq, if_pos h]
  cases f with
  | zero => rfl
  | succ g => dsimp only; rw [hm]
theorem moreP_some (f : Nat) (acc : List Mem) (l : List UInt8) (m : Mem) (r : List UInt8) (h : hasPrefix l [44] = true) (hm : memP (l.drop 1) = some (m, r)) : moreP (f + 1) acc l = moreP f (acc ++ [m]) r := by
  rw [moreP_eq, if_pos h]
  dsimp only
  rw [hm]
theorem moreP_sound : ∀ (f : Nat) (acc : List Mem) (l r : List UInt8) (ms : List Mem), moreP f acc l = some (ms, r) → ∃ b, ms = acc ++ b ∧ l = commas b ++ r ∧ b.length ≤ f ∧ (∀ m ∈ b, inForm m = true ∧ i64 m)
  | f, acc, l, r, ms, h => by
    by_cases h1 : hasPrefix l [44] = true
    · cases f with
      | zero => rw [moreP_full _ _ h1] at h; cases h
      | succ f =>
        obtain ⟨l, rfl⟩ := (hp1 _ _).1 h1
        cases h2 : memP l with
        | none => rw [moreP_none _ _ _ h1 h2] at h; cases h
        | some y =>
          obtain ⟨m, r1⟩ := y
          rw [moreP_some f acc _ m r1 h1 h2] at h
          obtain ⟨b, h3, h4, h5, h6⟩ := moreP_sound f _ _ _ _ h
          obtain ⟨h7, h8, h9⟩ := memP_sound h2
          refine ⟨m :: b, by rw [h3]; simp, ?_, by simpa using h5, ?_⟩
          · rw [h7, h4]; simp [commas]
          · intro x hx
            rcases List.mem_cons.1 hx with rfl | hx
            · exact ⟨h8, h9⟩
            · exact h6 x hx
    · rw [moreP_stop _ _ _ (by simpa using h1)] at h
      cases h
      exact ⟨[], by simp, by simp [commas], by simp, fun m hm => by cases hm⟩
theorem moreP_all : ∀ (b : List Mem) (f : Nat) (acc : List Mem) (r : List UInt8), b.length ≤ f → (∀ m ∈ b, inForm m = true ∧ i64 m) → moreP f acc (commas b ++ 125 :: r) = some (acc ++ b, 125 :: r)
  | [], f, acc, r, _, _ => by
    rw [show commas [] ++ 125 :: r = 125 :: r from rfl, moreP_stop f acc _ (hp_ne _ (by decide)), List.append_nil]
  | m :: b, 0, _, _, h, _ => by simp at h
  | m :: b, f + 1, acc, r, h, hm => by
    have hi := hm m (by simp)
    have e : commas (m :: b) ++ 125 :: r = 44 :: (memT m ++ (commas b ++ 125 :: r)) := by simp [commas]
    obtain ⟨x, t, hx, hxx⟩ : ∃ x t, commas b ++ 125 :: r = x :: t ∧ (x = 44 ∨ x = 125) := by
      cases b with
      | nil => exact ⟨125, r, rfl, Or.inr rfl⟩
      | cons a b => exact ⟨44, memT a ++ (commas b ++ 125 :: r), by simp [commas], Or.inl rfl⟩
    rw [e, moreP_some f acc _ m (commas b ++ 125 :: r) (hp_self _ _) (by rw [hx]; exact memP_mem m x t hi.1 hi.2 hxx), moreP_all b f (acc ++ [m]) r (by simpa using h) (fun x hx => hm x (by simp [hx]))]
    simp
theorem okM_unl : ∀ ms : List Mem, okM ms = true ↔ (∀ m ∈ ms, inForm m = true) ∧ unl ms = true
  | [] => by simp [okM, unl]
  | m :: r => by
    have ih := okM_unl r
    rw [okM, unl, Bool.and_eq_true, Bool.and_eq_true, Bool.and_eq_true, ih]
    constructor
    · rintro ⟨⟨h1, h2⟩, h3, h4⟩
      refine ⟨fun x hx => ?_, h2, h4⟩
      rcases List.mem_cons.1 hx with rfl | hx
      · exact h1
      · exact h3 x hx
    · rintro ⟨h1, h2, h3⟩
      exact ⟨⟨h1 m (by simp), h2⟩, fun x hx => h1 x (by simp [hx]), h3⟩
theorem objP_sound {s : List UInt8} {ms : List Mem} (h : objP s = some ms) : s = objT ms ∧ okM ms = true ∧ ms.length ≤ 64 ∧ ∀ m ∈ ms, i64 m := by
  unfold objP at h
  by_cases h1 : hasPrefix s [123] = true
  · rw [if_pos h1] at h
    obtain ⟨l, rfl⟩ := (hp1 _ _).1 h1
    change (match memsP l with | none => none | some (ms, r) => _) = _ at h
    cases h2 : memsP l with
    | none => rw [h2] at h; cases h
    | some y =>
      obtain ⟨ms0, r⟩ := y
      rw [h2] at h
      dsimp only at h
      by_cases h3 : hasPrefix r [125] = true
      · rw [if_pos h3] at h
        obtain ⟨r, rfl⟩ := (hp1 _ _).1 h3
        by_cases h4 : (125 :: r).drop 1 = [] ∧ unl ms0 = true
        · rw [if_pos h4] at h
          cases h
          obtain ⟨h5, h6⟩ := h4
          change r = [] at h5
          subst h5
          unfold memsP at h2
          by_cases h7 : hasPrefix l [125] = true
          · rw [if_pos h7] at h2
            cases h2
            exact ⟨rfl, rfl, by decide, fun m hm => by cases hm⟩
          · rw [if_neg h7] at h2
            cases h8 : memP l with
            | none => rw [h8] at h2; cases h2
            | some y =>
              obtain ⟨m, r1⟩ := y
              rw [h8] at h2
              dsimp only at h2
              obtain ⟨b, rfl, h9, h10, h11⟩ := moreP_sound _ _ _ _ _ h2
              obtain ⟨h12, h13, h14⟩ := memP_sound h8
              refine ⟨?_, (okM_unl _).2 ⟨fun x hx => ?_, h6⟩, ?_, fun x hx => ?_⟩
              · rw [h12, h9, objT, List.singleton_append, memsT_cons]
                simp
              · rcases List.mem_cons.1 (by simpa using hx) with rfl | hx
                · exact h13
                · exact (h11 x hx).1
              · simp; omega
              · rcases List.mem_cons.1 (by simpa using hx) with rfl | hx
                · exact h14
                · exact (h11 x hx).2
        · rw [if_neg h4] at h; cases h
      · rw [if_neg h3] at h; cases h
  · rw [if_neg h1] at h; cases h
theorem objP_obj (ms : List Mem) (h : okM ms = true) (hl : ms.length ≤ 64) (hi : ∀ m ∈ ms, i64 m) : objP (objT ms) = some ms := by
  obtain ⟨h1, h2⟩ := (okM_unl ms).1 h
  have hm : memsP (memsT ms ++ [125]) = some (ms, [125]) := by
    unfold memsP
    cases ms with
    | nil => rfl
    | cons m b =>
      have e : memsT (m :: b) ++ [125] = memT m ++ (commas b ++ [125]) := by rw [memsT_cons]; simp
      obtain ⟨x, t, hx, hxx⟩ : ∃ x t, commas b ++ ([125] : List UInt8) = x :: t ∧ (x = 44 ∨ x = 125) := by
        cases b with
        | nil => exact ⟨125, [], rfl, Or.inr rfl⟩
        | cons a b => exact ⟨44, memT a ++ (commas b ++ [125]), by simp [commas], Or.inl rfl⟩
      have e2 : memT m ++ (commas b ++ [125]) = 34 :: (strB m.name ++ [34] ++ 58 :: valT m ++ (commas b ++ [125])) := by simp [memT, strT]
      rw [e, if_neg (by rw [e2, hp_ne _ (by decide)]; decide), hx, memP_mem m x t (h1 m (by simp)) (hi m (by simp)) hxx]
      dsimp only
      rw [← hx, moreP_all b 63 [m] [] (by simpa using hl) (fun y hy => ⟨h1 y (by simp [hy]), hi y (by simp [hy])⟩)]
      rfl
  unfold objP objT
  rw [if_pos (hp_self _ _)]
  change (match memsP (memsT ms ++ [125]) with | none => none | some (ms, r) => _) = _
  rw [hm]
  dsimp only
  rw [if_pos (hp_self _ _), if_pos ⟨rfl, h2⟩]
/-- the reader answers what is asked -/
theorem obj_parse (s : List UInt8) (hs : s.length ≤ 16384) : parseJ s = match objP s with | none => (3, []) | some ms => (0, ms) := by
  cases h : objP s with
  | some ms =>
    obtain ⟨h1, h2, h3, h4⟩ := objP_sound h
    refine parse_printed ?_ h4
    unfold printJ
    rw [if_neg (by omega), if_pos h2, ← h1, if_neg (by omega)]
  | none =>
    dsimp only
    unfold parseJ
    rw [if_neg (by omega)]
    by_cases h1 : printJ (seem 65 (s.drop 1)) = (0, s)
    · exfalso
      obtain ⟨h2, h3, h4, _⟩ := printJ_ok h1
      have := objP_obj _ h3 h2 (seem_i64 65 _)
      rw [← h4, h] at this
      cases this
    · rw [if_neg h1]
theorem objP_len {s : List UInt8} {ms : List Mem} (h : objP s = some ms) : ms.length ≤ 64 := (objP_sound h).2.2.1
end Go.Proofs.YtbgnoobgnpebdaaDoor.jdv
