/- Tokens and their texts in plain lists: what is right, heads, what a text seems to be (readP), the points of a text. No condition. -/
import Derived.Test.YtjadginnaogjoaaGreatDoorJsn1
import Derived.Lib.ItoaNum
import Derived.Lib.AtoiAll
import Derived.Lib.AtoiAllCases
namespace Go.Proofs.YtjadginnaogjoaaGreatDoor.sea
open Go.Proofs.YtjadginnaogjoaaGreatDoor.jsn (natD intD natD_small natD_big natD_pos natD_len natD_digit valD valD_natD)

abbrev T := List UInt8
def webC (c : UInt8) : Bool := decide (47 < c.toNat) && decide (c.toNat < 58) || decide (64 < c.toNat) && decide (c.toNat < 91) || decide (96 < c.toNat) && decide (c.toNat < 123) || decide (c.toNat = 45) || decide (c.toNat = 95)
def webs (l : T) : Bool := l.all webC
structure Tk where
  k : Int
  f : T
  n : Int
/-- a right token -/
structure Rt (t : Tk) : Prop where
  k1 : 1 ≤ t.k
  k3 : t.k ≤ 3
  f1 : 0 < t.f.length
  f32 : t.f.length ≤ 32
  fw : webs t.f = true
  n0 : 0 ≤ t.n
  n1 : t.n ≤ 1099511627776
instance (t : Tk) : Decidable (Rt t) :=
  if h : (1 ≤ t.k ∧ t.k ≤ 3) ∧ (0 < t.f.length ∧ t.f.length ≤ 32 ∧ webs t.f = true) ∧ 0 ≤ t.n ∧ t.n ≤ 1099511627776 then
    .isTrue ⟨h.1.1, h.1.2, h.2.1.1, h.2.1.2.1, h.2.1.2.2, h.2.2.1, h.2.2.2⟩
  else .isFalse fun r => h ⟨⟨r.k1, r.k3⟩, ⟨r.f1, r.f32, r.fw⟩, r.n0, r.n1⟩
def letC (k : Int) : UInt8 := if k = 1 then 99 else if k = 2 then 97 else 114
def headT (t : Tk) : T := letC t.k :: 46 :: (t.f ++ 46 :: (intD t.n ++ [46]))
def cutL (l : T) : T := l.takeWhile (· ≠ 46)
def cutR (l : T) : T := (l.dropWhile (· ≠ 46)).drop 1
theorem cut_at (a b : T) (h : (46 : UInt8) ∉ a) : cutL (a ++ 46 :: b) = a ∧ cutR (a ++ 46 :: b) = b := by
  unfold cutL cutR
  induction a with
  | nil => simp
  | cons x a ih =>
    have hx : x ≠ 46 := fun e => h (by simp [e])
    obtain ⟨h1, h2⟩ := ih (fun e => h (by simp [e]))
    constructor
    · rw [List.cons_append, List.takeWhile_cons_of_pos (by simpa using hx), h1]
    · rw [List.cons_append, List.dropWhile_cons_of_pos (by simpa using hx), h2]
theorem cut_end (a : T) (h : (46 : UInt8) ∉ a) : cutL (a ++ [46]) = a := (cut_at a [] h).1
theorem web46 : webC 46 = false := by decide
theorem webs_no46 {l : T} (h : webs l = true) : (46 : UInt8) ∉ l := fun hm => by
  have := List.all_eq_true.1 h 46 hm
  rw [web46] at this
  cases this
theorem intD_pos {n : Int} (h : 0 ≤ n) : intD n = natD n.toNat := by
  unfold intD
  rw [if_neg (by omega), show n.natAbs = n.toNat by omega]
theorem digs {n : Int} (h : 0 ≤ n) : ∀ c ∈ intD n, 48 ≤ c.toNat ∧ c.toNat ≤ 57 := by
  rw [intD_pos h]; exact natD_digit _
theorem digs_no46 {n : Int} (h : 0 ≤ n) : (46 : UInt8) ∉ intD n := fun hm => by
  have h1 := (digs h 46 hm).1
  have : (46 : UInt8).toNat = 46 := rfl
  omega
theorem letC_no46 (k : Int) : (46 : UInt8) ∉ [letC k] := by
  unfold letC
  split
  · decide
  · split <;> decide
theorem cutL_head {t : Tk} : cutL (headT t) = [letC t.k] := (cut_at [letC t.k] _ (letC_no46 t.k)).1
theorem cutR_head {t : Tk} : cutR (headT t) = t.f ++ 46 :: (intD t.n ++ [46]) := (cut_at [letC t.k] _ (letC_no46 t.k)).2
theorem cutL_head2 {t : Tk} (h : Rt t) : cutL (cutR (headT t)) = t.f := by rw [cutR_head]; exact (cut_at _ _ (webs_no46 h.fw)).1
theorem cutR_head2 {t : Tk} (h : Rt t) : cutR (cutR (headT t)) = intD t.n ++ [46] := by rw [cutR_head]; exact (cut_at _ _ (webs_no46 h.fw)).2
theorem cutL_head3 {t : Tk} (h : Rt t) : cutL (cutR (cutR (headT t))) = intD t.n := by rw [cutR_head2 h]; exact cut_end _ (digs_no46 h.n0)
theorem natD_inj {a b : Nat} (h : natD a = natD b) : a = b := by rw [← valD_natD a, h, valD_natD]
theorem dlen {n : Int} (h0 : 0 ≤ n) (h1 : n ≤ 1099511627776) : (intD n).length ≤ 13 ∧ 0 < (intD n).length := by
  rw [intD_pos h0]
  exact ⟨natD_len 12 _ (by omega), natD_pos _⟩
theorem headT_len {t : Tk} (h : Rt t) : (headT t).length ≤ 49 := by
  have h1 := dlen h.n0 h.n1
  have h2 := h.f32
  unfold headT
  simp only [List.length_cons, List.length_append, List.length_nil]
  omega
theorem letC_inj {a b : Int} (h1 : 1 ≤ a) (h2 : a ≤ 3) (h3 : 1 ≤ b) (h4 : b ≤ 3) (h : letC a = letC b) : a = b := by
  have ha : a = 1 ∨ a = 2 ∨ a = 3 := by omega
  have hb : b = 1 ∨ b = 2 ∨ b = 3 := by omega
  rcases ha with rfl | rfl | rfl <;> rcases hb with rfl | rfl | rfl <;> first | rfl | (exfalso; revert h; decide)
theorem headT_inj {t u : Tk} (ht : Rt t) (hu : Rt u) (h : headT t = headT u) : t = u := by
  have h1 : [letC t.k] = [letC u.k] := by rw [← cutL_head, ← cutL_head, h]
  have h2 : t.f = u.f := by rw [← cutL_head2 ht, ← cutL_head2 hu, h]
  have h3 : intD t.n = intD u.n := by rw [← cutL_head3 ht, ← cutL_head3 hu, h]
  have hk := letC_inj ht.k1 ht.k3 hu.k1 hu.k3 (by simpa using h1)
  rw [intD_pos ht.n0, intD_pos hu.n0] at h3
  have hn := natD_inj h3
  have hn2 : t.n = u.n := by have := ht.n0; have := hu.n0; omega
  cases t; cases u
  simp only at hk h2 hn2
  rw [hk, h2, hn2]
/-- s is a text of t by the tag g -/
structure Ok (s : T) (t : Tk) (g : T) : Prop where
  r : Rt t
  e : s = headT t ++ g
  l : g.length = 16
  w : webs g = true
theorem Ok.len {s : T} {t : Tk} {g : T} (h : Ok s t g) : s.length = (headT t).length + 16 := by rw [h.e, List.length_append, h.l]
theorem Ok.take {s : T} {t : Tk} {g : T} (h : Ok s t g) : s.take (s.length - 16) = headT t := by
  rw [h.len, Nat.add_sub_cancel, h.e, List.take_left']
  rfl
theorem Ok.drop {s : T} {t : Tk} {g : T} (h : Ok s t g) : s.drop (s.length - 16) = g := by
  rw [h.len, Nat.add_sub_cancel, h.e, List.drop_left']
  rfl
theorem Ok.uniq {s : T} {t u : Tk} {g h : T} (a : Ok s t g) (b : Ok s u h) : t = u ∧ g = h :=
  ⟨headT_inj a.r b.r (by rw [← a.take, b.take]), by rw [← a.drop, b.drop]⟩
def kindP (l : T) : Option Int := if l = [99] then some 1 else if l = [97] then some 2 else if l = [114] then some 3 else none
theorem kindP_let {k : Int} (h1 : 1 ≤ k) (h3 : k ≤ 3) : kindP [letC k] = some k := by
  have hk : k = 1 ∨ k = 2 ∨ k = 3 := by omega
  rcases hk with rfl | rfl | rfl <;> decide
def okI : Lib.NumEnd Int → Option Int
  | .ok v => some v
  | _ => none
def serP (d : T) : Option Int := if 13 < d.length then none else okI (Lib.atoiAll d)
theorem natD_head (n : Nat) : ∃ c r, natD n = c :: r ∧ 48 ≤ c.toNat ∧ c.toNat ≤ 57 := by
  have h := natD_pos n
  match hd : natD n with
  | [] => rw [hd] at h; simp at h
  | c :: r => exact ⟨c, r, rfl, natD_digit n c (by rw [hd]; simp)⟩
theorem parse_dig : ∀ (l : List UInt8) (acc : Nat), (∀ c ∈ l, 48 ≤ c.toNat ∧ c.toNat ≤ 57) → valD acc l < 18446744073709551616 → Lib.parseUint10 acc l = .ok (valD acc l)
  | [], acc, _, _ => rfl
  | c :: r, acc, hd, hv => by
    have hc := hd c (by simp)
    have hmono : ∀ (l : List UInt8) (a : Nat), a ≤ valD a l := by
      intro l
      induction l with
      | nil => intro a; exact Nat.le_refl _
      | cons x l ih => intro a; exact Nat.le_trans (by omega) (ih (10 * a + (x.toNat - 48)))
    have hm := hmono r (10 * acc + (c.toNat - 48))
    have hv' : valD (10 * acc + (c.toNat - 48)) r < 18446744073709551616 := hv
    unfold Lib.parseUint10
    rw [if_pos hc, if_neg (by omega), if_neg (by omega), show acc * 10 = 10 * acc by omega]
    exact parse_dig r _ (fun x hx => hd x (by simp [hx])) hv'
theorem atoi_natD (n : Nat) (h2 : n ≤ 9223372036854775807) : Lib.atoiAll (natD n) = .ok (n : Int) := by
  have hN := valD_natD n
  have hP : Lib.parseMag (natD n) = .ok n := by
    unfold Lib.parseMag
    rw [if_neg (fun e => by have := natD_pos n; rw [e] at this; simp at this), parse_dig _ 0 (natD_digit _) (by rw [hN]; omega), hN]
  obtain ⟨c, r, hc, h3, h4⟩ := natD_head n
  rw [hc] at hP ⊢
  rw [Lib.atoiAll_plain c r (by omega) (by omega), hP]
  show (if 9223372036854775808 ≤ n then Lib.NumEnd.range else Lib.NumEnd.ok (n : Int)) = Lib.NumEnd.ok (n : Int)
  rw [if_neg (by omega)]
theorem serP_int {n : Int} (h0 : 0 ≤ n) (h1 : n ≤ 1099511627776) : serP (intD n) = some n := by
  unfold serP
  rw [if_neg (by have := (dlen h0 h1).1; omega), intD_pos h0, atoi_natD _ (by omega)]
  show some ((n.toNat : Nat) : Int) = some n
  rw [show ((n.toNat : Nat) : Int) = n by omega]
theorem decD (n : Nat) : Lib.decDigits n = natD n := by
  induction n using Nat.strongRecOn with
  | ind n ih =>
    rw [Lib.decDigits, natD]
    by_cases h : n < 10
    · rw [dif_pos h, if_pos h]
    · rw [dif_neg h, if_neg h, ih _ (by omega)]
theorem itoaD (n : Int) : Lib.itoa n = intD n := by
  unfold Lib.itoa intD
  rw [decD, decD]
  by_cases h : n < 0
  · rw [if_pos h, if_pos h]
  · rw [if_neg h, if_neg h, show n.toNat = n.natAbs by omega]
/-- the token that the parts of a head say -/
def tokP (h : T) : Option Tk := match kindP (cutL h) with
  | none => none
  | some k => match serP (cutL (cutR (cutR h))) with
    | none => none
    | some n => some ⟨k, cutL (cutR h), n⟩
theorem tokP_head {t : Tk} (h : Rt t) : tokP (headT t) = some t := by
  unfold tokP
  rw [cutL_head, kindP_let h.k1 h.k3]
  dsimp only
  rw [cutL_head3 h, serP_int h.n0 h.n1, cutL_head2 h]
/-- what the text seems to be -/
def readP (s : T) : Option Tk :=
  if s.length < 16 ∨ webs (s.drop (s.length - 16)) = false then none else match tokP (s.take (s.length - 16)) with
  | none => none
  | some t => if Rt t ∧ headT t = s.take (s.length - 16) then some t else none
theorem readP_iff {s : T} {t : Tk} : readP s = some t ↔ ∃ g, Ok s t g := by
  unfold readP
  constructor
  · intro h
    by_cases h0 : s.length < 16 ∨ webs (s.drop (s.length - 16)) = false
    · rw [if_pos h0] at h; cases h
    · rw [if_neg h0] at h
      have hl : 16 ≤ s.length := by
        rcases Nat.lt_or_ge s.length 16 with h1 | h1
        · exact absurd (Or.inl h1) h0
        · exact h1
      have hw : webs (s.drop (s.length - 16)) = true := by
        cases hc : webs (s.drop (s.length - 16)) with
        | true => rfl
        | false => exact absurd (Or.inr hc) h0
      cases hp : tokP (s.take (s.length - 16)) with
      | none => rw [hp] at h; cases h
      | some u =>
        rw [hp] at h
        dsimp only at h
        by_cases h2 : Rt u ∧ headT u = s.take (s.length - 16)
        · rw [if_pos h2] at h
          cases h
          exact ⟨s.drop (s.length - 16), h2.1, by rw [h2.2, List.take_append_drop], by rw [List.length_drop]; omega, hw⟩
        · rw [if_neg h2] at h; cases h
  · rintro ⟨g, h⟩
    rw [if_neg (by rw [h.drop, h.w, h.len]; simp), h.take, tokP_head h.r]
    dsimp only
    rw [if_pos ⟨h.r, rfl⟩]
theorem readP_none {s : T} (h : ∀ t g, ¬ Ok s t g) : readP s = none := by
  cases hc : readP s with
  | none => rfl
  | some t => obtain ⟨g, hg⟩ := readP_iff.1 hc; exact absurd hg (h t g)
theorem readP_no {s : T} (h : readP s = none) (t : Tk) (g : T) : ¬ Ok s t g := fun hk => by
  have := readP_iff.2 ⟨g, hk⟩
  rw [h] at this
  cases this
/-- where points stand -/
def ptsA (i : Nat) : T → List Nat
  | [] => []
  | c :: r => if c = 46 then i :: ptsA (i + 1) r else ptsA (i + 1) r
theorem ptsA_app (i : Nat) (a b : T) : ptsA i (a ++ b) = ptsA i a ++ ptsA (i + a.length) b := by
  induction a generalizing i with
  | nil => simp [ptsA]
  | cons x a ih =>
    simp only [List.cons_append, ptsA, List.length_cons]
    rw [ih, show i + 1 + a.length = i + (a.length + 1) by omega]
    split <;> simp
theorem ptsA_no (i : Nat) (a : T) (h : (46 : UInt8) ∉ a) : ptsA i a = [] := by
  induction a generalizing i with
  | nil => rfl
  | cons x a ih =>
    have hx : x ≠ 46 := fun e => h (by simp [e])
    simp only [ptsA, if_neg hx]
    exact ih _ (fun e => h (by simp [e]))
theorem pts_one (i : Nat) : ptsA i [46] = [i] := by simp [ptsA]
theorem Ok.pts {s : T} {t : Tk} {g : T} (h : Ok s t g) : ptsA 0 s = [1, 2 + t.f.length, 3 + t.f.length + (intD t.n).length] := by
  rw [h.e]
  unfold headT
  have e : letC t.k :: 46 :: (t.f ++ 46 :: (intD t.n ++ [46])) ++ g = [letC t.k] ++ ([46] ++ (t.f ++ ([46] ++ (intD t.n ++ ([46] ++ g))))) := by simp
  rw [e, ptsA_app, ptsA_no _ _ (letC_no46 _), ptsA_app, ptsA_app, ptsA_no _ _ (webs_no46 h.r.fw), ptsA_app, ptsA_app, ptsA_no _ _ (digs_no46 h.r.n0), ptsA_app, ptsA_no _ _ (webs_no46 h.w)]
  rw [pts_one, pts_one, pts_one]
  simp only [List.length_singleton, List.nil_append, List.append_nil, List.cons_append, List.cons.injEq, and_true]
  exact ⟨trivial, trivial, by omega⟩
end Go.Proofs.YtjadginnaogjoaaGreatDoor.sea
