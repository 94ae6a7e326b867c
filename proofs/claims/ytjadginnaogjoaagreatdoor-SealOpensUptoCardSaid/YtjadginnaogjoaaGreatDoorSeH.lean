/- What the reference's Peek leans on, in plain lists: points, the parts between them, a number's digits. No condition. -/
import Derived.Test.YtjadginnaogjoaaGreatDoorSeF
import Derived.Test.YtjadginnaogjoaaGreatDoorSeD
namespace Go.Proofs.YtjadginnaogjoaaGreatDoor.sea
open Go.Proofs.YtjadginnaogjoaaGreatDoor.jsn (natD intD valD valD_natD)

theorem pts_bd : ∀ (s : T) (k i : Nat), i ∈ ptsA k s → k ≤ i ∧ i < k + s.length
  | [], _, _, h => by simp [ptsA] at h
  | c :: r, k, i, h => by
    unfold ptsA at h
    by_cases hc : c = 46
    · rw [if_pos hc] at h
      rcases List.mem_cons.1 h with rfl | h
      · exact ⟨Nat.le_refl _, by simp⟩
      · have := pts_bd r (k + 1) i h
        simp only [List.length_cons]
        omega
    · rw [if_neg hc] at h
      have := pts_bd r (k + 1) i h
      simp only [List.length_cons]
      omega
theorem pts_rise : ∀ (s : T) (k : Nat), (ptsA k s).Pairwise (· < ·)
  | [], _ => by simp [ptsA]
  | c :: r, k => by
    unfold ptsA
    by_cases hc : c = 46
    · rw [if_pos hc]
      refine List.Pairwise.cons (fun i hi => ?_) (pts_rise r (k + 1))
      have := (pts_bd r (k + 1) i hi).1
      omega
    · rw [if_neg hc]
      exact pts_rise r (k + 1)
theorem pts_len : ∀ (s : T) (k : Nat), (ptsA k s).length ≤ s.length
  | [], _ => by simp [ptsA]
  | c :: r, k => by
    have h := pts_len r (k + 1)
    unfold ptsA
    split
    · simp only [List.length_cons]; omega
    · simp only [List.length_cons]; omega
theorem pts_step (s : T) (i : Nat) (hi : i < s.length) : ptsA 0 (s.take (i + 1)) = ptsA 0 (s.take i) ++ (if s[i] = 46 then [i] else []) := by
  rw [List.take_succ_eq_append_getElem hi, ptsA_app]
  congr 1
  have hl : (s.take i).length = i := by rw [List.length_take]; omega
  rw [hl]
  simp only [ptsA, Nat.zero_add]
theorem pts3 {s : T} {a b c : Nat} (h : ptsA 0 s = [a, b, c]) : a < b ∧ b < c ∧ c < s.length := by
  have h1 := pts_rise s 0
  rw [h] at h1
  have h2 := (pts_bd s 0 c (by rw [h]; simp)).2
  simp only [List.pairwise_cons, List.mem_cons, List.not_mem_nil, or_false] at h1
  refine ⟨h1.1 b (Or.inl rfl), h1.2.1 c rfl, by omega⟩
/-- the part between the first points, that between the last ones -/
def famR (s : T) (b : Nat) : T := (s.drop 2).take (b - 2)
def digR (s : T) (b c : Nat) : T := (s.drop (b + 1)).take (c - b - 1)
def kAt (x : UInt8) (j : Nat) : Int := if 1 ≤ j ∧ x = 99 then 1 else if 2 ≤ j ∧ x = 97 then 2 else if 3 ≤ j ∧ x = 114 then 3 else 0
def tokR (s : T) (b c : Nat) : Tk := ⟨kAt (s.getD 0 0) 3, famR s b, (valD 0 ((digR s b c).take 14) : Nat)⟩
theorem kAt0 (x : UInt8) : kAt x 0 = 0 := by simp [kAt]
theorem kAt_n1 {x : UInt8} (h : ¬ x = 99) : kAt x 1 = kAt x (1 - 1) := by simp [kAt, h]
theorem kAt_n2 {x : UInt8} (h : ¬ x = 97) : kAt x 2 = kAt x (2 - 1) := by simp [kAt, h]
theorem kAt_n3 {x : UInt8} (h : ¬ x = 114) : kAt x 3 = kAt x (3 - 1) := by simp [kAt, h]
theorem kAt_y1 : kAt 99 1 = 1 := by decide
theorem kAt_y2 : kAt 97 2 = 2 := by decide
theorem kAt_y3 : kAt 114 3 = 3 := by decide
theorem kAt_let {k : Int} (h1 : 1 ≤ k) (h3 : k ≤ 3) : kAt (letC k) 3 = k := by
  have hk : k = 1 ∨ k = 2 ∨ k = 3 := by omega
  rcases hk with rfl | rfl | rfl <;> decide
theorem ok_parts {s : T} {t : Tk} {g : T} {a b c : Nat} (h : Ok s t g) (hp : ptsA 0 s = [a, b, c]) :
    a = 1 ∧ s.length = c + 17 ∧ webs (s.drop (c + 1)) = true ∧ (∀ x ∈ digR s b c, 48 ≤ x.toNat ∧ x.toNat ≤ 57) ∧ tokR s b c = t ∧ s.take (c + 1) = headT t := by
  have h1 := h.pts
  rw [hp] at h1
  simp only [List.cons.injEq, and_true] at h1
  obtain ⟨rfl, rfl, rfl⟩ := h1
  have hl := headT_len2 t
  have hs := h.len
  have e1 : 3 + t.f.length + (intD t.n).length + 1 = (headT t).length := by omega
  have e2 : s.drop (headT t).length = g := by rw [h.e, List.drop_left']; rfl
  have e3 : s.take (headT t).length = headT t := by rw [h.e, List.take_left']; rfl
  have e4 : s = [letC t.k, 46] ++ (t.f ++ (46 :: (intD t.n ++ (46 :: g)))) := by rw [h.e]; unfold headT; simp
  have hF : famR s (2 + t.f.length) = t.f := by
    unfold famR
    rw [e4, List.drop_left' (l₁ := [letC t.k, 46]) (by rfl), show 2 + t.f.length - 2 = t.f.length by omega, List.take_left' (by rfl)]
  have e5 : s = ([letC t.k, 46] ++ (t.f ++ [46])) ++ (intD t.n ++ (46 :: g)) := by rw [e4]; simp
  have hD : digR s (2 + t.f.length) (3 + t.f.length + (intD t.n).length) = intD t.n := by
    unfold digR
    rw [e5, List.drop_left' (l₁ := [letC t.k, 46] ++ (t.f ++ [46])) (by simp; omega), show 3 + t.f.length + (intD t.n).length - (2 + t.f.length) - 1 = (intD t.n).length by omega, List.take_left' (by rfl)]
  have h0 : s.getD 0 0 = letC t.k := by rw [e4]; rfl
  refine ⟨rfl, by omega, by rw [e1, e2]; exact h.w, by rw [hD]; exact digs h.r.n0, ?_, by rw [e1, e3]⟩
  unfold tokR
  rw [h0, hF, hD, kAt_let h.r.k1 h.r.k3, List.take_of_length_le (Nat.le_trans (dlen h.r.n0 h.r.n1).1 (by decide)), intD_pos h.r.n0, valD_natD]
  cases t with
  | mk k f n =>
    have : 0 ≤ n := h.r.n0
    simp only [Tk.mk.injEq, true_and]
    omega
theorem ref_yes {s : T} {a b c : Nat} (_ : ptsA 0 s = [a, b, c]) (hl : s.length = c + 17) (hw : webs (s.drop (c + 1)) = true) (hr : Rt (tokR s b c)) (hh : headT (tokR s b c) = s.take (c + 1)) : readP s = some (tokR s b c) :=
  readP_iff.2 ⟨s.drop (c + 1), hr, by rw [hh, List.take_append_drop], by rw [List.length_drop]; omega, hw⟩
theorem ref_three {s : T} (h : (ptsA 0 s).length ≠ 3) : readP s = none := readP_none fun t g hk => h (by rw [hk.pts]; rfl)
theorem ref_no {s : T} {a b c : Nat} (hp : ptsA 0 s = [a, b, c]) (h : ¬ (a = 1 ∧ s.length = c + 17 ∧ webs (s.drop (c + 1)) = true ∧ (∀ x ∈ digR s b c, 48 ≤ x.toNat ∧ x.toNat ≤ 57) ∧ Rt (tokR s b c) ∧ headT (tokR s b c) = s.take (c + 1))) : readP s = none :=
  readP_none fun t g hk => by
    obtain ⟨h1, h2, h3, h4, h5, h6⟩ := ok_parts hk hp
    exact h ⟨h1, h2, h3, h4, by rw [h5]; exact hk.r, by rw [h5, h6]⟩
theorem valD_lt : ∀ (l : T) (acc : Nat), (∀ x ∈ l, 48 ≤ x.toNat ∧ x.toNat ≤ 57) → valD acc l < (acc + 1) * 10 ^ l.length
  | [], acc, _ => by simp [valD]
  | x :: r, acc, h => by
    have hx := h x (by simp)
    have h1 := valD_lt r (10 * acc + (x.toNat - 48)) (fun y hy => h y (by simp [hy]))
    have e : valD acc (x :: r) = valD (10 * acc + (x.toNat - 48)) r := rfl
    rw [e, List.length_cons, Nat.pow_succ]
    refine Nat.lt_of_lt_of_le h1 ?_
    have h2 : 10 * acc + (x.toNat - 48) + 1 ≤ (acc + 1) * 10 := by omega
    calc (10 * acc + (x.toNat - 48) + 1) * 10 ^ r.length ≤ ((acc + 1) * 10) * 10 ^ r.length := Nat.mul_le_mul_right _ h2
      _ = (acc + 1) * (10 ^ r.length * 10) := by rw [Nat.mul_assoc, Nat.mul_comm 10]
theorem valD_snoc (acc : Nat) (l : T) (x : UInt8) : valD acc (l ++ [x]) = 10 * valD acc l + (x.toNat - 48) := by
  unfold valD
  rw [List.foldl_append]
  rfl
theorem digR_len {s : T} {b c : Nat} (h1 : b < c) (h2 : c < s.length) : (digR s b c).length = c - b - 1 := by
  unfold digR
  rw [List.length_take, List.length_drop]
  omega
theorem digR_at {s : T} {b c j : Nat} (h : b + 1 + j < c) (h2 : c < s.length) : (digR s b c)[j]? = some (s[b + 1 + j]'(by omega)) := by
  unfold digR
  rw [List.getElem?_take_of_lt (by omega), List.getElem?_drop, List.getElem?_eq_getElem (by omega)]
end Go.Proofs.YtjadginnaogjoaaGreatDoor.sea
