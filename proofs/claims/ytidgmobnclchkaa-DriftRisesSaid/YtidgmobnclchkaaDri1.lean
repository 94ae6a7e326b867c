/- Clocks that drift, in plain numbers: turns, bounds, terms; what follows of them. No condition. -/
import Derived.Test.YtidgmobnclchkaaProg
namespace Go.Proofs.Ytidgmobnclchkaa.dri

abbrev T40 : Int := 1099511627776
def withinB (r d : Int) : Bool := decide (0 ≤ d) && decide (d ≤ 500) && decide (-d ≤ r) && decide (r ≤ d)
theorem within_iff {r d : Int} : withinB r d = true ↔ 0 ≤ d ∧ d ≤ 500 ∧ -d ≤ r ∧ r ≤ d := by
  unfold withinB
  simp only [Bool.and_eq_true, decide_eq_true_eq]
  constructor
  · rintro ⟨⟨⟨a, b⟩, c⟩, e⟩; exact ⟨a, b, c, e⟩
  · rintro ⟨a, b, c, e⟩; exact ⟨⟨⟨a, b⟩, c⟩, e⟩
def rightB (n d : Int) : Bool := decide (0 ≤ n) && decide (n ≤ T40) && withinB 0 d
theorem right_iff {n d : Int} : rightB n d = true ↔ (0 ≤ n ∧ n ≤ T40) ∧ 0 ≤ d ∧ d ≤ 500 := by
  unfold rightB
  simp only [Bool.and_eq_true, decide_eq_true_eq, within_iff]
  constructor
  · rintro ⟨⟨a, b⟩, c, d, _, _⟩; exact ⟨⟨a, b⟩, c, d⟩
  · rintro ⟨⟨a, b⟩, c, d⟩; exact ⟨⟨a, b⟩, c, d, by omega, c⟩
def turnOk (c u r : Int) : Bool := decide (0 ≤ u) && decide (u ≤ T40) && withinB r 500 && decide (0 ≤ c) && decide (c ≤ 1000 * T40)
def turnP (c u r : Int) : Int × Nat := if turnOk c u r = false then (0, 1) else if 1000 * T40 < c + u * (1000 + r) then (0, 6) else (c + u * (1000 + r), 0)
def readP (c : Int) : Int := if c < 0 then 0 else c / 1000
def leastP (n d : Int) : Int × Nat := if rightB n d then ((1000 * n + (1000 + d) - 1) / (1000 + d), 0) else (0, 1)
def mostP (n d : Int) : Int × Nat := if rightB n d then (1000 * n / (1000 - d), 0) else (0, 1)
def shortP (n d : Int) : Int × Nat := if rightB n d then (n * (1000 - d) / (1000 + d), 0) else (0, 1)
def liveP (s n k : Int) : Bool := decide (s ≤ n) && decide (n < s + k)
def overP (s n t : Int) : Bool := decide (s + t < n)

/-- rounding down -/
theorem fl_le {a b m : Int} (hb : 0 < b) : m ≤ a / b ↔ m * b ≤ a := Int.le_ediv_iff_mul_le hb
/-- rounding up -/
theorem cl_le {a b m : Int} (hb : 0 < b) : (a + b - 1) / b ≤ m ↔ a ≤ m * b := by
  have h : (a + b - 1) / b ≤ m ↔ (a + b - 1) / b < m + 1 := by omega
  rw [h, Int.ediv_lt_iff_lt_mul hb, Int.add_mul]
  omega
theorem turn_ok {c u r : Int} (h : turnOk c u r = true) : (0 ≤ u ∧ u ≤ T40) ∧ (-500 ≤ r ∧ r ≤ 500) ∧ 0 ≤ c ∧ c ≤ 1000 * T40 := by
  unfold turnOk at h
  simp only [Bool.and_eq_true, decide_eq_true_eq, within_iff] at h
  obtain ⟨⟨⟨⟨a, b⟩, _, _, d, e⟩, f⟩, g⟩ := h
  exact ⟨⟨a, b⟩, ⟨d, e⟩, f, g⟩
/-- a turn that was made -/
theorem turn_made {c u r : Int} (h : (turnP c u r).2 = 0) : turnOk c u r = true ∧ turnP c u r = (c + u * (1000 + r), 0) ∧ c + u * (1000 + r) ≤ 1000 * T40 := by
  unfold turnP at h ⊢
  cases hk : turnOk c u r with
  | false => rw [hk, if_pos rfl] at h; cases h
  | true =>
    rw [hk, if_neg (by decide)] at h
    rw [if_neg (by decide)]
    by_cases h2 : 1000 * T40 < c + u * (1000 + r)
    · rw [if_pos h2] at h; cases h
    · exact ⟨rfl, if_neg h2, by omega⟩
theorem turn_err {c u r : Int} (h : (turnP c u r).2 ≠ 0) : (turnP c u r).1 = 0 := by
  unfold turnP at h ⊢
  split
  · rfl
  · split
    · rfl
    · rename_i h1 h2
      rw [if_neg h1, if_neg h2] at h
      exact absurd rfl h
theorem read_of {c : Int} (h : 0 ≤ c) : readP c = c / 1000 := by unfold readP; rw [if_neg (by omega)]
/-- the lease: two clocks by the same turns -/
structure Leased (d a0 b0 a b : Int) : Prop where
  one : a0 ≤ a
  other : b0 ≤ b
  apart : (a - a0) * (1000 - d) ≤ (b - b0) * (1000 + d)
theorem leased_start (d a b : Int) : Leased d a b a b := ⟨Int.le_refl _, Int.le_refl _, by rw [Int.sub_self, Int.sub_self, Int.zero_mul, Int.zero_mul]; exact Int.le_refl _⟩
theorem leased_turn {d a0 b0 a b u r s : Int} (h : Leased d a0 b0 a b) (hu : 0 ≤ u) (hd : 0 ≤ d ∧ d ≤ 500) (hr : -d ≤ r ∧ r ≤ d) (hs : -d ≤ s ∧ s ≤ d) : Leased d a0 b0 (a + u * (1000 + r)) (b + u * (1000 + s)) := by
  have h1 : 0 ≤ u * (1000 + r) := Int.mul_nonneg hu (by omega)
  have h2 : 0 ≤ u * (1000 + s) := Int.mul_nonneg hu (by omega)
  refine ⟨by have := h.one; omega, by have := h.other; omega, ?_⟩
  have e1 : (a + u * (1000 + r) - a0) * (1000 - d) = (a - a0) * (1000 - d) + u * ((1000 + r) * (1000 - d)) := by
    rw [show a + u * (1000 + r) - a0 = (a - a0) + u * (1000 + r) by omega, Int.add_mul, Int.mul_assoc]
  have e2 : (b + u * (1000 + s) - b0) * (1000 + d) = (b - b0) * (1000 + d) + u * ((1000 + s) * (1000 + d)) := by
    rw [show b + u * (1000 + s) - b0 = (b - b0) + u * (1000 + s) by omega, Int.add_mul, Int.mul_assoc]
  have h3 : (1000 + r) * (1000 - d) ≤ (1000 + d) * (1000 - d) := Int.mul_le_mul_of_nonneg_right (by omega) (by omega)
  have h4 : (1000 - d) * (1000 + d) ≤ (1000 + s) * (1000 + d) := Int.mul_le_mul_of_nonneg_right (by omega) (by omega)
  have h5 : u * ((1000 + r) * (1000 - d)) ≤ u * ((1000 + s) * (1000 + d)) := Int.mul_le_mul_of_nonneg_left (by rw [Int.mul_comm (1000 - d)] at h4; omega) hu
  rw [e1, e2]
  have := h.apart
  omega
/-- once the one is over by the term the other isn't live by the short one -/
theorem leased_safe {d a0 b0 a b t : Int} (h : Leased d a0 b0 a b) (hd : 0 ≤ d ∧ d ≤ 500) (ha : 0 ≤ a0) (hb : 0 ≤ b0) (ho : overP (readP a0) (readP a) t = true) : liveP (readP b0) (readP b) (t * (1000 - d) / (1000 + d)) = false := by
  have h1 := h.one
  have h2 := h.other
  have h3 := h.apart
  unfold overP at ho
  rw [decide_eq_true_eq, read_of ha, read_of (by omega)] at ho
  have hx : 1000 * t < a - a0 := by omega
  obtain ⟨k, hk⟩ : ∃ k, t * (1000 - d) / (1000 + d) = k := ⟨_, rfl⟩
  have hk2 : k * (1000 + d) ≤ t * (1000 - d) := (fl_le (by omega)).1 (by omega)
  rw [hk]
  cases hl : liveP (readP b0) (readP b) k with
  | false => rfl
  | true =>
    exfalso
    unfold liveP at hl
    rw [Bool.and_eq_true, decide_eq_true_eq, decide_eq_true_eq, read_of hb, read_of (by omega)] at hl
    have hy : b - b0 < 1000 * k := by omega
    have m1 : 1000 * t * (1000 - d) < (a - a0) * (1000 - d) := Int.mul_lt_mul_of_pos_right hx (by omega)
    have m2 : (b - b0) * (1000 + d) < 1000 * k * (1000 + d) := Int.mul_lt_mul_of_pos_right hy (by omega)
    have m3 : 1000 * k * (1000 + d) = 1000 * (k * (1000 + d)) := Int.mul_assoc _ _ _
    have m4 : 1000 * t * (1000 - d) = 1000 * (t * (1000 - d)) := Int.mul_assoc _ _ _
    omega
/-- how far a clock may be from the true time -/
structure Passed (d c p : Int) : Prop where
  pos : 0 ≤ p
  low : (1000 - d) * p ≤ c
  high : c ≤ (1000 + d) * p
theorem passed_start (d : Int) : Passed d 0 0 := ⟨Int.le_refl _, by rw [Int.mul_zero]; exact Int.le_refl _, by rw [Int.mul_zero]; exact Int.le_refl _⟩
theorem passed_turn {d c p u r : Int} (h : Passed d c p) (hu : 0 ≤ u) (hr : -d ≤ r ∧ r ≤ d) : Passed d (c + u * (1000 + r)) (p + u) := by
  refine ⟨by have := h.pos; omega, ?_, ?_⟩
  · have h1 : u * (1000 - d) ≤ u * (1000 + r) := Int.mul_le_mul_of_nonneg_left (by omega) hu
    rw [Int.mul_add, Int.mul_comm (1000 - d) u]
    have := h.low
    omega
  · have h1 : u * (1000 + r) ≤ u * (1000 + d) := Int.mul_le_mul_of_nonneg_left (by omega) hu
    rw [Int.mul_add (1000 + d) p u, Int.mul_comm (1000 + d) u]
    have := h.high
    omega
theorem passed_bounds {d c p : Int} (h : Passed d c p) (hd : 0 ≤ d ∧ d ≤ 500) (hc : 0 ≤ c) : (1000 * readP c + (1000 + d) - 1) / (1000 + d) ≤ p ∧ p ≤ 1000 * (readP c + 1) / (1000 - d) := by
  rw [read_of hc]
  constructor
  · rw [cl_le (by omega), Int.mul_comm p]
    have := h.high
    omega
  · rw [fl_le (by omega), Int.mul_comm p]
    have := h.low
    omega
theorem fl_mono {a b c : Int} (hb : 0 < b) (h : a ≤ c) : a / b ≤ c / b := Int.ediv_le_ediv hb h
/-- how the three stand to one another -/
theorem bounds_order {n d : Int} (hn : 0 ≤ n) (hd : 0 ≤ d ∧ d ≤ 500) :
    (1000 * n + (1000 + d) - 1) / (1000 + d) ≤ n ∧ n ≤ 1000 * n / (1000 - d) ∧ n * (1000 - d) / (1000 + d) ≤ (1000 * n + (1000 + d) - 1) / (1000 + d) := by
  have h1 : 0 ≤ n * d := Int.mul_nonneg hn hd.1
  have e1 : n * (1000 + d) = 1000 * n + n * d := by rw [Int.mul_add, Int.mul_comm n 1000]
  have e2 : n * (1000 - d) = 1000 * n - n * d := by rw [Int.mul_sub, Int.mul_comm n 1000]
  refine ⟨by rw [cl_le (by omega)]; omega, by rw [fl_le (by omega)]; omega, fl_mono (by omega) (by omega)⟩
theorem bounds_rise {n m d : Int} (h : n ≤ m) (hd : 0 ≤ d ∧ d ≤ 500) :
    (1000 * n + (1000 + d) - 1) / (1000 + d) ≤ (1000 * m + (1000 + d) - 1) / (1000 + d) ∧ 1000 * n / (1000 - d) ≤ 1000 * m / (1000 - d) ∧ n * (1000 - d) / (1000 + d) ≤ m * (1000 - d) / (1000 + d) :=
  ⟨fl_mono (by omega) (by omega), fl_mono (by omega) (by omega), fl_mono (by omega) (Int.mul_le_mul_of_nonneg_right h (by omega))⟩
theorem bounds_zero (n : Int) : (1000 * n + (1000 + 0) - 1) / (1000 + 0) = n ∧ 1000 * n / (1000 - 0) = n ∧ n * (1000 - 0) / (1000 + 0) = n := by
  refine ⟨by omega, by omega, by omega⟩
end Go.Proofs.Ytidgmobnclchkaa.dri
