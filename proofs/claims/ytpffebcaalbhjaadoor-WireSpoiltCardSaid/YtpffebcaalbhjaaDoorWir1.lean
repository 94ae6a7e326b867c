/- Records as bytes in plain lists: numbers, ints, texts; what is written, what is read of it, and that it is what was written. No condition. -/
import Derived.Lib.Strings
namespace Go.Proofs.YtpffebcaalbhjaaDoor.wir

abbrev T := List UInt8
/-- a number's digits -/
def numB (n : Nat) : T := if n < 128 then [UInt8.ofNat n] else UInt8.ofNat (128 + n % 128) :: numB (n / 128)
termination_by n
decreasing_by omega
theorem numB_one {n : Nat} (h : n < 128) : numB n = [UInt8.ofNat n] := by rw [numB, if_pos h]
theorem numB_more {n : Nat} (h : 128 ≤ n) : numB n = UInt8.ofNat (128 + n % 128) :: numB (n / 128) := by rw [numB, if_neg (by omega)]
theorem numB_pos (n : Nat) : 0 < (numB n).length := by
  by_cases h : n < 128
  · rw [numB_one h]; simp
  · rw [numB_more (by omega)]; simp
theorem numB_len : ∀ (j n : Nat), n < 128 ^ (j + 1) → (numB n).length ≤ j + 1
  | 0, n, h => by rw [numB_one (by simpa using h)]; simp
  | j + 1, n, h => by
    by_cases h1 : n < 128
    · rw [numB_one h1]; simp
    · rw [numB_more (by omega), List.length_cons]
      have := numB_len j (n / 128) (by rw [Nat.div_lt_iff_lt_mul (by decide)]; rw [Nat.pow_succ] at h; exact h)
      omega
theorem numB_ten {n : Nat} (h : n < 18446744073709551616) : (numB n).length ≤ 10 := numB_len 9 n (Nat.lt_of_lt_of_le h (by decide))
/-- an int as a number -/
def zz (n : Int) : Nat := if n < 0 then 2 * (-(n + 1)).toNat + 1 else 2 * n.toNat
def unzz (m : Nat) : Int := if m % 2 = 1 then -((m / 2 : Nat) : Int) - 1 else ((m / 2 : Nat) : Int)
theorem unzz_zz (n : Int) : unzz (zz n) = n := by
  unfold zz
  split
  · unfold unzz
    rw [if_pos (by omega), show (2 * (-(n + 1)).toNat + 1) / 2 = (-(n + 1)).toNat by omega]
    omega
  · unfold unzz
    rw [if_neg (by omega), show (2 * n.toNat) / 2 = n.toNat by omega]
    omega
theorem zz_lt {n : Int} (h1 : -9223372036854775808 ≤ n) (h2 : n ≤ 9223372036854775807) : zz n < 18446744073709551616 := by
  unfold zz
  split <;> omega
def textB (s : T) : T := numB s.length ++ s
/-- something that is written, or read -/
structure Put where
  k : Int
  n : Int
  s : T
  l : List T
  deriving DecidableEq
def none0 (k : Int) : Put := ⟨k, 0, [], []⟩
def putB (x : Put) : T :=
  if x.k = 0 then numB (zz x.n) else if x.k = 1 then textB x.s else if x.k = 2 then [if x.n = 1 then 1 else 0] else
  if x.k = 3 then (if 0 ≤ x.n ∧ x.n ≤ 4096 then numB x.n.toNat else []) else
  if x.k = 4 then (if x.l.length ≤ 4096 then numB x.l.length ++ x.l.flatMap textB else []) else []
def putBad (x : Put) : Bool := (decide (x.k = 3) && !(decide (0 ≤ x.n) && decide (x.n ≤ 4096))) || (decide (x.k = 4) && decide (4096 < x.l.length))
def bytesB (l : List Put) : T := l.flatMap putB
def badB (l : List Put) : Bool := l.any putBad
theorem bytesB_snoc (l : List Put) (x : Put) : bytesB (l ++ [x]) = bytesB l ++ putB x := by simp [bytesB]
theorem badB_snoc (l : List Put) (x : Put) : badB (l ++ [x]) = (badB l || putBad x) := by simp [badB]
/-- reading: a number: the error, the number, how many bytes; k: how many digits were read -/
def numR : Nat → T → Nat × Nat × Nat
  | _, [] => (4, 0, 0)
  | k, d :: r => if (k = 9 ∧ 1 < d.toNat) ∨ (0 < k ∧ d.toNat = 0) then (3, 0, 1) else if d.toNat < 128 then (0, d.toNat, 1) else
    ((numR (k + 1) r).1, if (numR (k + 1) r).1 = 0 then d.toNat % 128 + 128 * (numR (k + 1) r).2.1 else 0, (numR (k + 1) r).2.2 + 1)
/-- a reader: bytes that are left, or an error -/
inductive St where
  | ok (t : T)
  | bad (e : Nat)
def St.err : St → Nat
  | .ok _ => 0
  | .bad e => e
/-- a number of at most so much -/
def numM (most : Nat) (t : T) : Nat × St :=
  if (numR 0 t).1 ≠ 0 then (0, .bad (numR 0 t).1) else if most < (numR 0 t).2.1 then (0, .bad 3) else ((numR 0 t).2.1, .ok (t.drop (numR 0 t).2.2))
def numS (most : Nat) : St → Nat × St
  | .ok t => numM most t
  | .bad e => (0, .bad e)
def wordS (st : St) : T × St :=
  match numS 65536 st with
  | (n, .ok t) => if t.length < n then ([], .bad 4) else (t.take n, .ok (t.drop n))
  | (_, .bad e) => ([], .bad e)
def wordsS : Nat → St → List T × St
  | 0, st => ([], st)
  | n + 1, st => match wordS st with
    | (s, .ok t) => (s :: (wordsS n (.ok t)).1, (wordsS n (.ok t)).2)
    | (_, .bad e) => ([], .bad e)
def textsS (st : St) : List T × St :=
  match numS 4096 st with
  | (n, st2) => match wordsS n st2 with
    | (l, .ok t) => (l, .ok t)
    | (_, .bad e) => ([], .bad e)
/-- what stands next, as one of a kind -/
def readS (k : Int) (st : St) : Put × St :=
  if k = 0 then (⟨k, unzz (numS 18446744073709551615 st).1, [], []⟩, (numS 18446744073709551615 st).2) else
  if k = 1 then (⟨k, 0, (wordS st).1, []⟩, (wordS st).2) else
  if k = 2 then (⟨k, ((numS 1 st).1 : Nat), [], []⟩, (numS 1 st).2) else
  if k = 3 then (⟨k, ((numS 4096 st).1 : Nat), [], []⟩, (numS 4096 st).2) else
  if k = 4 then (⟨k, 0, [], (textsS st).1⟩, (textsS st).2) else (none0 k, st)
def endS : St → Nat
  | .ok t => if t = [] then 0 else 3
  | .bad e => e
theorem byte_lo {n : Nat} (h : n < 128) : (UInt8.ofNat n).toNat = n := by rw [UInt8.toNat_ofNat']; omega
theorem byte_hi (n : Nat) : (UInt8.ofNat (128 + n % 128)).toNat = 128 + n % 128 := by rw [UInt8.toNat_ofNat']; omega
theorem numR_back : ∀ (j n k : Nat) (r : T), n < 2 ^ (64 - 7 * k) → k ≤ 9 → j + k = 9 → (0 < k → 0 < n) → numR k (numB n ++ r) = (0, n, (numB n).length)
  | 0, n, k, r, h, hk, hj, hp => by
    obtain rfl : k = 9 := by omega
    have h1 : n < 2 := by simpa using h
    have h2 := hp (by decide)
    rw [numB_one (by omega), List.cons_append, List.nil_append, numR, byte_lo (by omega), if_neg (by omega), if_pos (by omega)]
    simp
  | j + 1, n, k, r, h, hk, hj, hp => by
    by_cases h1 : n < 128
    · rw [numB_one h1, List.cons_append, List.nil_append, numR, byte_lo h1, if_neg (by omega), if_pos h1]
      simp
    · have hn : n / 128 < 2 ^ (64 - 7 * (k + 1)) := by
        rw [Nat.div_lt_iff_lt_mul (by decide)]
        have e : 2 ^ (64 - 7 * (k + 1)) * 128 = 2 ^ (64 - 7 * k) := by
          rw [show (128 : Nat) = 2 ^ 7 from rfl, ← Nat.pow_add]
          congr 1; omega
        rw [e]; exact h
      have ih := numR_back j (n / 128) (k + 1) r hn (by omega) (by omega) (fun _ => by omega)
      rw [numB_more (by omega), List.cons_append, numR, byte_hi, if_neg (by omega), if_neg (by omega), ih]
      simp only [if_true, List.length_cons]
      rw [show (128 + n % 128) % 128 + 128 * (n / 128) = n by omega]
theorem num_back {most n : Nat} (r : T) (h : n ≤ most) (hm : most < 18446744073709551616) : numS most (.ok (numB n ++ r)) = (n, .ok r) := by
  have h1 := numR_back 9 n 0 r (by have : n < 18446744073709551616 := by omega
                                   simpa using this) (by decide) rfl (fun h => by omega)
  show numM most _ = _
  unfold numM
  rw [h1]
  simp only [ne_eq, not_true_eq_false, if_false]
  rw [if_neg (by omega), List.drop_left' rfl]
theorem word_back {s : T} (r : T) (h : s.length ≤ 65536) : wordS (.ok (textB s ++ r)) = (s, .ok r) := by
  unfold wordS textB
  rw [List.append_assoc, num_back (s ++ r) h (by decide)]
  show (if (s ++ r).length < s.length then _ else _) = _
  rw [if_neg (by simp), List.take_left' rfl, List.drop_left' rfl]
theorem words_back : ∀ (l : List T) (r : T), (∀ s ∈ l, s.length ≤ 65536) → wordsS l.length (.ok (l.flatMap textB ++ r)) = (l, .ok r)
  | [], r, _ => rfl
  | s :: l, r, h => by
    rw [List.flatMap_cons, List.append_assoc, List.length_cons, wordsS, word_back _ (h s (by simp))]
    have ih := words_back l r (fun x hx => h x (by simp [hx]))
    show (s :: (wordsS l.length (.ok (l.flatMap textB ++ r))).1, (wordsS l.length (.ok (l.flatMap textB ++ r))).2) = _
    rw [ih]
theorem texts_back {l : List T} (r : T) (hl : l.length ≤ 4096) (h : ∀ s ∈ l, s.length ≤ 65536) : textsS (.ok (numB l.length ++ l.flatMap textB ++ r)) = (l, .ok r) := by
  unfold textsS
  rw [List.append_assoc, num_back _ hl (by decide)]
  show (match wordsS l.length (.ok (l.flatMap textB ++ r)) with | (l, .ok t) => (l, St.ok t) | (_, .bad e) => ([], .bad e)) = _
  rw [words_back l r h]
/-- what a put is read as -/
def seen (x : Put) : Put :=
  if x.k = 0 ∨ x.k = 3 then ⟨x.k, x.n, [], []⟩ else if x.k = 1 then ⟨x.k, 0, x.s, []⟩ else
  if x.k = 2 then ⟨x.k, if x.n = 1 then 1 else 0, [], []⟩ else if x.k = 4 then ⟨x.k, 0, [], x.l⟩ else none0 x.k
/-- ints that a machine has, texts within a frame -/
def PutOk (x : Put) : Prop := (-9223372036854775808 ≤ x.n ∧ x.n ≤ 9223372036854775807) ∧ (x.k = 1 → x.s.length ≤ 65536) ∧ (x.k = 4 → ∀ s ∈ x.l, s.length ≤ 65536)
theorem read_back {x : Put} (r : T) (h : PutOk x) (hb : putBad x = false) : readS x.k (.ok (putB x ++ r)) = (seen x, .ok r) := by
  obtain ⟨⟨h1, h2⟩, h3, h4⟩ := h
  unfold putBad at hb
  simp only [Bool.or_eq_false_iff, Bool.and_eq_false_iff, decide_eq_false_iff_not, Bool.not_eq_false', Bool.and_eq_true, decide_eq_true_eq] at hb
  obtain ⟨b1, b2⟩ := hb
  obtain ⟨k, n, s, l⟩ := x
  dsimp only at h1 h2 h3 h4 b1 b2
  by_cases k0 : k = 0
  · subst k0
    show ((⟨0, unzz (numS 18446744073709551615 (.ok (numB (zz n) ++ r))).1, [], []⟩ : Put), (numS 18446744073709551615 (.ok (numB (zz n) ++ r))).2) = (⟨0, n, [], []⟩, .ok r)
    rw [num_back r (by have := zz_lt h1 h2; omega) (by decide)]
    dsimp only
    rw [unzz_zz]
  · by_cases k1 : k = 1
    · subst k1
      show ((⟨1, 0, (wordS (.ok (textB s ++ r))).1, []⟩ : Put), (wordS (.ok (textB s ++ r))).2) = (⟨1, 0, s, []⟩, .ok r)
      rw [word_back r (h3 rfl)]
    · by_cases k2 : k = 2
      · subst k2
        have e : ∀ b : Nat, b ≤ 1 → numS 1 (.ok ([UInt8.ofNat b] ++ r)) = (b, .ok r) := fun b hb => by rw [← numB_one (n := b) (by omega)]; exact num_back r hb (by decide)
        by_cases n1 : n = 1
        · show ((⟨2, ((numS 1 (.ok ([if n = 1 then 1 else 0] ++ r))).1 : Nat), [], []⟩ : Put), (numS 1 (.ok ([if n = 1 then 1 else 0] ++ r))).2) = (⟨2, if n = 1 then 1 else 0, [], []⟩, .ok r)
          rw [if_pos n1, if_pos n1, show ([1] : T) = [UInt8.ofNat 1] from rfl, e 1 (by decide)]
          rfl
        · show ((⟨2, ((numS 1 (.ok ([if n = 1 then 1 else 0] ++ r))).1 : Nat), [], []⟩ : Put), (numS 1 (.ok ([if n = 1 then 1 else 0] ++ r))).2) = (⟨2, if n = 1 then 1 else 0, [], []⟩, .ok r)
          rw [if_neg n1, if_neg n1, show ([0] : T) = [UInt8.ofNat 0] from rfl, e 0 (by decide)]
          rfl
      · by_cases k3 : k = 3
        · subst k3
          have hn : 0 ≤ n ∧ n ≤ 4096 := by
            rcases b1 with b | b
            · exact absurd rfl b
            · exact b
          show ((⟨3, ((numS 4096 (.ok ((if 0 ≤ n ∧ n ≤ 4096 then numB n.toNat else []) ++ r))).1 : Nat), [], []⟩ : Put), (numS 4096 (.ok ((if 0 ≤ n ∧ n ≤ 4096 then numB n.toNat else []) ++ r))).2) = (⟨3, n, [], []⟩, .ok r)
          rw [if_pos hn, num_back r (by omega) (by decide)]
          dsimp only
          rw [show ((n.toNat : Nat) : Int) = n by omega]
        · by_cases k4 : k = 4
          · subst k4
            have hl : l.length ≤ 4096 := by
              rcases b2 with b | b
              · exact absurd rfl b
              · omega
            show ((⟨4, 0, [], (textsS (.ok ((if l.length ≤ 4096 then numB l.length ++ l.flatMap textB else []) ++ r))).1⟩ : Put), (textsS (.ok ((if l.length ≤ 4096 then numB l.length ++ l.flatMap textB else []) ++ r))).2) = (⟨4, 0, [], l⟩, .ok r)
            rw [if_pos hl, texts_back r hl (h4 rfl)]
          · unfold readS putB seen
            simp [k0, k1, k2, k3, k4]
end Go.Proofs.YtpffebcaalbhjaaDoor.wir
