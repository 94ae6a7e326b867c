/- The check sum CRC-32C in plain numbers: shifting is linear over exclusive or and one to one; four shifts by a table; rows; changes of four bytes together. No condition. -/
import Derived.Test.YtpffebcaalbhjaaDoorBaseA
namespace Go.Proofs.YtpffebcaalbhjaaDoor.crc

def poly : Nat := 2197175160
def sh (c : Nat) : Nat := c / 2 ^^^ (if c % 2 = 1 then poly else 0)
def shN : Nat → Nat → Nat
  | 0, c => c
  | n + 1, c => shN n (sh c)

theorem xlc (a b c : Nat) : a ^^^ (b ^^^ c) = b ^^^ (a ^^^ c) := by rw [← Nat.xor_assoc, ← Nat.xor_assoc, Nat.xor_comm a]
theorem xxl (a b : Nat) : a ^^^ (a ^^^ b) = b := by rw [← Nat.xor_assoc, Nat.xor_self, Nat.zero_xor]
theorem xz {a b : Nat} (h : a ^^^ b = 0) : a = b := by have := xxl a b; rw [h, Nat.xor_zero] at this; exact this
theorem sh_xor (a b : Nat) : sh (a ^^^ b) = sh a ^^^ sh b := by
  have h1 : (a ^^^ b) / 2 = a / 2 ^^^ b / 2 := Nat.xor_div_two
  have h2 : (a ^^^ b) % 2 = (a % 2) ^^^ (b % 2) := Nat.xor_mod_two_pow (n := 1)
  unfold sh
  rw [h1, h2]
  rcases Nat.mod_two_eq_zero_or_one a with ha | ha <;> rcases Nat.mod_two_eq_zero_or_one b with hb | hb <;> rw [ha, hb] <;> simp [Nat.xor_comm, xlc, xxl]
theorem sh_lt {c : Nat} (h : c < 2 ^ 32) : sh c < 2 ^ 32 := by
  unfold sh
  refine Nat.xor_lt_two_pow (by omega) ?_
  split <;> simp [poly]
theorem sh_zero : sh 0 = 0 := by simp [sh]
theorem sh_even (q : Nat) : sh (2 * q) = q := by
  unfold sh
  rw [if_neg (by omega), Nat.xor_zero]; omega
theorem sh_zero_of {c : Nat} (h : c < 2 ^ 32) (h0 : sh c = 0) : c = 0 := by
  unfold sh at h0
  split at h0
  · have := xz h0
    unfold poly at this
    omega
  · rw [Nat.xor_zero] at h0; omega

theorem shN_xor (n : Nat) : ∀ a b, shN n (a ^^^ b) = shN n a ^^^ shN n b := by
  induction n with
  | zero => intro a b; rfl
  | succ n ih => intro a b; simp only [shN]; rw [sh_xor, ih]
theorem shN_lt (n : Nat) : ∀ {c : Nat}, c < 2 ^ 32 → shN n c < 2 ^ 32 := by
  induction n with
  | zero => intro c h; exact h
  | succ n ih => intro c h; exact ih (sh_lt h)
theorem shN_zero (n : Nat) : shN n 0 = 0 := by
  induction n with
  | zero => rfl
  | succ n ih => simp only [shN, sh_zero, ih]
theorem shN_zero_of (n : Nat) : ∀ {c : Nat}, c < 2 ^ 32 → shN n c = 0 → c = 0 := by
  induction n with
  | zero => intro c _ h; exact h
  | succ n ih => intro c h h0; exact sh_zero_of h (ih (sh_lt h) h0)
theorem shN_pow (n : Nat) : ∀ q, shN n (2 ^ n * q) = q := by
  induction n with
  | zero => intro q; simp [shN]
  | succ n ih =>
    intro q
    simp only [shN]
    rw [show 2 ^ (n + 1) * q = 2 * (2 ^ n * q) from by rw [Nat.pow_succ]; simp [Nat.mul_comm, Nat.mul_left_comm], sh_even, ih]
theorem shN_add (n : Nat) : ∀ m c, shN m (shN n c) = shN (n + m) c := by
  induction n with
  | zero => intro m c; simp [shN]
  | succ n ih =>
    intro m c
    rw [show n + 1 + m = (n + m) + 1 from by omega]
    simp only [shN]
    exact ih m (sh c)

theorem xor_split (i a b : Nat) (h : b < 2 ^ i) : 2 ^ i * a ^^^ b = 2 ^ i * a + b := by
  apply Nat.eq_of_testBit_eq
  intro j
  rw [Nat.testBit_xor, Nat.testBit_two_pow_mul_add a h j, Nat.testBit_two_pow_mul]
  by_cases hj : j < i
  · have : ¬ i ≤ j := by omega
    simp [hj, this]
  · have h1 : i ≤ j := by omega
    have h2 : b.testBit j = false := Nat.testBit_lt_two_pow (Nat.lt_of_lt_of_le h (Nat.pow_le_pow_right (by decide) h1))
    simp [hj, h1, h2]

/-- the sums of sixteen half bytes -/
def tab : List Nat := [0, 274646895, 549293790, 820201905, 1098587580, 1361435347, 1640403810, 1905808397, 2197175160, 2460548119, 2722870694, 2987750089, 3280807620, 3553878443, 3811616794, 4084100981]
theorem tab_eq : ∀ r, r < 16 → shN 4 r = tab.getD r 0 := by decide +kernel
theorem tab_lt : ∀ r, r < 16 → tab.getD r 0 < 2 ^ 32 := by decide +kernel
theorem step_eq (c : Nat) : c / 16 ^^^ tab.getD (c % 16) 0 = shN 4 c := by
  have hr : c % 16 < 16 := Nat.mod_lt _ (by decide)
  rw [← tab_eq _ hr]
  have h := xor_split 4 (c / 16) (c % 16) (by omega)
  rw [show 2 ^ 4 * (c / 16) + c % 16 = c from by omega] at h
  conv => rhs; rw [← h]
  rw [shN_xor, shN_pow]

/-- to take a byte -/
def tk (c : Nat) (b : UInt8) : Nat := shN 8 (c ^^^ b.toNat)
/-- to take a row of bytes -/
def run (c : Nat) (l : List UInt8) : Nat := l.foldl tk c
/-- each bit turned -/
def flipOf (f c : Nat) : Nat := f ^^^ c
def full : Nat := 4294967295
def flip (c : Nat) : Nat := flipOf full c
/-- the sum of what has this sum, with l behind it -/
def more (s : Nat) (l : List UInt8) : Nat := flip (run (flip s) l)

theorem byte32 (b : UInt8) : b.toNat < 2 ^ 32 := Nat.lt_trans b.toNat_lt (by decide)
theorem tk_lt {c : Nat} (h : c < 2 ^ 32) (b : UInt8) : tk c b < 2 ^ 32 := shN_lt 8 (Nat.xor_lt_two_pow h (byte32 b))
theorem run_lt : ∀ (l : List UInt8) {c : Nat}, c < 2 ^ 32 → run c l < 2 ^ 32
  | [], _, h => h
  | b :: l, _, h => run_lt l (tk_lt h b)
theorem run_append (c : Nat) (l m : List UInt8) : run c (l ++ m) = run (run c l) m := by simp [run]
theorem run_snoc (c : Nat) (l : List UInt8) (b : UInt8) : run c (l ++ [b]) = tk (run c l) b := by simp [run]
theorem flipOf_flipOf (f c : Nat) : flipOf f (flipOf f c) = c := xxl f c
theorem flipOf_three (f x y z : Nat) : flipOf f (x ^^^ y ^^^ z) = flipOf f x ^^^ flipOf f y ^^^ flipOf f z := by
  unfold flipOf
  simp only [Nat.xor_assoc]
  rw [xlc x f, xxl, xlc y f, xlc x f]
theorem flipOf_lt {f c : Nat} (hf : f < 2 ^ 32) (h : c < 2 ^ 32) : flipOf f c < 2 ^ 32 := Nat.xor_lt_two_pow hf h
theorem full_lt : full < 2 ^ 32 := by decide
theorem flip_three (x y z : Nat) : flip (x ^^^ y ^^^ z) = flip x ^^^ flip y ^^^ flip z := flipOf_three full x y z
theorem flip_lt {c : Nat} (h : c < 2 ^ 32) : flip c < 2 ^ 32 := flipOf_lt full_lt h
theorem flip_flip (c : Nat) : flip (flip c) = c := flipOf_flipOf full c
theorem flipOf_sub (c : Nat) (h : c < 2 ^ 32) : flipOf (2 ^ 32 - 1) c = 2 ^ 32 - (c + 1) := by
  unfold flipOf
  apply Nat.eq_of_testBit_eq
  intro j
  rw [Nat.testBit_xor, Nat.testBit_two_pow_sub_one, Nat.testBit_two_pow_sub_succ h]
  by_cases hj : j < 32
  · simp [hj]
  · have : c.testBit j = false := Nat.testBit_lt_two_pow (Nat.lt_of_lt_of_le h (Nat.pow_le_pow_right (by decide) (by omega)))
    simp [hj, this]
theorem full_eq : full = 2 ^ 32 - 1 := by decide
theorem flip_sub {c : Nat} (h : c < 2 ^ 32) : flip c = 4294967295 - c := by
  unfold flip
  rw [full_eq, flipOf_sub c h]
  omega
theorem more_lt {s : Nat} (h : s < 2 ^ 32) (l : List UInt8) : more s l < 2 ^ 32 := flip_lt (run_lt l (flip_lt h))
theorem more_append (s : Nat) (l m : List UInt8) : more s (l ++ m) = more (more s l) m := by unfold more; rw [flip_flip, run_append]

/-- two rows taken together -/
def zx (l m : List UInt8) : List UInt8 := List.zipWith (· ^^^ ·) l m
theorem run_xor : ∀ (l m : List UInt8) (c d : Nat), l.length = m.length → run (c ^^^ d) (zx l m) = run c l ^^^ run d m
  | [], [], _, _, _ => rfl
  | a :: l, b :: m, c, d, h => by
    have h2 : l.length = m.length := by simpa using h
    have e : tk (c ^^^ d) (a ^^^ b) = tk c a ^^^ tk d b := by
      unfold tk
      rw [UInt8.toNat_xor, ← shN_xor]
      congr 1
      rw [Nat.xor_assoc, Nat.xor_assoc]; congr 1
      rw [← Nat.xor_assoc, ← Nat.xor_assoc, Nat.xor_comm d]
    show run (tk (c ^^^ d) (a ^^^ b)) (zx l m) = _
    rw [e, run_xor l m _ _ h2]; rfl
  | [], _ :: _, _, _, h => by simp at h
  | _ :: _, [], _, _, h => by simp at h
theorem zx_len {l m : List UInt8} (h : l.length = m.length) : (zx l m).length = l.length := by simp [zx, h]
theorem more_three (l m n : List UInt8) (h1 : l.length = m.length) (h2 : l.length = n.length) : more 0 (zx (zx l m) n) = more 0 l ^^^ more 0 m ^^^ more 0 n := by
  unfold more
  have e : ∀ f : Nat, f = f ^^^ f ^^^ f := fun f => by rw [Nat.xor_self, Nat.zero_xor]
  have k := run_xor (zx l m) n (flip 0 ^^^ flip 0) (flip 0) (by rw [zx_len h1, h2])
  rw [← e, run_xor l m _ _ h1] at k
  rw [k, flip_three]

theorem run_zeros (n : Nat) : run 0 (List.replicate n 0) = 0 := by
  induction n with
  | zero => rfl
  | succ n ih =>
    rw [List.replicate_succ]
    show run (tk 0 0) _ = 0
    rw [show tk 0 0 = 0 from by decide +kernel]
    exact ih
theorem run_zeros_of (n : Nat) : ∀ {c : Nat}, c < 2 ^ 32 → run c (List.replicate n 0) = 0 → c = 0 := by
  induction n with
  | zero => intro c _ h; exact h
  | succ n ih =>
    intro c h h0
    rw [List.replicate_succ] at h0
    have h1 : tk c 0 = 0 := ih (tk_lt h 0) h0
    unfold tk at h1
    have h2 := shN_zero_of 8 (Nat.xor_lt_two_pow h (byte32 0)) h1
    simpa using h2
theorem take_in (x : Nat) (y : Nat) : shN 8 x ^^^ y = shN 8 (x ^^^ 256 * y) := by
  rw [shN_xor, show (256 : Nat) * y = 2 ^ 8 * y from rfl, shN_pow]
theorem run_four (a b c d : UInt8) (h : run 0 [a, b, c, d] = 0) : a = 0 ∧ b = 0 ∧ c = 0 ∧ d = 0 := by
  have e : run 0 [a, b, c, d] = shN 8 (shN 8 (shN 8 (shN 8 (a.toNat ^^^ 256 * (b.toNat ^^^ 256 * (c.toNat ^^^ 256 * d.toNat)))))) := by
    show shN 8 (shN 8 (shN 8 (shN 8 (0 ^^^ a.toNat) ^^^ b.toNat) ^^^ c.toNat) ^^^ d.toNat) = _
    rw [Nat.zero_xor]
    have k : ∀ x y : Nat, 256 * (x ^^^ 256 * y) = 256 * x ^^^ 256 * (256 * y) := fun x y => by
      have := @Nat.mul_comm
      have h := Nat.shiftLeft_xor_distrib (a := x) (b := 256 * y) (i := 8)
      simp only [Nat.shiftLeft_eq] at h
      rw [Nat.mul_comm 256 (x ^^^ _), show (256 : Nat) = 2 ^ 8 from rfl, h]
      simp [Nat.mul_comm]
    rw [take_in, take_in, take_in]
    rw [take_in, take_in]
    rw [take_in]
    congr 4
    rw [k, k, k]
    simp only [Nat.xor_assoc]
  have la := a.toNat_lt
  have lb := b.toNat_lt
  have lc := c.toNat_lt
  have ld := d.toNat_lt
  have s3 : c.toNat ^^^ 256 * d.toNat = 256 * d.toNat + c.toNat := by rw [Nat.xor_comm]; exact xor_split 8 d.toNat c.toNat lc
  have s2 : b.toNat ^^^ 256 * (256 * d.toNat + c.toNat) = 256 * (256 * d.toNat + c.toNat) + b.toNat := by rw [Nat.xor_comm]; exact xor_split 8 _ b.toNat lb
  have s1 : a.toNat ^^^ 256 * (256 * (256 * d.toNat + c.toNat) + b.toNat) = 256 * (256 * (256 * d.toNat + c.toNat) + b.toNat) + a.toNat := by rw [Nat.xor_comm]; exact xor_split 8 _ a.toNat la
  rw [e, s3, s2, s1] at h
  have hw : 256 * (256 * (256 * d.toNat + c.toNat) + b.toNat) + a.toNat < 2 ^ 32 := by omega
  have z := shN_zero_of 8 hw (shN_zero_of 8 (shN_lt 8 hw) (shN_zero_of 8 (shN_lt 8 (shN_lt 8 hw)) (shN_zero_of 8 (shN_lt 8 (shN_lt 8 (shN_lt 8 hw))) h)))
  refine ⟨?_, ?_, ?_, ?_⟩ <;> apply UInt8.toNat_inj.1 <;> simp <;> omega
/-- four bytes together, all else nought: the sum tells -/
theorem run_burst (k n : Nat) (t : List UInt8) (ht : t.length ≤ 4) (h : run 0 (List.replicate k 0 ++ t ++ List.replicate n 0) = 0) : ∀ x ∈ t, x = 0 := by
  rw [run_append, run_append, run_zeros] at h
  have h1 : run 0 t = 0 := run_zeros_of n (run_lt t (by decide)) h
  have h2 : run 0 (t ++ List.replicate (4 - t.length) 0) = 0 := by rw [run_append, h1, run_zeros]
  rcases t with _ | ⟨a, _ | ⟨b, _ | ⟨c, _ | ⟨d, _ | ⟨e, t⟩⟩⟩⟩⟩
  · intro x hx; cases hx
  · have := run_four a 0 0 0 h2; simp [this]
  · have := run_four a b 0 0 h2; simp [this]
  · have := run_four a b c 0 h2; simp [this]
  · have := run_four a b c d h2; simp [this]
  · simp at ht
end Go.Proofs.YtpffebcaalbhjaaDoor.crc
