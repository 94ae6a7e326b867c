/- SHA-256 in plain numbers, by its definition: words, blocks, padding, digests, keyed digests. No condition. -/
import Derived.Test.YtohmhcglmaifpaaDoorMem
namespace Go.Proofs.YtohmhcglmaifpaaDoor.sha

def rot1 (x : Nat) : Nat := if x % 2 = 1 then x / 2 + 2147483648 else x / 2
def rotN : Nat → Nat → Nat
  | 0, x => x
  | n + 1, x => rot1 (rotN n x)
def dwn : Nat → Nat → Nat
  | 0, x => x
  | n + 1, x => dwn n x / 2
theorem rot1_lt {x : Nat} (h : x < 4294967296) : rot1 x < 4294967296 := by unfold rot1; split <;> omega
theorem rotN_lt (n : Nat) {x : Nat} (h : x < 4294967296) : rotN n x < 4294967296 := by
  induction n with
  | zero => exact h
  | succ n ih => exact rot1_lt ih
theorem dwn_lt (n : Nat) {x : Nat} (h : x < 4294967296) : dwn n x < 4294967296 := by
  induction n with
  | zero => exact h
  | succ n ih => show dwn n x / 2 < _; omega
theorem dwn_eq (n x : Nat) : dwn n x = x / 2 ^ n := by
  induction n with
  | zero => simp [dwn]
  | succ n ih => show dwn n x / 2 = _; rw [ih, Nat.pow_succ, Nat.div_div_eq_div_mul]
/-- a word, turned n bits down: its low n bits come in on top -/
theorem rotN_eq (n : Nat) (hn : n ≤ 32) (x : Nat) : rotN n x = x / 2 ^ n + 2 ^ (32 - n) * (x % 2 ^ n) := by
  induction n with
  | zero => simp [rotN, Nat.mod_one]
  | succ n ih =>
    have ih := ih (by omega)
    show rot1 (rotN n x) = _
    rw [ih]
    have e1 : 2 ^ (32 - n) = 2 * 2 ^ (32 - (n + 1)) := by rw [show 32 - n = (32 - (n + 1)) + 1 from by omega, Nat.pow_succ, Nat.mul_comm]
    have e2 : x / 2 ^ (n + 1) = x / 2 ^ n / 2 := by rw [Nat.pow_succ, Nat.div_div_eq_div_mul]
    have e3 : x % 2 ^ (n + 1) = x % 2 ^ n + 2 ^ n * (x / 2 ^ n % 2) := by rw [Nat.pow_succ, Nat.mod_mul]
    have e4 : 2 ^ (32 - (n + 1)) * 2 ^ n = 2147483648 := by rw [← Nat.pow_add, show 32 - (n + 1) + n = 31 from by omega]
    rw [e1, e2, e3, Nat.mul_add, ← Nat.mul_assoc (2 ^ (32 - (n + 1))) (2 ^ n), e4, Nat.mul_assoc]
    generalize 2 ^ (32 - (n + 1)) * (x % 2 ^ n) = m
    generalize x / 2 ^ n = q
    unfold rot1
    split <;> omega

def kt : List Nat := [0x428a2f98, 0x71374491, 0xb5c0fbcf, 0xe9b5dba5, 0x3956c25b, 0x59f111f1, 0x923f82a4, 0xab1c5ed5,
  0xd807aa98, 0x12835b01, 0x243185be, 0x550c7dc3, 0x72be5d74, 0x80deb1fe, 0x9bdc06a7, 0xc19bf174,
  0xe49b69c1, 0xefbe4786, 0x0fc19dc6, 0x240ca1cc, 0x2de92c6f, 0x4a7484aa, 0x5cb0a9dc, 0x76f988da,
  0x983e5152, 0xa831c66d, 0xb00327c8, 0xbf597fc7, 0xc6e00bf3, 0xd5a79147, 0x06ca6351, 0x14292967,
  0x27b70a85, 0x2e1b2138, 0x4d2c6dfc, 0x53380d13, 0x650a7354, 0x766a0abb, 0x81c2c92e, 0x92722c85,
  0xa2bfe8a1, 0xa81a664b, 0xc24b8b70, 0xc76c51a3, 0xd192e819, 0xd6990624, 0xf40e3585, 0x106aa070,
  0x19a4c116, 0x1e376c08, 0x2748774c, 0x34b0bcb5, 0x391c0cb3, 0x4ed8aa4a, 0x5b9cca4f, 0x682e6ff3,
  0x748f82ee, 0x78a5636f, 0x84c87814, 0x8cc70208, 0x90befffa, 0xa4506ceb, 0xbef9a3f7, 0xc67178f2]
theorem kt_len : kt.length = 64 := by decide
theorem kt_lt : ∀ t, t < 64 → kt.getD t 0 < 4294967296 := by decide +kernel

def s0 (x : Nat) : Nat := rotN 7 x ^^^ rotN 18 x ^^^ dwn 3 x
def s1 (x : Nat) : Nat := rotN 17 x ^^^ rotN 19 x ^^^ dwn 10 x
def S0 (a : Nat) : Nat := rotN 2 a ^^^ rotN 13 a ^^^ rotN 22 a
def S1 (e : Nat) : Nat := rotN 6 e ^^^ rotN 11 e ^^^ rotN 25 e
def ch (e f g : Nat) : Nat := (e &&& f) ^^^ ((4294967295 - e) &&& g)
def maj (a b c : Nat) : Nat := (a &&& b) ^^^ (a &&& c) ^^^ (b &&& c)
theorem x32 {a b : Nat} (ha : a < 4294967296) (hb : b < 4294967296) : a ^^^ b < 4294967296 := Nat.xor_lt_two_pow (n := 32) ha hb
theorem a32 {a b : Nat} (ha : a < 4294967296) : a &&& b < 4294967296 := Nat.lt_of_le_of_lt Nat.and_le_left ha
theorem s0_lt {x : Nat} (h : x < 4294967296) : s0 x < 4294967296 := x32 (x32 (rotN_lt _ h) (rotN_lt _ h)) (dwn_lt _ h)
theorem s1_lt {x : Nat} (h : x < 4294967296) : s1 x < 4294967296 := x32 (x32 (rotN_lt _ h) (rotN_lt _ h)) (dwn_lt _ h)
theorem S0_lt {x : Nat} (h : x < 4294967296) : S0 x < 4294967296 := x32 (x32 (rotN_lt _ h) (rotN_lt _ h)) (rotN_lt _ h)
theorem S1_lt {x : Nat} (h : x < 4294967296) : S1 x < 4294967296 := x32 (x32 (rotN_lt _ h) (rotN_lt _ h)) (rotN_lt _ h)
theorem ch_lt {e f g : Nat} (he : e < 4294967296) : ch e f g < 4294967296 := x32 (a32 he) (a32 (by omega))
theorem maj_lt {a b c : Nat} (ha : a < 4294967296) (hb : b < 4294967296) : maj a b c < 4294967296 := x32 (x32 (a32 ha) (a32 ha)) (a32 hb)

/-- a word of four bytes, the greatest first -/
def word (l : List UInt8) (t : Nat) : Nat := 16777216 * (l.getD (4 * t) 0).toNat + 65536 * (l.getD (4 * t + 1) 0).toNat + 256 * (l.getD (4 * t + 2) 0).toNat + (l.getD (4 * t + 3) 0).toNat
theorem word_lt (l : List UInt8) (t : Nat) : word l t < 4294967296 := by
  unfold word
  have a := (l.getD (4 * t) 0).toNat_lt
  have b := (l.getD (4 * t + 1) 0).toNat_lt
  have c := (l.getD (4 * t + 2) 0).toNat_lt
  have d := (l.getD (4 * t + 3) 0).toNat_lt
  omega
/-- W(t) of a block -/
def wd (l : List UInt8) (t : Nat) : Nat :=
  if t < 16 then word l t else (s1 (wd l (t - 2)) + wd l (t - 7) + s0 (wd l (t - 15)) + wd l (t - 16)) % 4294967296
termination_by t
theorem wd_lo (l : List UInt8) {t : Nat} (h : t < 16) : wd l t = word l t := by rw [wd, if_pos h]
theorem wd_hi (l : List UInt8) {t : Nat} (h : 16 ≤ t) : wd l t = (s1 (wd l (t - 2)) + wd l (t - 7) + s0 (wd l (t - 15)) + wd l (t - 16)) % 4294967296 := by rw [wd, if_neg (by omega)]
theorem wd_lt (l : List UInt8) (t : Nat) : wd l t < 4294967296 := by
  rcases Nat.lt_or_ge t 16 with h | h
  · rw [wd_lo l h]; exact word_lt l t
  · rw [wd_hi l h]; exact Nat.mod_lt _ (by decide)

/-- eight words -/
structure St where
  a : Nat
  b : Nat
  c : Nat
  d : Nat
  e : Nat
  f : Nat
  g : Nat
  i : Nat
def St.ok (v : St) : Prop := v.a < 4294967296 ∧ v.b < 4294967296 ∧ v.c < 4294967296 ∧ v.d < 4294967296 ∧ v.e < 4294967296 ∧ v.f < 4294967296 ∧ v.g < 4294967296 ∧ v.i < 4294967296
def St.list (v : St) : List Nat := [v.a, v.b, v.c, v.d, v.e, v.f, v.g, v.i]
def one (v : St) (k w : Nat) : Nat := (v.i + S1 v.e + ch v.e v.f v.g + k + w) % 4294967296
def two (v : St) : Nat := (S0 v.a + maj v.a v.b v.c) % 4294967296
def rnd (v : St) (k w : Nat) : St := ⟨(one v k w + two v) % 4294967296, v.a, v.b, v.c, (v.d + one v k w) % 4294967296, v.e, v.f, v.g⟩
theorem rnd_ok {v : St} (h : v.ok) (k w : Nat) : (rnd v k w).ok := by
  obtain ⟨h1, h2, h3, h4, h5, h6, h7, h8⟩ := h
  exact ⟨Nat.mod_lt _ (by decide), h1, h2, h3, Nat.mod_lt _ (by decide), h5, h6, h7⟩
def rnds (v : St) (l : List UInt8) : Nat → St
  | 0 => v
  | t + 1 => rnd (rnds v l t) (kt.getD t 0) (wd l t)
theorem rnds_ok {v : St} (h : v.ok) (l : List UInt8) (t : Nat) : (rnds v l t).ok := by
  induction t with
  | zero => exact h
  | succ t ih => exact rnd_ok ih _ _
def plus (v u : St) : St := ⟨(v.a + u.a) % 4294967296, (v.b + u.b) % 4294967296, (v.c + u.c) % 4294967296, (v.d + u.d) % 4294967296, (v.e + u.e) % 4294967296, (v.f + u.f) % 4294967296, (v.g + u.g) % 4294967296, (v.i + u.i) % 4294967296⟩
theorem plus_ok (v u : St) : (plus v u).ok := by refine ⟨?_, ?_, ?_, ?_, ?_, ?_, ?_, ?_⟩ <;> exact Nat.mod_lt _ (by decide)
/-- a block is taken -/
def takeB (v : St) (l : List UInt8) : St := plus v (rnds v l 64)
def st0 : St := ⟨0x6a09e667, 0xbb67ae85, 0x3c6ef372, 0xa54ff53a, 0x510e527f, 0x9b05688c, 0x1f83d9ab, 0x5be0cd19⟩
theorem st0_ok : st0.ok := by unfold St.ok st0; decide
/-- n blocks of p are taken -/
def blocks (v : St) (p : List UInt8) : Nat → St
  | 0 => v
  | n + 1 => takeB (blocks v p n) ((p.drop (64 * n)).take 64)
theorem blocks_ok {v : St} (h : v.ok) (p : List UInt8) (n : Nat) : (blocks v p n).ok := by
  cases n with
  | zero => exact h
  | succ n => exact plus_ok _ _

/-- eight bytes, the greatest first -/
def be8 (n : Nat) : List UInt8 := (List.range 8).map fun j => UInt8.ofNat (n / 256 ^ (7 - j))
/-- how many bytes 0 -/
def zeros (n : Nat) : Nat := (119 - n % 64) % 64
theorem zeros_eq (n : Nat) : (n + 1 + zeros n) % 64 = 56 := by unfold zeros; omega
theorem zeros_lt (n : Nat) : zeros n < 64 := Nat.mod_lt _ (by decide)
theorem zeros_min (n j : Nat) (h : j < zeros n) : (n + 1 + j) % 64 ≠ 56 := by unfold zeros at h; omega
def pad (l : List UInt8) : List UInt8 := l ++ [128] ++ List.replicate (zeros l.length) 0 ++ be8 (8 * l.length)
theorem pad_len (l : List UInt8) : (pad l).length = l.length + 9 + zeros l.length := by simp [pad, be8]; omega
theorem pad_64 (l : List UInt8) : (pad l).length % 64 = 0 := by rw [pad_len]; have := zeros_eq l.length; omega

/-- byte j of eight words -/
def outB (v : St) (j : Nat) : UInt8 := UInt8.ofNat (dwn (24 - 8 * (j % 4)) (v.list.getD (j / 4) 0))
def out (v : St) : List UInt8 := (List.range 32).map (outB v)
theorem out_len (v : St) : (out v).length = 32 := by simp [out]
/-- the digest -/
def digest (l : List UInt8) : List UInt8 := out (blocks st0 (pad l) ((pad l).length / 64))
theorem digest_len (l : List UInt8) : (digest l).length = 32 := out_len _
/-- the key, 64 bytes long -/
def key64 (k : List UInt8) : List UInt8 :=
  let l := if k.length > 64 then digest k else k
  l ++ List.replicate (64 - l.length) 0
def mac (k b : List UInt8) : List UInt8 := digest ((key64 k).map (· ^^^ 0x5c) ++ digest ((key64 k).map (· ^^^ 0x36) ++ b))
theorem key64_len (k : List UInt8) : (key64 k).length = 64 := by
  unfold key64
  by_cases h : k.length > 64
  · simp [h, digest_len]
  · simp [h]; omega
end Go.Proofs.YtohmhcglmaifpaaDoor.sha
