/- Several texts in one: Sha1, Sha2, Sha3, Sha4, Sha5, Sha6, Sha9, Sha8, Sha7, Sha10, ShaApi, ShaLong, ShaHash. Conditions: as each theorem says. -/
import Derived.Test.YthagdkipipldlaaGreatDoorBaseA
import Derived.StillTailTactics
import Derived.KernelRfl
import Derived.Lib.SlBytesConst
import Derived.Stop.BytesEq
import Derived.Deep.RegionWith
import Derived.BigRegion
namespace Go.Proofs.YthagdkipipldlaaGreatDoor.sha

def rot1 (x : Nat) : Nat := if x % 2 = 1 then x / 2 + 2147483648 else x / 2
def rotN : Nat → Nat → Nat
  | 0, x => x
  | n + 1, x => rot1 (rotN n x)
def dwn : Nat → Nat → Nat
  | 0, x => x
  | n + 1, x => dwn n x / 2
theorem rot1_lt {x : Nat} (h : x < 4294967296) : rot1 x < 4294967296 := by unfold rot1; split <;> omega
theorem rotN_lt (n : Nat) {x : Nat} (h : x < 4294967296) : rotN n x < 4294967296 := by
  induction n with
  | zero => exact h
  | succ n ih => exact rot1_lt ih
theorem dwn_lt (n : Nat) {x : Nat} (h : x < 4294967296) : dwn n x < 4294967296 := by
  induction n with
  | zero => exact h
  | succ n ih => show dwn n x / 2 < _; omega
theorem dwn_eq (n x : Nat) : dwn n x = x / 2 ^ n := by
  induction n with
  | zero => simp [dwn]
  | succ n ih => show dwn n x / 2 = _; rw [ih, Nat.pow_succ, Nat.div_div_eq_div_mul]
/-- a word, turned n bits down: its low n bits come in on top -/
theorem rotN_eq (n : Nat) (hn : n ≤ 32) (x : Nat) : rotN n x = x / 2 ^ n + 2 ^ (32 - n) * (x % 2 ^ n) := by
  induction n with
  | zero => simp [rotN, Nat.mod_one]
  | succ n ih =>
    have ih := ih (by omega)
    show rot1 (rotN n x) = _
    rw [ih]
    have e1 : 2 ^ (32 - n) = 2 * 2 ^ (32 - (n + 1)) := by rw [show 32 - n = (32 - (n + 1)) + 1 from by omega, Nat.pow_succ, Nat.mul_comm]
    have e2 : x / 2 ^ (n + 1) = x / 2 ^ n / 2 := by rw [Nat.pow_succ, Nat.div_div_eq_div_mul]
    have e3 : x % 2 ^ (n + 1) = x % 2 ^ n + 2 ^ n * (x / 2 ^ n % 2) := by rw [Nat.pow_succ, Nat.mod_mul]
    have e4 : 2 ^ (32 - (n + 1)) * 2 ^ n = 2147483648 := by rw [← Nat.pow_add, show 32 - (n + 1) + n = 31 from by omega]
    rw [e1, e2, e3, Nat.mul_add, ← Nat.mul_assoc (2 ^ (32 - (n + 1))) (2 ^ n), e4, Nat.mul_assoc]
    generalize 2 ^ (32 - (n + 1)) * (x % 2 ^ n) = m
    generalize x / 2 ^ n = q
    unfold rot1
    split <;> omega

def kt : List Nat := [0x428a2f98, 0x71374491, 0xb5c0fbcf, 0xe9b5dba5, 0x3956c25b, 0x59f111f1, 0x923f82a4, 0xab1c5ed5,
  0xd807aa98, 0x12835b01, 0x243185be, 0x550c7dc3, 0x72be5d74, 0x80deb1fe, 0x9bdc06a7, 0xc19bf174,
  0xe49b69c1, 0xefbe4786, 0x0fc19dc6, 0x240ca1cc, 0x2de92c6f, 0x4a7484aa, 0x5cb0a9dc, 0x76f988da,
  0x983e5152, 0xa831c66d, 0xb00327c8, 0xbf597fc7, 0xc6e00bf3, 0xd5a79147, 0x06ca6351, 0x14292967,
  0x27b70a85, 0x2e1b2138, 0x4d2c6dfc, 0x53380d13, 0x650a7354, 0x766a0abb, 0x81c2c92e, 0x92722c85,
  0xa2bfe8a1, 0xa81a664b, 0xc24b8b70, 0xc76c51a3, 0xd192e819, 0xd6990624, 0xf40e3585, 0x106aa070,
  0x19a4c116, 0x1e376c08, 0x2748774c, 0x34b0bcb5, 0x391c0cb3, 0x4ed8aa4a, 0x5b9cca4f, 0x682e6ff3,
  0x748f82ee, 0x78a5636f, 0x84c87814, 0x8cc70208, 0x90befffa, 0xa4506ceb, 0xbef9a3f7, 0xc67178f2]
theorem kt_len : kt.length = 64 := by decide
theorem kt_lt : ∀ t, t < 64 → kt.getD t 0 < 4294967296 := by decide +kernel

def s0 (x : Nat) : Nat := rotN 7 x ^^^ rotN 18 x ^^^ dwn 3 x
def s1 (x : Nat) : Nat := rotN 17 x ^^^ rotN 19 x ^^^ dwn 10 x
def S0 (a : Nat) : Nat := rotN 2 a ^^^ rotN 13 a ^^^ rotN 22 a
def S1 (e : Nat) : Nat := rotN 6 e ^^^ rotN 11 e ^^^ rotN 25 e
def ch (e f g : Nat) : Nat := (e &&& f) ^^^ ((4294967295 - e) &&& g)
def maj (a b c : Nat) : Nat := (a &&& b) ^^^ (a &&& c) ^^^ (b &&& c)
theorem x32 {a b : Nat} (ha : a < 4294967296) (hb : b < 4294967296) : a ^^^ b < 4294967296 := Nat.xor_lt_two_pow (n := 32) ha hb
theorem a32 {a b : Nat} (ha : a < 4294967296) : a &&& b < 4294967296 := Nat.lt_of_le_of_lt Nat.and_le_left ha
theorem s0_lt {x : Nat} (h : x < 4294967296) : s0 x < 4294967296 := x32 (x32 (rotN_lt _ h) (rotN_lt _ h)) (dwn_lt _ h)
theorem s1_lt {x : Nat} (h : x < 4294967296) : s1 x < 4294967296 := x32 (x32 (rotN_lt _ h) (rotN_lt _ h)) (dwn_lt _ h)
theorem S0_lt {x : Nat} (h : x < 4294967296) : S0 x < 4294967296 := x32 (x32 (rotN_lt _ h) (rotN_lt _ h)) (rotN_lt _ h)
theorem S1_lt {x : Nat} (h : x < 4294967296) : S1 x < 4294967296 := x32 (x32 (rotN_lt _ h) (rotN_lt _ h)) (rotN_lt _ h)
theorem ch_lt {e f g : Nat} (he : e < 4294967296) : ch e f g < 4294967296 := x32 (a32 he) (a32 (by omega))
theorem maj_lt {a b c : Nat} (ha : a < 4294967296) (hb : b < 4294967296) : maj a b c < 4294967296 := x32 (x32 (a32 ha) (a32 ha)) (a32 hb)

/-- a word of four bytes, the greatest first -/
def word (l : List UInt8) (t : Nat) : Nat := 16777216 * (l.getD (4 * t) 0).toNat + 65536 * (l.getD (4 * t + 1) 0).toNat + 256 * (l.getD (4 * t + 2) 0).toNat + (l.getD (4 * t + 3) 0).toNat
theorem word_lt (l : List UInt8) (t : Nat) : word l t < 4294967296 := by
  unfold word
  have a := (l.getD (4 * t) 0).toNat_lt
  have b := (l.getD (4 * t + 1) 0).toNat_lt
  have c := (l.getD (4 * t + 2) 0).toNat_lt
  have d := (l.getD (4 * t + 3) 0).toNat_lt
  omega
/-- W(t) of a block -/
def wd (l : List UInt8) (t : Nat) : Nat :=
  if t < 16 then word l t else (s1 (wd l (t - 2)) + wd l (t - 7) + s0 (wd l (t - 15)) + wd l (t - 16)) % 4294967296
termination_by t
theorem wd_lo (l : List UInt8) {t : Nat} (h : t < 16) : wd l t = word l t := by rw [wd, if_pos h]
theorem wd_hi (l : List UInt8) {t : Nat} (h : 16 ≤ t) : wd l t = (s1 (wd l (t - 2)) + wd l (t - 7) + s0 (wd l (t - 15)) + wd l (t - 16)) % 4294967296 := by rw [wd, if_neg (by omega)]
theorem wd_lt (l : List UInt8) (t : Nat) : wd l t < 4294967296 := by
  rcases Nat.lt_or_ge t 16 with h | h
  · rw [wd_lo l h]; exact word_lt l t
  · rw [wd_hi l h]; exact Nat.mod_lt _ (by decide)

/-- eight words -/
structure St where
  a : Nat
  b : Nat
  c : Nat
  d : Nat
  e : Nat
  f : Nat
  g : Nat
  i : Nat
def St.ok (v : St) : Prop := v.a < 4294967296 ∧ v.b < 4294967296 ∧ v.c < 4294967296 ∧ v.d < 4294967296 ∧ v.e < 4294967296 ∧ v.f < 4294967296 ∧ v.g < 4294967296 ∧ v.i < 4294967296
def St.list (v : St) : List Nat := [v.a, v.b, v.c, v.d, v.e, v.f, v.g, v.i]
def one (v : St) (k w : Nat) : Nat := (v.i + S1 v.e + ch v.e v.f v.g + k + w) % 4294967296
def two (v : St) : Nat := (S0 v.a + maj v.a v.b v.c) % 4294967296
def rnd (v : St) (k w : Nat) : St := ⟨(one v k w + two v) % 4294967296, v.a, v.b, v.c, (v.d + one v k w) % 4294967296, v.e, v.f, v.g⟩
theorem rnd_ok {v : St} (h : v.ok) (k w : Nat) : (rnd v k w).ok := by
  obtain ⟨h1, h2, h3, h4, h5, h6, h7, h8⟩ := h
  exact ⟨Nat.mod_lt _ (by decide), h1, h2, h3, Nat.mod_lt _ (by decide), h5, h6, h7⟩
def rnds (v : St) (l : List UInt8) : Nat → St
  | 0 => v
  | t + 1 => rnd (rnds v l t) (kt.getD t 0) (wd l t)
theorem rnds_ok {v : St} (h : v.ok) (l : List UInt8) (t : Nat) : (rnds v l t).ok := by
  induction t with
  | zero => exact h
  | succ t ih => exact rnd_ok ih _ _
def plus (v u : St) : St := ⟨(v.a + u.a) % 4294967296, (v.b + u.b) % 4294967296, (v.c + u.c) % 4294967296, (v.d + u.d) % 4294967296, (v.e + u.e) % 4294967296, (v.f + u.f) % 4294967296, (v.g + u.g) % 4294967296, (v.i + u.i) % 4294967296⟩
theorem plus_ok (v u : St) : (plus v u).ok := by refine ⟨?_, ?_, ?_, ?_, ?_, ?_, ?_, ?_⟩ <;> exact Nat.mod_lt _ (by decide)
/-- a block is taken -/
def takeB (v : St) (l : List UInt8) : St := plus v (rnds v l 64)
def st0 : St := ⟨0x6a09e667, 0xbb67ae85, 0x3c6ef372, 0xa54ff53a, 0x510e527f, 0x9b05688c, 0x1f83d9ab, 0x5be0cd19⟩
theorem st0_ok : st0.ok := by unfold St.ok st0; decide
/-- n blocks of p are taken -/
def blocks (v : St) (p : List UInt8) : Nat → St
  | 0 => v
  | n + 1 => takeB (blocks v p n) ((p.drop (64 * n)).take 64)
theorem blocks_ok {v : St} (h : v.ok) (p : List UInt8) (n : Nat) : (blocks v p n).ok := by
  cases n with
  | zero => exact h
  | succ n => exact plus_ok _ _

/-- eight bytes, the greatest first -/
def be8 (n : Nat) : List UInt8 := (List.range 8).map fun j => UInt8.ofNat (n / 256 ^ (7 - j))
/-- how many bytes 0 -/
def zeros (n : Nat) : Nat := (119 - n % 64) % 64
theorem zeros_eq (n : Nat) : (n + 1 + zeros n) % 64 = 56 := by unfold zeros; omega
theorem zeros_lt (n : Nat) : zeros n < 64 := Nat.mod_lt _ (by decide)
theorem zeros_min (n j : Nat) (h : j < zeros n) : (n + 1 + j) % 64 ≠ 56 := by unfold zeros at h; omega
def pad (l : List UInt8) : List UInt8 := l ++ [128] ++ List.replicate (zeros l.length) 0 ++ be8 (8 * l.length)
theorem pad_len (l : List UInt8) : (pad l).length = l.length + 9 + zeros l.length := by simp [pad, be8]; omega
theorem pad_64 (l : List UInt8) : (pad l).length % 64 = 0 := by rw [pad_len]; have := zeros_eq l.length; omega

/-- byte j of eight words -/
def outB (v : St) (j : Nat) : UInt8 := UInt8.ofNat (dwn (24 - 8 * (j % 4)) (v.list.getD (j / 4) 0))
def out (v : St) : List UInt8 := (List.range 32).map (outB v)
theorem out_len (v : St) : (out v).length = 32 := by simp [out]
/-- the digest -/
def digest (l : List UInt8) : List UInt8 := out (blocks st0 (pad l) ((pad l).length / 64))
theorem digest_len (l : List UInt8) : (digest l).length = 32 := out_len _
/-- the key, 64 bytes long -/
def key64 (k : List UInt8) : List UInt8 :=
  let l := if k.length > 64 then digest k else k
  l ++ List.replicate (64 - l.length) 0
def mac (k b : List UInt8) : List UInt8 := digest ((key64 k).map (· ^^^ 0x5c) ++ digest ((key64 k).map (· ^^^ 0x36) ++ b))
theorem key64_len (k : List UInt8) : (key64 k).length = 64 := by
  unfold key64
  by_cases h : k.length > 64
  · simp [h, digest_len]
  · simp [h]; omega
end Go.Proofs.YthagdkipipldlaaGreatDoor.sha

namespace Go.Proofs.YthagdkipipldlaaGreatDoor.sha
open Go.RowKit
open Go.Proofs.YthagdkipipldlaaGreatDoor.oct Go.Proofs.YthagdkipipldlaaGreatDoor.ref Go.Proofs.YthagdkipipldlaaGreatDoor.rows
open Go.Lib (byteCells)

theorem wraps_u32 (n : Int) (h₀ : 0 ≤ n) (h₁ : n < 2 ^ 32) : IntKind.u32.wrap n = n := by rw [IntKind.wrap_u32]; omega
theorem xor_u32 (a b : Nat) (ha : a < 2 ^ 32) (hb : b < 2 ^ 32) : bits .xor .u32 (a : Int) (b : Int) = ((a ^^^ b : Nat) : Int) := xor_nat .u32 32 (by decide) wraps_u32 a b ha hb
theorem int_val {k : IntKind} {a b : Int} (h : a = b) : Value.int k a = .int k b := by rw [h]

set_option maxHeartbeats 400000 in
theorem down_c (x n : Nat) (hx : x < 4294967296) (hn : n ≤ 64) (w : World) :
    Calls Tryz.prog 143 #[.int .u32 x, .int .i64 n] w fun e w' => e = .returned (.int .u32 (dwn n x : Nat)) ∧ w = w' := by
  go_enter Tryz.func143, Tryz.ntmps143
  go_wp2_with fail
  go_loop [0, 5] (fun c i => ∃ k : Nat, k ≤ n ∧ i = .int .i64 k ∧ c = .int .u32 (dwn k x : Nat)) (fun _ i => n - (intOf i).toNat)
  case atStart => exact ⟨0, by omega, rfl, rfl⟩
  case round =>
    obtain ⟨k, hk, rfl, rfl⟩ := hrel
    have hy := dwn_lt k hx
    by_cases hlt : k < n
    · go_wp2_with fail
      go_round
      case rel => exact ⟨k + 1, by omega, by go_num, int_val (by show _ = ((dwn k x / 2 : Nat) : Int); omega)⟩
      case measure => simp [intOf]; omega
    · obtain rfl : k = n := by omega
      go_wp2_with fail
      go_ret
      exact ⟨rfl, rfl⟩

set_option maxHeartbeats 400000 in
theorem turn_c (x n : Nat) (hx : x < 4294967296) (hn : n ≤ 64) (w : World) :
    Calls Tryz.prog 166 #[.int .u32 x, .int .i64 n] w fun e w' => e = .returned (.int .u32 (rotN n x : Nat)) ∧ w = w' := by
  go_enter Tryz.func166, Tryz.ntmps166
  go_wp2_with fail
  go_loop [0, 5] (fun c i => ∃ k : Nat, k ≤ n ∧ i = .int .i64 k ∧ c = .int .u32 (rotN k x : Nat)) (fun _ i => n - (intOf i).toNat)
  case atStart => exact ⟨0, by omega, rfl, rfl⟩
  case round =>
    obtain ⟨k, hk, rfl, rfl⟩ := hrel
    have hy := rotN_lt k hx
    by_cases hlt : k < n
    · by_cases ho : rotN k x % 2 = 1
      · have hb : ((rotN k x : Int) % 2 == 1) = true := by rw [beq_iff_eq]; omega
        have HV : Hid (((rotN k x : Nat) : Int) / 2 + 2147483648 = ((rotN (k + 1) x : Nat) : Int)) := by
          show _ = ((rot1 (rotN k x) : Nat) : Int)
          unfold rot1; rw [if_pos ho]; omega
        clear ho
        go_wp2_with fail
        go_round
        case rel => exact ⟨k + 1, by omega, by go_num, int_val HV.out⟩
        case measure => simp [intOf]; omega
      · have hb : ((rotN k x : Int) % 2 == 1) = false := by rw [beq_eq_false_iff_ne]; omega
        have HV : Hid (((rotN k x : Nat) : Int) / 2 = ((rotN (k + 1) x : Nat) : Int)) := by
          show _ = ((rot1 (rotN k x) : Nat) : Int)
          unfold rot1; rw [if_neg ho]; omega
        clear ho
        go_wp2_with fail
        go_round
        case rel => exact ⟨k + 1, by omega, by go_num, int_val HV.out⟩
        case measure => simp [intOf]; omega
    · obtain rfl : k = n := by omega
      go_wp2_with fail
      go_ret
      exact ⟨rfl, rfl⟩

theorem info64 : (Tryz.prog.info? 199).map (·.size) = some 64 := by kernel_rfl

set_option maxHeartbeats 1000000 in
theorem k_c (t : Nat) (ht : t < 64) (w : World) :
    Calls Tryz.prog 167 #[.int .i64 t] w fun e w' => e = .returned (.int .u32 (kt.getD t 0 : Nat)) ∧ Below w.heap.size w w' := by
  have hs : (wcells kt).length = 64 := by rw [wcells_len, kt_len]
  have h1 := wcells_one kt
  have hat := wcells_at (l := kt) (i := t) (by rw [kt_len]; exact ht)
  have HI : Hid ((Tryz.prog.info? 199).map (·.size) = some 64) := info64
  go_enter Tryz.func167, Tryz.ntmps167
  go_wp2_with (first
    | (refine wpList_build_to rfl 199 _ rfl (wcells kt).toArray (by kernel_rfl) ?_; generalize wcells kt = C at hs h1 hat ⊢; have hi2 : Hid ((Tryz.prog.info? 199).map (·.size) = some C.length) := (by rw [hs]; exact HI.out))
    | (with_reducible refine wpList_store_new rfl 199 (.tmp 3) (.tmp 4) rfl C 199 _ rfl rfl hi2.out (Eq.trans (by decide) hs.symm) h1 ?_; intro w1 hB hb _; have hc := (hB.cell t).trans hat))
  go_ret
  exact ⟨rfl, hb⟩
end Go.Proofs.YthagdkipipldlaaGreatDoor.sha

namespace Go.Proofs.YthagdkipipldlaaGreatDoor.sha
open Go.RowKit
open Go.Proofs.YthagdkipipldlaaGreatDoor.oct Go.Proofs.YthagdkipipldlaaGreatDoor.ref Go.Proofs.YthagdkipipldlaaGreatDoor.rows
open Go.Lib (byteCells)

/-- the first i bytes of a word -/
def part (l : List UInt8) (t : Nat) : Nat → Nat
  | 0 => 0
  | i + 1 => 256 * part l t i + (l.getD (4 * t + i) 0).toNat
theorem part_lt (l : List UInt8) (t i : Nat) : part l t i < 256 ^ i := by
  induction i with
  | zero => simp [part]
  | succ i ih =>
    have h := (l.getD (4 * t + i) 0).toNat_lt
    rw [Nat.pow_succ]
    simp only [part]
    omega
theorem part_small (l : List UInt8) (t i : Nat) (h : i < 4) : part l t i < 16777216 := by
  have h1 := part_lt l t i
  have h2 : 256 ^ i ≤ 256 ^ 3 := Nat.pow_le_pow_right (by decide) (by omega)
  omega
theorem part_word (l : List UInt8) (t : Nat) : part l t 4 = word l t := by
  simp only [part, word, Nat.add_zero]; omega

theorem xor3 (a b c : Nat) (ha : a < 4294967296) (hb : b < 4294967296) (hc : c < 4294967296) : bits .xor .u32 (bits .xor .u32 (a : Int) (b : Int)) (c : Int) = ((a ^^^ b ^^^ c : Nat) : Int) := by
  rw [xor_u32 a b ha hb, xor_u32 _ c (x32 ha hb) hc]
theorem add32 {a b : Nat} (_ha : a < 4294967296) (_hb : b < 4294967296) : ∃ c : Nat, IntKind.u32.wrap ((a : Int) + (b : Int)) = (c : Int) ∧ c < 4294967296 ∧ c = (a + b) % 4294967296 :=
  ⟨(a + b) % 4294967296, by rw [IntKind.wrap_u32]; omega, Nat.mod_lt _ (by decide), rfl⟩
theorem zero64 : (Tryz.prog.info? 199).map (·.zero) = some (some (.agg (wcells (row 64 fun _ => 0)).toArray)) := by kernel_rfl

set_option maxRecDepth 20000 in
set_option maxHeartbeats 2000000 in
theorem words_c (p : Option Addr) (cp : Nat) (l : List UInt8) (w : World) (hp : In8 w p l) (hl : l.length = 64) :
    Calls Tryz.prog 165 #[.slice p 64 cp] w fun e w' => e = .returned (.agg (wcells (row 64 (wd l))).toArray) ∧ Below w.heap.size w w' := by
  have HP := Lib.hid hp
  have HL := Lib.hid hl
  have HI : Hid ((Tryz.prog.info? 199).map (·.size) = some 64) := info64
  clear hp hl
  go_enter Tryz.func165, Tryz.ntmps165
  go_wp2_with fail
  have hB2 : Blk (w.alloc (.cells (wcells (row 64 fun _ => 0)).toArray 199)) w.heap.size 199 (wcells (row 64 fun _ => 0)) := blk_new w _ _ _ rfl
  have hB3 : Blk ((w.alloc (.cells (wcells (row 64 fun _ => 0)).toArray 199)).alloc (.cells (wcells (row 64 fun _ => 0)).toArray 199)) (w.heap.size + 1) 199 (wcells (row 64 fun _ => 0)) := by
    have := blk_new (w.alloc (.cells (wcells (row 64 fun _ => 0)).toArray 199)) _ 199 (wcells (row 64 fun _ => 0)) rfl
    simpa using this
  have hb : Below w.heap.size w ((w.alloc (.cells (wcells (row 64 fun _ => 0)).toArray 199)).alloc (.cells (wcells (row 64 fun _ => 0)).toArray 199)) := ((Below.refl _ _).alloc (Nat.le_refl _) _).alloc (by simp) _
  have hB2' := blk_old hB2 (.cells (wcells (row 64 fun _ => 0)).toArray 199)
  obtain ⟨wz, hwz⟩ : ∃ wz, wz = (w.alloc (.cells (wcells (row 64 fun _ => 0)).toArray 199)).alloc (.cells (wcells (row 64 fun _ => 0)).toArray 199) := ⟨_, rfl⟩
  rw [← hwz] at hB3 hb hB2'
  change Code.wp _ _ _ _ ((w.alloc (.cells (wcells (row 64 fun _ => 0)).toArray 199)).alloc (.cells (wcells (row 64 fun _ => 0)).toArray 199))
  rw [← hwz]
  clear hwz hB2
  go_loopg [4] 16 (fun g s4 wy => ∃ (t : Nat) (f : Nat → Nat), t + g = 16 ∧ s4 = .int .i64 t ∧ Hid ((∀ j, j < t → f j = word l j) ∧ (∀ j, t ≤ j → f j = 0)) ∧ Blk wy (w.heap.size + 1) 199 (wcells (row 64 f)) ∧ Blk wy w.heap.size 199 (wcells (row 64 fun _ => 0)) ∧ Below w.heap.size w wy)
  case atStart => exact ⟨0, _, rfl, rfl, ⟨fun j h => by omega, fun j _ => rfl⟩, hB3, hB2', hb⟩
  case round =>
    clear hB3 hB2' hb
    obtain ⟨t, f, htg, rfl, HF, hB3, hB2, hbx⟩ := hrel
    rcases gk with _ | g
    · obtain rfl : t = 16 := by omega
      have HF2 : Hid (∀ j, j < 16 → f j = wd l j) := fun j hj => by rw [HF.out.1 j hj, wd_lo l hj]
      clear HF
      go_wp2_with fail
      go_loopg [6] 48 (fun g s6 wy => ∃ (t : Nat) (f : Nat → Nat), t + g = 64 ∧ 16 ≤ t ∧ s6 = .int .i64 t ∧ Hid (∀ j, j < t → f j = wd l j) ∧ Blk wy (w.heap.size + 1) 199 (wcells (row 64 f)) ∧ Blk wy w.heap.size 199 (wcells (row 64 fun _ => 0)) ∧ Below w.heap.size w wy)
      case atStart => exact ⟨16, f, rfl, Nat.le_refl _, rfl, HF2, hB3, hB2, hbx⟩
      case round =>
        clear HF2 hB3 hB2 hbx
        obtain ⟨t, f, htg, h16, rfl, HF, hB3, hB2, hbx⟩ := hrel
        rcases gk with _ | g
        · obtain rfl : t = 64 := by omega
          have he : row 64 f = row 64 (wd l) := row_eq HF.out
          rw [he] at hB3
          have hX := row_len 64 (wd l)
          have h1 := row_one 64 (wd l)
          have hXi : Hid ((Tryz.prog.info? 199).map (·.size) = some (wcells (row 64 (wd l))).length) := by show _ = _; rw [hX]; exact info64
          have hO : (wcells (row 64 fun _ => 0)).length = (wcells (row 64 (wd l))).length := by rw [row_len, row_len]
          have HB3 := Lib.hid hB3
          have HB2 := Lib.hid hB2
          obtain ⟨X, hXe⟩ : ∃ X, wcells (row 64 (wd l)) = X := ⟨_, rfl⟩
          rw [hXe] at HB3 h1 hXi hO
          have HXE := Lib.hid hXe
          clear hXe
          generalize wcells (row 64 fun _ => 0) = O at HB2 hO
          clear hB3 hB2 he HF hX
          go_wp2_with (first
            | (with_reducible refine wpList_load_blk rfl 199 (.tmp 3) rfl (w.heap.size + 1) X 199 HB3.out rfl _ Tryz.underlying199 rfl hXi.out ?_)
            | (with_reducible refine wpList_store_blk rfl 199 (.tmp 2) (.tmp 77) rfl w.heap.size X O 199 HB2.out rfl rfl hXi.out hO h1 ?_; intro w1 hR hW))
          refine bodyPost_ret (v := .agg X.toArray) (results_blk Tryz.results165 _ _ w.heap.size 199 X _ rfl hR Tryz.underlying199 rfl hXi.out) rfl ⟨by rw [HXE.out], hW.below _ _ hbx (Nat.le_refl _)⟩
        · have htI : (t : Int) < 64 := by omega
          have e2 := HF.out (t - 2) (by omega)
          have e7 := HF.out (t - 7) (by omega)
          have e15 := HF.out (t - 15) (by omega)
          have e16 := HF.out (t - 16) (by omega)
          have l2 := wd_lt l (t - 2)
          have l7 := wd_lt l (t - 7)
          have l15 := wd_lt l (t - 15)
          have l16 := wd_lt l (t - 16)
          have hW := wd_hi l h16
          have c2 := (hB3.cell (t - 2)).trans (row_at f (by omega))
          have c7 := (hB3.cell (t - 7)).trans (row_at f (by omega))
          have c15 := (hB3.cell (t - 15)).trans (row_at f (by omega))
          have c16 := (hB3.cell (t - 16)).trans (row_at f (by omega))
          have ct := (hB3.cell t).trans (row_at f (by omega))
          have ft := hB3.frozen t
          rw [e2] at c2
          rw [e7] at c7
          rw [e15] at c15
          rw [e16] at c16
          obtain ⟨X, hX⟩ : ∃ X, wd l (t - 2) = X := ⟨_, rfl⟩
          obtain ⟨Y, hY⟩ : ∃ Y, wd l (t - 15) = Y := ⟨_, rfl⟩
          obtain ⟨U, hU⟩ : ∃ U, wd l (t - 7) = U := ⟨_, rfl⟩
          obtain ⟨V, hV⟩ : ∃ V, wd l (t - 16) = V := ⟨_, rfl⟩
          rw [hX] at c2 l2 hW
          rw [hY] at c15 l15 hW
          rw [hU] at c7 l7 hW
          rw [hV] at c16 l16 hW
          have x1 := xor3 _ _ _ (rotN_lt 17 l2) (rotN_lt 19 l2) (dwn_lt 10 l2)
          have x0 := xor3 _ _ _ (rotN_lt 7 l15) (rotN_lt 18 l15) (dwn_lt 3 l15)
          have y1 := s1_lt l2
          have y0 := s0_lt l15
          have z1 := Lib.hid (turn_c X 17 l2 (by decide) wr)
          have z2 := Lib.hid (turn_c X 19 l2 (by decide) wr)
          have z3 := Lib.hid (down_c X 10 l2 (by decide) wr)
          have z4 := Lib.hid (turn_c Y 7 l15 (by decide) wr)
          have z5 := Lib.hid (turn_c Y 18 l15 (by decide) wr)
          have z6 := Lib.hid (down_c Y 3 l15 (by decide) wr)
          clear hX hY hU hV
          obtain ⟨A1, q1, a1⟩ := add32 y1 l7
          obtain ⟨A2, q2, a2⟩ := add32 a1.1 y0
          obtain ⟨A3, q3, a3⟩ := add32 a2.1 l16
          have HW : Hid (A3 = wd l t) := by show _ = _; rw [hW, a3.2, a2.2, a1.2]; omega
          have r1 : IntKind.i64.wrap ((t : Int) - 7) = (t : Int) - 7 := by rw [IntKind.wrap_i64]; omega
          have r2 : ((t : Int) - 7).toNat = t - 7 := by omega
          have r3 : (0 : Int) ≤ (t : Int) - 7 := by omega
          have r4 : (t : Int) - 7 < 64 := by omega
          have r5 : IntKind.i64.wrap ((t : Int) - 16) = (t : Int) - 16 := by rw [IntKind.wrap_i64]; omega
          have r6 : ((t : Int) - 16).toNat = t - 16 := by omega
          have r7 : (0 : Int) ≤ (t : Int) - 16 := by omega
          have r8 : (t : Int) - 16 < 64 := by omega
          have r9 : (7 : Int) ≤ (t : Int) := by omega
          have r10 : (16 : Int) ≤ (t : Int) := by omega
          have r11 : (t : Int) < 71 := by omega
          have r12 : (t : Int) < 80 := by omega
          clear hW a1 a2 a3
          rw [show rotN 17 X ^^^ rotN 19 X ^^^ dwn 10 X = s1 X from rfl] at x1
          rw [show rotN 7 Y ^^^ rotN 18 Y ^^^ dwn 3 Y = s0 Y from rfl] at x0
          go_wp2_with fail
          refine z1.out.mono ?_
          rintro e w' ⟨rfl, rfl⟩
          go_wp2_with fail
          refine z2.out.mono ?_
          rintro e w' ⟨rfl, rfl⟩
          go_wp2_with fail
          refine z3.out.mono ?_
          rintro e w' ⟨rfl, rfl⟩
          go_wp2_with fail
          refine z4.out.mono ?_
          rintro e w' ⟨rfl, rfl⟩
          go_wp2_with fail
          refine z5.out.mono ?_
          rintro e w' ⟨rfl, rfl⟩
          go_wp2_with fail
          refine z6.out.mono ?_
          rintro e w' ⟨rfl, rfl⟩
          go_wp2_with fail
          have HSET : Hid (Blk (wr.drew.setCell ⟨w.heap.size + 1, t, none⟩ (.int .u32 (A3 : Int))) (w.heap.size + 1) 199 (wcells (row 64 (upd f t (wd l t))))) := by
            have h := Blk.set (w := wr.drew) hB3 t (.int .u32 ((wd l t : Nat) : Int))
            rw [row_set, ← HW.out] at h
            rw [← HW.out]
            exact h
          have HB2 : Hid (Blk (wr.drew.setCell ⟨w.heap.size + 1, t, none⟩ (.int .u32 (A3 : Int))) w.heap.size 199 (wcells (row 64 fun _ => 0))) := Blk.set_other (w := wr.drew) hB2 (by omega) t _
          have HBX : Hid (Below w.heap.size w (wr.drew.setCell ⟨w.heap.size + 1, t, none⟩ (.int .u32 (A3 : Int)))) := hbx.drew.setCell (by simp) _
          have HF2 : Hid (∀ j, j < t + 1 → upd f t (wd l t) j = wd l j) := by
            intro j hj
            by_cases he : j = t
            · rw [he, upd_at]
            · rw [upd_ne he]; exact HF.out j (by omega)
          clear hB3 hB2 hbx HF
          go_still_tail 15, (by kernel_rfl)
          change wpList _ _ _ _ _ wr.drew
          obtain ⟨wd', hwd⟩ : ∃ wd', wd' = wr.drew := ⟨_, rfl⟩
          rw [← hwd] at HSET HB2 HBX ⊢
          have f3 : wd'.frozen? ⟨w.heap.size + 1, t, none⟩ = false := by rw [hwd]; exact ft
          have d1 : wd'.cell? ⟨w.heap.size + 1, t, none⟩ = some (.int .u32 ((f t : Nat) : Int)) := by rw [hwd]; exact ct
          clear hwd c2 c7 c15 c16 ct ft
          go_wp2_with fail
          go_roundg g
          case measure => omega
          case rel => exact ⟨t + 1, _, by omega, by omega, by go_num, HF2, HSET.out, HB2.out, HBX.out⟩
    · have ht : t < 16 := by omega
      have htI : (t : Int) < 16 := by omega
      go_wp2_with fail
      go_loopg [5] 4 (fun g2 s5 wy => ∃ (i : Nat) (f : Nat → Nat), i + g2 = 4 ∧ s5 = .int .i64 i ∧ Hid ((∀ j, j < t → f j = word l j) ∧ (∀ j, t < j → f j = 0) ∧ f t = part l t i) ∧ Blk wy (w.heap.size + 1) 199 (wcells (row 64 f)) ∧ Blk wy w.heap.size 199 (wcells (row 64 fun _ => 0)) ∧ Below w.heap.size w wy)
      case atStart => exact ⟨0, f, rfl, rfl, ⟨HF.out.1, fun j hj => HF.out.2 j (by omega), HF.out.2 t (Nat.le_refl _)⟩, hB3, hB2, hbx⟩
      case round =>
        clear HF hB3 hB2 hbx
        obtain ⟨i, f, hig, rfl, HF, hB3, hB2, hbx⟩ := hrel
        rcases gk with _ | g2
        · obtain rfl : i = 4 := by omega
          have HF2 : Hid ((∀ j, j < t + 1 → f j = word l j) ∧ (∀ j, t + 1 ≤ j → f j = 0)) := by
            refine ⟨fun j hj => ?_, fun j hj => HF.out.2.1 j (by omega)⟩
            by_cases he : j = t
            · rw [he, HF.out.2.2, part_word]
            · exact HF.out.1 j (by omega)
          go_wp2_with fail
          go_roundg g
          case measure => omega
          case rel => exact ⟨t + 1, f, by omega, by go_num, HF2, hB3, hB2, hbx⟩
        · have hi4 : i < 4 := by omega
          have hiI : (i : Int) < 4 := by omega
          have hq := HP.out.below hbx
          obtain ⟨b, o, rfl, hc⟩ := hq.at (by rw [HL.out]; decide)
          have c2 := hc (4 * t + i) (by rw [HL.out]; omega)
          have c1 := (hB3.cell t).trans (row_at f (by omega))
          have f1 := hB3.frozen t
          have hpl := part_small l t i hi4
          rw [HF.out.2.2] at c1
          have hy := (l.getD (4 * t + i) 0).toNat_lt
          have HV : Hid (((256 * (part l t i : Nat) : Int) + (((l.getD (4 * t + i) 0).toNat : Nat) : Int)) = ((part l t (i + 1) : Nat) : Int)) := by show _ = _; simp only [part]; omega
          obtain ⟨y, hyy⟩ : ∃ y, (l.getD (4 * t + i) 0).toNat = y := ⟨_, rfl⟩
          obtain ⟨x, hxx⟩ : ∃ x, part l t i = x := ⟨_, rfl⟩
          rw [hyy] at c2 hy HV
          rw [hxx] at c1 hpl HV
          have s1 : IntKind.u32.wrap (256 * (x : Int)) = 256 * (x : Int) := by rw [IntKind.wrap_u32]; omega
          have s2 : IntKind.i64.wrap (4 * (t : Int)) = 4 * (t : Int) := by rw [IntKind.wrap_i64]; omega
          have s3 : IntKind.i64.wrap (4 * (t : Int) + (i : Int)) = 4 * (t : Int) + (i : Int) := by rw [IntKind.wrap_i64]; omega
          have s4 : (4 * (t : Int) + (i : Int)).toNat = 4 * t + i := by omega
          have s5 : (0 : Int) ≤ 4 * (t : Int) + (i : Int) := by omega
          have s6 : 4 * (t : Int) + (i : Int) < 64 := by omega
          have s7 : IntKind.u32.wrap (256 * (x : Int) + (y : Int)) = 256 * (x : Int) + (y : Int) := by rw [IntKind.wrap_u32]; omega
          have s8 : IntKind.u32.wrap (y : Int) = (y : Int) := by rw [IntKind.wrap_u32]; omega
          have s9 : (t : Int) < 64 := by omega
          have HSET : Hid (Blk (wr.drew.setCell ⟨w.heap.size + 1, t, none⟩ (.int .u32 (256 * (x : Int) + (y : Int)))) (w.heap.size + 1) 199 (wcells (row 64 (upd f t (part l t (i + 1)))))) := by
            have h := Blk.set (w := wr.drew) hB3 t (.int .u32 ((part l t (i + 1) : Nat) : Int))
            rw [row_set, ← HV.out] at h
            exact h
          have HB2 : Hid (Blk (wr.drew.setCell ⟨w.heap.size + 1, t, none⟩ (.int .u32 (256 * (x : Int) + (y : Int)))) w.heap.size 199 (wcells (row 64 fun _ => 0))) := Blk.set_other (w := wr.drew) hB2 (by omega) t _
          have HBX : Hid (Below w.heap.size w (wr.drew.setCell ⟨w.heap.size + 1, t, none⟩ (.int .u32 (256 * (x : Int) + (y : Int))))) := hbx.drew.setCell (by simp) _
          have HF2 : Hid ((∀ j, j < t → upd f t (part l t (i + 1)) j = word l j) ∧ (∀ j, t < j → upd f t (part l t (i + 1)) j = 0) ∧ upd f t (part l t (i + 1)) t = part l t (i + 1)) :=
            ⟨fun j hj => by rw [upd_ne (by omega)]; exact HF.out.1 j hj, fun j hj => by rw [upd_ne (by omega)]; exact HF.out.2.1 j hj, upd_at _ _ _⟩
          clear hB3 hB2 hbx hq hc hyy hxx HF
          go_wp2_with fail
          go_still_tail 15, (by kernel_rfl)
          change wpList _ _ _ _ _ wr.drew
          obtain ⟨wd', hwd⟩ : ∃ wd', wd' = wr.drew := ⟨_, rfl⟩
          rw [← hwd] at HSET HB2 HBX ⊢
          have f3 : wd'.frozen? ⟨w.heap.size + 1, t, none⟩ = false := by rw [hwd]; exact f1
          have d1 : wd'.cell? ⟨w.heap.size + 1, t, none⟩ = some (.int .u32 (x : Int)) := by rw [hwd]; exact c1
          clear hwd c1 c2 f1
          go_wp2_with fail
          go_roundg g2
          case measure => omega
          case rel => exact ⟨i + 1, _, by omega, by go_num, HF2, HSET.out, HB2.out, HBX.out⟩
end Go.Proofs.YthagdkipipldlaaGreatDoor.sha

namespace Go.Proofs.YthagdkipipldlaaGreatDoor.sha
open Go.RowKit
open Go.Proofs.YthagdkipipldlaaGreatDoor.oct Go.Proofs.YthagdkipipldlaaGreatDoor.ref Go.Proofs.YthagdkipipldlaaGreatDoor.rows
open Go.Lib (byteCells)

theorem info8 : (Tryz.prog.info? 177).map (·.size) = some 8 := by kernel_rfl
/-- the words of a state, by number -/
def St.at (v : St) (j : Nat) : Nat := v.list.getD j 0
theorem st_row (v : St) : wcells v.list = wcells (row 8 v.at) := rfl
theorem st_len (v : St) : (wcells v.list).length = 8 := rfl

theorem st_at {v : St} (h : v.ok) (i : Nat) (hi : i < 8) : v.at i < 4294967296 := by
  obtain ⟨h1, h2, h3, h4, h5, h6, h7, h8⟩ := h
  match i, hi with
  | 0, _ => exact h1
  | 1, _ => exact h2
  | 2, _ => exact h3
  | 3, _ => exact h4
  | 4, _ => exact h5
  | 5, _ => exact h6
  | 6, _ => exact h7
  | 7, _ => exact h8
theorem plus_at (v u : St) (j : Nat) (hj : j < 8) : (plus v u).at j = (v.at j + u.at j) % 4294967296 := by
  match j, hj with
  | 0, _ => rfl
  | 1, _ => rfl
  | 2, _ => rfl
  | 3, _ => rfl
  | 4, _ => rfl
  | 5, _ => rfl
  | 6, _ => rfl
  | 7, _ => rfl
theorem add32m {a b : Nat} (_ha : a < 4294967296) (_hb : b < 4294967296) : ∃ c : Nat, ((a : Int) + (b : Int)) % 4294967296 = (c : Int) ∧ c < 4294967296 ∧ c = (a + b) % 4294967296 :=
  ⟨(a + b) % 4294967296, by omega, Nat.mod_lt _ (by decide), rfl⟩
theorem and_u32 (a b : Nat) (ha : a < 2 ^ 32) (hb : b < 2 ^ 32) : bits .and .u32 (a : Int) (b : Int) = ((a &&& b : Nat) : Int) := by
  have ha' : a % 2 ^ 32 = a := Nat.mod_eq_of_lt ha
  have hb' : b % 2 ^ 32 = b := Nat.mod_eq_of_lt hb
  have hk : IntKind.u32.bits = 32 := rfl
  simp only [bits, BitVec.ofInt_natCast, BitVec.toNat_and, BitVec.toNat_ofNat, hk, ha', hb']
  exact wraps_u32 _ (Int.natCast_nonneg _) (by have := a32 (b := b) (show a < 4294967296 from ha); omega)
theorem ch_val (e f g : Nat) (he : e < 4294967296) (hf : f < 4294967296) (hg : g < 4294967296) :
    bits .xor .u32 (bits .and .u32 (e : Int) (f : Int)) (bits .and .u32 (4294967295 - (e : Int)) (g : Int)) = ((ch e f g : Nat) : Int) := by
  rw [show (4294967295 - (e : Int)) = ((4294967295 - e : Nat) : Int) from by omega, and_u32 e f he hf, and_u32 _ g (by omega) hg, xor_u32 _ _ (a32 he) (a32 (by omega))]
  rfl
theorem maj_val (a b c : Nat) (ha : a < 4294967296) (hb : b < 4294967296) (hc : c < 4294967296) :
    bits .xor .u32 (bits .xor .u32 (bits .and .u32 (a : Int) (b : Int)) (bits .and .u32 (a : Int) (c : Int))) (bits .and .u32 (b : Int) (c : Int)) = ((maj a b c : Nat) : Int) := by
  rw [and_u32 a b ha hb, and_u32 a c ha hc, and_u32 b c hb hc, xor3 _ _ _ (a32 ha) (a32 ha) (a32 hb)]
  rfl
theorem turn_i (x n : Nat) (m : Int) (hm : m = n) (hx : x < 4294967296) (hn : n ≤ 64) (w : World) :
    Calls Tryz.prog 166 #[.int .u32 x, .int .i64 m] w fun e w' => e = .returned (.int .u32 (rotN n x : Nat)) ∧ w = w' := by
  subst hm; exact turn_c x n hx hn w

set_option maxRecDepth 8000 in
set_option maxHeartbeats 2000000 in
theorem take_c (v : St) (hv : v.ok) (p : Option Addr) (cp : Nat) (l : List UInt8) (w : World) (hp : In8 w p l) (hl : l.length = 64) :
    Calls Tryz.prog 142 #[.agg (wcells v.list).toArray, .slice p 64 cp] w fun e w' => e = .returned (.agg (wcells (takeB v l).list).toArray) ∧ Below w.heap.size w w' := by
  have HP := Lib.hid hp
  have HL := Lib.hid hl
  have HI : Hid ((Tryz.prog.info? 199).map (·.size) = some 64) := info64
  have HJ : Hid ((Tryz.prog.info? 177).map (·.size) = some 8) := info8
  clear hp hl
  obtain ⟨X, hX⟩ : ∃ X, wcells v.list = X := ⟨_, rfl⟩
  have hXl : X.length = 8 := by rw [← hX]; rfl
  have h1 : ∀ u ∈ X, u.oneCell' = true := by rw [← hX]; exact wcells_one _
  rw [hX]
  go_enter Tryz.func142, Tryz.ntmps142
  go_wp2_with fail
  have hB2 : Blk (w.alloc (.cells X.toArray 177)) w.heap.size 177 X := blk_new w _ _ _ rfl
  have hB4 : Blk ((w.alloc (.cells X.toArray 177)).alloc (.cells (wcells (row 8 fun _ => 0)).toArray 177)) (w.heap.size + 1) 177 (wcells (row 8 fun _ => 0)) := by
    have := blk_new (w.alloc (.cells X.toArray 177)) _ 177 (wcells (row 8 fun _ => 0)) rfl
    simpa using this
  have hb : Below w.heap.size w ((w.alloc (.cells X.toArray 177)).alloc (.cells (wcells (row 8 fun _ => 0)).toArray 177)) := ((Below.refl _ _).alloc (Nat.le_refl _) _).alloc (by simp) _
  have hB2' := blk_old hB2 (.cells (wcells (row 8 fun _ => 0)).toArray 177)
  refine (words_c p cp l ((w.alloc (.cells X.toArray 177)).alloc (.cells (wcells (row 8 fun _ => 0)).toArray 177)) (HP.out.below hb) HL.out).mono ?_
  rintro e w1 ⟨rfl, hb1⟩
  have hC2 := Lib.hid (hB2'.below hb1)
  have hC4 := Lib.hid (hB4.below hb1)
  have hBb := Lib.hid (bnext hb hb1)
  clear hB2 hB4 hb hB2' hb1
  have hWl := row_len 64 (wd l)
  have hW1 := row_one 64 (wd l)
  have hWi : Hid ((Tryz.prog.info? 199).map (·.size) = some (wcells (row 64 (wd l))).length) := by show _ = _; rw [hWl]; exact info64
  have hXi : Hid ((Tryz.prog.info? 177).map (·.size) = some X.length) := by show _ = _; rw [hXl]; exact info8
  obtain ⟨W, hWe⟩ : ∃ W, wcells (row 64 (wd l)) = W := ⟨_, rfl⟩
  rw [hWe] at hWl hW1 hWi ⊢
  have HWE := Lib.hid hWe
  have HXE := Lib.hid hX
  clear hWe hX
  go_wp2_with (first
    | (with_reducible refine wpList_store_new rfl 199 (.tmp 5) (.tmp 14) rfl W 199 _ rfl rfl hWi.out (Eq.trans (by decide) hWl.symm) hW1 ?_; intro wA hA hAb hz; clear hz; have hA2 := hC2.out.below hAb)
    | (with_reducible refine wpList_load_blk rfl 177 (.tmp 2) rfl w.heap.size X 177 hA2 rfl _ Tryz.underlying177 rfl hXi.out ?_)
    | (with_reducible refine wpList_store_new rfl 177 (.tmp 6) (.tmp 15) rfl X 177 _ rfl rfl hXi.out (Eq.trans (by decide) hXl.symm) h1 ?_; intro wB hB hBb2 hz; clear hz))
  have hD2 := hA2.below hBb2
  have hD4 := (hC4.out.below hAb).below hBb2
  have hD5 := hA.below hBb2
  have hbx := bnext (bnext hBb.out hAb) hBb2
  have HN : Hid (w.heap.size + 1 < w1.heap.size ∧ w1.heap.size < wA.heap.size) := ⟨hC4.out.lt, hA.lt⟩
  obtain ⟨g5, hg5⟩ : ∃ g5, g5 = w1.heap.size := ⟨_, rfl⟩
  obtain ⟨g6, hg6⟩ : ∃ g6, g6 = wA.heap.size := ⟨_, rfl⟩
  rw [← hg5] at hD5 HN ⊢
  rw [← hg6] at hB HN ⊢
  rw [← HXE.out] at hB hD2
  clear hC2 hC4 hBb hA2 hAb hBb2 hA hg5 hg6 hWi hXi hWl hW1 hXl h1
  go_wp2_with fail
  go_loopg [7] 64 (fun g s7 wy => ∃ t : Nat, t + g = 64 ∧ s7 = .int .i64 t ∧ Blk wy g6 177 (wcells (rnds v l t).list) ∧ Blk wy g5 199 W ∧ Blk wy w.heap.size 177 (wcells v.list) ∧ Blk wy (w.heap.size + 1) 177 (wcells (row 8 fun _ => 0)) ∧ Below w.heap.size w wy)
  case atStart => exact ⟨0, rfl, rfl, hB, hD5, hD2, hD4, hbx⟩
  case round =>
    clear hB hD5 hD2 hD4 hbx
    obtain ⟨t, htg, rfl, hB, hD5, hD2, hD4, hbx⟩ := hrel
    rcases gk with _ | g
    · obtain rfl : t = 64 := by omega
      have hv2 := rnds_ok hv l 64
      obtain ⟨u, hu⟩ : ∃ u, rnds v l 64 = u := ⟨_, rfl⟩
      rw [hu] at hB hv2
      have HT : Hid (takeB v l = plus v u) := by show _ = _; rw [← hu]; rfl
      clear hu
      rw [st_row] at hB hD2
      have HD5 := Lib.hid hD5
      clear hD5
      go_wp2_with fail
      go_loopg [12] 8 (fun g s12 wy => ∃ (i : Nat) (f : Nat → Nat), i + g = 8 ∧ s12 = .int .i64 i ∧ Hid ((∀ j, j < i → f j = (v.at j + u.at j) % 4294967296) ∧ (∀ j, i ≤ j → f j = v.at j)) ∧ Blk wy w.heap.size 177 (wcells (row 8 f)) ∧ Blk wy g6 177 (wcells (row 8 u.at)) ∧ Blk wy (w.heap.size + 1) 177 (wcells (row 8 fun _ => 0)) ∧ Below w.heap.size w wy)
      case atStart => exact ⟨0, v.at, rfl, rfl, ⟨fun j h => by omega, fun j _ => rfl⟩, hD2, hB, hD4, hbx⟩
      case round =>
        clear hB hD2 hD4 hbx
        obtain ⟨i, f, hig, rfl, HF, hD2, hB, hD4, hbx⟩ := hrel
        rcases gk with _ | g
        · obtain rfl : i = 8 := by omega
          have he : row 8 f = row 8 (takeB v l).at := by
            rw [HT.out]
            refine row_eq fun j hj => ?_
            rw [HF.out.1 j hj, plus_at v u j hj]
          rw [he] at hD2
          have hXl := row_len 8 (takeB v l).at
          have h1 := row_one 8 (takeB v l).at
          have hYi : Hid ((Tryz.prog.info? 177).map (·.size) = some (wcells (row 8 (takeB v l).at)).length) := by show _ = _; rw [hXl]; exact info8
          have hO : (wcells (row 8 fun _ => 0)).length = (wcells (row 8 (takeB v l).at)).length := by rw [row_len, row_len]
          have HD2 := Lib.hid hD2
          have HD4 := Lib.hid hD4
          obtain ⟨Y, hYe⟩ : ∃ Y, wcells (row 8 (takeB v l).at) = Y := ⟨_, rfl⟩
          rw [hYe] at HD2 h1 hYi hO
          have HYE := Lib.hid hYe
          generalize wcells (row 8 fun _ => 0) = O at HD4 hO
          clear hD2 hD4 hB he HF hXl hYe
          go_wp2_with (first
            | (with_reducible refine wpList_load_blk rfl 177 (.tmp 2) rfl w.heap.size Y 177 HD2.out rfl _ Tryz.underlying177 rfl hYi.out ?_)
            | (with_reducible refine wpList_store_blk rfl 177 (.tmp 4) (.tmp 117) rfl (w.heap.size + 1) Y O 177 HD4.out rfl rfl hYi.out hO h1 ?_; intro wf hR hW))
          refine bodyPost_ret (v := .agg Y.toArray) (results_blk Tryz.results142 _ _ (w.heap.size + 1) 177 Y _ rfl hR Tryz.underlying177 rfl hYi.out) rfl ⟨by rw [← HYE.out, ← st_row], hW.below _ _ hbx (by omega)⟩
        · have hiI : (i : Int) < 8 := by omega
          have hi8 : i < 8 := by omega
          have c1 := (hD2.cell i).trans (row_at f hi8)
          have c2 := (hB.cell i).trans (row_at u.at hi8)
          have f1 := hD2.frozen i
          rw [HF.out.2 i (Nat.le_refl _)] at c1
          have k1 := st_at hv i hi8
          have k2 := st_at hv2 i hi8
          have hne : w.heap.size ≠ g6 := by have := HN.out; omega
          have HS : Hid (∀ j, j < i + 1 → upd f i ((v.at i + u.at i) % 4294967296) j = (v.at j + u.at j) % 4294967296) := by
            intro j hj
            by_cases he : j = i
            · rw [he, upd_at]
            · rw [upd_ne he]; exact HF.out.1 j (by omega)
          have HS2 : Hid (∀ j, i + 1 ≤ j → upd f i ((v.at i + u.at i) % 4294967296) j = v.at j) := fun j hj => by rw [upd_ne (by omega)]; exact HF.out.2 j (by omega)
          obtain ⟨a, ha⟩ : ∃ a, v.at i = a := ⟨_, rfl⟩
          obtain ⟨b, hb⟩ : ∃ b, u.at i = b := ⟨_, rfl⟩
          rw [ha] at c1 k1 HS HS2
          rw [hb] at c2 k2 HS HS2
          obtain ⟨A, q, hA⟩ := add32 k1 k2
          rw [← hA.2] at HS HS2
          clear ha hb hA
          have HSET : Hid (Blk (wr.drew.setCell ⟨w.heap.size, i, none⟩ (.int .u32 (A : Int))) w.heap.size 177 (wcells (row 8 (upd f i A)))) := by
            have h := Blk.set (w := wr.drew) hD2 i (.int .u32 (A : Int))
            rw [row_set] at h
            exact h
          have HB2 : Hid (Blk (wr.drew.setCell ⟨w.heap.size, i, none⟩ (.int .u32 (A : Int))) g6 177 (wcells (row 8 u.at))) := Blk.set_other (w := wr.drew) hB hne i _
          have HB4 : Hid (Blk (wr.drew.setCell ⟨w.heap.size, i, none⟩ (.int .u32 (A : Int))) (w.heap.size + 1) 177 (wcells (row 8 fun _ => 0))) := Blk.set_other (w := wr.drew) hD4 (by omega) i _
          have HBX : Hid (Below w.heap.size w (wr.drew.setCell ⟨w.heap.size, i, none⟩ (.int .u32 (A : Int)))) := hbx.drew.setCell (Nat.le_refl _) _
          have d1 : wr.drew.cell? ⟨w.heap.size, i, none⟩ = some (.int .u32 (a : Int)) := c1
          have f3 : wr.drew.frozen? ⟨w.heap.size, i, none⟩ = false := f1
          clear hD2 hB hD4 hbx HF
          go_wp2_with fail
          go_still_tail 9, (by kernel_rfl)
          change wpList _ _ _ _ _ wr.drew
          obtain ⟨wd', hwd⟩ : ∃ wd', wd' = wr.drew := ⟨_, rfl⟩
          rw [← hwd] at HSET HB2 HB4 HBX d1 f3 ⊢
          clear hwd c1 c2 f1
          go_wp2_with fail
          go_roundg g
          case measure => omega
          case rel => exact ⟨i + 1, _, by omega, by go_num, ⟨HS.out, HS2.out⟩, HSET.out, HB2.out, HB4.out, HBX.out⟩
    · have htI : (t : Int) < 64 := by omega
      have hok := rnds_ok hv l t
      have hR : rnds v l (t + 1) = rnd (rnds v l t) (kt.getD t 0) (wd l t) := rfl
      obtain ⟨u, hu⟩ : ∃ u, rnds v l t = u := ⟨_, rfl⟩
      rw [hu] at hok hR hB
      have HR := Lib.hid hR
      clear hR hu
      obtain ⟨a, b, c, d, e, f, g', i'⟩ := u
      obtain ⟨o1, o2, o3, o4, o5, o6, o7, o8⟩ := hok
      simp only at o1 o2 o3 o4 o5 o6 o7 o8
      have c4 : wr.cell? ⟨g6, 4, none⟩ = some (.int .u32 (e : Int)) := hB.cell 4
      have c0 : wr.cell? ⟨g6, 0, none⟩ = some (.int .u32 (a : Int)) := hB.cell 0
      go_wp2_with fail
      have d7 : ∀ x : After wr, x.v.cell? ⟨g6, 7, none⟩ = some (.int .u32 (i' : Int)) := fun x => (hB.below x.below).cell 7
      have d5 : ∀ x : After wr, x.v.cell? ⟨g6, 5, none⟩ = some (.int .u32 (f : Int)) := fun x => (hB.below x.below).cell 5
      have d6 : ∀ x : After wr, x.v.cell? ⟨g6, 6, none⟩ = some (.int .u32 (g' : Int)) := fun x => (hB.below x.below).cell 6
      have dw : ∀ x : After wr, x.v.cell? ⟨g5, t, none⟩ = some (.int .u32 (wd l t : Int)) := fun x => by
        have h := (hD5.below x.below).cell t
        rw [← HWE.out, row_at _ (by omega)] at h
        exact h
      have hk := fun x : After wr => k_c t (by omega) x.v
      have hKl := kt_lt t (by omega)
      have hWl := wd_lt l t
      have HR2 := HR.out
      obtain ⟨K, hK⟩ : ∃ K, kt.getD t 0 = K := ⟨_, rfl⟩
      obtain ⟨Wt, hWt⟩ : ∃ Wt, wd l t = Wt := ⟨_, rfl⟩
      rw [hK] at hKl HR2
      rw [hWt] at hWl HR2
      simp only [hK] at hk
      simp only [hWt] at dw
      clear hK hWt HR
      have x1 := xor3 _ _ _ (rotN_lt 6 o5) (rotN_lt 11 o5) (rotN_lt 25 o5)
      rw [show rotN 6 e ^^^ rotN 11 e ^^^ rotN 25 e = S1 e from rfl] at x1
      have x2 := ch_val e f g' o5 o6 o7
      obtain ⟨A1, m1, b1⟩ := add32m o8 (S1_lt o5)
      obtain ⟨A2, m2, b2⟩ := add32m b1.1 (ch_lt (f := f) (g := g') o5)
      obtain ⟨A3, m3, b3⟩ := add32m b2.1 hKl
      obtain ⟨A4, m4, b4⟩ := add32m b3.1 hWl
      obtain ⟨T2, m5, b5⟩ := add32m (S0_lt o1) (maj_lt (c := c) o1 o2)
      obtain ⟨E4, m6, b6⟩ := add32m o4 b4.1
      obtain ⟨A0, m7, b7⟩ := add32m b4.1 b5.1
      have hone : one ⟨a, b, c, d, e, f, g', i'⟩ K Wt = A4 := by
        show (i' + S1 e + ch e f g' + K + Wt) % 4294967296 = A4
        rw [b4.2, b3.2, b2.2, b1.2]; omega
      have htwo : two ⟨a, b, c, d, e, f, g', i'⟩ = T2 := b5.2.symm
      have HFIN : Hid ((rnds v l (t + 1)).list = [A0, a, b, c, E4, e, f, g']) := by
        show _ = _
        rw [HR2]
        unfold rnd
        rw [hone, htwo, b6.2, b7.2]
        rfl
      clear hone htwo HR2 b1 b2 b3 b4 b5 b6 b7
      have C1 := Lib.hid (fun x : After wr => after_same x (turn_i e 6 6 rfl o5 (by decide) x.v))
      have C2 := Lib.hid (fun x : After wr => after_same x (turn_i e 11 11 rfl o5 (by decide) x.v))
      have C3 := Lib.hid (fun x : After wr => after_same x (turn_i e 25 25 rfl o5 (by decide) x.v))
      have C4 := Lib.hid (fun x : After wr => after_of x (hk x))
      clear hk
      refine wp_region_after (by kernel_rfl) (by kernel_rfl) ?_
      repeat (go_big_quiet_step (first
        | (rename_i x; go_at_call 166; with_reducible exact C1.out x)
        | (rename_i x; go_at_call 166; with_reducible exact C2.out x)
        | (rename_i x; go_at_call 166; with_reducible exact C3.out x)
        | (rename_i x; go_at_call 167; with_reducible exact C4.out x)))
      refine wpQuiet_nil ?_
      rintro ⟨wq, hxb⟩
      dsimp only
      have hBq := hB.below hxb
      have hD5q := hD5.below hxb
      have hD2q := hD2.below hxb
      have hD4q := hD4.below hxb
      have hbq := bnext hbx hxb
      clear hB hD5 hD2 hD4 hbx hxb d7 d5 d6 dw x1 x2 C1 C2 C3 C4 c4 c0
      go_wp2_with fail
      have d1 : ∀ x : After wq, x.v.cell? ⟨g6, 1, none⟩ = some (.int .u32 (b : Int)) := fun x => (hBq.below x.below).cell 1
      have d2 : ∀ x : After wq, x.v.cell? ⟨g6, 2, none⟩ = some (.int .u32 (c : Int)) := fun x => (hBq.below x.below).cell 2
      have y1 := xor3 _ _ _ (rotN_lt 2 o1) (rotN_lt 13 o1) (rotN_lt 22 o1)
      rw [show rotN 2 a ^^^ rotN 13 a ^^^ rotN 22 a = S0 a from rfl] at y1
      have y2 := maj_val a b c o1 o2 o3
      have C5 := Lib.hid (fun x : After wq => after_same x (turn_i a 2 2 rfl o1 (by decide) x.v))
      have C6 := Lib.hid (fun x : After wq => after_same x (turn_i a 13 13 rfl o1 (by decide) x.v))
      have C7 := Lib.hid (fun x : After wq => after_same x (turn_i a 22 22 rfl o1 (by decide) x.v))
      refine wp_region_after (by kernel_rfl) (by kernel_rfl) ?_
      repeat (go_big_quiet_step (first
        | (rename_i x; go_at_call 166; with_reducible exact C5.out x)
        | (rename_i x; go_at_call 166; with_reducible exact C6.out x)
        | (rename_i x; go_at_call 166; with_reducible exact C7.out x)))
      refine wpQuiet_nil ?_
      rintro ⟨wv, hxb⟩
      dsimp only
      have hBv := hBq.below hxb
      have hD5v := hD5q.below hxb
      have hD2v := hD2q.below hxb
      have hD4v := hD4q.below hxb
      have hbv := bnext hbq hxb
      clear hBq hD5q hD2q hD4q hbq hxb d1 d2 y1 y2 C5 C6 C7
      have e0 : wv.cell? ⟨g6, 0, none⟩ = some (.int .u32 (a : Int)) := hBv.cell 0
      have e1 : wv.cell? ⟨g6, 1, none⟩ = some (.int .u32 (b : Int)) := hBv.cell 1
      have e2 : wv.cell? ⟨g6, 2, none⟩ = some (.int .u32 (c : Int)) := hBv.cell 2
      have e3 : wv.cell? ⟨g6, 3, none⟩ = some (.int .u32 (d : Int)) := hBv.cell 3
      have e4 : wv.cell? ⟨g6, 4, none⟩ = some (.int .u32 (e : Int)) := hBv.cell 4
      have e5 : wv.cell? ⟨g6, 5, none⟩ = some (.int .u32 (f : Int)) := hBv.cell 5
      have e6 : wv.cell? ⟨g6, 6, none⟩ = some (.int .u32 (g' : Int)) := hBv.cell 6
      have e7 : wv.cell? ⟨g6, 7, none⟩ = some (.int .u32 (i' : Int)) := hBv.cell 7
      have f0 := hBv.frozen 0
      have f1 := hBv.frozen 1
      have f2 := hBv.frozen 2
      have f3 := hBv.frozen 3
      have f4 := hBv.frozen 4
      have f5 := hBv.frozen 5
      have f6 := hBv.frozen 6
      have f7 := hBv.frozen 7
      have HBV := Lib.hid hBv
      have HBB := Lib.hid hbv
      have HD : Hid (Blk wv g5 199 W ∧ Blk wv w.heap.size 177 (wcells v.list) ∧ Blk wv (w.heap.size + 1) 177 (wcells (row 8 fun _ => 0))) := ⟨hD5v, hD2v, hD4v⟩
      clear hBv hD5v hD2v hD4v hbv
      go_wp2_with fail
      have hne5 : g6 ≠ g5 := by have := HN.out; omega
      have hne2 : g6 ≠ w.heap.size := by have := HN.out; omega
      have hne4 : g6 ≠ w.heap.size + 1 := by have := HN.out; omega
      have hle : w.heap.size ≤ g6 := by have := HN.out; omega
      have hS := (((((((HBV.out.set 7 (.int .u32 (g' : Int))).set 6 (.int .u32 (f : Int))).set 5 (.int .u32 (e : Int))).set 4 (.int .u32 (E4 : Int))).set 3 (.int .u32 (c : Int))).set 2 (.int .u32 (b : Int))).set 1 (.int .u32 (a : Int))).set 0 (.int .u32 (A0 : Int))
      have hO : ∀ (h ty : Nat) (Y : List Value), g6 ≠ h → Blk wv h ty Y → Blk ((((((((wv.setCell ⟨g6, 7, none⟩ (.int .u32 (g' : Int))).setCell ⟨g6, 6, none⟩ (.int .u32 (f : Int))).setCell ⟨g6, 5, none⟩ (.int .u32 (e : Int))).setCell ⟨g6, 4, none⟩ (.int .u32 (E4 : Int))).setCell ⟨g6, 3, none⟩ (.int .u32 (c : Int))).setCell ⟨g6, 2, none⟩ (.int .u32 (b : Int))).setCell ⟨g6, 1, none⟩ (.int .u32 (a : Int))).setCell ⟨g6, 0, none⟩ (.int .u32 (A0 : Int))) h ty Y :=
        fun h ty Y hn hY => (((((((hY.set_other hn 7 _).set_other hn 6 _).set_other hn 5 _).set_other hn 4 _).set_other hn 3 _).set_other hn 2 _).set_other hn 1 _).set_other hn 0 _
      go_roundg g
      case measure => omega
      case rel =>
        refine ⟨t + 1, by omega, by go_num, ?_, hO _ _ _ hne5 HD.out.1, hO _ _ _ hne2 HD.out.2.1, hO _ _ _ hne4 HD.out.2.2, ?_⟩
        · rw [HFIN.out]; exact hS
        · exact (((((((HBB.out.setCell (p := ⟨g6, 7, none⟩) hle _).setCell (p := ⟨g6, 6, none⟩) hle _).setCell (p := ⟨g6, 5, none⟩) hle _).setCell (p := ⟨g6, 4, none⟩) hle _).setCell (p := ⟨g6, 3, none⟩) hle _).setCell (p := ⟨g6, 2, none⟩) hle _).setCell (p := ⟨g6, 1, none⟩) hle _).setCell (p := ⟨g6, 0, none⟩) hle _
end Go.Proofs.YthagdkipipldlaaGreatDoor.sha

namespace Go.Proofs.YthagdkipipldlaaGreatDoor.sha
open Go.RowKit
open Go.Proofs.YthagdkipipldlaaGreatDoor.oct Go.Proofs.YthagdkipipldlaaGreatDoor.ref Go.Proofs.YthagdkipipldlaaGreatDoor.rows
open Go.Lib (byteCells)

set_option maxHeartbeats 2000000 in
theorem padded_c (p : Option Addr) (cp : Nat) (l : List UInt8) (w : World) (hp : In8 w p l) (hl : l.length ≤ 140737488355000) (hnil : p = none → cp = 0) :
    Calls Tryz.prog 141 #[.slice p l.length cp] w fun e w' => ∃ v, e = .returned v ∧ w'.ownsRow w.heap.size 5 1 v (pad l).length (byteCells (pad l)) ∧ Below w.heap.size w w' := by
  obtain ⟨j0, hj, hy0, hy1, hy2⟩ := info_parts infoByte
  have HP := Lib.hid hp
  clear hp
  go_enter Tryz.func141, Tryz.ntmps141
  go_wp2_with (first
    | (at_make; refine wpList_make_own _ rfl _ _ 125 rfl w.heap.size 5 j0 (.int .u8 0) 1 Tryz.underlying125 hj hy0 hy1 .i64 .i64 _ (l.length + 80) rfl rfl (by simp) (by rw [hy2]; omega) (by unfold maxLen; omega) (Nat.le_refl _) ?_; intro w1 hown hgrow; have hb1 := (Below.refl _ w).grown hgrow (Nat.le_refl _) (fun k hk => by cases hk); clear hgrow)
    | (at_builtin; refine wpList_append_in8 rfl (.tmp 10) (.tmp 11) rfl w.heap.size _ 0 [] rfl hown p l.length cp l rfl (HP.out.below hb1) rfl hnil (by omega) hb1.size ?_; intro v2 w2 hown2 hbb; have hb2 := hbb w hb1 (Nat.le_refl _); clear hbb hown hb1)
    | (at_builtin; refine wpList_append_in8 rfl (.tmp 13) (.tmp 14) rfl w.heap.size _ _ _ rfl (hown2.alloc _) _ 1 1 [128] rfl (in8_new _ #[.int .u8 128] [128] rfl) rfl (fun h => by cases h) (by omega) (by have := hb2.size; simp; omega) ?_; intro v3 w3 hown3 hbb; have hb3 := hbb w (hb2.alloc hb2.size _) (Nat.le_refl _); clear hbb hown2 hb2))
  go_loopg [3] (zeros l.length) (fun g s3 wy => ∃ j : Nat, j + g = zeros l.length ∧ wy.ownsRow w.heap.size 5 1 s3 (l.length + 1 + j) (byteCells (l ++ [128] ++ List.replicate j 0)) ∧ Below w.heap.size w wy)
  case atStart => exact ⟨0, by omega, by simpa [byteCells] using hown3, hb3⟩
  case round =>
    clear hown3 hb3
    obtain ⟨j, hjg, hrow, hbx⟩ := hrel
    have hz := zeros_lt l.length
    have hcp := own_in8 hrow
    obtain ⟨hcl, pA, cA, rfl, h8⟩ := hcp
    clear hcl
    obtain ⟨n, hn⟩ : ∃ n, l.length + 1 + j = n := ⟨_, rfl⟩
    rw [hn] at hrow ⊢
    have HN := Lib.hid hn
    have hnb : n ≤ 140737488355100 := by omega
    rcases gk with _ | g
    · obtain rfl : j = zeros l.length := by omega
      have hb : ((n : Int) % 64 != 56) = false := by
        have := zeros_eq l.length
        rw [bne_eq_false_iff_eq]; omega
      clear hn
      go_wp2_with fail
      have hB : Blk (wr.alloc (.cells (byteCells (brow 8 fun _ => 0)).toArray 198)) wr.heap.size 198 (byteCells (brow 8 fun _ => 0)) := blk_new _ _ _ _ rfl
      have hbx2 := hbx.alloc hbx.size (.cells (byteCells (brow 8 fun _ => 0)).toArray 198)
      have hrow2 := hrow.alloc (.cells (byteCells (brow 8 fun _ => 0)).toArray 198)
      obtain ⟨wz, hwz⟩ : ∃ wz, wz = wr.alloc (.cells (byteCells (brow 8 fun _ => 0)).toArray 198) := ⟨_, rfl⟩
      rw [← hwz] at hB hbx2 hrow2
      change Code.wp _ _ _ _ (wr.alloc (.cells (byteCells (brow 8 fun _ => 0)).toArray 198))
      rw [← hwz]
      have hgl : w.heap.size ≤ wr.heap.size := hbx.size
      have HOWN : Hid (∀ k, (Value.slice pA n cA).ownBlock = some k → k ≠ wr.heap.size) := fun k hk => by have := (hrow.lt k hk).2; omega
      obtain ⟨g5, hg5⟩ : ∃ g5, g5 = wr.heap.size := ⟨_, rfl⟩
      rw [← hg5] at hB hgl HOWN ⊢
      clear hwz hrow hbx hg5 h8
      go_loopg [4, 6] 8 (fun g s4 s6 wy => ∃ (k : Nat) (f : Nat → UInt8), k + g = 8 ∧ s6 = .int .i64 ((7 : Int) - (k : Int)) ∧ s4 = .int .u64 ((8 * l.length / 256 ^ k : Nat) : Int) ∧ Hid (∀ j, j < 8 → 8 - k ≤ j → f j = UInt8.ofNat (8 * l.length / 256 ^ (7 - j))) ∧ Blk wy g5 198 (byteCells (brow 8 f)) ∧ wy.ownsRow w.heap.size 5 1 (.slice pA n cA) n (byteCells (l ++ [128] ++ List.replicate (zeros l.length) 0)) ∧ Below w.heap.size w wy)
      case atStart => exact ⟨0, _, rfl, by go_num, by go_num, fun j h1 h2 => by omega, hB, hrow2, hbx2⟩
      case round =>
        clear hB hbx2 hrow2
        obtain ⟨k, f, hkg, rfl, rfl, HF, hB, hrow, hbx⟩ := hrel
        rcases gk with _ | g
        · obtain rfl : k = 8 := by omega
          have hbe : brow 8 f = be8 (8 * l.length) := brow_eq fun j hj => HF.out j hj (by omega)
          rw [hbe] at hB
          have HPAD : Hid (byteCells (l ++ [128] ++ List.replicate (zeros l.length) 0) ++ byteCells (be8 (8 * l.length)) = byteCells (pad l) ∧ n + 8 = (pad l).length) := ⟨by rw [← byteCells_append]; rfl, by rw [pad_len, ← HN.out]; omega⟩
          have h8 := in8_all hB
          have hbl : (be8 (8 * l.length)).length = 8 := by simp [be8]
          obtain ⟨B8, hB8⟩ : ∃ B8, be8 (8 * l.length) = B8 := ⟨_, rfl⟩
          rw [hB8] at h8 hbl HPAD
          clear hbe hB hB8 HF
          go_wp2_with (at_builtin; refine wpList_append_in8 rfl (.tmp 38) (.tmp 39) rfl w.heap.size _ _ _ rfl hrow _ 8 8 B8 rfl h8 hbl (fun h => by cases h) (by omega) hbx.size ?_; intro v3 w3 hown3 hbb; have hb3 := hbb w hbx (Nat.le_refl _); clear hbb)
          go_ret
          exact ⟨_, rfl, by rw [HPAD.out.1, HPAD.out.2] at hown3; exact hown3, hb3⟩
        · obtain ⟨i, hi⟩ : ∃ i, i = 7 - k := ⟨_, rfl⟩
          have e7 : (7 : Int) - (k : Int) = (i : Int) := by omega
          rw [e7]
          have hi8 : i < 8 := by omega
          have hiI : (0 : Int) ≤ (i : Int) := by omega
          have c1 := (hB.cell i).trans (brow_at f hi8)
          have f1 := hB.frozen i
          obtain ⟨M, hM⟩ : ∃ M, 8 * l.length / 256 ^ k = M := ⟨_, rfl⟩
          have hMb : M ≤ 1125899906840000 := by have := Nat.div_le_self (8 * l.length) (256 ^ k); omega
          have hM2 : 8 * l.length / 256 ^ (k + 1) = M / 256 := by rw [Nat.pow_succ, ← Nat.div_div_eq_div_mul, hM]
          have hMv : ((UInt8.ofNat M).toNat : Int) = (M : Int) % 256 := by simp
          have HSET : Hid (Blk (wr.setCell ⟨g5, i, none⟩ (.int .u8 ((M : Int) % 256))) g5 198 (byteCells (brow 8 (updB f i (UInt8.ofNat M))))) := by
            have h := hB.set i (.int .u8 ((UInt8.ofNat M).toNat : Int))
            rw [brow_set, hMv] at h
            exact h
          have HS : Hid (∀ j, j < 8 → 8 - (k + 1) ≤ j → updB f i (UInt8.ofNat M) j = UInt8.ofNat (8 * l.length / 256 ^ (7 - j))) := by
            intro j hj1 hj2
            by_cases he : j = i
            · rw [he, updB_at, ← hM, show 7 - i = k from by omega]
            · rw [updB_ne he]; exact HF.out j hj1 (by omega)
          have HBX : Hid (Below w.heap.size w (wr.setCell ⟨g5, i, none⟩ (.int .u8 ((M : Int) % 256)))) := hbx.setCell hgl _
          have HROW : Hid ((wr.setCell ⟨g5, i, none⟩ (.int .u8 ((M : Int) % 256))).ownsRow w.heap.size 5 1 (.slice pA n cA) n (byteCells (l ++ [128] ++ List.replicate (zeros l.length) 0))) := by
            exact ownsRow_setCell_other hrow (fun h => HOWN.out _ h rfl) _
          rw [hM]
          have HE7 := Lib.hid e7
          clear hB hrow hbx HF hMv hi e7
          go_wp2_with fail
          go_roundg g
          case measure => omega
          case rel => exact ⟨k + 1, _, by omega, by rw [show ((7 : Int) - ((k + 1 : Nat) : Int)) = (i : Int) - 1 from by have := HE7.out; omega], by rw [hM2]; go_num, HS, HSET.out, HROW.out, HBX.out⟩
    · have hb : ((n : Int) % 64 != 56) = true := by
        have := zeros_min l.length j (by omega)
        rw [bne_iff_ne]; omega
      clear hn
      go_wp2_with (at_builtin; refine wpList_append_in8 rfl (.tmp 20) (.tmp 21) rfl w.heap.size _ _ _ rfl (hrow.alloc _) _ 1 1 [0] rfl (in8_new _ #[.int .u8 0] [0] rfl) rfl (fun h => by cases h) (by omega) (by have := hbx.size; simp; omega) ?_; intro v3 w3 hown3 hbb; have hb3 := hbb w (hbx.alloc hbx.size _) (Nat.le_refl _); clear hbb)
      go_roundg g
      case measure => omega
      case rel => exact ⟨j + 1, by omega, by rw [← HN.out, ← byteCells_append] at hown3; rw [List.replicate_succ', ← List.append_assoc]; exact hown3, hb3⟩
end Go.Proofs.YthagdkipipldlaaGreatDoor.sha

namespace Go.Proofs.YthagdkipipldlaaGreatDoor.sha
open Go.RowKit
open Go.Proofs.YthagdkipipldlaaGreatDoor.oct Go.Proofs.YthagdkipipldlaaGreatDoor.ref Go.Proofs.YthagdkipipldlaaGreatDoor.rows
open Go.Lib (byteCells)

theorem in8_wrote {w w1 : World} {g b o : Nat} {l : List UInt8} (h : In8 w (some ⟨b, o, none⟩) l) (k : Wrote w w1 g) (hb : b ≠ g) : In8 w1 (some ⟨b, o, none⟩) l := by
  intro hl
  obtain ⟨b2, o2, he, hc⟩ := h hl
  cases he
  refine ⟨b, o, rfl, fun i hi => ?_⟩
  rw [← hc i hi]
  simp only [World.cell?, k.other b hb]
theorem in8_sub {w : World} {b o : Nat} {l : List UInt8} (h : In8 w (some ⟨b, o, none⟩) l) (k m : Nat) : In8 w (some ⟨b, o + k, none⟩) ((l.drop k).take m) := by
  intro hl
  rw [List.length_take, List.length_drop] at hl
  obtain ⟨b2, o2, he, hc⟩ := h (by omega)
  cases he
  refine ⟨b, o + k, rfl, fun i hi => ?_⟩
  rw [List.length_take, List.length_drop] at hi
  rw [Nat.add_assoc, hc (k + i) (by omega)]
  simp [List.getD, show i < m by omega]
/-- the parts of an own row that is not empty -/
theorem own_parts {w : World} {B e n : Nat} {v : Value} {xs : List Value} (h : w.ownsRow B e 1 v n xs) (hn : 0 < n) : ∃ g cap, v = .slice (some ⟨g, 0, none⟩) n cap ∧ B ≤ g ∧ n ≤ cap := by
  rcases h.2 with ⟨_, h0⟩ | ⟨g, cap, cur, hv, hB, _, hc, _⟩
  · omega
  · exact ⟨g, cap, hv, hB, hc⟩

theorem out_row (v : St) : out v = brow 32 (outB v) := rfl
theorem infoD : (Tryz.prog.info? 141).map (·.size) = some 32 := by kernel_rfl
theorem words0 : (wcells st0.list) = [.int .u32 1779033703, .int .u32 3144134277, .int .u32 1013904242, .int .u32 2773480762, .int .u32 1359893119, .int .u32 2600822924, .int .u32 528734635, .int .u32 1541459225] := by kernel_rfl

set_option maxRecDepth 8000 in
set_option maxHeartbeats 2000000 in
theorem rsum_c (p : Option Addr) (cp : Nat) (l : List UInt8) (w : World) (hp : In8 w p l) (hl : l.length ≤ 140737488355000) (hnil : p = none → cp = 0) :
    Calls Tryz.prog 114 #[.slice p l.length cp] w fun e w' => e = .returned (.agg (byteCells (digest l)).toArray) ∧ Below w.heap.size w w' := by
  have HP := Lib.hid hp
  have HJ : Hid ((Tryz.prog.info? 177).map (·.size) = some 8) := info8
  clear hp
  have hXl := st_len st0
  have h1 := wcells_one st0.list
  have hXi : Hid ((Tryz.prog.info? 177).map (·.size) = some (wcells st0.list).length) := info8
  obtain ⟨X, hX⟩ : ∃ X, wcells st0.list = X := ⟨_, rfl⟩
  rw [hX] at hXl h1 hXi
  have HX := Lib.hid hX
  clear hX
  go_enter Tryz.func114, Tryz.ntmps114
  have hD : Blk (w.alloc (.cells (byteCells (brow 32 fun _ => 0)).toArray 141)) w.heap.size 141 (byteCells (brow 32 fun _ => 0)) := blk_new _ _ _ _ rfl
  go_wp2_with (first
    | (refine wpList_build_to rfl 177 _ rfl X.toArray (by rw [← HX.out]; kernel_rfl) ?_)
    | (with_reducible refine wpList_store_new_at rfl 177 (.tmp 3) (.tmp 8) rfl (w.heap.size + 1) (by simp) X 177 _ rfl rfl hXi.out (Eq.trans (by decide) hXl.symm) h1 ?_; intro wA hA hAb))
  have hb1 := bnext ((Below.refl w.heap.size w).alloc (Nat.le_refl _) _) hAb
  have hDA := hD.below hAb
  have hsA := hA.lt
  clear hD hAb
  refine (padded_c p cp l wA (HP.out.below hb1) hl hnil).mono ?_
  rintro e wP ⟨v, rfl, hown, hbP⟩
  have hPl := pad_len l
  have hP64 := pad_64 l
  have hPz := zeros_lt l.length
  obtain ⟨gP, cP, rfl, hgP, hcP⟩ := own_parts hown (by omega)
  have h8 : In8 wP (some ⟨gP, 0, none⟩) (pad l) := (own_in8' hown).elim fun p' h => h.elim fun c' h => by
    have := h.1
    simp only [Value.slice.injEq] at this
    rw [this.1]; exact h.2
  have hDP := hDA.below hbP
  have hAP := hA.below hbP
  have hbx := bnext hb1 hbP
  have hcb : (pad l).length ≤ 140737488355200 := by omega
  obtain ⟨NB, hNB⟩ : ∃ NB, (pad l).length / 64 = NB := ⟨_, rfl⟩
  have hn : (pad l).length = 64 * NB := by omega
  obtain ⟨P, hPe⟩ : ∃ P, pad l = P := ⟨_, rfl⟩
  rw [hPe] at hn h8 hcP hcb
  rw [hPe]
  have HDG : Hid (digest l = out (blocks st0 P NB)) := by show _ = _; unfold digest; rw [hNB, hPe]
  rw [hn] at hcP hcb ⊢
  have HPL := Lib.hid hn
  rw [← HX.out] at hAP
  have HNE : Hid (gP ≠ w.heap.size + 1 ∧ gP ≠ w.heap.size) := ⟨by omega, by omega⟩
  clear hown hb1 hDA hA hbP hPl hP64 hPz hNB hPe hn hgP hsA hXl h1 hXi
  go_wp2_with fail
  go_loopg [5] NB (fun g s5 wy => ∃ k : Nat, k + g = NB ∧ s5 = .int .i64 (64 * (k : Int)) ∧ Blk wy (w.heap.size + 1) 177 (wcells (blocks st0 P k).list) ∧ Blk wy w.heap.size 141 (byteCells (brow 32 fun _ => 0)) ∧ In8 wy (some ⟨gP, 0, none⟩) P ∧ Below w.heap.size w wy)
  case atStart => exact ⟨0, by omega, rfl, hAP, hDP, h8, hbx⟩
  case round =>
    clear hAP hDP h8 hbx
    obtain ⟨k, hkg, rfl, hA, hD, h8, hbx⟩ := hrel
    rcases gk with _ | g
    · obtain rfl : k = NB := by omega
      go_wp2_with fail
      have hok := blocks_ok st0_ok P k
      obtain ⟨u, hu⟩ : ∃ u, blocks st0 P k = u := ⟨_, rfl⟩
      rw [hu] at hok hA HDG
      have hB : Blk (wr.alloc (.cells (byteCells (brow 32 fun _ => 0)).toArray 141)) wr.heap.size 141 (byteCells (brow 32 fun _ => 0)) := blk_new _ _ _ _ rfl
      have hA2 := blk_old hA (.cells (byteCells (brow 32 fun _ => 0)).toArray 141)
      have hD2 := blk_old hD (.cells (byteCells (brow 32 fun _ => 0)).toArray 141)
      have hbx2 := hbx.alloc hbx.size (.cells (byteCells (brow 32 fun _ => 0)).toArray 141)
      have HG : Hid (w.heap.size + 1 < wr.heap.size) := hA.lt
      obtain ⟨wz, hwz⟩ : ∃ wz, wz = wr.alloc (.cells (byteCells (brow 32 fun _ => 0)).toArray 141) := ⟨_, rfl⟩
      rw [← hwz] at hB hA2 hD2 hbx2
      change Code.wp _ _ _ _ (wr.alloc (.cells (byteCells (brow 32 fun _ => 0)).toArray 141))
      rw [← hwz]
      obtain ⟨g6, hg6⟩ : ∃ g6, g6 = wr.heap.size := ⟨_, rfl⟩
      rw [← hg6] at hB HG ⊢
      clear hwz hu hA hD hbx hg6 h8
      go_loopg [7] 32 (fun g s7 wy => ∃ (j : Nat) (f : Nat → UInt8), j + g = 32 ∧ s7 = .int .i64 j ∧ Hid (∀ i, i < j → f i = outB u i) ∧ Blk wy g6 141 (byteCells (brow 32 f)) ∧ Blk wy (w.heap.size + 1) 177 (wcells u.list) ∧ Blk wy w.heap.size 141 (byteCells (brow 32 fun _ => 0)) ∧ Below w.heap.size w wy)
      case atStart => exact ⟨0, _, rfl, rfl, fun i h => by omega, hB, hA2, hD2, hbx2⟩
      case round =>
        clear hB hA2 hD2 hbx2
        obtain ⟨j, f, hjg, rfl, HF, hB, hA, hD, hbx⟩ := hrel
        rcases gk with _ | g
        · obtain rfl : j = 32 := by omega
          have he : brow 32 f = digest l := by rw [HDG.out, out_row]; exact brow_eq HF.out
          rw [he] at hB
          have hXl : (byteCells (digest l)).length = 32 := by rw [byteCells_len, digest_len]
          have h1 := bytes_one (digest l)
          have hYi : Hid ((Tryz.prog.info? 141).map (·.size) = some (byteCells (digest l)).length) := by show _ = _; rw [hXl]; exact infoD
          have hO : (byteCells (brow 32 fun _ => 0)).length = (byteCells (digest l)).length := by rw [bcells_len, hXl]
          have HB := Lib.hid hB
          have HD := Lib.hid hD
          obtain ⟨Y, hYe⟩ : ∃ Y, byteCells (digest l) = Y := ⟨_, rfl⟩
          rw [hYe] at HB h1 hYi hO
          have HYE := Lib.hid hYe
          generalize byteCells (brow 32 fun _ => 0) = O at HD hO
          clear hB hA hD he HF hXl hYe
          go_wp2_with (first
            | (with_reducible refine wpList_load_blk rfl 141 (.tmp 6) rfl g6 Y 141 HB.out rfl _ Tryz.underlying141 rfl hYi.out ?_)
            | (with_reducible refine wpList_store_blk rfl 141 (.tmp 2) (.tmp 41) rfl w.heap.size Y O 141 HD.out rfl rfl hYi.out hO h1 ?_; intro wf hR hW))
          refine bodyPost_ret (v := .agg Y.toArray) (results_blk Tryz.results114 _ _ w.heap.size 141 Y _ rfl hR Tryz.underlying141 rfl hYi.out) rfl ⟨by rw [HYE.out], hW.below _ _ hbx (Nat.le_refl _)⟩
        · have hjI : (j : Int) < 32 := by omega
          have hj32 : j < 32 := by omega
          have c1 := (hA.cell (j / 4)).trans ((st_row u).symm ▸ row_at u.at (by omega : j / 4 < 8))
          have k1 := st_at hok (j / 4) (by omega)
          have c2 := (hB.cell j).trans (brow_at f hj32)
          have f2 := hB.frozen j
          have HV : Hid (outB u j = UInt8.ofNat (dwn (24 - 8 * (j % 4)) (u.at (j / 4)))) := rfl
          obtain ⟨x, hx⟩ : ∃ x, u.at (j / 4) = x := ⟨_, rfl⟩
          rw [hx] at c1 k1 HV
          obtain ⟨q, hq⟩ : ∃ q, j / 4 = q := ⟨_, rfl⟩
          rw [hq] at c1
          obtain ⟨m, hm⟩ : ∃ m, 24 - 8 * (j % 4) = m := ⟨_, rfl⟩
          rw [hm] at HV
          have hM := dwn_lt m k1
          have HDN := Lib.hid (down_c x m k1 (by omega) wr)
          obtain ⟨M, hMe⟩ : ∃ M, dwn m x = M := ⟨_, rfl⟩
          rw [hMe] at HV HDN hM
          have hMv : ((UInt8.ofNat M).toNat : Int) = (M : Int) % 256 := by simp
          have r1 : (j : Int) / 4 = (q : Int) := by omega
          have r2 : (24 : Int) - 8 * ((j : Int) % 4) = (m : Int) := by omega
          have r3 : (q : Int) < 8 := by omega
          have HSET : Hid (Blk (wr.setCell ⟨g6, j, none⟩ (.int .u8 ((M : Int) % 256))) g6 141 (byteCells (brow 32 (updB f j (UInt8.ofNat M))))) := by
            have h := hB.set j (.int .u8 ((UInt8.ofNat M).toNat : Int))
            rw [brow_set, hMv] at h
            exact h
          have hne1 : g6 ≠ w.heap.size + 1 := by have := HG.out; omega
          have hne2 : g6 ≠ w.heap.size := by have := HG.out; omega
          have HA2 : Hid (Blk (wr.setCell ⟨g6, j, none⟩ (.int .u8 ((M : Int) % 256))) (w.heap.size + 1) 177 (wcells u.list)) := hA.set_other hne1 j _
          have HD2 : Hid (Blk (wr.setCell ⟨g6, j, none⟩ (.int .u8 ((M : Int) % 256))) w.heap.size 141 (byteCells (brow 32 fun _ => 0))) := hD.set_other hne2 j _
          have HBX : Hid (Below w.heap.size w (wr.setCell ⟨g6, j, none⟩ (.int .u8 ((M : Int) % 256)))) := hbx.setCell (by have := HG.out; show _ ≤ g6; omega) _
          have HS : Hid (∀ i, i < j + 1 → updB f j (UInt8.ofNat M) i = outB u i) := by
            intro i hi
            by_cases he : i = j
            · rw [he, updB_at, HV.out]
            · rw [updB_ne he]; exact HF.out i (by omega)
          clear hB hA hD hbx HF hx hm hMe hMv hq
          go_wp2_with fail
          refine HDN.out.mono ?_
          rintro e w' ⟨rfl, rfl⟩
          go_wp2_with fail
          go_roundg g
          case measure => omega
          case rel => exact ⟨j + 1, _, by omega, by go_num, HS, HSET.out, HA2.out, HD2.out, HBX.out⟩
    · have hkN : k < NB := by omega
      have kI : 64 * (k : Int) < 64 * (NB : Int) := by omega
      have hok := blocks_ok st0_ok P k
      have hT : blocks st0 P (k + 1) = takeB (blocks st0 P k) ((P.drop (64 * k)).take 64) := rfl
      have hq := in8_sub h8 (64 * k) 64
      rw [Nat.zero_add] at hq
      have hql : ((P.drop (64 * k)).take 64).length = 64 := by rw [List.length_take, List.length_drop, HPL.out]; omega
      obtain ⟨u, hu⟩ : ∃ u, blocks st0 P k = u := ⟨_, rfl⟩
      rw [hu] at hok hT hA
      have HT := Lib.hid hT
      have HTK := Lib.hid (take_c u hok (some ⟨gP, 64 * k, none⟩) (cP - 64 * k) _ wr.drew (In8.below hq (Below.refl _ _).drew) hql)
      clear hT hu hq
      have c0 : wr.cell? ⟨w.heap.size + 1, 0, none⟩ = some (.int .u32 (u.a : Int)) := hA.cell 0
      have c1 : wr.cell? ⟨w.heap.size + 1, 1, none⟩ = some (.int .u32 (u.b : Int)) := hA.cell 1
      have c2 : wr.cell? ⟨w.heap.size + 1, 2, none⟩ = some (.int .u32 (u.c : Int)) := hA.cell 2
      have c3 : wr.cell? ⟨w.heap.size + 1, 3, none⟩ = some (.int .u32 (u.d : Int)) := hA.cell 3
      have c4 : wr.cell? ⟨w.heap.size + 1, 4, none⟩ = some (.int .u32 (u.e : Int)) := hA.cell 4
      have c5 : wr.cell? ⟨w.heap.size + 1, 5, none⟩ = some (.int .u32 (u.f : Int)) := hA.cell 5
      have c6 : wr.cell? ⟨w.heap.size + 1, 6, none⟩ = some (.int .u32 (u.g : Int)) := hA.cell 6
      have c7 : wr.cell? ⟨w.heap.size + 1, 7, none⟩ = some (.int .u32 (u.i : Int)) := hA.cell 7
      have r1 : IntKind.i64.wrap (64 * (k : Int) + 64) = 64 * (k : Int) + 64 := by rw [IntKind.wrap_i64]; omega
      have r2 : (64 * (k : Int)).toNat = 64 * k := by omega
      have r3 : (64 * (k : Int) + 64).toNat = 64 * k + 64 := by omega
      have r4 : (0 : Int) ≤ 64 * (k : Int) := by omega
      have r5 : 64 * (k : Int) ≤ 64 * (k : Int) + 64 := by omega
      have r6 : 64 * (k : Int) + 64 ≤ (cP : Int) := by omega
      go_wp2_with fail
      go_still_tail 6, (by kernel_rfl)
      change wpList _ _ _ _ _ wr.drew
      have hA2 : Blk wr.drew (w.heap.size + 1) 177 (wcells u.list) := hA
      have hD2 : Blk wr.drew w.heap.size 141 (byteCells (brow 32 fun _ => 0)) := hD
      have h82 : In8 wr.drew (some ⟨gP, 0, none⟩) P := In8.below h8 (Below.refl _ _).drew
      have hbx2 := hbx.drew
      obtain ⟨wd', hwd⟩ : ∃ wd', wr.drew = wd' := ⟨_, rfl⟩
      rw [hwd] at HTK hA2 hD2 h82 hbx2 ⊢
      clear hwd hA hD h8 hbx c0 c1 c2 c3 c4 c5 c6 c7
      go_wp2_with fail
      refine HTK.out.mono ?_
      rintro e w2 ⟨rfl, hb2⟩
      have hA3 := Lib.hid (hA2.below hb2)
      have hD3 := Lib.hid (hD2.below hb2)
      have h83 := Lib.hid (h82.below hb2)
      have hbx3 := Lib.hid (bnext hbx2 hb2)
      have hY1 := wcells_one (takeB u ((P.drop (64 * k)).take 64)).list
      have hYi : Hid ((Tryz.prog.info? 177).map (·.size) = some (wcells (takeB u ((P.drop (64 * k)).take 64)).list).length) := info8
      have hYo : (wcells u.list).length = (wcells (takeB u ((P.drop (64 * k)).take 64)).list).length := by rw [st_len, st_len]
      rw [← HT.out] at hY1 hYi hYo ⊢
      clear hA2 hD2 h82 hbx2 hb2
      go_wp2_with (with_reducible refine wpList_store_blk rfl 177 (.tmp 3) (.tmp 23) rfl (w.heap.size + 1) _ _ 177 hA3.out rfl rfl hYi.out hYo hY1 ?_; intro wf hR hW)
      go_roundg g
      case measure => omega
      case rel => exact ⟨k + 1, by omega, by go_num, hR, hW.blk hD3.out (by omega), in8_wrote h83.out hW HNE.out.1, hW.below _ _ hbx3.out (by omega)⟩
end Go.Proofs.YthagdkipipldlaaGreatDoor.sha

namespace Go.Proofs.YthagdkipipldlaaGreatDoor.sha

def abc : List UInt8 := [97, 98, 99, 128, 0, 0, 0, 0, 0, 0, 0, 0, 0, 0, 0, 0, 0, 0, 0, 0, 0, 0, 0, 0, 0, 0, 0, 0, 0, 0, 0, 0, 0, 0, 0, 0, 0, 0, 0, 0, 0, 0, 0, 0, 0, 0, 0, 0, 0, 0, 0, 0, 0, 0, 0, 0, 0, 0, 0, 0, 0, 0, 0, 24]
theorem abc_pad : pad [97, 98, 99] = abc := by decide +kernel
theorem w0 : wd abc 0 = 1633837952 := (wd_lo abc (by decide)).trans (by decide +kernel)
theorem w1 : wd abc 1 = 0 := (wd_lo abc (by decide)).trans (by decide +kernel)
theorem w2 : wd abc 2 = 0 := (wd_lo abc (by decide)).trans (by decide +kernel)
theorem w3 : wd abc 3 = 0 := (wd_lo abc (by decide)).trans (by decide +kernel)
theorem w4 : wd abc 4 = 0 := (wd_lo abc (by decide)).trans (by decide +kernel)
theorem w5 : wd abc 5 = 0 := (wd_lo abc (by decide)).trans (by decide +kernel)
theorem w6 : wd abc 6 = 0 := (wd_lo abc (by decide)).trans (by decide +kernel)
theorem w7 : wd abc 7 = 0 := (wd_lo abc (by decide)).trans (by decide +kernel)
theorem w8 : wd abc 8 = 0 := (wd_lo abc (by decide)).trans (by decide +kernel)
theorem w9 : wd abc 9 = 0 := (wd_lo abc (by decide)).trans (by decide +kernel)
theorem w10 : wd abc 10 = 0 := (wd_lo abc (by decide)).trans (by decide +kernel)
theorem w11 : wd abc 11 = 0 := (wd_lo abc (by decide)).trans (by decide +kernel)
theorem w12 : wd abc 12 = 0 := (wd_lo abc (by decide)).trans (by decide +kernel)
theorem w13 : wd abc 13 = 0 := (wd_lo abc (by decide)).trans (by decide +kernel)
theorem w14 : wd abc 14 = 0 := (wd_lo abc (by decide)).trans (by decide +kernel)
theorem w15 : wd abc 15 = 24 := (wd_lo abc (by decide)).trans (by decide +kernel)
theorem w16 : wd abc 16 = 1633837952 := (wd_hi abc (by decide)).trans (by simp only [Nat.reduceSub, w14, w9, w1, w0]; decide +kernel)
theorem w17 : wd abc 17 = 983040 := (wd_hi abc (by decide)).trans (by simp only [Nat.reduceSub, w15, w10, w2, w1]; decide +kernel)
theorem w18 : wd abc 18 = 2108187653 := (wd_hi abc (by decide)).trans (by simp only [Nat.reduceSub, w16, w11, w3, w2]; decide +kernel)
theorem w19 : wd abc 19 = 1610613702 := (wd_hi abc (by decide)).trans (by simp only [Nat.reduceSub, w17, w12, w4, w3]; decide +kernel)
theorem w20 : wd abc 20 = 1050508152 := (wd_hi abc (by decide)).trans (by simp only [Nat.reduceSub, w18, w13, w5, w4]; decide +kernel)
theorem w21 : wd abc 21 = 25426944 := (wd_hi abc (by decide)).trans (by simp only [Nat.reduceSub, w19, w14, w6, w5]; decide +kernel)
theorem w22 : wd abc 22 = 316456923 := (wd_hi abc (by decide)).trans (by simp only [Nat.reduceSub, w20, w15, w7, w6]; decide +kernel)
theorem w23 : wd abc 23 = 3806512014 := (wd_hi abc (by decide)).trans (by simp only [Nat.reduceSub, w21, w16, w8, w7]; decide +kernel)
theorem w24 : wd abc 24 = 3357629466 := (wd_hi abc (by decide)).trans (by simp only [Nat.reduceSub, w22, w17, w9, w8]; decide +kernel)
theorem w25 : wd abc 25 = 3073800610 := (wd_hi abc (by decide)).trans (by simp only [Nat.reduceSub, w23, w18, w10, w9]; decide +kernel)
theorem w26 : wd abc 26 = 3854317833 := (wd_hi abc (by decide)).trans (by simp only [Nat.reduceSub, w24, w19, w11, w10]; decide +kernel)
theorem w27 : wd abc 27 = 845560923 := (wd_hi abc (by decide)).trans (by simp only [Nat.reduceSub, w25, w20, w12, w11]; decide +kernel)
theorem w28 : wd abc 28 = 2636160359 := (wd_hi abc (by decide)).trans (by simp only [Nat.reduceSub, w26, w21, w13, w12]; decide +kernel)
theorem w29 : wd abc 29 = 3968280267 := (wd_hi abc (by decide)).trans (by simp only [Nat.reduceSub, w27, w22, w14, w13]; decide +kernel)
theorem w30 : wd abc 30 = 1881225380 := (wd_hi abc (by decide)).trans (by simp only [Nat.reduceSub, w28, w23, w15, w14]; decide +kernel)
theorem w31 : wd abc 31 = 3552024379 := (wd_hi abc (by decide)).trans (by simp only [Nat.reduceSub, w29, w24, w16, w15]; decide +kernel)
theorem w32 : wd abc 32 = 2482346367 := (wd_hi abc (by decide)).trans (by simp only [Nat.reduceSub, w30, w25, w17, w16]; decide +kernel)
theorem w33 : wd abc 33 = 996719219 := (wd_hi abc (by decide)).trans (by simp only [Nat.reduceSub, w31, w26, w18, w17]; decide +kernel)
theorem w34 : wd abc 34 = 2952069057 := (wd_hi abc (by decide)).trans (by simp only [Nat.reduceSub, w32, w27, w19, w18]; decide +kernel)
theorem w35 : wd abc 35 = 4043988066 := (wd_hi abc (by decide)).trans (by simp only [Nat.reduceSub, w33, w28, w20, w19]; decide +kernel)
theorem w36 : wd abc 36 = 176896406 := (wd_hi abc (by decide)).trans (by simp only [Nat.reduceSub, w34, w29, w21, w20]; decide +kernel)
theorem w37 : wd abc 37 = 1924104970 := (wd_hi abc (by decide)).trans (by simp only [Nat.reduceSub, w35, w30, w22, w21]; decide +kernel)
theorem w38 : wd abc 38 = 2483675966 := (wd_hi abc (by decide)).trans (by simp only [Nat.reduceSub, w36, w31, w23, w22]; decide +kernel)
theorem w39 : wd abc 39 = 610538786 := (wd_hi abc (by decide)).trans (by simp only [Nat.reduceSub, w37, w32, w24, w23]; decide +kernel)
theorem w40 : wd abc 40 = 2672279444 := (wd_hi abc (by decide)).trans (by simp only [Nat.reduceSub, w38, w33, w25, w24]; decide +kernel)
theorem w41 : wd abc 41 = 4037431130 := (wd_hi abc (by decide)).trans (by simp only [Nat.reduceSub, w39, w34, w26, w25]; decide +kernel)
theorem w42 : wd abc 42 = 1042573945 := (wd_hi abc (by decide)).trans (by simp only [Nat.reduceSub, w40, w35, w27, w26]; decide +kernel)
theorem w43 : wd abc 43 = 657669027 := (wd_hi abc (by decide)).trans (by simp only [Nat.reduceSub, w41, w36, w28, w27]; decide +kernel)
theorem w44 : wd abc 44 = 206005234 := (wd_hi abc (by decide)).trans (by simp only [Nat.reduceSub, w42, w37, w29, w28]; decide +kernel)
theorem w45 : wd abc 45 = 2215296807 := (wd_hi abc (by decide)).trans (by simp only [Nat.reduceSub, w43, w38, w30, w29]; decide +kernel)
theorem w46 : wd abc 46 = 2049510749 := (wd_hi abc (by decide)).trans (by simp only [Nat.reduceSub, w44, w39, w31, w30]; decide +kernel)
theorem w47 : wd abc 47 = 106709978 := (wd_hi abc (by decide)).trans (by simp only [Nat.reduceSub, w45, w40, w32, w31]; decide +kernel)
theorem w48 : wd abc 48 = 4215179723 := (wd_hi abc (by decide)).trans (by simp only [Nat.reduceSub, w46, w41, w33, w32]; decide +kernel)
theorem w49 : wd abc 49 = 3430291419 := (wd_hi abc (by decide)).trans (by simp only [Nat.reduceSub, w47, w42, w34, w33]; decide +kernel)
theorem w50 : wd abc 50 = 3118885940 := (wd_hi abc (by decide)).trans (by simp only [Nat.reduceSub, w48, w43, w35, w34]; decide +kernel)
theorem w51 : wd abc 51 = 2845390439 := (wd_hi abc (by decide)).trans (by simp only [Nat.reduceSub, w49, w44, w36, w35]; decide +kernel)
theorem w52 : wd abc 52 = 2226839261 := (wd_hi abc (by decide)).trans (by simp only [Nat.reduceSub, w50, w45, w37, w36]; decide +kernel)
theorem w53 : wd abc 53 = 3256115900 := (wd_hi abc (by decide)).trans (by simp only [Nat.reduceSub, w51, w46, w38, w37]; decide +kernel)
theorem w54 : wd abc 54 = 344409900 := (wd_hi abc (by decide)).trans (by simp only [Nat.reduceSub, w52, w47, w39, w38]; decide +kernel)
theorem w55 : wd abc 55 = 2987358873 := (wd_hi abc (by decide)).trans (by simp only [Nat.reduceSub, w53, w48, w40, w39]; decide +kernel)
theorem w56 : wd abc 56 = 4015503821 := (wd_hi abc (by decide)).trans (by simp only [Nat.reduceSub, w54, w49, w41, w40]; decide +kernel)
theorem w57 : wd abc 57 = 3957764664 := (wd_hi abc (by decide)).trans (by simp only [Nat.reduceSub, w55, w50, w42, w41]; decide +kernel)
theorem w58 : wd abc 58 = 2682456414 := (wd_hi abc (by decide)).trans (by simp only [Nat.reduceSub, w56, w51, w43, w42]; decide +kernel)
theorem w59 : wd abc 59 = 2025622859 := (wd_hi abc (by decide)).trans (by simp only [Nat.reduceSub, w57, w52, w44, w43]; decide +kernel)
theorem w60 : wd abc 60 = 2755645205 := (wd_hi abc (by decide)).trans (by simp only [Nat.reduceSub, w58, w53, w45, w44]; decide +kernel)
theorem w61 : wd abc 61 = 1720397816 := (wd_hi abc (by decide)).trans (by simp only [Nat.reduceSub, w59, w54, w46, w45]; decide +kernel)
theorem w62 : wd abc 62 = 4004225740 := (wd_hi abc (by decide)).trans (by simp only [Nat.reduceSub, w60, w55, w47, w46]; decide +kernel)
theorem w63 : wd abc 63 = 313650667 := (wd_hi abc (by decide)).trans (by simp only [Nat.reduceSub, w61, w56, w48, w47]; decide +kernel)
theorem r0 : rnds st0 abc 0 = ⟨1779033703, 3144134277, 1013904242, 2773480762, 1359893119, 2600822924, 528734635, 1541459225⟩ := rfl
theorem rnds_next (v : St) (l : List UInt8) (t : Nat) : rnds v l (t + 1) = rnd (rnds v l t) (kt.getD t 0) (wd l t) := rfl
theorem r1 : rnds st0 abc 1 = ⟨1567288269, 1779033703, 3144134277, 1013904242, 4197074466, 1359893119, 2600822924, 528734635⟩ := (rnds_next st0 abc 0).trans (by rw [r0, w0]; kernel_rfl)
theorem r2 : rnds st0 abc 2 = ⟨1516951981, 1567288269, 1779033703, 3144134277, 2026797449, 4197074466, 1359893119, 2600822924⟩ := (rnds_next st0 abc 1).trans (by rw [r1, w1]; kernel_rfl)
theorem r3 : rnds st0 abc 3 = ⟨3368241063, 1516951981, 1567288269, 1779033703, 4180228587, 2026797449, 4197074466, 1359893119⟩ := (rnds_next st0 abc 2).trans (by rw [r2, w2]; kernel_rfl)
theorem r4 : rnds st0 abc 4 = ⟨3578852966, 3368241063, 1516951981, 1567288269, 618661968, 4180228587, 2026797449, 4197074466⟩ := (rnds_next st0 abc 3).trans (by rw [r3, w3]; kernel_rfl)
theorem r5 : rnds st0 abc 5 = ⟨71342698, 3578852966, 3368241063, 1516951981, 1135452741, 618661968, 4180228587, 2026797449⟩ := (rnds_next st0 abc 4).trans (by rw [r4, w4]; kernel_rfl)
theorem r6 : rnds st0 abc 6 = ⟨725748213, 71342698, 3578852966, 3368241063, 1900175533, 1135452741, 618661968, 4180228587⟩ := (rnds_next st0 abc 5).trans (by rw [r5, w5]; kernel_rfl)
theorem r7 : rnds st0 abc 7 = ⟨3842179968, 725748213, 71342698, 3578852966, 2603066369, 1900175533, 1135452741, 618661968⟩ := (rnds_next st0 abc 6).trans (by rw [r6, w6]; kernel_rfl)
theorem r8 : rnds st0 abc 8 = ⟨2241887071, 3842179968, 725748213, 71342698, 207977081, 2603066369, 1900175533, 1135452741⟩ := (rnds_next st0 abc 7).trans (by rw [r7, w7]; kernel_rfl)
theorem r9 : rnds st0 abc 9 = ⟨2382687417, 2241887071, 3842179968, 725748213, 852110732, 207977081, 2603066369, 1900175533⟩ := (rnds_next st0 abc 8).trans (by rw [r8, w8]; kernel_rfl)
theorem r10 : rnds st0 abc 10 = ⟨2357671019, 2382687417, 2241887071, 3842179968, 482944406, 852110732, 207977081, 2603066369⟩ := (rnds_next st0 abc 9).trans (by rw [r9, w9]; kernel_rfl)
theorem r11 : rnds st0 abc 11 = ⟨1201185780, 2357671019, 2382687417, 2241887071, 1131095016, 482944406, 852110732, 207977081⟩ := (rnds_next st0 abc 10).trans (by rw [r10, w10]; kernel_rfl)
theorem r12 : rnds st0 abc 12 = ⟨4146054569, 1201185780, 2357671019, 2382687417, 2171590377, 1131095016, 482944406, 852110732⟩ := (rnds_next st0 abc 11).trans (by rw [r11, w11]; kernel_rfl)
theorem r13 : rnds st0 abc 13 = ⟨2274437520, 4146054569, 1201185780, 2357671019, 509051416, 2171590377, 1131095016, 482944406⟩ := (rnds_next st0 abc 12).trans (by rw [r12, w12]; kernel_rfl)
theorem r14 : rnds st0 abc 14 = ⟨3643992854, 2274437520, 4146054569, 1201185780, 1952073950, 509051416, 2171590377, 1131095016⟩ := (rnds_next st0 abc 13).trans (by rw [r13, w13]; kernel_rfl)
theorem r15 : rnds st0 abc 15 = ⟨3227803614, 3643992854, 2274437520, 4146054569, 194179596, 1952073950, 509051416, 2171590377⟩ := (rnds_next st0 abc 14).trans (by rw [r14, w14]; kernel_rfl)
theorem r16 : rnds st0 abc 16 = ⟨2969183118, 3227803614, 3643992854, 2274437520, 123276749, 194179596, 1952073950, 509051416⟩ := (rnds_next st0 abc 15).trans (by rw [r15, w15]; kernel_rfl)
theorem r17 : rnds st0 abc 17 = ⟨567974555, 2969183118, 3227803614, 3643992854, 2150900380, 123276749, 194179596, 1952073950⟩ := (rnds_next st0 abc 16).trans (by rw [r16, w16]; kernel_rfl)
theorem r18 : rnds st0 abc 18 = ⟨3271285201, 567974555, 2969183118, 3227803614, 2221859924, 2150900380, 123276749, 194179596⟩ := (rnds_next st0 abc 17).trans (by rw [r17, w17]; kernel_rfl)
theorem r19 : rnds st0 abc 19 = ⟨4269243327, 3271285201, 567974555, 2969183118, 3431569761, 2221859924, 2150900380, 123276749⟩ := (rnds_next st0 abc 18).trans (by rw [r18, w18]; kernel_rfl)
theorem r20 : rnds st0 abc 20 = ⟨3790736435, 4269243327, 3271285201, 567974555, 2959311225, 3431569761, 2221859924, 2150900380⟩ := (rnds_next st0 abc 19).trans (by rw [r19, w19]; kernel_rfl)
theorem r21 : rnds st0 abc 21 = ⟨2647034723, 3790736435, 4269243327, 3271285201, 2329577776, 2959311225, 3431569761, 2221859924⟩ := (rnds_next st0 abc 20).trans (by rw [r20, w20]; kernel_rfl)
theorem r22 : rnds st0 abc 22 = ⟨3261099373, 2647034723, 3790736435, 4269243327, 3777329520, 2329577776, 2959311225, 3431569761⟩ := (rnds_next st0 abc 21).trans (by rw [r21, w21]; kernel_rfl)
theorem r23 : rnds st0 abc 23 = ⟨2812502591, 3261099373, 2647034723, 3790736435, 1240797514, 3777329520, 2329577776, 2959311225⟩ := (rnds_next st0 abc 22).trans (by rw [r22, w22]; kernel_rfl)
theorem r24 : rnds st0 abc 24 = ⟨3319086477, 2812502591, 3261099373, 2647034723, 2856829767, 1240797514, 3777329520, 2329577776⟩ := (rnds_next st0 abc 23).trans (by rw [r23, w23]; kernel_rfl)
theorem r25 : rnds st0 abc 25 = ⟨472655928, 3319086477, 2812502591, 3261099373, 673443729, 2856829767, 1240797514, 3777329520⟩ := (rnds_next st0 abc 24).trans (by rw [r24, w24]; kernel_rfl)
theorem r26 : rnds st0 abc 26 = ⟨3454534525, 472655928, 3319086477, 2812502591, 339230094, 673443729, 2856829767, 1240797514⟩ := (rnds_next st0 abc 25).trans (by rw [r25, w25]; kernel_rfl)
theorem r27 : rnds st0 abc 27 = ⟨3056518332, 3454534525, 472655928, 3319086477, 3343672598, 339230094, 673443729, 2856829767⟩ := (rnds_next st0 abc 26).trans (by rw [r26, w26]; kernel_rfl)
theorem r28 : rnds st0 abc 28 = ⟨2010346792, 3056518332, 3454534525, 472655928, 3992961016, 3343672598, 339230094, 673443729⟩ := (rnds_next st0 abc 27).trans (by rw [r27, w27]; kernel_rfl)
theorem r29 : rnds st0 abc 29 = ⟨909411017, 2010346792, 3056518332, 3454534525, 1628611511, 3992961016, 3343672598, 339230094⟩ := (rnds_next st0 abc 28).trans (by rw [r28, w28]; kernel_rfl)
theorem r30 : rnds st0 abc 30 = ⟨2684750640, 909411017, 2010346792, 3056518332, 2917635127, 1628611511, 3992961016, 3343672598⟩ := (rnds_next st0 abc 29).trans (by rw [r29, w29]; kernel_rfl)
theorem r31 : rnds st0 abc 31 = ⟨3935906338, 2684750640, 909411017, 2010346792, 17410874, 2917635127, 1628611511, 3992961016⟩ := (rnds_next st0 abc 30).trans (by rw [r30, w30]; kernel_rfl)
theorem r32 : rnds st0 abc 32 = ⟨1941126133, 3935906338, 2684750640, 909411017, 3126399250, 17410874, 2917635127, 1628611511⟩ := (rnds_next st0 abc 31).trans (by rw [r31, w31]; kernel_rfl)
theorem r33 : rnds st0 abc 33 = ⟨2564891911, 1941126133, 3935906338, 2684750640, 2631529974, 3126399250, 17410874, 2917635127⟩ := (rnds_next st0 abc 32).trans (by rw [r32, w32]; kernel_rfl)
theorem r34 : rnds st0 abc 34 = ⟨4267724277, 2564891911, 1941126133, 3935906338, 1495571923, 2631529974, 3126399250, 17410874⟩ := (rnds_next st0 abc 33).trans (by rw [r33, w33]; kernel_rfl)
theorem r35 : rnds st0 abc 35 = ⟨2846323596, 4267724277, 2564891911, 1941126133, 140458035, 1495571923, 2631529974, 3126399250⟩ := (rnds_next st0 abc 34).trans (by rw [r34, w34]; kernel_rfl)
theorem r36 : rnds st0 abc 36 = ⟨1705037796, 2846323596, 4267724277, 2564891911, 4105175766, 140458035, 1495571923, 2631529974⟩ := (rnds_next st0 abc 35).trans (by rw [r35, w35]; kernel_rfl)
theorem r37 : rnds st0 abc 37 = ⟨1101421745, 1705037796, 2846323596, 4267724277, 124953195, 4105175766, 140458035, 1495571923⟩ := (rnds_next st0 abc 36).trans (by rw [r36, w36]; kernel_rfl)
theorem r38 : rnds st0 abc 38 = ⟨887035396, 1101421745, 1705037796, 2846323596, 2768741693, 124953195, 4105175766, 140458035⟩ := (rnds_next st0 abc 37).trans (by rw [r37, w37]; kernel_rfl)
theorem r39 : rnds st0 abc 39 = ⟨1841658506, 887035396, 1101421745, 1705037796, 4034403272, 2768741693, 124953195, 4105175766⟩ := (rnds_next st0 abc 38).trans (by rw [r38, w38]; kernel_rfl)
theorem r40 : rnds st0 abc 40 = ⟨2045405306, 1841658506, 887035396, 1101421745, 519815328, 4034403272, 2768741693, 124953195⟩ := (rnds_next st0 abc 39).trans (by rw [r39, w39]; kernel_rfl)
theorem r41 : rnds st0 abc 41 = ⟨3597076326, 2045405306, 1841658506, 887035396, 641019235, 519815328, 4034403272, 2768741693⟩ := (rnds_next st0 abc 40).trans (by rw [r40, w40]; kernel_rfl)
theorem r42 : rnds st0 abc 42 = ⟨3745932591, 3597076326, 2045405306, 1841658506, 2206934801, 641019235, 519815328, 4034403272⟩ := (rnds_next st0 abc 41).trans (by rw [r41, w41]; kernel_rfl)
theorem r43 : rnds st0 abc 43 = ⟨397020670, 3745932591, 3597076326, 2045405306, 3737995029, 2206934801, 641019235, 519815328⟩ := (rnds_next st0 abc 42).trans (by rw [r42, w42]; kernel_rfl)
theorem r44 : rnds st0 abc 44 = ⟨2638983059, 397020670, 3745932591, 3597076326, 4255271982, 3737995029, 2206934801, 641019235⟩ := (rnds_next st0 abc 43).trans (by rw [r43, w43]; kernel_rfl)
theorem r45 : rnds st0 abc 45 = ⟨643991573, 2638983059, 397020670, 3745932591, 2819559920, 4255271982, 3737995029, 2206934801⟩ := (rnds_next st0 abc 44).trans (by rw [r44, w44]; kernel_rfl)
theorem r46 : rnds st0 abc 46 = ⟨1923828625, 643991573, 2638983059, 397020670, 3077922209, 2819559920, 4255271982, 3737995029⟩ := (rnds_next st0 abc 45).trans (by rw [r45, w45]; kernel_rfl)
theorem r47 : rnds st0 abc 47 = ⟨2706117808, 1923828625, 643991573, 2638983059, 3581645993, 3077922209, 2819559920, 4255271982⟩ := (rnds_next st0 abc 46).trans (by rw [r46, w46]; kernel_rfl)
theorem r48 : rnds st0 abc 48 = ⟨1098003085, 2706117808, 1923828625, 643991573, 4274981830, 3581645993, 3077922209, 2819559920⟩ := (rnds_next st0 abc 47).trans (by rw [r47, w47]; kernel_rfl)
theorem r49 : rnds st0 abc 49 = ⟨91585771, 1098003085, 2706117808, 1923828625, 3178315832, 4274981830, 3581645993, 3077922209⟩ := (rnds_next st0 abc 48).trans (by rw [r48, w48]; kernel_rfl)
theorem r50 : rnds st0 abc 50 = ⟨4045142696, 91585771, 1098003085, 2706117808, 1851537676, 3178315832, 4274981830, 3581645993⟩ := (rnds_next st0 abc 49).trans (by rw [r49, w49]; kernel_rfl)
theorem r51 : rnds st0 abc 51 = ⟨2047150241, 4045142696, 91585771, 1098003085, 1391578359, 1851537676, 3178315832, 4274981830⟩ := (rnds_next st0 abc 50).trans (by rw [r50, w50]; kernel_rfl)
theorem r52 : rnds st0 abc 52 = ⟨2288941602, 2047150241, 4045142696, 91585771, 1227037726, 1391578359, 1851537676, 3178315832⟩ := (rnds_next st0 abc 51).trans (by rw [r51, w51]; kernel_rfl)
theorem r53 : rnds st0 abc 53 = ⟨270520975, 2288941602, 2047150241, 4045142696, 1386118400, 1227037726, 1391578359, 1851537676⟩ := (rnds_next st0 abc 52).trans (by rw [r52, w52]; kernel_rfl)
theorem r54 : rnds st0 abc 54 = ⟨4117770203, 270520975, 2288941602, 2047150241, 2672265155, 1386118400, 1227037726, 1391578359⟩ := (rnds_next st0 abc 53).trans (by rw [r53, w53]; kernel_rfl)
theorem r55 : rnds st0 abc 55 = ⟨1053056219, 4117770203, 270520975, 2288941602, 3842906959, 2672265155, 1386118400, 1227037726⟩ := (rnds_next st0 abc 54).trans (by rw [r54, w54]; kernel_rfl)
theorem r56 : rnds st0 abc 56 = ⟨952932627, 1053056219, 4117770203, 270520975, 1422599787, 3842906959, 2672265155, 1386118400⟩ := (rnds_next st0 abc 55).trans (by rw [r55, w55]; kernel_rfl)
theorem r57 : rnds st0 abc 57 = ⟨4241590395, 952932627, 1053056219, 4117770203, 2606665836, 1422599787, 3842906959, 2672265155⟩ := (rnds_next st0 abc 56).trans (by rw [r56, w56]; kernel_rfl)
theorem r58 : rnds st0 abc 58 = ⟨3227702383, 4241590395, 952932627, 1053056219, 2118385806, 2606665836, 1422599787, 3842906959⟩ := (rnds_next st0 abc 57).trans (by rw [r57, w57]; kernel_rfl)
theorem r59 : rnds st0 abc 59 = ⟨4290184306, 3227702383, 4241590395, 952932627, 1837350854, 2118385806, 2606665836, 1422599787⟩ := (rnds_next st0 abc 58).trans (by rw [r58, w58]; kernel_rfl)
theorem r60 : rnds st0 abc 60 = ⟨3064893439, 4290184306, 3227702383, 4241590395, 2988158269, 1837350854, 2118385806, 2606665836⟩ := (rnds_next st0 abc 59).trans (by rw [r59, w59]; kernel_rfl)
theorem r61 : rnds st0 abc 61 = ⟨3093179625, 3064893439, 4290184306, 3227702383, 2518632596, 2988158269, 1837350854, 2118385806⟩ := (rnds_next st0 abc 60).trans (by rw [r60, w60]; kernel_rfl)
theorem r62 : rnds st0 abc 62 = ⟨80891244, 3093179625, 3064893439, 4290184306, 2492278198, 2518632596, 2988158269, 1837350854⟩ := (rnds_next st0 abc 61).trans (by rw [r61, w61]; kernel_rfl)
theorem r63 : rnds st0 abc 63 = ⟨3550093669, 80891244, 3093179625, 3064893439, 4212265488, 2492278198, 2518632596, 2988158269⟩ := (rnds_next st0 abc 62).trans (by rw [r62, w62]; kernel_rfl)
theorem r64 : rnds st0 abc 64 = ⟨1349398616, 3550093669, 80891244, 3093179625, 1593118500, 4212265488, 2492278198, 2518632596⟩ := (rnds_next st0 abc 63).trans (by rw [r63, w63]; kernel_rfl)
theorem abc_take : takeB st0 abc = ⟨3128432319, 2399260650, 1094795486, 1571693091, 2953011619, 2518121116, 3021012833, 4060091821⟩ := by unfold takeB; rw [r64]; kernel_rfl
theorem abc_one : blocks st0 abc 1 = takeB st0 abc := rfl
theorem abc_digest : digest [97, 98, 99] = [186, 120, 22, 191, 143, 1, 207, 234, 65, 65, 64, 222, 93, 174, 34, 35, 176, 3, 97, 163, 150, 23, 122, 156, 180, 16, 255, 97, 242, 0, 21, 173] := by
  unfold digest
  rw [abc_pad, show abc.length / 64 = 1 from by decide, abc_one, abc_take]
  decide +kernel
end Go.Proofs.YthagdkipipldlaaGreatDoor.sha

namespace Go.Proofs.YthagdkipipldlaaGreatDoor.sha
open Go.RowKit
open Go.Proofs.YthagdkipipldlaaGreatDoor.oct Go.Proofs.YthagdkipipldlaaGreatDoor.ref
open Go.Lib (byteCells)

/-- a row of bytes among others: where it lies, its room, its bytes -/
structure Part where
  p : Option Addr
  cap : Nat
  l : List UInt8
def Part.val (x : Part) : Value := .slice x.p x.l.length x.cap
/-- the room of a slice of n bytes: none at nil, and no less than n -/
def Rm (p : Option Addr) (cp n : Nat) : Prop := (p = none → cp = 0) ∧ n ≤ cp
theorem own_rm {w : World} {B e n c : Nat} {p : Option Addr} {xs : List Value} (h : w.ownsRow B e 1 (.slice p n c) n xs) : Rm p c n := by
  rcases h.2 with ⟨h, _⟩ | ⟨g, cap, cur, h, _, _, hn, _⟩
  · injection h with h1 h2 h3
    subst h1 h2 h3
    exact ⟨fun _ => rfl, Nat.le_refl _⟩
  · injection h with h1 _ h3
    subst h1 h3
    exact ⟨(fun h => by cases h), hn⟩
def Part.lies (w : World) (x : Part) : Prop := In8 w x.p x.l ∧ Rm x.p x.cap x.l.length
/-- a row of rows at a slice's address -/
def InP (w : World) (P : Option Addr) (ps : List Part) : Prop :=
  (0 < ps.length → ∃ b o, P = some ⟨b, o, none⟩ ∧ ∀ i (h : i < ps.length), w.cell? ⟨b, o + i, none⟩ = some (ps[i]).val) ∧ ∀ x ∈ ps, x.lies w
theorem InP.below {w w' : World} {P : Option Addr} {ps : List Part} (h : InP w P ps) (hb : Below w.heap.size w w') : InP w' P ps := by
  refine ⟨fun hl => ?_, fun x hx => ⟨(h.2 x hx).1.below hb, (h.2 x hx).2⟩⟩
  obtain ⟨b, o, rfl, hc⟩ := h.1 hl
  have hlt : b < w.heap.size := cell_lt (hc 0 hl)
  exact ⟨b, o, rfl, fun i hi => (hb.cell (p := ⟨b, o + i, none⟩) hlt).trans (hc i hi)⟩
def joined (ps : List Part) : List UInt8 := (ps.map (·.l)).flatten
theorem joined_snoc (ps : List Part) (x : Part) : joined (ps ++ [x]) = joined ps ++ x.l := by simp [joined]
theorem joined_take {ps : List Part} {i : Nat} (h : i < ps.length) : joined (ps.take (i + 1)) = joined (ps.take i) ++ (ps[i]).l := by rw [List.take_succ_eq_append_getElem h, joined_snoc]
theorem joined_take_le (ps : List Part) (i : Nat) : (joined (ps.take i)).length ≤ (joined ps).length := by
  have e : joined (ps.take i ++ ps.drop i) = joined (ps.take i) ++ joined (ps.drop i) := by simp only [joined, List.map_append, List.flatten_append]
  rw [List.take_append_drop] at e
  rw [e, List.length_append]; omega

end Go.Proofs.YthagdkipipldlaaGreatDoor.sha

namespace Go.Proofs.YthagdkipipldlaaGreatDoor.sha
open Go.RowKit
open Go.Proofs.YthagdkipipldlaaGreatDoor.oct Go.Proofs.YthagdkipipldlaaGreatDoor.ref Go.Proofs.YthagdkipipldlaaGreatDoor.rows
open Go.Lib (byteCells)

/-- what the key is before the bytes 0 -/
def key0 (k : List UInt8) : List UInt8 := if k.length > 64 then digest k else k
theorem key64_eq (k : List UInt8) : key64 k = key0 k ++ List.replicate (64 - (key0 k).length) 0 := rfl
theorem key0_len (k : List UInt8) : (key0 k).length ≤ 64 := by
  unfold key0
  split
  · rw [digest_len]; decide
  · omega
theorem map_take {l : List UInt8} (f : UInt8 → UInt8) {i : Nat} (h : i < l.length) : (l.take (i + 1)).map f = (l.take i).map f ++ [f l[i]] := by
  rw [List.take_succ_eq_append_getElem h, List.map_append]; rfl

theorem rsumN_c (g cap N : Nat) (l : List UInt8) (w : World) (hN : l.length = N) (hp : In8 w (some ⟨g, 0, none⟩) l) (hl : N ≤ 140737488355000) :
    Calls Tryz.prog 114 #[.slice (some ⟨g, 0, none⟩) N cap] w fun e w' => e = .returned (.agg (byteCells (digest l)).toArray) ∧ Below w.heap.size w w' := by
  subst hN
  exact rsum_c _ cap l w hp hl (fun h => by cases h)
theorem in8_get {w : World} {b o i : Nat} {l : List UInt8} (h : In8 w (some ⟨b, o, none⟩) l) (hi : i < l.length) : w.cell? ⟨b, o + i, none⟩ = some (.int .u8 ((l[i]).toNat : Int)) := by
  obtain ⟨_, _, he, hc⟩ := h (by omega)
  cases he
  rw [hc i hi]
  simp [List.getD, List.getElem?_eq_getElem hi]
/-- an own row that is not empty, as a slice -/
theorem own_slice {w : World} {B e n : Nat} {v : Value} {l : List UInt8} (h : w.ownsRow B e 1 v n (byteCells l)) (hn : 0 < n) : ∃ g cap, v = .slice (some ⟨g, 0, none⟩) n cap ∧ In8 w (some ⟨g, 0, none⟩) l ∧ l.length = n := by
  obtain ⟨hl, p, cap, rfl, h8⟩ := own_in8 h
  obtain ⟨g, cap2, hv, _, _⟩ := own_parts h hn
  simp only [Value.slice.injEq] at hv
  obtain ⟨rfl, _, rfl⟩ := hv
  exact ⟨g, cap, rfl, h8, hl.symm⟩
theorem own_down {w : World} {B C e n : Nat} {v : Value} {xs : List Value} (h : w.ownsRow B e 1 v n xs) (hc : C ≤ B) : w.ownsRow C e 1 v n xs :=
  ⟨h.1, h.2.imp id fun ⟨g, cap, cur, hv, hb, r⟩ => ⟨g, cap, cur, hv, Nat.le_trans hc hb, r⟩⟩

end Go.Proofs.YthagdkipipldlaaGreatDoor.sha

namespace Go.Proofs.YthagdkipipldlaaGreatDoor.sha
open Go.RowKit
open Go.Proofs.YthagdkipipldlaaGreatDoor.oct Go.Proofs.YthagdkipipldlaaGreatDoor.ref Go.Proofs.YthagdkipipldlaaGreatDoor.rows
open Go.Lib (byteCells)

theorem below_drewN' {w w' : World} (n : Nat) (h : w' = w.drewN n) : Below w.heap.size w w' := by subst h; exact below_drewN (Below.refl _ _) n

end Go.Proofs.YthagdkipipldlaaGreatDoor.sha

namespace Go.Proofs.YthagdkipipldlaaGreatDoor.sha
open Go.RowKit
open Go.Proofs.YthagdkipipldlaaGreatDoor.oct Go.Proofs.YthagdkipipldlaaGreatDoor.ref Go.Proofs.YthagdkipipldlaaGreatDoor.rows
open Go.Lib (byteCells)

/-- the value of a digest -/
def dval (l : List UInt8) : Value := .agg (byteCells l).toArray
theorem InP.one {w : World} {p : Option Addr} {cp : Nat} {l : List UInt8} (h : In8 w p l) (hn : Rm p cp l.length) : InP (w.alloc (.cells #[.slice p l.length cp] 125)) (some ⟨w.heap.size, 0, none⟩) [⟨p, cp, l⟩] := by
  refine ⟨fun _ => ⟨w.heap.size, 0, rfl, fun i hi => ?_⟩, ?_⟩
  · obtain rfl : i = 0 := by simp at hi; omega
    rw [World.cell?_alloc_at _ _ _ _ rfl]; rfl
  · intro x hx
    simp only [List.mem_cons, List.not_mem_nil, or_false] at hx
    subst hx
    exact ⟨h.below ((Below.refl _ _).alloc (Nat.le_refl _) _), hn⟩
theorem joined_one (p : Option Addr) (cp : Nat) (l : List UInt8) : joined [⟨p, cp, l⟩] = l := by simp [joined]
theorem digest_eq (a b : List UInt8) (w : World) (ha : a.length = 32) (hb : b.length = 32) : (binOp .eql 212 (dval a) (dval b)).run Tryz.prog w = .ok (.bool (a == b)) w :=
  run_eql_bytes w 212 5 32 Tryz.underlying212 Tryz.underlying5 (fun w => by obtain ⟨j0, hj, _, hs, _⟩ := info_parts infoByte; simp [sizeOf, typeInfo, hj, hs]) a b ha hb

theorem in8_mark (w : World) (cs : Array Value) (fr : Nat × Nat) (l : List UInt8) (h : cs = (byteCells l).toArray) : In8 (w.alloc (.cells cs 5 fr)) (some ⟨w.heap.size, 0, none⟩) l := by
  intro _
  refine ⟨w.heap.size, 0, rfl, fun i hi => ?_⟩
  rw [Nat.zero_add, World.cell?_alloc_mark w cs 5 fr i, h]
  simp [byteCells, List.getD, List.getElem?_eq_getElem hi]
theorem infoDS : (Tryz.prog.info? 212).map (·.size) = some 32 := by kernel_rfl

end Go.Proofs.YthagdkipipldlaaGreatDoor.sha

namespace Go.Proofs.YthagdkipipldlaaGreatDoor.sha
open Go.RowKit
open Go.Proofs.YthagdkipipldlaaGreatDoor.oct Go.Proofs.YthagdkipipldlaaGreatDoor.ref Go.Proofs.YthagdkipipldlaaGreatDoor.rows
open Go.Lib (byteCells)

theorem key64_digest {k : List UInt8} (h : k.length > 64) : key64 (digest k) = key64 k := by
  rw [key64_eq, key64_eq]
  unfold key0
  rw [if_pos h, if_neg (by rw [digest_len]; decide)]
theorem mac_long {k l : List UInt8} (h : k.length > 64) : mac (digest k) l = mac k l := by unfold mac; rw [key64_digest h]
theorem key64_zeros {k : List UInt8} (h : k.length ≤ 64) : key64 (k ++ List.replicate (64 - k.length) 0) = key64 k := by
  have hl : (k ++ List.replicate (64 - k.length) (0 : UInt8)).length = 64 := by simp; omega
  rw [key64_eq, key64_eq]
  unfold key0
  rw [if_neg (by omega), if_neg (by omega), hl]
  simp
theorem mac_short {k l : List UInt8} (h : k.length ≤ 64) : mac (k ++ List.replicate (64 - k.length) 0) l = mac k l := by unfold mac; rw [key64_zeros h]

theorem byteCells_rep (n : Nat) (c : UInt8) : byteCells (List.replicate n c) = List.replicate n (.int .u8 (c.toNat : Int)) := by simp [byteCells]
/-- one part, laid just now or before -/
theorem lay_old {w : World} {P : Option Addr} {ps : List Part} (h : InP w P ps) (o : Obj) : InP (w.alloc o) P ps := h.below ((Below.refl _ _).alloc (Nat.le_refl _) o)

theorem agg_eq (l : List UInt8) (w : World) (h : l.length = 32) : (binOp .eql 212 (.agg (byteCells l).toArray) (.agg (byteCells l).toArray)).run Tryz.prog w = .ok (.bool true) w := by
  have := digest_eq l l w h h
  unfold dval at this
  simpa using this

end Go.Proofs.YthagdkipipldlaaGreatDoor.sha

namespace Go.Proofs.YthagdkipipldlaaGreatDoor.sha
open Go.RowKit
open Go.Proofs.YthagdkipipldlaaGreatDoor.oct Go.Proofs.YthagdkipipldlaaGreatDoor.ref Go.Proofs.YthagdkipipldlaaGreatDoor.rows
open Go.Lib (byteCells)

theorem InP.two {w : World} {p r : Option Addr} {cp cr : Nat} {l m : List UInt8} (h : In8 w p l) (hn : Rm p cp l.length) (k : In8 w r m) (kn : Rm r cr m.length) :
    InP (w.alloc (.cells #[.slice p l.length cp, .slice r m.length cr] 125)) (some ⟨w.heap.size, 0, none⟩) [⟨p, cp, l⟩, ⟨r, cr, m⟩] := by
  have hb := (Below.refl w.heap.size w).alloc (Nat.le_refl _) (.cells #[.slice p l.length cp, .slice r m.length cr] 125)
  refine ⟨fun _ => ⟨w.heap.size, 0, rfl, fun i hi => ?_⟩, ?_⟩
  · rw [World.cell?_alloc_at _ _ _ _ rfl]
    match i, hi with
    | 0, _ => rfl
    | 1, _ => rfl
  · intro x hx
    simp only [List.mem_cons, List.not_mem_nil, or_false] at hx
    rcases hx with rfl | rfl
    · exact ⟨h.below hb, hn⟩
    · exact ⟨k.below hb, kn⟩
theorem joined_two (p r : Option Addr) (cp cr : Nat) (l m : List UInt8) : joined [⟨p, cp, l⟩, ⟨r, cr, m⟩] = l ++ m := by simp [joined]
theorem in8_block {w : World} {p : Option Addr} {l : List UInt8} {g : Nat} (h : In8 w p l) (hg : w.heap.size ≤ g) (hl : 0 < l.length) : ∀ a, p = some a → a.block ≠ g := by
  intro a ha
  obtain ⟨b, o, h1, hc⟩ := h hl
  rw [ha] at h1
  cases h1
  have : b < w.heap.size := cell_lt (hc 0 hl)
  show b ≠ g
  omega
/-- a block of the call's own is written: what was there before the call is as it was -/
theorem grown_below {w w' : World} {g B : Nat} {w0 : World} (hb : Below B w0 w) (hg : w.grownBy w' (some g)) (hB : B ≤ g) (hs : B ≤ w.heap.size) : Below B w0 w' :=
  hb.grown hg hs (fun k hk => by cases hk; exact hB)
end Go.Proofs.YthagdkipipldlaaGreatDoor.sha
