/- Several texts in one: Oct1, Oct2, Plain1, Oct3, Oct4, ShBuild, Oct6, Oct7, Oct8, Oct5, Oct9, Oct10, Oct11. Conditions: as each theorem says. -/
import Derived.Test.YthagdkipipldlaaGreatDoorBaseA
import Derived.Laws.BitsLemmas
import Derived.Lib.Strings
import Derived.Lib.UnsafeStr
import Derived.Laws.BytesArg
import Derived.Laws.CopyOwn
import Derived.Shelf.Strings.Builder1
import Derived.Shelf.Strings.Builder2Cap
import Derived.Test.YthagdkipipldlaaGreatDoorProg
import Derived.Test.YthagdkipipldlaaGreatDoorShIdx
import Derived.Shelf.Strings.Trim
import Derived.Shelf.Strings.Repeat
namespace Go.Proofs.YthagdkipipldlaaGreatDoor.oct
set_option maxRecDepth 100000
open Go.RowKit

def lack (n : Nat) : Nat := (4 - n % 4) % 4

def dig (n : Int) : Int := if n < 10 then 48 + n else 87 + n
theorem dig_lo {n : Int} (h : n < 10) : 48 + n = dig n := by unfold dig; rw [if_pos h]
theorem dig_hi {n : Int} (h : 10 ≤ n) : 87 + n = dig n := by unfold dig; rw [if_neg (by omega)]

/-- the value of a sign by sixteen: the first n below 16 whose digit it is -/
def wor (c : Int) : Int := if 48 ≤ c ∧ c ≤ 57 then c - 48 else if 97 ≤ c ∧ c ≤ 102 then c - 87 else -1
theorem wor_dig {k c : Int} (h0 : 0 ≤ k) (h1 : k < 16) (h : dig k = c) : wor c = k := by
  unfold dig at h; unfold wor
  split at h <;> split <;> (try split) <;> omega
theorem wor_none {c : Int} (h : ∀ k : Int, 0 ≤ k → k < 16 → dig k ≠ c) : wor c = -1 := by
  unfold wor
  split
  · exact absurd (by unfold dig; rw [if_pos (by omega)]; omega) (h (c - 48) (by omega) (by omega))
  · split
    · exact absurd (by unfold dig; rw [if_neg (by omega)]; omega) (h (c - 87) (by omega) (by omega))
    · rfl

/-- the sign of sixty-four that is worth n -/
def sgn (n : Int) (web : Bool) : Int := if n < 26 then 65 + n else if n < 52 then 71 + n else if n < 62 then n - 4 else if n = 62 then (if web then 45 else 43) else (if web then 95 else 47)

set_option maxHeartbeats 400000 in
theorem sign_c (n : Int) (web : Bool) (h0 : 0 ≤ n) (h1 : n < 64) (w : World) :
    Calls Tryz.prog 152 #[.int .i64 n, .bool web] w fun e w' => e = .returned (.int .u8 (sgn n web)) ∧ w = w' := by
  by_cases a : n < 26
  · go_enter Tryz.func152, Tryz.ntmps152
    go_wp2
    go_ret
    exact ⟨ret_int (by simp [sgn, a]), rfl⟩
  by_cases b : n < 52
  · go_enter Tryz.func152, Tryz.ntmps152
    go_wp2
    go_ret
    exact ⟨ret_int (by simp [sgn, b]; omega), rfl⟩
  by_cases c : n < 62
  · go_enter Tryz.func152, Tryz.ntmps152
    go_wp2
    go_ret
    exact ⟨ret_int (by simp [sgn, c]; omega), rfl⟩
  have hd : n = 62 ∨ n = 63 := by omega
  clear a b c h0 h1
  rcases hd with rfl | rfl <;> cases web
  all_goals
    go_enter Tryz.func152, Tryz.ntmps152
    go_wp2
    go_ret
    exact ⟨ret_int (by decide), rfl⟩

end Go.Proofs.YthagdkipipldlaaGreatDoor.oct

namespace Go.Proofs.YthagdkipipldlaaGreatDoor.oct
set_option maxRecDepth 100000
open Go.RowKit

theorem orxor (x a b : UInt8) : bits .or .u8 (x.toNat : Int) (bits .xor .u8 (a.toNat : Int) (b.toNat : Int)) = ((x ||| (a ^^^ b)).toNat : Int) := by
  rw [xor_u8, (bits_nat .u8 8 (by decide) wraps_u8 x.toNat (a ^^^ b).toNat x.toNat_lt (a ^^^ b).toNat_lt).2, UInt8.toNat_or]
theorem orxor_zero (x a b : UInt8) : x ||| (a ^^^ b) = 0 ↔ x = 0 ∧ a = b := by
  rw [UInt8.or_eq_zero_iff, UInt8.xor_eq_zero_iff]
set_option maxHeartbeats 400000 in
theorem same_c (p q : Option Addr) (cp cq : Nat) (l m : List UInt8) (w : World) (hp : In8 w p l) (hq : In8 w q m) (hl : l.length ≤ 9223372036854775807) :
    Calls Tryz.prog 160 #[.slice p l.length cp, .slice q m.length cq] w fun e w' => e = .returned (.bool (decide (l = m))) ∧ w = w' := by
  by_cases hlen : l.length = m.length
  · have hb : ((l.length : Int) != (m.length : Int)) = false := by simp [hlen]
    have HL := Lib.hid hlen
    clear hlen
    go_enter Tryz.func160, Tryz.ntmps160
    go_wp2
    go_loop [5, 15] (fun d i => ∃ k : Nat, k ≤ l.length ∧ i = .int .i64 k ∧ ∃ x : UInt8, d = .int .u8 (x.toNat : Int) ∧ Hid (x = 0 ↔ l.take k = m.take k)) (fun _ i => l.length - (intOf i).toNat)
    case atStart => exact ⟨0, by omega, rfl, 0, rfl, by show _ ↔ _; simp⟩
    case round =>
      obtain ⟨k, hk, rfl, x, rfl, HX⟩ := hrel
      by_cases hlt : k < l.length
      · obtain ⟨bp, op, rfl, cp'⟩ := hp.at (by omega)
        obtain ⟨bq, oq, rfl, cq'⟩ := hq.at (by rw [← HL.out]; omega)
        have c1 := cp' k hlt
        have c2 := cq' k (by rw [← HL.out]; omega)
        have hm2 : k < m.length := by rw [← HL.out]; omega
        clear cp' cq' hp hq
        go_wp2
        go_round
        case rel => exact ⟨k + 1, by omega, by go_num, x ||| (l[k]'hlt ^^^ m[k]'hm2), by rw [orxor], by show _ ↔ _; rw [orxor_zero, take_eq_succ hlt hm2, HX.out]⟩
        case measure => simp [intOf]; omega
      · have hkl : k = l.length := by omega
        have hfin : (decide ((x.toNat : Int) = 0)) = decide (l = m) := by
          have h1 := HX.out
          rw [hkl, List.take_length, HL.out, List.take_length] at h1
          rw [decide_eq_decide, ← h1]
          constructor
          · intro h; exact UInt8.toNat_inj.1 (by simpa using h)
          · rintro rfl; rfl
        have HF := Lib.hid hfin
        clear hfin
        go_wp2
        go_ret
        exact ⟨ret_bool HF.out, rfl⟩
  · have hb : ((l.length : Int) != (m.length : Int)) = true := by simp; omega
    go_enter Tryz.func160, Tryz.ntmps160
    go_wp2
    go_ret
    exact ⟨ret_bool (decide_eq_false fun h => hlen (by rw [h])).symm, rfl⟩

end Go.Proofs.YthagdkipipldlaaGreatDoor.oct

namespace Go.Proofs.YthagdkipipldlaaGreatDoor.pl

def num (l : List Bool) : Nat := l.foldl (fun n b => 2 * n + b.toNat) 0
theorem num_go (l : List Bool) (a : Nat) : l.foldl (fun n b => 2 * n + b.toNat) a = a * 2 ^ l.length + num l := by
  unfold num
  induction l generalizing a with
  | nil => simp
  | cons b l ih => simp only [List.foldl_cons, List.length_cons]; rw [ih, ih (2 * 0 + b.toNat), Nat.pow_succ]; simp only [Nat.mul_zero, Nat.zero_add]; rw [Nat.add_mul, Nat.add_assoc]; congr 1; rw [Nat.mul_comm 2 a, Nat.mul_assoc, Nat.mul_comm 2]
@[simp] theorem num_nil : num [] = 0 := rfl
theorem num_append (l m : List Bool) : num (l ++ m) = num l * 2 ^ m.length + num m := by
  show (l ++ m).foldl _ 0 = _
  rw [List.foldl_append, num_go]; rfl
theorem num_cons (b : Bool) (l : List Bool) : num (b :: l) = b.toNat * 2 ^ l.length + num l := by
  have := num_append [b] l
  simpa [num] using this
theorem num_lt (l : List Bool) : num l < 2 ^ l.length := by
  induction l with
  | nil => simp
  | cons b l ih =>
    rw [num_cons, List.length_cons, Nat.pow_succ]
    have : b.toNat ≤ 1 := Bool.toNat_le b
    have := Nat.mul_le_mul_right (2 ^ l.length) this
    omega
theorem num_zero {l : List Bool} (h : num l = 0) : l = List.replicate l.length false := by
  induction l with
  | nil => rfl
  | cons b l ih =>
    rw [num_cons] at h
    have hp := Nat.two_pow_pos l.length
    have hb : b.toNat * 2 ^ l.length = 0 := by omega
    have : b.toNat = 0 := by
      rcases Nat.mul_eq_zero.1 hb with h | h
      · exact h
      · omega
    have hbf : b = false := by
      cases b with
      | false => rfl
      | true => exact absurd this (by decide)
    subst hbf
    rw [List.length_cons, List.replicate_succ, ← ih (by simpa using h)]
theorem num_false (n : Nat) : num (List.replicate n false) = 0 := by
  induction n with
  | zero => rfl
  | succ n ih => rw [List.replicate_succ, num_cons, ih]; simp
theorem num_inj {l m : List Bool} (hl : l.length = m.length) (h : num l = num m) : l = m := by
  induction l generalizing m with
  | nil => cases m with
    | nil => rfl
    | cons _ _ => simp at hl
  | cons b l ih =>
    cases m with
    | nil => simp at hl
    | cons c m =>
      simp only [List.length_cons, Nat.add_right_cancel_iff] at hl
      rw [num_cons, num_cons, hl] at h
      have h1 := num_lt l
      have h2 := num_lt m
      rw [hl] at h1
      have hb : b = c := by
        cases b <;> cases c <;> simp at h ⊢ <;> omega
      subst hb
      rw [ih hl (by omega)]

/-- the w bits of n, the greatest first -/
def bitsN : Nat → Nat → List Bool
  | 0, _ => []
  | w + 1, n => decide (n / 2 ^ w % 2 = 1) :: bitsN w n
@[simp] theorem bitsN_len (w n : Nat) : (bitsN w n).length = w := by induction w with | zero => rfl | succ w ih => simp [bitsN, ih]
theorem num_bitsN (w n : Nat) : num (bitsN w n) = n % 2 ^ w := by
  induction w with
  | zero => simp [bitsN, Nat.mod_one]
  | succ w ih =>
    rw [bitsN, num_cons, ih, bitsN_len, Nat.mod_pow_succ]
    have : (decide (n / 2 ^ w % 2 = 1)).toNat = n / 2 ^ w % 2 := by
      have : n / 2 ^ w % 2 = 0 ∨ n / 2 ^ w % 2 = 1 := by omega
      rcases this with h | h <;> simp [h]
    rw [this, Nat.mul_comm, Nat.add_comm]
theorem bitsN_num (l : List Bool) : bitsN l.length (num l) = l :=
  num_inj (bitsN_len _ _) (by rw [num_bitsN, Nat.mod_eq_of_lt (num_lt l)])
theorem bitsN_num' {w : Nat} {l : List Bool} (h : l.length = w) : bitsN w (num l) = l := by subst h; exact bitsN_num l
theorem bitsN_inj {w a b : Nat} (ha : a < 2 ^ w) (hb : b < 2 ^ w) (h : bitsN w a = bitsN w b) : a = b := by
  have := congrArg num h
  rwa [num_bitsN, num_bitsN, Nat.mod_eq_of_lt ha, Nat.mod_eq_of_lt hb] at this

/-- digits of w bits each, one behind the other -/
def flat (w : Nat) (ds : List Nat) : List Bool := ds.flatMap (bitsN w)
@[simp] theorem flat_nil (w : Nat) : flat w [] = [] := rfl
@[simp] theorem flat_cons (w d : Nat) (ds : List Nat) : flat w (d :: ds) = bitsN w d ++ flat w ds := by simp [flat]
theorem flat_append (w : Nat) (ds es : List Nat) : flat w (ds ++ es) = flat w ds ++ flat w es := by simp [flat]
theorem flat_snoc (w : Nat) (ds : List Nat) (d : Nat) : flat w (ds ++ [d]) = flat w ds ++ bitsN w d := by simp [flat]
theorem flat_len (w : Nat) (ds : List Nat) : (flat w ds).length = w * ds.length := by
  induction ds with
  | nil => simp
  | cons d ds ih => simp [ih, Nat.mul_add, Nat.add_comm]
theorem flat_inj {w : Nat} (hw : 0 < w) {ds es : List Nat} (h : flat w ds = flat w es) (hd : ∀ d ∈ ds, d < 2 ^ w) (he : ∀ d ∈ es, d < 2 ^ w) : ds = es := by
  have hl : ds.length = es.length := by
    have := congrArg List.length h
    rw [flat_len, flat_len] at this
    exact Nat.eq_of_mul_eq_mul_left hw this
  induction ds generalizing es with
  | nil => cases es with
    | nil => rfl
    | cons _ _ => simp at hl
  | cons d ds ih =>
    cases es with
    | nil => simp at hl
    | cons e es =>
      simp only [flat_cons] at h
      obtain ⟨h1, h2⟩ := List.append_inj h (by simp)
      rw [bitsN_inj (hd d (by simp)) (he e (by simp)) h1, ih h2 (fun x hx => hd x (by simp [hx])) (fun x hx => he x (by simp [hx])) (by simpa using hl)]

def nats (l : List UInt8) : List Nat := l.map UInt8.toNat
theorem nats_inj {l m : List UInt8} (h : nats l = nats m) : l = m := by
  induction l generalizing m with
  | nil => cases m <;> simp_all [nats]
  | cons a l ih =>
    cases m with
    | nil => simp [nats] at h
    | cons b m =>
      simp only [nats, List.map_cons, List.cons.injEq] at h
      rw [UInt8.toNat_inj.1 h.1, ih h.2]
theorem nats_lt (l : List UInt8) : ∀ d ∈ nats l, d < 2 ^ 8 := by
  intro d hd
  obtain ⟨c, _, rfl⟩ := List.mem_map.1 hd
  exact c.toNat_lt
def bitsOf (l : List UInt8) : List Bool := flat 8 (nats l)
@[simp] theorem bitsOf_nil : bitsOf [] = [] := rfl
theorem bitsOf_snoc (l : List UInt8) (c : UInt8) : bitsOf (l ++ [c]) = bitsOf l ++ bitsN 8 c.toNat := by simp [bitsOf, nats, flat]
theorem bitsOf_append (l m : List UInt8) : bitsOf (l ++ m) = bitsOf l ++ bitsOf m := by simp [bitsOf, nats, flat]
theorem bitsOf_len (l : List UInt8) : (bitsOf l).length = 8 * l.length := by simp [bitsOf, flat_len, nats]
theorem bitsOf_inj {l m : List UInt8} (h : bitsOf l = bitsOf m) : l = m := nats_inj (flat_inj (by decide) h (nats_lt l) (nats_lt m))

/-- ds tells l in digits of w bits: l's bits, and fewer than w bits 0 behind them -/
def Tells (w : Nat) (l : List UInt8) (ds : List Nat) : Prop :=
  (∀ d ∈ ds, d < 2 ^ w) ∧ ∃ p, p < w ∧ flat w ds = bitsOf l ++ List.replicate p false
theorem Tells.unique {w : Nat} {l : List UInt8} {ds es : List Nat} (h : Tells w l ds) (k : Tells w l es) : ds = es := by
  obtain ⟨hd, p, hp, h1⟩ := h
  obtain ⟨he, q, hq, h2⟩ := k
  have e1 := congrArg List.length h1
  have e2 := congrArg List.length h2
  simp only [flat_len, List.length_append, List.length_replicate] at e1 e2
  have hpq : p = q := by
    have a1 : (w * ds.length) % w = 0 := Nat.mul_mod_right _ _
    have a2 : (w * es.length) % w = 0 := Nat.mul_mod_right _ _
    rw [e1] at a1
    rw [e2] at a2
    rcases Nat.lt_trichotomy p q with h | h | h
    · exfalso
      have := Nat.sub_mod_eq_zero_of_mod_eq (a2.trans a1.symm)
      rw [show (bitsOf l).length + q - ((bitsOf l).length + p) = q - p from by omega, Nat.mod_eq_of_lt (by omega)] at this
      omega
    · exact h
    · exfalso
      have := Nat.sub_mod_eq_zero_of_mod_eq (a1.trans a2.symm)
      rw [show (bitsOf l).length + p - ((bitsOf l).length + q) = p - q from by omega, Nat.mod_eq_of_lt (by omega)] at this
      omega
  subst hpq
  exact flat_inj (by omega) (h1.trans h2.symm) hd he
theorem Tells.inj {w : Nat} (hw : w ≤ 8) {l m : List UInt8} {ds : List Nat} (h : Tells w l ds) (k : Tells w m ds) : l = m := by
  obtain ⟨hd, p, hp, h1⟩ := h
  obtain ⟨he, q, hq, h2⟩ := k
  have e := h1.symm.trans h2
  have el := congrArg List.length e
  simp only [List.length_append, List.length_replicate, bitsOf_len] at el
  have hl : l.length = m.length := by omega
  exact bitsOf_inj (List.append_inj e (by simp [bitsOf_len, hl])).1

/-- so many digits of w bits off a row of bits -/
def digs (w : Nat) : Nat → List Bool → List Nat
  | 0, _ => []
  | q + 1, l => num (l.take w) :: digs w q (l.drop w)
theorem flat_digs (w q : Nat) (l : List Bool) (h : l.length = w * q) : flat w (digs w q l) = l := by
  induction q generalizing l with
  | zero => simp at h; subst h; rfl
  | succ q ih =>
    rw [Nat.mul_succ] at h
    rw [digs, flat_cons, bitsN_num' (by rw [List.length_take]; omega), ih _ (by rw [List.length_drop]; omega), List.take_append_drop]
theorem digs_lt (w q : Nat) (l : List Bool) : ∀ d ∈ digs w q l, d < 2 ^ w := by
  induction q generalizing l with
  | zero => simp [digs]
  | succ q ih =>
    intro d hd
    rcases List.mem_cons.1 hd with rfl | hd
    · exact Nat.lt_of_lt_of_le (num_lt _) (Nat.pow_le_pow_right (by decide) (List.length_take_le _ _))
    · exact ih _ _ hd
/-- the digits of w bits that tell l -/
def enc (w : Nat) (l : List UInt8) : List Nat :=
  digs w ((8 * l.length + (w - 8 * l.length % w) % w) / w) (bitsOf l ++ List.replicate ((w - 8 * l.length % w) % w) false)
theorem enc_tells {w : Nat} (hw : 0 < w) (l : List UInt8) : Tells w l (enc w l) := by
  refine ⟨digs_lt _ _ _, _, Nat.mod_lt _ hw, flat_digs _ _ _ ?_⟩
  rw [List.length_append, List.length_replicate, bitsOf_len]
  have hm := Nat.mod_lt (8 * l.length) hw
  have hd := Nat.div_add_mod (8 * l.length) w
  have hz : (8 * l.length + (w - 8 * l.length % w) % w) % w = 0 := by
    by_cases h0 : 8 * l.length % w = 0
    · rw [h0, Nat.sub_zero, Nat.mod_self, Nat.add_zero, h0]
    · rw [Nat.mod_eq_of_lt (a := w - 8 * l.length % w) (by omega)]
      rw [show 8 * l.length + (w - 8 * l.length % w) = w * (8 * l.length / w) + w from by omega]
      simp
  exact (Nat.mul_div_cancel' (Nat.dvd_of_mod_eq_zero hz)).symm
theorem Tells.eq_enc {w : Nat} (hw : 0 < w) {l : List UInt8} {ds : List Nat} (h : Tells w l ds) : ds = enc w l := h.unique (enc_tells hw l)

/-- the text of digits -/
def text (sg : Nat → UInt8) (ds : List Nat) : List UInt8 := ds.map sg
theorem text_inj {sg : Nat → UInt8} {w : Nat} (hsg : ∀ a b, a < 2 ^ w → b < 2 ^ w → sg a = sg b → a = b) {ds es : List Nat} (hd : ∀ d ∈ ds, d < 2 ^ w) (he : ∀ d ∈ es, d < 2 ^ w) (h : text sg ds = text sg es) : ds = es := by
  induction ds generalizing es with
  | nil => cases es <;> simp_all [text]
  | cons d ds ih =>
    cases es with
    | nil => simp [text] at h
    | cons e es =>
      simp only [text, List.map_cons, List.cons.injEq] at h
      rw [hsg d e (hd d (by simp)) (he e (by simp)) h.1, ih (fun x hx => hd x (by simp [hx])) (fun x hx => he x (by simp [hx])) h.2]

end Go.Proofs.YthagdkipipldlaaGreatDoor.pl

namespace Go.Proofs.YthagdkipipldlaaGreatDoor.oct
set_option maxRecDepth 100000
open Go.RowKit
open Go.Proofs.YthagdkipipldlaaGreatDoor.pl

def bools (l : List Bool) : List Value := l.map Value.bool
@[simp] theorem bools_len (l : List Bool) : (bools l).length = l.length := by simp [bools]
theorem bools_snoc (l : List Bool) (b : Bool) : bools (l ++ [b]) = bools l ++ [.bool b] := by simp [bools]

theorem infoBool : (Tryz.prog.info? 4).map (fun i => (i.zero, i.size, i.bytes)) = some (some (.bool false), 1, 1) := by kernel_rfl
theorem bit_at (c j : Nat) (h : j < 8) : (bitsN 8 c).take (j + 1) = (bitsN 8 c).take j ++ [((c : Int) / ((128 / 2 ^ j : Nat) : Int) % 2 == 1)] := by
  have e : ((c : Int) / ((128 / 2 ^ j : Nat) : Int) % 2 == 1) = (c / (128 / 2 ^ j) % 2 == 1) := by
    rw [Bool.eq_iff_iff, beq_iff_eq, beq_iff_eq]
    rw [← Int.natCast_ediv]; omega
  rw [e]
  have : j = 0 ∨ j = 1 ∨ j = 2 ∨ j = 3 ∨ j = 4 ∨ j = 5 ∨ j = 6 ∨ j = 7 := by omega
  rcases this with rfl | rfl | rfl | rfl | rfl | rfl | rfl | rfl <;> (simp [bitsN] <;> rfl)
theorem quo_bd (c h : Nat) (hc : c < 256) : 0 ≤ (c : Int) / (h : Int) ∧ (c : Int) / (h : Int) ≤ 255 := by
  have h1 : ((c / h : Nat) : Int) = (c : Int) / (h : Int) := Int.natCast_ediv c h
  have h2 : c / h ≤ 255 := Nat.le_trans (Nat.div_le_self c h) (by omega)
  rw [← h1]
  exact ⟨Int.natCast_nonneg _, Int.ofNat_le.2 h2⟩
theorem half_at (j : Nat) (h : j < 8) : 128 / 2 ^ j / 2 = 128 / 2 ^ (j + 1) ∧ 1 ≤ 128 / 2 ^ j ∧ 128 / 2 ^ j ≤ 128 := by
  have : j = 0 ∨ j = 1 ∨ j = 2 ∨ j = 3 ∨ j = 4 ∨ j = 5 ∨ j = 6 ∨ j = 7 := by omega
  rcases this with rfl | rfl | rfl | rfl | rfl | rfl | rfl | rfl <;> simp

set_option maxHeartbeats 1000000 in
theorem bits_c (p : Option Addr) (cp : Nat) (l : List UInt8) (w : World) (hp : In8 w p l) (hl : l.length ≤ 2097152) :
    Calls Tryz.prog 168 #[.slice p l.length cp] w fun e w' =>
      ∃ v, e = .returned v ∧ w'.ownsRow w.heap.size 4 1 v (bitsOf l).length (bools (bitsOf l)) ∧ Below w.heap.size w w' := by
  obtain ⟨i0, hi, hz0, hz1, hz2⟩ := info_parts infoBool
  have HP := Lib.hid hp
  clear hp
  go_enter Tryz.func168, Tryz.ntmps168
  go_wp2
  go_loopg [3, 4] l.length (fun g s3 s4 wx => ∃ k : Nat, k + g = l.length ∧ s4 = .int .i64 k ∧ wx.ownsRow w.heap.size 4 1 s3 (bitsOf (l.take k)).length (bools (bitsOf (l.take k))) ∧ Below w.heap.size w wx)
  case atStart => exact ⟨0, by omega, rfl, World.ownsRow_nil _ _ _ _, Below.refl _ _⟩
  case round =>
    obtain ⟨k, hkg, rfl, hrow, hbx⟩ := hrel
    cases gk with
    | zero =>
      have hkz : ¬ ((k : Int) < (l.length : Int)) := by omega
      have HK : Hid (l.take k = l) := List.take_of_length_le (by omega)
      go_wp2
      go_ret
      have e := HK.out
      rw [e] at hrow
      exact ⟨_, rfl, hrow, hbx⟩
    | succ g =>
      have hkz : (k : Int) < (l.length : Int) := by omega
      obtain ⟨b, o, rfl, hc⟩ := HP.out.at (by omega)
      have hbl : b < w.heap.size := HP.out.blt (by omega)
      have hcell : ∀ wy, Below w.heap.size w wy → wy.cell? ⟨b, o + k, none⟩ = some (.int .u8 ((l.getD k 0).toNat : Int)) := fun wy hy => (hy.cell (p := ⟨b, o + k, none⟩) hbl).trans (hc k (by omega))
      have HC := Lib.hid hcell
      clear hc hcell
      obtain ⟨c, hcd⟩ : ∃ c : UInt8, l.getD k 0 = c := ⟨_, rfl⟩
      have HT : Hid (bitsOf (l.take (k + 1)) = bitsOf (l.take k) ++ bitsN 8 c.toNat) := by
        show _ = _
        rw [List.take_succ_eq_append_getElem (by omega), bitsOf_snoc, ← hcd]; simp [List.getD, List.getElem?_eq_getElem (show k < l.length by omega)]
      have HL : Hid ((bitsOf (l.take k)).length = 8 * k) := by show _ = _; rw [bitsOf_len, List.length_take]; omega
      have hc256 := c.toNat_lt
      rw [hcd] at HC
      clear hcd
      go_wp2
      go_loopg [3, 5] 8 (fun g2 s3 s5 wy => ∃ j : Nat, j + g2 = 8 ∧ s5 = .int .i64 ((128 / 2 ^ j : Nat) : Int) ∧ wy.ownsRow w.heap.size 4 1 s3 (bitsOf (l.take k) ++ (bitsN 8 c.toNat).take j).length (bools (bitsOf (l.take k) ++ (bitsN 8 c.toNat).take j)) ∧ Below w.heap.size w wy)
      case atStart => exact ⟨0, by omega, rfl, by simpa using hrow, hbx⟩
      case round =>
        clear hrow hbx
        obtain ⟨j, hjg, rfl, hrow, hbx⟩ := hrel
        cases gk with
        | zero =>
          obtain rfl : j = 8 := by omega
          go_wp2
          go_roundg g
          case measure => omega
          case rel =>
            refine ⟨k + 1, by omega, by go_num, ?_, hbx⟩
            rw [HT.out]
            rwa [show (bitsN 8 c.toNat).take 8 = bitsN 8 c.toNat from List.take_of_length_le (by simp)] at hrow
        | succ g2 =>
          obtain ⟨h1, h2, h3⟩ := half_at j (by omega)
          have HB := Lib.hid (bit_at c.toNat j (by omega))
          obtain ⟨q1, q2⟩ := quo_bd c.toNat (128 / 2 ^ j) (by omega)
          obtain ⟨hv, hhv⟩ : ∃ hv, 128 / 2 ^ j = hv := ⟨_, rfl⟩
          rw [hhv] at h1 h2 h3 HB q1 q2 ⊢
          have hcw := HC.out _ hbx
          have hlen : (bitsOf (l.take k) ++ (bitsN 8 c.toNat).take j).length ≤ 20000000 := by rw [List.length_append, HL.out, List.length_take]; omega
          have H1 := Lib.hid h1
          clear h1 hhv
          go_wp2_with (first
            | (at_builtin; refine wpList_append_own _ rfl _ _ 190 rfl w.heap.size 4 i0 (.bool false) 1 1 Tryz.underlying190 hi hz0 hz1 hz2 rfl (by decide) _ _ _ rfl (hrow.alloc _) ⟨wr.heap.size, 0, none⟩ 1 1 [.bool ((c.toNat : Int) / (hv : Int) % 2 == 1)] rfl rfl (cell_one_new _ _ _) (fun x hx => by simp at hx; subst hx; rfl) (by unfold maxLen; omega) (by omega) (by have := hbx.size; simp; omega) ?_; intro v' w1 hown' hgrow _))
          go_roundg g2
          case measure => omega
          case rel =>
            refine ⟨j + 1, by omega, ?_, ?_, (hbx.alloc hbx.size _).grown hgrow (by have := hbx.size; simp; omega) (fun q hq => (hrow.lt q hq).1)⟩
            · rw [← H1.out]; simp
            · rw [HB.out, ← List.append_assoc, bools_snoc, List.length_append]
              exact hown'

/-- a row of bools at a slice's address -/
def InB (w : World) (p : Option Addr) (l : List Bool) : Prop :=
  0 < l.length → ∃ b o, p = some ⟨b, o, none⟩ ∧ ∀ i, i < l.length → w.cell? ⟨b, o + i, none⟩ = some (.bool (l.getD i false))

theorem num_take {l : List Bool} {k : Nat} (h : k < l.length) : num (l.take (k + 1)) = 2 * num (l.take k) + (l[k]).toNat := by
  rw [List.take_succ_eq_append_getElem h, num_append]
  simp [num, Nat.mul_comm]

set_option maxHeartbeats 400000 in
theorem number_c (p : Option Addr) (cp : Nat) (l : List Bool) (w : World) (hp : InB w p l) (hl : l.length ≤ 8) :
    Calls Tryz.prog 153 #[.slice p l.length cp] w fun e w' => e = .returned (.int .i64 (num l)) ∧ w = w' := by
  have HP := Lib.hid hp
  clear hp
  go_enter Tryz.func153, Tryz.ntmps153
  go_wp2
  go_loop [3, 4] (fun n i => ∃ k m : Nat, k ≤ l.length ∧ i = .int .i64 k ∧ n = .int .i64 m ∧ Hid (m = num (l.take k)) ∧ m < 256) (fun _ i => l.length - (intOf i).toNat)
  case atStart => exact ⟨0, 0, by omega, rfl, rfl, rfl, by omega⟩
  case round =>
    obtain ⟨k, m, hk, rfl, rfl, HM, hm⟩ := hrel
    by_cases hlt : k < l.length
    · obtain ⟨b, o, rfl, hc⟩ := HP.out (by omega)
      have hcell := hc k hlt
      have hbd : 2 * m + (l[k]).toNat < 256 := by
        have := num_take hlt
        rw [← HM.out] at this
        have h2 := num_lt (l.take (k + 1))
        have h3 : 2 ^ (l.take (k + 1)).length ≤ 2 ^ 8 := Nat.pow_le_pow_right (by decide) (by rw [List.length_take]; omega)
        omega
      have HN : Hid (2 * m + (l[k]).toNat = num (l.take (k + 1))) := by show _ = _; rw [num_take hlt, ← HM.out]
      have hb : l.getD k false = l[k] := by simp [List.getD, List.getElem?_eq_getElem hlt]
      rw [hb] at hcell
      clear hc hb
      cases hbit : l[k]
      · rw [hbit] at hcell hbd HN
        clear hbit
        go_wp2
        go_round
        case rel => exact ⟨k + 1, _, by omega, by go_num, by go_num, HN, hbd⟩
        case measure => simp [intOf]; omega
      · rw [hbit] at hcell hbd HN
        clear hbit
        simp only [Bool.toNat_true] at hbd HN
        go_wp2
        go_round
        case rel => exact ⟨k + 1, _, by omega, by go_num, by go_num, HN, hbd⟩
        case measure => simp [intOf]; omega
    · have HE : Hid ((m : Int) = num l) := by show _ = _; rw [HM.out, List.take_of_length_le (by omega)]
      go_wp2
      go_ret
      exact ⟨ret_int HE.out, rfl⟩
end Go.Proofs.YthagdkipipldlaaGreatDoor.oct

namespace Go.Proofs.YthagdkipipldlaaGreatDoor.oct
set_option maxRecDepth 100000
open Go.RowKit
open Go.Proofs.YthagdkipipldlaaGreatDoor.pl
open Go.Lib (byteCells)

theorem own_inB {w : World} {B e n : Nat} {v : Value} {l : List Bool} (h : w.ownsRow B e 1 v n (bools l)) :
    n = l.length ∧ ∃ p cp, v = .slice p n cp ∧ n ≤ cp ∧ (p = none ∨ ∃ g, p = some ⟨g, 0, none⟩ ∧ B ≤ g ∧ g < w.heap.size) ∧ InB w p l := by
  obtain ⟨h0, h1⟩ := own_cells h
  rw [bools_len] at h0
  refine ⟨h0, ?_⟩
  rcases h1 with ⟨rfl, rfl⟩ | ⟨g, cp, rfl, hB, hg, hn, hc⟩
  · exact ⟨none, 0, rfl, Nat.le_refl _, Or.inl rfl, fun hl => by omega⟩
  · refine ⟨_, cp, rfl, hn, Or.inr ⟨g, rfl, hB, hg⟩, fun hl => ⟨g, 0, rfl, fun i hi => ?_⟩⟩
    rw [Nat.zero_add, hc i (by omega)]
    simp [bools, List.getD, List.getElem?_eq_getElem (show i < l.length by omega)]

end Go.Proofs.YthagdkipipldlaaGreatDoor.oct

namespace Go.Proofs.YthagdkipipldlaaGreatDoor.sh
open Go.Shelf
def lays165_ren : Go.Shelf.Ren := ⟨fun | 165 => 133 | 240 => 157 | 241 => 158 | 276 => 174 | 277 => 175 | n => n, fun | 0 => 0 | 3 => 3 | 4 => 4 | 5 => 5 | 9 => 9 | 20 => 20 | 37 => 125 | 70 => 166 | 72 => 168 | 164 => 207 | n => n, fun  | n => n⟩
theorem lays165 : Go.Proofs.Lays.n165 Tryz.prog lays165_ren := {
  mixed := by kernel_rfl
  f165 := Tryz.func133.trans (congrArg some (by kernel_rfl))
  f240 := Tryz.func157.trans (congrArg some (by kernel_rfl))
  f241 := Tryz.func158.trans (congrArg some (by kernel_rfl))
  f276 := Tryz.func174.trans (congrArg some (by kernel_rfl))
  f277 := Tryz.func175.trans (congrArg some (by kernel_rfl))
  t0 := Tryz.underlying0
  a0 := Tryz.isAgg0
  z0 := Tryz.sizeOf0
  v0 := Tryz.zeroValue0
  t3 := Tryz.underlying3
  a3 := Tryz.isAgg3
  z3 := Tryz.sizeOf3
  v3 := Tryz.zeroValue3
  t4 := Tryz.underlying4
  a4 := Tryz.isAgg4
  z4 := Tryz.sizeOf4
  v4 := Tryz.zeroValue4
  t9 := Tryz.underlying9
  a9 := Tryz.isAgg9
  z9 := Tryz.sizeOf9
  v9 := Tryz.zeroValue9
  t20 := Tryz.underlying20
  a20 := Tryz.isAgg20
  z20 := Tryz.sizeOf20
  v20 := Tryz.zeroValue20
  t37 := Tryz.underlying125
  a37 := Tryz.isAgg125
  z37 := Tryz.sizeOf125
  v37 := Tryz.zeroValue125
  t70 := Tryz.underlying166
  a70 := Tryz.isAgg166
  z70 := Tryz.sizeOf166
  v70 := Tryz.zeroValue166
  t72 := Tryz.underlying168
  a72 := Tryz.isAgg168
  z72 := Tryz.sizeOf168
  v72 := Tryz.zeroValue168
  t164 := Tryz.underlying207
  a164 := Tryz.isAgg207
  z164 := Tryz.sizeOf207
  v164 := Tryz.zeroValue207 }
theorem extra165 : Builder.Extra Tryz.prog lays165_ren := {
  sizeBuilder := by kernel_rfl
  liesBuilder := by kernel_rfl
  t5 := Tryz.underlying5
  a5 := Tryz.isAgg5
  z5 := Tryz.sizeOf5
  v5 := Tryz.zeroValue5
  infoByte := by kernel_rfl
  cellsByte := by kernel_rfl
  sizeByte := by kernel_rfl
  neB5 := by decide }
def lays166_ren : Go.Shelf.Ren := ⟨fun | 166 => 134 | 240 => 157 | 276 => 174 | n => n, fun | 0 => 0 | 3 => 3 | 4 => 4 | 5 => 5 | 9 => 9 | 20 => 20 | 37 => 125 | 70 => 166 | 72 => 168 | 75 => 170 | 80 => 173 | 164 => 207 | n => n, fun  | n => n⟩
theorem lays166 : Go.Proofs.Lays.n166 Tryz.prog lays166_ren := {
  mixed := by kernel_rfl
  f166 := Tryz.func134.trans (congrArg some (by kernel_rfl))
  f240 := Tryz.func157.trans (congrArg some (by kernel_rfl))
  f276 := Tryz.func174.trans (congrArg some (by kernel_rfl))
  t0 := Tryz.underlying0
  a0 := Tryz.isAgg0
  z0 := Tryz.sizeOf0
  v0 := Tryz.zeroValue0
  t3 := Tryz.underlying3
  a3 := Tryz.isAgg3
  z3 := Tryz.sizeOf3
  v3 := Tryz.zeroValue3
  t4 := Tryz.underlying4
  a4 := Tryz.isAgg4
  z4 := Tryz.sizeOf4
  v4 := Tryz.zeroValue4
  t9 := Tryz.underlying9
  a9 := Tryz.isAgg9
  z9 := Tryz.sizeOf9
  v9 := Tryz.zeroValue9
  t20 := Tryz.underlying20
  a20 := Tryz.isAgg20
  z20 := Tryz.sizeOf20
  v20 := Tryz.zeroValue20
  t37 := Tryz.underlying125
  a37 := Tryz.isAgg125
  z37 := Tryz.sizeOf125
  v37 := Tryz.zeroValue125
  t70 := Tryz.underlying166
  a70 := Tryz.isAgg166
  z70 := Tryz.sizeOf166
  v70 := Tryz.zeroValue166
  t72 := Tryz.underlying168
  a72 := Tryz.isAgg168
  z72 := Tryz.sizeOf168
  v72 := Tryz.zeroValue168
  t75 := Tryz.underlying170
  a75 := Tryz.isAgg170
  z75 := Tryz.sizeOf170
  v75 := Tryz.zeroValue170
  t164 := Tryz.underlying207
  a164 := Tryz.isAgg207
  z164 := Tryz.sizeOf207
  v164 := Tryz.zeroValue207 }
theorem extra166 : Builder.Extra Tryz.prog lays166_ren := {
  sizeBuilder := by kernel_rfl
  liesBuilder := by kernel_rfl
  t5 := Tryz.underlying5
  a5 := Tryz.isAgg5
  z5 := Tryz.sizeOf5
  v5 := Tryz.zeroValue5
  infoByte := by kernel_rfl
  cellsByte := by kernel_rfl
  sizeByte := by kernel_rfl
  neB5 := by decide }
def lays169_ren : Go.Shelf.Ren := ⟨fun | 169 => 135 | n => n, fun | 0 => 0 | 3 => 3 | 5 => 5 | 9 => 9 | 37 => 125 | 70 => 166 | 72 => 168 | 127 => 126 | n => n, fun  | n => n⟩
theorem lays169 : Go.Proofs.Lays.n169 Tryz.prog lays169_ren := {
  mixed := by kernel_rfl
  f169 := Tryz.func135.trans (congrArg some (by kernel_rfl))
  t0 := Tryz.underlying0
  a0 := Tryz.isAgg0
  z0 := Tryz.sizeOf0
  v0 := Tryz.zeroValue0
  t3 := Tryz.underlying3
  a3 := Tryz.isAgg3
  z3 := Tryz.sizeOf3
  v3 := Tryz.zeroValue3
  t9 := Tryz.underlying9
  a9 := Tryz.isAgg9
  z9 := Tryz.sizeOf9
  v9 := Tryz.zeroValue9
  t37 := Tryz.underlying125
  a37 := Tryz.isAgg125
  z37 := Tryz.sizeOf125
  v37 := Tryz.zeroValue125
  t70 := Tryz.underlying166
  a70 := Tryz.isAgg166
  z70 := Tryz.sizeOf166
  v70 := Tryz.zeroValue166
  t72 := Tryz.underlying168
  a72 := Tryz.isAgg168
  z72 := Tryz.sizeOf168
  v72 := Tryz.zeroValue168
  t127 := Tryz.underlying126
  a127 := Tryz.isAgg126
  z127 := Tryz.sizeOf126
  v127 := Tryz.zeroValue126 }
theorem extra169 : Builder.Extra Tryz.prog lays169_ren := {
  sizeBuilder := by kernel_rfl
  liesBuilder := by kernel_rfl
  t5 := Tryz.underlying5
  a5 := Tryz.isAgg5
  z5 := Tryz.sizeOf5
  v5 := Tryz.zeroValue5
  infoByte := by kernel_rfl
  cellsByte := by kernel_rfl
  sizeByte := by kernel_rfl
  neB5 := by decide }
open Go.RowKit in
theorem grow_fresh (B b n : Nat) (w : World) (hB : B ≤ b) (hbk : w.heap[b]? = some (.cells #[.pointer none, .slice none 0 0] 168 (0, 0))) (hBw : B ≤ w.heap.size) (hn : n ≤ 281474976710656) :
    Calls Tryz.prog 133 #[.pointer (some ⟨b, 0, none⟩), .int .i64 n] w fun e w' => e = .returned (.tuple #[]) ∧ (Lib.BuilderAt 168 5 B b (.pointer (some ⟨b, 0, none⟩)) [] w' ∧ Below B w w') ∧ ∃ p cap, w'.cell? ⟨b, 1, none⟩ = some (.slice p 0 cap) ∧ n ≤ cap := Any.Builder_Grow_fresh_cap lays165 extra165 B b n w hB hbk hBw hn
open Go.RowKit in
theorem writeString (B b : Nat) (bs : List Value) (s : ByteArray) (w : World) (h : Lib.IsBuilder 168 5 B b bs w) (hlen : bs.length + s.size ≤ 140737488355328) (hBw : B ≤ w.heap.size) :
    Calls Tryz.prog 134 #[.pointer (some ⟨b, 0, none⟩), .string s] w fun e w' => e = .returned (.tuple #[.int .i64 s.size, .nilIface]) ∧ (Lib.BuilderAt 168 5 B b (.pointer (some ⟨b, 0, none⟩)) (bs ++ Lib.strCells s) w' ∧ Below B w w') := Any.Builder_WriteString lays166 extra166 B b bs s w h hlen hBw
open Go.RowKit in
theorem string_any (B b : Nat) (l : List UInt8) (w : World) (h : Lib.IsBuilder 168 5 B b (Lib.byteCells l) w) (hBw : B ≤ w.heap.size) :
    Calls Tryz.prog 135 #[.pointer (some ⟨b, 0, none⟩)] w fun e w' => e = .returned (.string ⟨l.toArray⟩) ∧ Below B w w' := Any.Builder_String_any lays169 extra169 B b l w h hBw
end Go.Proofs.YthagdkipipldlaaGreatDoor.sh

namespace Go.Proofs.YthagdkipipldlaaGreatDoor.oct
set_option maxRecDepth 100000
open Go.RowKit
open Go.Proofs.YthagdkipipldlaaGreatDoor.pl
open Go.Lib (byteCells)

/-- the sign at n of a text of signs -/
def sgS (S : ByteArray) (n : Nat) : UInt8 := S.data.toList.getD n 0

/-- what a round of spell leaves: digits that are written, bits that are left *)-/
def Spelt (wd : Nat) (L : List Bool) (ds : List Nat) (rest : List Bool) : Prop :=
  flat wd ds ++ rest = L ∧ (∀ d ∈ ds, d < 2 ^ wd) ∧ wd * ds.length + rest.length = L.length
theorem Spelt.start (wd : Nat) : Spelt wd (bitsOf []) [] [] := ⟨rfl, by simp, rfl⟩
theorem Spelt.byte {wd : Nat} {l : List UInt8} {ds : List Nat} {rest : List Bool} (c : UInt8) (h : Spelt wd (bitsOf l) ds rest) : Spelt wd (bitsOf (l ++ [c])) ds (rest ++ bitsN 8 c.toNat) := by
  obtain ⟨h1, h2, h3⟩ := h
  refine ⟨by rw [← List.append_assoc, h1, bitsOf_snoc], h2, ?_⟩
  rw [bitsOf_snoc, List.length_append, List.length_append, bitsN_len]; omega
theorem Spelt.digit {wd : Nat} {L : List Bool} {ds : List Nat} {rest : List Bool} (h : Spelt wd L ds rest) (hr : wd ≤ rest.length) : Spelt wd L (ds ++ [num (rest.take wd)]) (rest.drop wd) := by
  obtain ⟨h1, h2, h3⟩ := h
  refine ⟨?_, ?_, ?_⟩
  · rw [flat_snoc, bitsN_num' (by rw [List.length_take]; omega), List.append_assoc, List.take_append_drop, h1]
  · intro d hd
    rcases List.mem_append.1 hd with hd | hd
    · exact h2 d hd
    · rw [List.mem_singleton.1 hd]
      have := num_lt (rest.take wd)
      rwa [List.length_take, Nat.min_eq_left hr] at this
  · rw [List.length_append, List.length_drop, List.length_singleton, Nat.mul_add]; omega
theorem Spelt.bound {wd k : Nat} {l : List UInt8} {ds : List Nat} {rest : List Bool} (h : Spelt wd (bitsOf (l.take k)) ds rest) (hw : 4 ≤ wd) (hl : 8 * l.length ≤ wd * 140737488355328) : ds.length ≤ 140737488355328 := by
  have h3 := h.2.2
  rw [bitsOf_len] at h3
  have h4 : (l.take k).length ≤ l.length := by rw [List.length_take]; omega
  have h5 : wd * ds.length ≤ wd * 140737488355328 := by omega
  exact Nat.le_of_mul_le_mul_left h5 (by omega)
theorem Spelt.bound2 {wd : Nat} {l : List UInt8} {ds : List Nat} {rest : List Bool} (h : Spelt wd (bitsOf l) ds rest) (hr : 0 < rest.length) (hl : 8 * l.length ≤ wd * 140737488355328) : ds.length + 1 ≤ 140737488355328 := by
  have h3 := h.2.2
  rw [bitsOf_len] at h3
  have h5 : wd * ds.length < wd * 140737488355328 := by omega
  exact Nat.lt_of_mul_lt_mul_left h5
theorem Spelt.done {wd : Nat} {l : List UInt8} {ds : List Nat} {rest : List Bool} (h : Spelt wd (bitsOf l) ds rest) (hw : 0 < wd) (hr : rest.length = 0) : ds = enc wd l := by
  obtain ⟨h1, h2, h3⟩ := h
  obtain rfl : rest = [] := List.eq_nil_of_length_eq_zero hr
  exact Tells.eq_enc hw ⟨h2, 0, hw, by simpa using h1⟩
theorem Spelt.last {wd : Nat} {l : List UInt8} {ds : List Nat} {rest : List Bool} (h : Spelt wd (bitsOf l) ds rest) (hr : 0 < rest.length) (hr2 : rest.length < wd) : ds ++ [num rest * 2 ^ (wd - rest.length)] = enc wd l := by
  obtain ⟨h1, h2, h3⟩ := h
  have hn : num (rest ++ List.replicate (wd - rest.length) false) = num rest * 2 ^ (wd - rest.length) := by rw [num_append, num_false, List.length_replicate, Nat.add_zero]
  refine Tells.eq_enc (by omega) ⟨?_, wd - rest.length, by omega, ?_⟩
  · intro d hd
    rcases List.mem_append.1 hd with hd | hd
    · exact h2 d hd
    · rw [List.mem_singleton.1 hd, ← hn]
      have := num_lt (rest ++ List.replicate (wd - rest.length) false)
      rwa [List.length_append, List.length_replicate, show rest.length + (wd - rest.length) = wd from by omega] at this
  · rw [flat_snoc, ← hn, bitsN_num' (by rw [List.length_append, List.length_replicate]; omega), ← List.append_assoc, h1]

theorem wraps_i64 (n : Int) (h₀ : 0 ≤ n) (h₁ : n < 2 ^ 62) : IntKind.i64.wrap n = n := by rw [IntKind.wrap_i64]; omega
theorem or_step (rest : List Bool) (c : UInt8) (h : num rest < 2 ^ 40) : bits .or .i64 ((num rest : Int) * 256) (c.toNat : Int) = (num (rest ++ bitsN 8 c.toNat) : Int) := by
  have hc := c.toNat_lt
  rw [bits_join .i64 62 (by decide) wraps_i64 8 _ _ (by omega) (by omega) (by omega) (by omega) (by omega) (by omega), num_append, num_bitsN, bitsN_len, Nat.mod_eq_of_lt hc]
  simp

theorem two_pow_le (m : Nat) (h : m ≤ 9) : (2 : Int) ^ m ≤ 512 := by
  have h1 : 2 ^ m ≤ 512 := Nat.le_trans (Nat.pow_le_pow_right (n := 2) (by decide) h) (by decide)
  have e : ((2 ^ m : Nat) : Int) = (2 : Int) ^ m := by simp
  rw [← e]
  exact Int.ofNat_le.2 h1
theorem two_pow_pos (m : Nat) : (1 : Int) ≤ (2 : Int) ^ m := by
  have e : ((2 ^ m : Nat) : Int) = (2 : Int) ^ m := by simp
  rw [← e]
  exact Int.ofNat_le.2 (Nat.two_pow_pos m)
theorem sign_cells (S : ByteArray) (d : Nat) (h : d < S.size) : Lib.strCells (S.extract d (d + 1)) = [.int .u8 ((sgS S d).toNat : Int)] ∧ (S.extract d (d + 1)).size = 1 := by
  have hl : d < S.data.toList.length := by rw [Array.length_toList]; exact h
  have e : (S.extract d (d + 1)).data.toList = [sgS S d] := by
    rw [Lib.extract_data S d (d + 1), Nat.add_sub_cancel_left, sgS]
    simp [List.take_one, List.getD, List.getElem?_eq_getElem hl]
  refine ⟨?_, ?_⟩
  · unfold Lib.strCells; rw [e]; rfl
  · rw [Lib.size_eq, e]; rfl

theorem grow_bd (n wd : Nat) (hn : 8 * n ≤ wd * 140737488355328) (hw : 4 ≤ wd) : 0 ≤ ((n : Int) * 8 + (wd : Int) - 1) / (wd : Int) ∧ ((n : Int) * 8 + (wd : Int) - 1) / (wd : Int) ≤ 281474976710656 := by
  have e : ((n : Int) * 8 + (wd : Int) - 1) / (wd : Int) = (((n * 8 + wd - 1) / wd : Nat) : Int) := by
    rw [Int.natCast_ediv]; congr 1; omega
  rw [e]
  have h1 : (n * 8 + wd - 1) / wd ≤ 281474976710656 := by
    refine Nat.div_le_of_le_mul ?_
    omega
  exact ⟨Int.natCast_nonneg _, Int.ofNat_le.2 h1⟩
theorem grow_int (B b : Nat) (N : Int) (w : World) (hB : B ≤ b) (hbk : w.heap[b]? = some (.cells #[.pointer none, .slice none 0 0] 168 (0, 0))) (hBw : B ≤ w.heap.size) (h0 : 0 ≤ N) (hn : N ≤ 281474976710656) :
    Calls Tryz.prog 133 #[.pointer (some ⟨b, 0, none⟩), .int .i64 N] w fun e w' => e = .returned (.tuple #[]) ∧ (Lib.BuilderAt 168 5 B b (.pointer (some ⟨b, 0, none⟩)) [] w' ∧ Below B w w') := by
  obtain ⟨n, rfl⟩ := Int.eq_ofNat_of_zero_le h0
  exact (sh.grow_fresh B b n w hB hbk hBw (by omega)).mono fun e w' h => ⟨h.1, h.2.1⟩

set_option maxHeartbeats 1000000 in
theorem spell_c (p : Option Addr) (cp : Nat) (l : List UInt8) (S : ByteArray) (wd : Nat) (w : World) (hp : In8 w p l) (hl : 8 * l.length ≤ wd * 140737488355328) (hwd : wd = 4 ∨ wd = 6) (hS : S.size = 2 ^ wd) :
    Calls Tryz.prog 184 #[.slice p l.length cp, .string S, .int .i64 wd] w fun e w' =>
      e = .returned (.string ⟨(text (sgS S) (enc wd l)).toArray⟩) ∧ Below w.heap.size w w' := by
  have HP := Lib.hid hp
  clear hp
  have HBK : Hid ((w.alloc (.cells #[.pointer none, .slice none 0 0] 168)).heap[w.heap.size]? = some (.cells #[.pointer none, .slice none 0 0] 168 (0, 0))) := heap_alloc_new w _
  have hw4 : 4 ≤ wd := by omega
  have hw6 : wd ≤ 6 := by omega
  have hS64 : S.size ≤ 64 := by rcases hwd with rfl | rfl <;> rw [hS] <;> decide
  obtain ⟨hg0, hg1⟩ := grow_bd l.length wd hl hw4
  clear hwd
  have HS := Lib.hid hS
  clear hS
  go_enter Tryz.func184, Tryz.ntmps184
  go_wp2_with fail
  go_step3
  go_wp2_with (go_at_call 133; refine (grow_int w.heap.size w.heap.size _ _ (Nat.le_refl _) HBK.out (by simp) hg0 hg1).mono ?_; rintro e w1 ⟨rfl, hB1, hbl1⟩)
  go_step3
  go_wp2_with fail
  have hb0 : Below w.heap.size w w1 := ((Below.refl _ w).alloc (Nat.le_refl _) _).trans hbl1
  go_loopg [8, 9, 25] l.length (fun g s8 s9 s25 wx => ∃ (k : Nat) (ds : List Nat) (rest : List Bool), k + g = l.length ∧ s25 = .int .i64 k ∧ s8 = .int .i64 (num rest) ∧ s9 = .int .i64 rest.length ∧ rest.length < wd ∧ Hid (Spelt wd (bitsOf (l.take k)) ds rest) ∧
    Lib.BuilderAt 168 5 w.heap.size w.heap.size (.pointer (some ⟨w.heap.size, 0, none⟩)) (byteCells (text (sgS S) ds)) wx ∧ Below w.heap.size w wx)
  case atStart => exact ⟨0, [], [], by omega, rfl, rfl, rfl, by simp; omega, Spelt.start _, hB1, hb0⟩
  case round =>
    clear hB1 hbl1 hb0
    obtain ⟨k, ds, rest, hkg, rfl, rfl, rfl, hrl, HSP, hB, hbx⟩ := hrel
    cases gk with
    | zero =>
      have hkz : ¬ ((k : Int) < (l.length : Int)) := by omega
      have HSL : Hid (Spelt wd (bitsOf l) ds rest) := by have := HSP.out; rwa [List.take_of_length_le (by omega)] at this
      by_cases h0 : rest.length = 0
      · have hds := HSL.out.done (by omega) h0
        rw [hds] at hB
        have h0' : ¬ ((0 : Int) < (rest.length : Int)) := by omega
        clear h0 hds
        go_wp2_with (go_at_call 135; refine (sh.string_any w.heap.size w.heap.size _ _ (Or.inr hB) hbx.size).mono ?_; rintro e w2 ⟨rfl, hb2⟩)
        rw [Exit.noGoto_ret]
        go_ret
        exact ⟨rfl, hbx.trans hb2⟩
      · have h0' : (0 : Int) < (rest.length : Int) := by omega
        have hlast := HSL.out.last (by omega) hrl
        have hdl1 : ds.length + 1 ≤ 140737488355328 := HSL.out.bound2 (by omega) hl
        have hd1 : num rest * 2 ^ (wd - rest.length) < 2 ^ wd := by
          have := (enc_tells (by omega : 0 < wd) l).1
          rw [← hlast] at this
          exact this _ (by simp)
        obtain ⟨d, hd⟩ : ∃ d, num rest * 2 ^ (wd - rest.length) = d := ⟨_, rfl⟩
        rw [hd] at hlast hd1
        have hq : ((num rest : Nat) : Int) * 2 ^ (wd - rest.length) = (d : Int) := by rw [← hd]; simp
        have hdS : d < S.size := by rw [HS.out]; exact hd1
        have HL := Lib.hid hlast
        have HSC := Lib.hid (sign_cells S d hdS)
        have hbl2 : (byteCells (text (sgS S) ds)).length + (S.extract d (d + 1)).size ≤ 140737488355328 := by rw [byteCells_len, HSC.out.2]; simp [text]; omega
        clear h0 hlast hd hd1
        go_wp2_with (first
          | (go_at_call 134; refine (sh.writeString w.heap.size w.heap.size _ _ _ (Or.inr hB) hbl2 hbx.size).mono ?_; rintro e w2 ⟨rfl, hB2, hb2⟩; rw [HSC.out.1, ← byteCells_snoc, show text (sgS S) ds ++ [sgS S d] = text (sgS S) (ds ++ [d]) from by simp [text], HL.out] at hB2; have hb3 := hbx.trans hb2)
          | (go_at_call 135; refine (sh.string_any w.heap.size w.heap.size _ _ (Or.inr hB2) hb3.size).mono ?_; rintro e w3 ⟨rfl, hb4⟩))
        rw [Exit.noGoto_ret]
        go_ret
        exact ⟨rfl, hb3.trans hb4⟩
    | succ g =>
      have hkz : (k : Int) < (l.length : Int) := by omega
      obtain ⟨b, o, rfl, hc⟩ := HP.out.at (by omega)
      have hbl : b < w.heap.size := HP.out.blt (by omega)
      have hcell := (hbx.cell (p := ⟨b, o + k, none⟩) hbl).trans (hc k (by omega))
      obtain ⟨c, hcd⟩ : ∃ c : UInt8, l.getD k 0 = c := ⟨_, rfl⟩
      have HT : Hid (l.take (k + 1) = l.take k ++ [c]) := by
        show _ = _
        rw [List.take_succ_eq_append_getElem (by omega), ← hcd]; simp [List.getD, List.getElem?_eq_getElem (show k < l.length by omega)]
      rw [hcd] at hcell
      have hc256 := c.toNat_lt
      have hn1 : num rest < 64 := Nat.lt_of_lt_of_le (num_lt rest) (Nat.pow_le_pow_right (n := 2) (j := 6) (by decide) (by omega))
      have HOR := Lib.hid (or_step rest c (by omega))
      have HS2 : Hid (Spelt wd (bitsOf (l.take (k + 1))) ds (rest ++ bitsN 8 c.toNat)) := by show Spelt _ _ _ _; rw [HT.out]; exact HSP.out.byte c
      have hlr : (rest ++ bitsN 8 c.toNat).length = rest.length + 8 := by rw [List.length_append, bitsN_len]
      obtain ⟨rest2, hr2⟩ : ∃ r, rest ++ bitsN 8 c.toNat = r := ⟨_, rfl⟩
      rw [hr2] at HOR HS2 hlr
      have HLR := Lib.hid hlr
      clear hc hcd hr2 hlr
      go_wp2_with fail
      go_loopg [8, 9, 12] (rest2.length) (fun g2 s8 s9 s12 wy => ∃ (ds : List Nat) (rest : List Bool), rest.length = g2 ∧ g2 ≤ 13 ∧ s8 = .int .i64 (num rest) ∧ s9 = .int .i64 g2 ∧ Hid (Spelt wd (bitsOf (l.take (k + 1))) ds rest) ∧
        Lib.BuilderAt 168 5 w.heap.size w.heap.size (.pointer (some ⟨w.heap.size, 0, none⟩)) (byteCells (text (sgS S) ds)) wy ∧ Below w.heap.size w wy)
      case atStart => exact ⟨ds, rest2, rfl, by rw [HLR.out]; omega, by rw [HOR.out], by rw [HLR.out]; go_num, HS2, hB, hbx⟩
      case round =>
        clear hB hbx HSP HOR HS2 hn1
        obtain ⟨ds, rest, hrg, hr13, rfl, rfl, HSP, hB, hbx⟩ := hrel
        have hn1 : num rest < 8192 := Nat.lt_of_lt_of_le (num_lt rest) (Nat.pow_le_pow_right (n := 2) (j := 13) (by decide) (by omega))
        by_cases hlt : gk < wd
        · go_wp2_with fail
          go_roundg g
          case measure => omega
          case rel => exact ⟨k + 1, ds, rest, by omega, by go_num, rfl, by rw [hrg], by omega, HSP, hB, hbx⟩
        · obtain ⟨m, rfl⟩ : ∃ m, gk = m + wd := ⟨gk - wd, by omega⟩
          obtain ⟨d, hd⟩ : ∃ d, num (rest.take wd) = d := ⟨_, rfl⟩
          obtain ⟨rs, hrs⟩ : ∃ rs, rest.drop wd = rs := ⟨_, rfl⟩
          have hsplit : rest.take wd ++ rest.drop wd = rest := List.take_append_drop _ _
          have hrsl : rs.length = m := by rw [← hrs, List.length_drop]; omega
          have hval : num rest = d * 2 ^ m + num rs := by rw [← hsplit, num_append, hd, hrs, hrsl]
          have hrlt : num rs < 2 ^ m := by have := num_lt rs; rwa [hrsl] at this
          have hdS : d < S.size := by have := num_lt (rest.take wd); rw [hd, List.length_take, Nat.min_eq_left (by omega)] at this; rw [HS.out]; exact this
          have h2m := two_pow_le m (by omega)
          have h2p := two_pow_pos m
          have hq : ((num rest : Nat) : Int) / 2 ^ m = (d : Int) := by
            have : num rest / 2 ^ m = d := by rw [hval, Nat.mul_comm, Nat.mul_add_div (Nat.two_pow_pos m), Nat.div_eq_of_lt hrlt, Nat.add_zero]
            rw [← this]; simp
          have hand : bits .and .i64 ((num rest : Nat) : Int) (2 ^ m - 1) = ((num rs : Nat) : Int) := by
            rw [bits_mask .i64 62 (by decide) wraps_i64 m (by omega) _ (by omega) (by omega)]
            have : num rest % 2 ^ m = num rs := by rw [hval, Nat.mul_comm, Nat.mul_add_mod, Nat.mod_eq_of_lt hrlt]
            rw [← this]; simp
          have HSP2 : Hid (Spelt wd (bitsOf (l.take (k + 1))) (ds ++ [d]) rs) := by show Spelt _ _ _ _; rw [← hd, ← hrs]; exact HSP.out.digit (by omega)
          have hdl : (ds ++ [d]).length ≤ 140737488355328 := HSP2.out.bound hw4 hl
          rw [List.length_append, List.length_singleton] at hdl
          clear hsplit hd hrs hval hrlt
          have HSC := Lib.hid (sign_cells S d hdS)
          have hbl2 : (byteCells (text (sgS S) ds)).length + (S.extract d (d + 1)).size ≤ 140737488355328 := by rw [byteCells_len, HSC.out.2]; simp [text]; omega
          go_wp2_with (go_at_call 134; refine (sh.writeString w.heap.size w.heap.size _ _ _ (Or.inr hB) hbl2 hbx.size).mono ?_; rintro e w2 ⟨rfl, hB2, hb2⟩)
          rw [HSC.out.1, ← byteCells_snoc, show text (sgS S) ds ++ [sgS S d] = text (sgS S) (ds ++ [d]) from by simp [text]] at hB2
          go_roundg m
          case measure => omega
          case rel => exact ⟨ds ++ [d], rs, hrsl, by omega, rfl, rfl, HSP2, hB2, hbx.trans hb2⟩
end Go.Proofs.YthagdkipipldlaaGreatDoor.oct

namespace Go.Proofs.YthagdkipipldlaaGreatDoor.oct
set_option maxRecDepth 100000
open Go.RowKit
open Go.Proofs.YthagdkipipldlaaGreatDoor.pl
open Go.Lib (byteCells)

theorem indexByte_spec (l : List UInt8) (c : UInt8) : (∃ d, d < l.length ∧ l.getD d 0 = c ∧ Lib.indexByte l c = (d : Int)) ∨ ((∀ d, d < l.length → l.getD d 0 ≠ c) ∧ Lib.indexByte l c = -1) := by
  induction l with
  | nil => exact Or.inr ⟨fun d hd => by simp at hd, rfl⟩
  | cons b l ih =>
    unfold Lib.indexByte
    by_cases h : b = c
    · exact Or.inl ⟨0, by simp, by simp [h], by simp [h]⟩
    · have hb : (b == c) = false := by simpa using h
      rw [hb]
      rcases ih with ⟨d, hd, hg, hi⟩ | ⟨hn, hi⟩
      · refine Or.inl ⟨d + 1, by simpa using hd, by simpa using hg, ?_⟩
        rw [hi]
        have : ((d : Int) == -1) = false := by rw [beq_eq_false_iff_ne]; omega
        simp [this]
      · refine Or.inr ⟨fun d hd => ?_, by rw [hi]; rfl⟩
        cases d with
        | zero => simpa using h
        | succ d => simpa using hn d (by simpa using hd)

/-- what is read of s so far: n signs, the digits ws; the bytes out, the bits left over -/
def Unspelt (sg : Nat → UInt8) (wd : Nat) (s : List UInt8) (n : Nat) (ws : List Nat) (out : List UInt8) (rest : List Bool) : Prop :=
  ws.length = n ∧ text sg ws = s.take n ∧ (∀ d ∈ ws, d < 2 ^ wd) ∧ flat wd ws = bitsOf out ++ rest
section
variable {sg : Nat → UInt8} {wd n : Nat} {s : List UInt8} {ws : List Nat} {out : List UInt8} {rest : List Bool}
theorem Unspelt.start : Unspelt sg wd s 0 [] [] [] := ⟨rfl, by simp [text], by simp, rfl⟩
theorem Unspelt.sign (h : Unspelt sg wd s n ws out rest) (hn : n < s.length) (d : Nat) (hd : d < 2 ^ wd) (hs : sg d = s.getD n 0) : Unspelt sg wd s (n + 1) (ws ++ [d]) out (rest ++ bitsN wd d) := by
  obtain ⟨h1, h2, h3, h4⟩ := h
  refine ⟨by simp [h1], ?_, ?_, by rw [flat_snoc, h4, List.append_assoc]⟩
  · rw [List.take_succ_eq_append_getElem hn, ← h2]
    simp [text, hs, List.getD, List.getElem?_eq_getElem hn]
  · intro x hx
    rcases List.mem_append.1 hx with hx | hx
    · exact h3 x hx
    · rw [List.mem_singleton.1 hx]; exact hd
theorem Unspelt.byte (h : Unspelt sg wd s n ws out rest) (hr : 8 ≤ rest.length) : Unspelt sg wd s n ws (out ++ [UInt8.ofNat (num (rest.take 8))]) (rest.drop 8) := by
  obtain ⟨h1, h2, h3, h4⟩ := h
  have hl : (rest.take 8).length = 8 := by rw [List.length_take]; omega
  have hlt : num (rest.take 8) < 256 := by have := num_lt (rest.take 8); rwa [hl] at this
  refine ⟨h1, h2, h3, ?_⟩
  rw [bitsOf_snoc, UInt8.toNat_ofNat', Nat.mod_eq_of_lt hlt, bitsN_num' hl, List.append_assoc, List.take_append_drop, h4]
theorem Unspelt.len (h : Unspelt sg wd s n ws out rest) : 8 * out.length + rest.length = wd * n := by
  have := congrArg List.length h.2.2.2
  rw [flat_len, List.length_append, bitsOf_len, h.1] at this
  omega
theorem Unspelt.done (h : Unspelt sg wd s n ws out rest) (hn : n = s.length) (hr : rest.length < wd) (h0 : num rest = 0) : text sg (enc wd out) = s := by
  obtain ⟨h1, h2, h3, h4⟩ := h
  have : ws = enc wd out := Tells.eq_enc (by omega) ⟨h3, rest.length, hr, by rw [h4, ← num_zero h0]⟩
  rw [← this, h2, hn, List.take_length]
theorem Unspelt.none (h : Unspelt sg wd s n ws out rest) (hinj : ∀ a b, a < 2 ^ wd → b < 2 ^ wd → sg a = sg b → a = b) (hn : n = s.length) (hw : 0 < wd) (hw8 : wd ≤ 8) (hr : rest.length < 8) (h0 : wd ≤ rest.length ∨ num rest ≠ 0) (o : List UInt8) : text sg (enc wd o) ≠ s := by
  obtain ⟨h1, h2, h3, h4⟩ := h
  rw [hn, List.take_length] at h2
  intro he
  have ht := enc_tells hw o
  have hws : enc wd o = ws := text_inj hinj ht.1 h3 (he.trans h2.symm)
  rw [hws] at ht
  obtain ⟨_, p, hp, h5⟩ := ht
  have e := h4.symm.trans h5
  have el := congrArg List.length e
  simp only [List.length_append, List.length_replicate, bitsOf_len] at el
  have hol : out.length = o.length := by omega
  have e2 := (List.append_inj e (by simp [bitsOf_len, hol])).2
  rw [e2] at h0
  rcases h0 with h0 | h0
  · rw [List.length_replicate] at h0; omega
  · exact h0 (num_false p)
theorem Unspelt.alien (hn : n < s.length) (hs : ∀ d, d < 2 ^ wd → sg d ≠ s.getD n 0) (hw : 0 < wd) (o : List UInt8) : text sg (enc wd o) ≠ s := by
  intro he
  have hl : (enc wd o).length = s.length := by rw [← he]; simp [text]
  have hm : (enc wd o)[n]'(by omega) < 2 ^ wd := (enc_tells hw o).1 _ (List.getElem_mem _)
  refine hs _ hm ?_
  subst he
  simp [text, List.getD, List.getElem?_eq_getElem (show n < (enc wd o).length by omega)]
end
end Go.Proofs.YthagdkipipldlaaGreatDoor.oct

namespace Go.Proofs.YthagdkipipldlaaGreatDoor.oct
set_option maxRecDepth 100000
open Go.RowKit
open Go.Proofs.YthagdkipipldlaaGreatDoor.pl
open Go.Lib (byteCells)

/-- what unspell comes to -/
def Read (sg : Nat → UInt8) (wd : Nat) (s : List UInt8) (w : World) (e : Ending) (w' : World) : Prop :=
  (∃ out v, text sg (enc wd out) = s ∧ e = .returned (.tuple #[v, .int .i64 0]) ∧ w'.ownsRow w.heap.size 5 1 v out.length (byteCells out) ∧ Below w.heap.size w w') ∨
  ((∀ o, text sg (enc wd o) ≠ s) ∧ e = .returned (.tuple #[.slice none 0 0, .int .i64 3]) ∧ Below w.heap.size w w')

theorem mul_bd (a b : Nat) (ha : a ≤ 140737488355328) (hb : b ≤ 6) : 0 ≤ (a : Int) * (b : Int) ∧ (a : Int) * (b : Int) ≤ 844424930131968 := by
  have h := Nat.mul_le_mul ha hb
  rw [← Int.natCast_mul]
  omega

set_option maxHeartbeats 2000000 in
theorem unspell_c (s S : ByteArray) (wd : Nat) (w : World) (hs : s.size ≤ 140737488355328) (hwd : wd = 4 ∨ wd = 6) (hS : S.size = 2 ^ wd) (hinj : ∀ a b, a < 2 ^ wd → b < 2 ^ wd → sgS S a = sgS S b → a = b) :
    Calls Tryz.prog 182 #[.string s, .string S, .int .i64 wd] w (Read (sgS S) wd s.data.toList w) := by
  obtain ⟨j0, hj, hy0, hy1, hy2⟩ := info_parts infoByte
  have HI := Lib.hid hinj
  have HS := Lib.hid hS
  have hw4 : 4 ≤ wd := by omega
  have hw6 : wd ≤ 6 := by omega
  have HSL : Hid (s.data.toList.length = s.size) := by show _ = _; rw [Array.length_toList]; rfl
  have HSS : Hid (S.data.toList.length = S.size) := by show _ = _; rw [Array.length_toList]; rfl
  obtain ⟨hm0, hm1⟩ := mul_bd s.size wd hs hw6
  have HC : Hid ((s.size : Int) * (wd : Int) / 8 = ((s.size * wd / 8 : Nat) : Int)) := by show _ = _; omega
  have hcb : s.size * wd / 8 ≤ 105553116266496 := by have := Nat.mul_le_mul hs hw6; omega
  clear hinj hS hwd
  go_enter Tryz.func182, Tryz.ntmps182
  go_wp2_with fail
  go_step3
  go_wp2_with (first
    | (at_make; refine wpList_make_own _ rfl _ _ 125 rfl w.heap.size 5 j0 (.int .u8 0) 1 Tryz.underlying125 hj hy0 hy1 .i64 .i64 _ (s.size * wd / 8) rfl rfl (by first | exact HC.out | (simp; exact HC.out)) (by rw [hy2]; omega) (by unfold maxLen; omega) (Nat.le_refl _) ?_; intro w1 hown hgrow))
  go_step3
  go_wp2_with fail
  have hb0 : Below w.heap.size w w1 := (Below.refl _ w).grown hgrow (Nat.le_refl _) (fun k hk => by cases hk)
  go_loopg [8, 9, 10, 11] s.size (fun g s8 s9 s10 s11 wx => ∃ (n : Nat) (ws : List Nat) (out : List UInt8) (rest : List Bool), n + g = s.size ∧ s11 = .int .i64 n ∧ s9 = .int .i64 (num rest) ∧ s10 = .int .i64 rest.length ∧ rest.length < 8 ∧
    Hid (Unspelt (sgS S) wd s.data.toList n ws out rest) ∧ wx.ownsRow w.heap.size 5 1 s8 out.length (byteCells out) ∧ Below w.heap.size w wx)
  case atStart => exact ⟨0, [], [], [], by omega, rfl, rfl, rfl, by simp, Unspelt.start, hown, hb0⟩
  case round =>
    clear hown hb0 hgrow
    obtain ⟨n, ws, out, rest, hng, rfl, rfl, rfl, hr8, HU, hrow, hbx⟩ := hrel
    obtain ⟨go, rfl⟩ : ∃ go : Nat, go = gk := ⟨_, rfl⟩
    go_wp2_with fail
    go_loopg [9, 10, 11] go (fun g2 s9 s10 s11 wy => ∃ (n2 : Nat) (ws : List Nat) (rest : List Bool), n2 + g2 = s.size ∧ n ≤ n2 ∧ (n2 = n → rest.length < 8) ∧ s11 = .int .i64 n2 ∧ s9 = .int .i64 (num rest) ∧ s10 = .int .i64 rest.length ∧ rest.length < 8 + wd ∧ 
      Hid (Unspelt (sgS S) wd s.data.toList n2 ws out rest) ∧ wr = wy)
    case atStart => exact ⟨n, ws, rest, by omega, Nat.le_refl _, fun _ => hr8, rfl, rfl, rfl, by omega, HU, rfl⟩
    case round =>
      clear HU hr8
      obtain ⟨n2, ws, rest, hn2, hnn, hnew, rfl, rfl, rfl, hrl, HU, rfl⟩ := hrel
      have hn1 : num rest < 16384 := Nat.lt_of_lt_of_le (num_lt rest) (Nat.pow_le_pow_right (n := 2) (j := 14) (by decide) (by omega))
      by_cases hlt : rest.length < 8
      · by_cases hend : n2 < s.size
        · have hne : ((n2 : Int) == (s.size : Int)) = false := by rw [beq_eq_false_iff_ne]; omega
          have HG : Hid (s[n2] = s.data.toList.getD n2 0) := by show _ = _; simp [List.getD, List.getElem?_eq_getElem (show n2 < s.data.toList.length by rw [HSL.out]; omega)]; rfl
          have hx := indexByte_spec S.data.toList (s[n2])
          have HA : Hid (((s[n2].toNat : Int)).toNat.toUInt8 = s[n2]) := by show _ = _; simp
          rcases hx with ⟨d, hd, hdS, hdI⟩ | ⟨hnone, hdI⟩
          · rw [← HA.out] at hdI
            have HDI := Lib.hid hdI
            have hd2 : d < 2 ^ wd := by rw [← HS.out, ← HSS.out]; exact hd
            have hd64 : d < 64 := Nat.lt_of_lt_of_le hd2 (Nat.pow_le_pow_right (n := 2) (j := 6) (by decide) hw6)
            have HU2 := Lib.hid (HU.out.sign (by rw [HSL.out]; exact hend) d hd2 (by rw [← HG.out, ← hdS]; rfl))
            obtain ⟨x, hx⟩ : ∃ x, num rest * 2 ^ wd = x := ⟨_, rfl⟩
            have hx1 : ((num rest : Nat) : Int) * 2 ^ wd = (x : Int) := by rw [← hx]; simp
            have hr128 : num rest < 128 := Nat.lt_of_lt_of_le (num_lt rest) (Nat.pow_le_pow_right (n := 2) (j := 7) (by decide) (by omega))
            have hxb : x ≤ 8192 := by rw [← hx]; exact Nat.le_trans (Nat.mul_le_mul (show num rest ≤ 128 by omega) (Nat.pow_le_pow_right (n := 2) (j := 6) (by decide) hw6)) (by decide)
            have hor : bits .or .i64 (x : Int) (d : Int) = ((num (rest ++ bitsN wd d) : Nat) : Int) := by
              have e : (2 : Int) ^ wd = ((2 ^ wd : Nat) : Int) := by simp
              rw [bits_join .i64 62 (by decide) wraps_i64 wd _ _ (by omega) (by rw [e, ← hx]; norm_cast; exact Nat.mul_mod_left _ _) (by omega) (by omega) (by rw [e]; exact_mod_cast hd2) (by omega), num_append, num_bitsN, bitsN_len, Nat.mod_eq_of_lt hd2, hx]
              simp
            have hlr : (rest ++ bitsN wd d).length = rest.length + wd := by rw [List.length_append, bitsN_len]
            have HLR := Lib.hid hlr
            clear hx hd hdS hdI hlr HG
            go_wp2_with (go_at_call 76; refine (sh.indexByte S _ _).mono ?_; rintro e w2 ⟨rfl, rfl⟩; rw [HDI.out])
            go_roundg (s.size - (n2 + 1))
            case measure => omega
            case rel => exact ⟨n2 + 1, ws ++ [d], rest ++ bitsN wd d, by omega, by omega, fun h => by omega, by go_num, rfl, by rw [HLR.out]; go_num, by rw [HLR.out]; omega, HU2, rfl⟩
          · rw [← HA.out] at hdI
            have HDI := Lib.hid hdI
            have HF := Lib.hid (Unspelt.alien (sg := sgS S) (wd := wd) (n := n2) (s := s.data.toList) (by rw [HSL.out]; exact hend) (fun d hd => by rw [← HG.out]; exact hnone d (by rw [HSS.out, HS.out]; exact hd)) (by omega))
            clear hnone hdI HG
            go_wp2_with (go_at_call 76; refine (sh.indexByte S _ _).mono ?_; rintro e w2 ⟨rfl, rfl⟩; rw [HDI.out])
            rw [Exit.noGoto_ret]
            go_ret2
            exact Or.inr ⟨HF.out, rfl, hbx⟩
        · have hne : ((n2 : Int) == (s.size : Int)) = true := by rw [beq_iff_eq]; omega
          have HN : Hid (n2 = s.data.toList.length) := by show _ = _; rw [HSL.out]; omega
          by_cases ha : wd ≤ rest.length
          · have HF := Lib.hid (HU.out.none HI.out HN.out (by omega) (by omega) hlt (Or.inl ha))
            go_wp2_with fail
            rw [Exit.noGoto_ret]
            go_ret2
            exact Or.inr ⟨HF.out, rfl, hbx⟩
          · by_cases h0 : num rest = 0
            · have HF := Lib.hid (HU.out.done HN.out (by omega) h0)
              have hz : ((num rest : Int) != 0) = false := by simp [h0]
              clear h0
              go_wp2_with fail
              rw [Exit.noGoto_ret]
              go_ret2
              exact Or.inl ⟨out, _, HF.out, rfl, hrow, hbx⟩
            · have HF := Lib.hid (HU.out.none HI.out HN.out (by omega) (by omega) hlt (Or.inr h0))
              have hz : ((num rest : Int) != 0) = true := by rw [bne_iff_ne]; omega
              clear h0
              go_wp2_with fail
              rw [Exit.noGoto_ret]
              go_ret2
              exact Or.inr ⟨HF.out, rfl, hbx⟩
      · obtain ⟨m, hm⟩ : ∃ m, rest.length = m + 8 := ⟨rest.length - 8, by omega⟩
        obtain ⟨d, hd⟩ : ∃ d, num (rest.take 8) = d := ⟨_, rfl⟩
        obtain ⟨rs, hrs⟩ : ∃ rs, rest.drop 8 = rs := ⟨_, rfl⟩
        have hsplit : rest.take 8 ++ rest.drop 8 = rest := List.take_append_drop _ _
        have hrsl : rs.length = m := by rw [← hrs, List.length_drop]; omega
        have hval : num rest = d * 2 ^ m + num rs := by rw [← hsplit, num_append, hd, hrs, hrsl]
        have hrlt : num rs < 2 ^ m := by have := num_lt rs; rwa [hrsl] at this
        have hd256 : d < 256 := by have := num_lt (rest.take 8); rwa [hd, List.length_take, Nat.min_eq_left (by omega)] at this
        have h2m := two_pow_le m (by omega)
        have h2p := two_pow_pos m
        have hq : ((num rest : Nat) : Int) / 2 ^ m = (d : Int) := by
          have : num rest / 2 ^ m = d := by rw [hval, Nat.mul_comm, Nat.mul_add_div (Nat.two_pow_pos m), Nat.div_eq_of_lt hrlt, Nat.add_zero]
          rw [← this]; simp
        have hand : bits .and .i64 ((num rest : Nat) : Int) (2 ^ m - 1) = ((num rs : Nat) : Int) := by
          rw [bits_mask .i64 62 (by decide) wraps_i64 m (by omega) _ (by omega) (by omega)]
          have : num rest % 2 ^ m = num rs := by rw [hval, Nat.mul_comm, Nat.mul_add_mod, Nat.mod_eq_of_lt hrlt]
          rw [← this]; simp
        have hmod : (d : Int) % 256 = (d : Int) := by omega
        have HB : Hid (byteCells (out ++ [UInt8.ofNat d]) = byteCells out ++ [.int .u8 (d : Int)]) := by show _ = _; rw [byteCells_snoc, UInt8.toNat_ofNat', Nat.mod_eq_of_lt (by omega)]
        have HU2 : Hid (Unspelt (sgS S) wd s.data.toList n2 ws (out ++ [UInt8.ofNat d]) rs) := by show Unspelt _ _ _ _ _ _ _; rw [← hd, ← hrs]; exact HU.out.byte (by omega)
        have hlo : out.length ≤ 105553116266496 := by have := HU.out.len; have h3 := Nat.mul_le_mul hw6 (show n2 ≤ s.size by omega); omega
        rw [hm]
        clear hsplit hd hrs hval hrlt HU
        go_wp2_with (first
          | (at_builtin; refine wpList_append_own _ rfl _ _ 125 rfl w.heap.size 5 j0 (.int .u8 0) 1 1 Tryz.underlying125 hj hy0 hy1 hy2 rfl (by decide) _ _ _ rfl (hrow.alloc _) ⟨wr.heap.size, 0, none⟩ 1 1 [.int .u8 (d : Int)] rfl rfl (cell_one_new _ _ _) (fun x hx => by simp at hx; subst hx; rfl) (by unfold maxLen; omega) (by omega) (by have := hbx.size; simp; omega) ?_; intro v' w1 hown' hgrow _))
        go_roundg (s.size - n2)
        case measure => omega
        case rel =>
          refine ⟨n2, ws, out ++ [UInt8.ofNat d], rs, by omega, rfl, rfl, by rw [hrsl], by omega, HU2, ?_, (hbx.alloc hbx.size _).grown hgrow (by have := hbx.size; simp; omega) (fun q hq => (hrow.lt q hq).1)⟩
          rw [HB.out, List.length_append]
          exact hown'
end Go.Proofs.YthagdkipipldlaaGreatDoor.oct

namespace Go.Proofs.YthagdkipipldlaaGreatDoor.oct
set_option maxRecDepth 100000
open Go.RowKit
open Go.Proofs.YthagdkipipldlaaGreatDoor.pl
open Go.Lib (byteCells)

def sg6 (web : Bool) (n : Nat) : UInt8 := UInt8.ofNat (sgn n web).toNat
theorem sgn_bd (n : Int) (web : Bool) (h0 : 0 ≤ n) (h1 : n < 64) : 0 ≤ sgn n web ∧ sgn n web < 256 := by
  unfold sgn
  split
  · omega
  split
  · omega
  split
  · omega
  split <;> cases web <;> simp
theorem sgn_sg6 (n : Nat) (web : Bool) (h1 : n < 64) : sgn n web = ((sg6 web n).toNat : Int) := by
  obtain ⟨a, b⟩ := sgn_bd n web (by omega) (by omega)
  unfold sg6
  rw [UInt8.toNat_ofNat', Nat.mod_eq_of_lt (by omega)]
  omega

def pad6 (n : Nat) : Nat := (6 - 8 * n % 6) % 6
theorem pad6_lt (n : Nat) : pad6 n < 6 := Nat.mod_lt _ (by omega)
theorem pad6_go (n j : Nat) (h : j < pad6 n) : ((8 * n + j : Nat) : Int) % 6 ≠ 0 := by unfold pad6 at h; omega
theorem pad6_end (n : Nat) : ((8 * n + pad6 n : Nat) : Int) % 6 = 0 := by unfold pad6; omega

theorem digs_take (w k : Nat) (L : List Bool) : digs w (k + 1) L = digs w k L ++ [num ((L.drop (w * k)).take w)] := by
  induction k generalizing L with
  | zero => simp [digs]
  | succ k ih =>
    rw [digs, ih, digs, List.drop_drop, List.cons_append]
    congr 4
    rw [Nat.mul_succ, Nat.add_comm]

set_option maxHeartbeats 1000000 in
theorem sixes_c (p : Option Addr) (cp : Nat) (l : List UInt8) (web : Bool) (w : World) (hp : In8 w p l) (hl : l.length ≤ 2097152) :
    Calls Tryz.prog 144 #[.slice p l.length cp, .bool web] w fun e w' =>
      e = .returned (.string ⟨(text (sg6 web) (enc 6 l)).toArray⟩) ∧ Below w.heap.size w w' := by
  obtain ⟨i0, hi, hz0, hz1, hz2⟩ := info_parts infoBool
  obtain ⟨j0, hj, hy0, hy1, hy2⟩ := info_parts infoByte
  have HP := Lib.hid (bits_c p cp l w hp hl)
  clear hp
  have HE : Hid (enc 6 l = digs 6 ((8 * l.length + pad6 l.length) / 6) (bitsOf l ++ List.replicate (pad6 l.length) false)) := rfl
  have hP := pad6_lt l.length
  go_enter Tryz.func144, Tryz.ntmps144
  go_wp2_with (go_at_call 168; refine HP.out.mono ?_; rintro e w1 ⟨v, rfl, hown, hb1⟩)
  go_loopg [5] (pad6 l.length) (fun g s5 wx => ∃ j : Nat, j + g = pad6 l.length ∧ wx.ownsRow w.heap.size 4 1 s5 (bitsOf l ++ List.replicate j false).length (bools (bitsOf l ++ List.replicate j false)) ∧ Below w.heap.size w wx)
  case atStart => exact ⟨0, by omega, by simpa using hown, hb1⟩
  case round =>
    clear hown hb1
    obtain ⟨j, hjg, hrow, hbx⟩ := hrel
    obtain ⟨_, p5, c5, rfl, hcap, hshape, hin⟩ := own_inB hrow
    have hlen2 : (bitsOf l ++ List.replicate j false).length = 8 * l.length + j := by rw [List.length_append, bitsOf_len, List.length_replicate]
    cases gk with
    | zero =>
      obtain rfl : j = pad6 l.length := by omega
      have ht := pad6_end l.length
      obtain ⟨L, hL⟩ : ∃ L, bitsOf l ++ List.replicate (pad6 l.length) false = L := ⟨_, rfl⟩
      rw [← hlen2] at ht
      rw [hL] at hrow hin hcap HE ht hlen2 ⊢
      have hq : L.length = 6 * ((8 * l.length + pad6 l.length) / 6) := by omega
      obtain ⟨q, hqd⟩ : ∃ q, (8 * l.length + pad6 l.length) / 6 = q := ⟨_, rfl⟩
      rw [hqd] at hq HE
      have ht2 : (((L.length : Nat) : Int) % 6 != 0) = false := by simp [ht]
      have HQ := Lib.hid hq
      have hLb : L.length ≤ 17000000 := by omega
      have hq3 : q ≤ 17000000 := by omega
      clear hlen2 hL hqd ht hq hrow
      go_wp2_with fail
      obtain ⟨wo, rfl⟩ : ∃ wo : World, wo = wr := ⟨_, rfl⟩
      have HO := Lib.hid hbx
      have HI := Lib.hid hin
      clear hbx hin hshape
      go_loopg [6, 7] q (fun g s6 s7 wy => ∃ k : Nat, k + g = q ∧ s7 = .int .i64 ((6 * k : Nat) : Int) ∧ wy.ownsRow wo.heap.size 5 1 s6 k (byteCells (text (sg6 web) (digs 6 k L))) ∧ Below wo.heap.size wo wy)
      case atStart => exact ⟨0, by omega, rfl, World.ownsRow_nil _ _ _ _, Below.refl _ _⟩
      case round =>
        obtain ⟨k, hkg, rfl, hrow, hbx⟩ := hrel
        cases gk with
        | zero =>
          obtain rfl : k = q := by omega
          have hz : ¬ (((6 * k : Nat) : Int) < ((L.length : Nat) : Int)) := by rw [HQ.out]; omega
          have hcv := conv_own hrow
          rw [← HE.out] at hcv
          go_wp2
          go_ret
          exact ⟨rfl, HO.out.trans (hbx.mono HO.out.size)⟩
        | succ g =>
          have hz : ((6 * k : Nat) : Int) < ((L.length : Nat) : Int) := by rw [HQ.out]; omega
          have hz6 : 6 * k + 6 ≤ L.length := by rw [HQ.out]; omega
          obtain ⟨b, o, rfl, hc⟩ := HI.out (by omega)
          have hlt : b < wo.heap.size := cell_lt (hc 0 (by omega))
          have hM : Hid (((L.drop (6 * k)).take 6).length = 6) := by show _ = _; rw [List.length_take, List.length_drop]; omega
          have hin6 : InB wr (some ⟨b, o + 6 * k, none⟩) ((L.drop (6 * k)).take 6) := fun _ => ⟨b, o + 6 * k, rfl, fun i hi => by
            rw [hM.out] at hi
            rw [show o + 6 * k + i = o + (6 * k + i) from by omega, hbx.cell (p := ⟨b, o + (6 * k + i), none⟩) hlt, hc (6 * k + i) (by omega)]
            simp [List.getD, hi]⟩
          have cN := number_c _ (c5 - 6 * k) _ wr hin6 (by rw [hM.out]; omega)
          rw [hM.out] at cN
          have CN := Lib.hid cN
          have HD := Lib.hid (digs_take 6 k L)
          have hd64 : num ((L.drop (6 * k)).take 6) < 64 := by have := num_lt ((L.drop (6 * k)).take 6); rw [hM.out] at this; omega
          obtain ⟨d, hd⟩ : ∃ d, num ((L.drop (6 * k)).take 6) = d := ⟨_, rfl⟩
          rw [hd] at CN HD hd64
          have HS := Lib.hid (sgn_sg6 d web hd64)
          clear cN hin6 hc hd
          go_wp2_with (first
            | (go_at_call 153; refine CN.out.mono ?_; rintro e w2 ⟨rfl, rfl⟩)
            | (go_at_call 152; refine (sign_c _ web (by omega) (by omega) _).mono ?_; rintro e w2 ⟨rfl, rfl⟩; rw [HS.out])
            | (at_builtin; refine wpList_append_own _ rfl _ _ 125 rfl wo.heap.size 5 j0 (.int .u8 0) 1 1 Tryz.underlying125 hj hy0 hy1 hy2 rfl (by decide) _ _ _ rfl (hrow.alloc _) ⟨wr.heap.size, 0, none⟩ 1 1 [.int .u8 ((sg6 web d).toNat : Int)] rfl rfl (cell_one_new _ _ _) (fun x hx => by simp at hx; subst hx; rfl) (by unfold maxLen; omega) (by omega) (by have := hbx.size; simp; omega) ?_; intro v' w1 hown' hgrow _))
          go_roundg g
          case measure => omega
          case rel =>
            refine ⟨k + 1, by omega, by go_num, ?_, (hbx.alloc hbx.size _).grown hgrow (by have := hbx.size; simp; omega) (fun q hq => (hrow.lt q hq).1)⟩
            rw [HD.out, show text (sg6 web) (digs 6 k L ++ [d]) = text (sg6 web) (digs 6 k L) ++ [sg6 web d] from by simp [text], byteCells_snoc]
            exact hown'
    | succ g =>
      have ht := pad6_go l.length j (by omega)
      rw [← hlen2] at ht
      have ht2 : (((bitsOf l ++ List.replicate j false).length : Nat) : Int) % 6 != 0 := by simpa using ht
      have HS : Hid (bitsOf l ++ List.replicate (j + 1) false = (bitsOf l ++ List.replicate j false) ++ [false]) := by show _ = _; rw [List.append_assoc, ← List.replicate_succ']
      obtain ⟨L, hL⟩ : ∃ L, bitsOf l ++ List.replicate j false = L := ⟨_, rfl⟩
      rw [hL] at hrow hin hcap ht2 hlen2 HS ⊢
      have hLb : L.length ≤ 17000000 := by omega
      clear hL ht hlen2 hin hshape
      go_wp2_with (first
        | (at_builtin; refine wpList_append_own _ rfl _ _ 190 rfl w.heap.size 4 i0 (.bool false) 1 1 Tryz.underlying190 hi hz0 hz1 hz2 rfl (by decide) _ _ _ rfl (hrow.alloc _) ⟨wr.heap.size, 0, none⟩ 1 1 [.bool false] rfl rfl (cell_one_new _ _ _) (fun x hx => by simp at hx; subst hx; rfl) (by unfold maxLen; omega) (by omega) (by have := hbx.size; simp; omega) ?_; intro v' w1 hown' hgrow _))
      go_roundg g
      case measure => omega
      case rel =>
        refine ⟨j + 1, by omega, ?_, (hbx.alloc hbx.size _).grown hgrow (by have := hbx.size; simp; omega) (fun q hq => (hrow.lt q hq).1)⟩
        rw [HS.out, bools_snoc, List.length_append]
        exact hown'
end Go.Proofs.YthagdkipipldlaaGreatDoor.oct

namespace Go.Proofs.YthagdkipipldlaaGreatDoor.oct
set_option maxRecDepth 100000
open Go.RowKit
open Go.Proofs.YthagdkipipldlaaGreatDoor.pl
open Go.Lib (byteCells)

def hexS : ByteArray := ⟨#[48, 49, 50, 51, 52, 53, 54, 55, 56, 57, 97, 98, 99, 100, 101, 102]⟩
def webS : ByteArray := ⟨#[65, 66, 67, 68, 69, 70, 71, 72, 73, 74, 75, 76, 77, 78, 79, 80, 81, 82, 83, 84, 85, 86, 87, 88, 89, 90, 97, 98, 99, 100, 101, 102, 103, 104, 105, 106, 107, 108, 109, 110, 111, 112, 113, 114, 115, 116, 117, 118, 119, 120, 121, 122, 48, 49, 50, 51, 52, 53, 54, 55, 56, 57, 45, 95]⟩
def basS : ByteArray := ⟨#[65, 66, 67, 68, 69, 70, 71, 72, 73, 74, 75, 76, 77, 78, 79, 80, 81, 82, 83, 84, 85, 86, 87, 88, 89, 90, 97, 98, 99, 100, 101, 102, 103, 104, 105, 106, 107, 108, 109, 110, 111, 112, 113, 114, 115, 116, 117, 118, 119, 120, 121, 122, 48, 49, 50, 51, 52, 53, 54, 55, 56, 57, 43, 47]⟩
theorem hexS_inj : ∀ a b, a < 2 ^ 4 → b < 2 ^ 4 → sgS hexS a = sgS hexS b → a = b := by
  have h : ∀ a, a < 16 → ∀ b, b < 16 → sgS hexS a = sgS hexS b → a = b := by decide +kernel
  exact fun a b ha hb => h a ha b hb
theorem webS_inj : ∀ a b, a < 2 ^ 6 → b < 2 ^ 6 → sgS webS a = sgS webS b → a = b := by
  have h : ∀ a, a < 64 → ∀ b, b < 64 → sgS webS a = sgS webS b → a = b := by decide +kernel
  exact fun a b ha hb => h a ha b hb
theorem basS_inj : ∀ a b, a < 2 ^ 6 → b < 2 ^ 6 → sgS basS a = sgS basS b → a = b := by
  have h : ∀ a, a < 64 → ∀ b, b < 64 → sgS basS a = sgS basS b → a = b := by decide +kernel
  exact fun a b ha hb => h a ha b hb
theorem webS_sg6 : ∀ a, a < 64 → sg6 true a = sgS webS a := by decide +kernel
theorem basS_sg6 : ∀ a, a < 64 → sg6 false a = sgS basS a := by decide +kernel
theorem basS_fill : ∀ a, a < 64 → sgS basS a ≠ 61 := by decide +kernel
theorem hexS_dig : ∀ a : Nat, a < 16 → ((sgS hexS a).toNat : Int) = dig a := by decide +kernel

def hexT (l : List UInt8) : List UInt8 := text (sgS hexS) (enc 4 l)
def webT (l : List UInt8) : List UInt8 := text (sgS webS) (enc 6 l)
def basB (l : List UInt8) : List UInt8 := text (sgS basS) (enc 6 l)
def basT (l : List UInt8) : List UInt8 := basB l ++ List.replicate (lack (basB l).length) 61

/-- what a reading of a text comes to: the bytes of which T is the text, or 3 (ErrForm), if there are none -/
def ReadT (T : List UInt8 → List UInt8) (s : List UInt8) (w : World) (e : Ending) (w' : World) : Prop :=
  (∃ out v, T out = s ∧ e = .returned (.tuple #[v, .int .i64 0]) ∧ w'.ownsRow w.heap.size 5 1 v out.length (byteCells out) ∧ Below w.heap.size w w') ∨
  ((∀ o, T o ≠ s) ∧ e = .returned (.tuple #[.slice none 0 0, .int .i64 3]) ∧ Below w.heap.size w w')

theorem text_len (sg : Nat → UInt8) (ds : List Nat) : (text sg ds).length = ds.length := by simp [text]
theorem enc_len4 (l : List UInt8) : (enc 4 l).length = 2 * l.length := by
  obtain ⟨_, p, hp, h⟩ := enc_tells (w := 4) (by decide) l
  have := congrArg List.length h
  rw [flat_len, List.length_append, bitsOf_len, List.length_replicate] at this
  omega
theorem enc_len6 (l : List UInt8) : (enc 6 l).length = (4 * l.length + 2) / 3 := by
  obtain ⟨_, p, hp, h⟩ := enc_tells (w := 6) (by decide) l
  have := congrArg List.length h
  rw [flat_len, List.length_append, bitsOf_len, List.length_replicate] at this
  omega
theorem hexT_len (l : List UInt8) : (hexT l).length = 2 * l.length := by rw [hexT, text_len, enc_len4]
theorem webT_len (l : List UInt8) : (webT l).length = (4 * l.length + 2) / 3 := by rw [webT, text_len, enc_len6]
theorem basB_len (l : List UInt8) : (basB l).length = (4 * l.length + 2) / 3 := by rw [basB, text_len, enc_len6]
theorem basT_len (l : List UInt8) : (basT l).length = (l.length + 2) / 3 * 4 := by
  rw [basT, List.length_append, List.length_replicate, basB_len, lack]; omega

set_option maxHeartbeats 400000 in
theorem web_c (p : Option Addr) (cp : Nat) (l : List UInt8) (w : World) (hp : In8 w p l) (hl : l.length ≤ 105553116266496) :
    Calls Tryz.prog 180 #[.slice p l.length cp] w fun e w' => e = .returned (.string ⟨(webT l).toArray⟩) ∧ Below w.heap.size w w' := by
  have H := Lib.hid (spell_c p cp l webS 6 w hp (by omega) (Or.inr rfl) rfl)
  go_enter Tryz.func180, Tryz.ntmps180
  go_wp2_with (go_at_call 184; refine H.out.mono ?_; rintro e w1 ⟨rfl, hb⟩)
  go_ret
  exact ⟨rfl, hb⟩
set_option maxHeartbeats 400000 in
theorem unweb_c (s : ByteArray) (w : World) (hs : s.size ≤ 140737488355328) :
    Calls Tryz.prog 178 #[.string s] w (ReadT webT s.data.toList w) := by
  have H := Lib.hid (unspell_c s webS 6 w hs (Or.inr rfl) rfl webS_inj)
  go_enter Tryz.func178, Tryz.ntmps178
  go_wp2_with (go_at_call 182; refine H.out.mono ?_; rintro e w1 (⟨out, v, h1, rfl, h2, h3⟩ | ⟨h1, rfl, h3⟩))
  all_goals go_ret2
  · exact Or.inl ⟨out, v, h1, rfl, h2, h3⟩
  · exact Or.inr ⟨h1, rfl, h3⟩
end Go.Proofs.YthagdkipipldlaaGreatDoor.oct

namespace Go.Proofs.YthagdkipipldlaaGreatDoor.oct
set_option maxRecDepth 100000
open Go.RowKit
open Go.Proofs.YthagdkipipldlaaGreatDoor.pl
open Go.Lib (byteCells)

theorem repeat_one (c : UInt8) (n : Nat) : Lib.repeatL [c] n = List.replicate n c := by
  induction n with
  | zero => rfl
  | succ n ih => simp [Lib.repeatL, ih, List.replicate_succ]
theorem basB_nofill (l : List UInt8) : (61 : UInt8) ∉ basB l := by
  intro h
  obtain ⟨d, hd, he⟩ := List.mem_map.1 h
  exact basS_fill d ((enc_tells (w := 6) (by decide) l).1 d hd) he
theorem dropWhile_rep (c : UInt8) (k : Nat) (t : List UInt8) (h : t.head? ≠ some c) : (List.replicate k c ++ t).dropWhile (· == c) = t := by
  induction k with
  | zero =>
    cases t with
    | nil => rfl
    | cons a t =>
      have : (a == c) = false := by rw [beq_eq_false_iff_ne]; intro e; exact h (by simp [e])
      simp [this]
  | succ k ih => simpa [List.replicate_succ, List.dropWhile] using ih
theorem trimR_fill (t : List UInt8) (k : Nat) (h : (61 : UInt8) ∉ t) : Lib.trimRightB (t ++ List.replicate k 61) 61 = t := by
  unfold Lib.trimRightB
  rw [List.reverse_append, List.reverse_replicate, dropWhile_rep, List.reverse_reverse]
  intro he
  apply h
  rw [List.head?_reverse] at he
  exact List.mem_of_getLast? he
theorem trimR_back (c : UInt8) (l : List UInt8) : Lib.trimRightB l c ++ List.replicate (l.length - (Lib.trimRightB l c).length) c = l ∧ (Lib.trimRightB l c).length ≤ l.length := by
  unfold Lib.trimRightB
  generalize hr : l.reverse = r
  have hl : l = r.reverse := by rw [← hr, List.reverse_reverse]
  subst hl
  clear hr
  induction r with
  | nil => simp
  | cons a r ih =>
    by_cases ha : a = c
    · subst ha
      simp only [List.dropWhile, beq_self_eq_true]
      obtain ⟨h1, h2⟩ := ih
      rw [List.length_reverse] at h1 h2 ⊢
      rw [List.length_reverse] at h1 h2
      rw [List.length_reverse, List.length_cons]
      refine ⟨?_, by omega⟩
      rw [Nat.succ_sub h2, List.replicate_succ', ← List.append_assoc, h1, List.reverse_cons]
    · have : (a == c) = false := by rw [beq_eq_false_iff_ne]; exact ha
      simp [List.dropWhile, this]

end Go.Proofs.YthagdkipipldlaaGreatDoor.oct

namespace Go.Proofs.YthagdkipipldlaaGreatDoor.oct
set_option maxRecDepth 100000
open Go.RowKit
open Go.Proofs.YthagdkipipldlaaGreatDoor.pl
open Go.Lib (byteCells)

theorem textT_inj {sg : Nat → UInt8} {wd : Nat} (hw : 0 < wd) (hw8 : wd ≤ 8) (hi : ∀ a b, a < 2 ^ wd → b < 2 ^ wd → sg a = sg b → a = b) {a b : List UInt8} (h : text sg (enc wd a) = text sg (enc wd b)) : a = b := by
  have ta := enc_tells hw a
  have tb := enc_tells hw b
  have e := text_inj hi ta.1 tb.1 h
  rw [← e] at tb
  exact ta.inj hw8 tb
theorem hexT_inj {a b : List UInt8} (h : hexT a = hexT b) : a = b := textT_inj (by decide) (by decide) hexS_inj h
theorem webT_inj {a b : List UInt8} (h : webT a = webT b) : a = b := textT_inj (by decide) (by decide) webS_inj h
theorem basT_inj {a b : List UInt8} (h : basT a = basT b) : a = b := by
  have e := congrArg (fun l => Lib.trimRightB l 61) h
  simp only [basT, trimR_fill _ _ (basB_nofill _)] at e
  exact textT_inj (by decide) (by decide) basS_inj e

theorem ReadT.hit {T : List UInt8 → List UInt8} {o s : List UInt8} {w : World} {e : Ending} {w' : World} (hT : ∀ a b, T a = T b → a = b) (ho : T o = s) (h : ReadT T s w e w') :
    ∃ v, e = .returned (.tuple #[v, .int .i64 0]) ∧ w'.ownsRow w.heap.size 5 1 v o.length (byteCells o) ∧ Below w.heap.size w w' := by
  rcases h with ⟨out, v, h1, h2, h3, h4⟩ | ⟨h1, _⟩
  · obtain rfl : out = o := hT _ _ (h1.trans ho.symm)
    exact ⟨v, h2, h3, h4⟩
  · exact absurd ho (h1 o)

theorem k_web (w : World) : Calls Tryz.prog 180 #[.slice (some ⟨w.heap.size, 0, none⟩) 1 1] (w.alloc (.cells #[.int .u8 255] 5)) fun e w' =>
    e = .returned (.string ⟨#[95, 119]⟩) ∧ Below (w.alloc (.cells #[.int .u8 255] 5)).heap.size (w.alloc (.cells #[.int .u8 255] 5)) w' := by
  have h := web_c (some ⟨w.heap.size, 0, none⟩) 1 [255] _ (in8_new w #[.int .u8 255] [255] rfl) (by decide)
  rwa [show webT [255] = [95, 119] by decide +kernel] at h
theorem k_same (w : World) : Calls Tryz.prog 160 #[.slice (some ⟨w.heap.size, 0, none⟩) 1 1, .slice (some ⟨w.heap.size + 1, 0, none⟩) 1 1] ((w.alloc (.cells #[.int .u8 1] 5)).alloc (.cells #[.int .u8 1] 5)) fun e w' =>
    e = .returned (.bool true) ∧ (w.alloc (.cells #[.int .u8 1] 5)).alloc (.cells #[.int .u8 1] 5) = w' := by
  have h2 := in8_new (w.alloc (.cells #[.int .u8 1] 5)) #[.int .u8 1] [1] rfl
  have h1 := (in8_new w #[.int .u8 1] [1] rfl).below ((Below.refl _ _).alloc (Nat.le_refl _) (.cells #[.int .u8 1] 5))
  have e : (w.alloc (.cells #[.int .u8 1] 5)).heap.size = w.heap.size + 1 := by simp
  rw [e] at h2
  exact same_c _ _ 1 1 [1] [1] _ h1 h2 (by decide)

end Go.Proofs.YthagdkipipldlaaGreatDoor.oct
