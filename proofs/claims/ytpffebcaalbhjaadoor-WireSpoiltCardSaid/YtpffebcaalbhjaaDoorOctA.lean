/- Several texts in one: Oct1, Oct2, Plain1, Oct3, Oct4, Oct6, Oct7, Oct8, Oct5, Oct9, Oct10, Oct11. Conditions: as each theorem says. -/
import Derived.Test.YtpffebcaalbhjaaDoorBaseA
import Derived.Test.YtpffebcaalbhjaaDoorR1Same
import Derived.Laws.BitsLemmas
import Derived.Lib.Strings
import Derived.Lib.UnsafeStr
import Derived.Laws.BytesArg
import Derived.Laws.CopyOwn
import Derived.Shelf.Strings.Builder1
import Derived.Shelf.Strings.Builder2Cap
import Derived.Test.YtpffebcaalbhjaaDoorProg
import Derived.Shelf.Small.Strs
import Derived.Shelf.Strings.Trim
import Derived.Shelf.Strings.Repeat
namespace Go.Proofs.YtpffebcaalbhjaaDoor.oct
open Go.RowKit

def lack (n : Nat) : Nat := (4 - n % 4) % 4

def dig (n : Int) : Int := if n < 10 then 48 + n else 87 + n
theorem dig_lo {n : Int} (h : n < 10) : 48 + n = dig n := by unfold dig; rw [if_pos h]
theorem dig_hi {n : Int} (h : 10 ≤ n) : 87 + n = dig n := by unfold dig; rw [if_neg (by omega)]

/-- the value of a sign by sixteen: the first n below 16 whose digit it is -/
def wor (c : Int) : Int := if 48 ≤ c ∧ c ≤ 57 then c - 48 else if 97 ≤ c ∧ c ≤ 102 then c - 87 else -1
theorem wor_dig {k c : Int} (h0 : 0 ≤ k) (h1 : k < 16) (h : dig k = c) : wor c = k := by
  unfold dig at h; unfold wor
  split at h <;> split <;> (try split) <;> omega
theorem wor_none {c : Int} (h : ∀ k : Int, 0 ≤ k → k < 16 → dig k ≠ c) : wor c = -1 := by
  unfold wor
  split
  · exact absurd (by unfold dig; rw [if_pos (by omega)]; omega) (h (c - 48) (by omega) (by omega))
  · split
    · exact absurd (by unfold dig; rw [if_neg (by omega)]; omega) (h (c - 87) (by omega) (by omega))
    · rfl

/-- the sign of sixty-four that is worth n -/
def sgn (n : Int) (web : Bool) : Int := if n < 26 then 65 + n else if n < 52 then 71 + n else if n < 62 then n - 4 else if n = 62 then (if web then 45 else 43) else (if web then 95 else 47)

end Go.Proofs.YtpffebcaalbhjaaDoor.oct

namespace Go.Proofs.YtpffebcaalbhjaaDoor.oct
open Go.RowKit

theorem orxor (x a b : UInt8) : bits .or .u8 (x.toNat : Int) (bits .xor .u8 (a.toNat : Int) (b.toNat : Int)) = ((x ||| (a ^^^ b)).toNat : Int) := by
  rw [xor_u8, (bits_nat .u8 8 (by decide) wraps_u8 x.toNat (a ^^^ b).toNat x.toNat_lt (a ^^^ b).toNat_lt).2, UInt8.toNat_or]
theorem orxor_zero (x a b : UInt8) : x ||| (a ^^^ b) = 0 ↔ x = 0 ∧ a = b := by
  rw [UInt8.or_eq_zero_iff, UInt8.xor_eq_zero_iff]
end Go.Proofs.YtpffebcaalbhjaaDoor.oct

namespace Go.Proofs.YtpffebcaalbhjaaDoor.pl

def num (l : List Bool) : Nat := l.foldl (fun n b => 2 * n + b.toNat) 0
theorem num_go (l : List Bool) (a : Nat) : l.foldl (fun n b => 2 * n + b.toNat) a = a * 2 ^ l.length + num l := by
  unfold num
  induction l generalizing a with
  | nil => simp
  | cons b l ih => simp only [List.foldl_cons, List.length_cons]; rw [ih, ih (2 * 0 + b.toNat), Nat.pow_succ]; simp only [Nat.mul_zero, Nat.zero_add]; rw [Nat.add_mul, Nat.add_assoc]; congr 1; rw [Nat.mul_comm 2 a, Nat.mul_assoc, Nat.mul_comm 2]
@[simp] theorem num_nil : num [] = 0 := rfl
theorem num_append (l m : List Bool) : num (l ++ m) = num l * 2 ^ m.length + num m := by
  show (l ++ m).foldl _ 0 = _
  rw [List.foldl_append, num_go]; rfl
theorem num_cons (b : Bool) (l : List Bool) : num (b :: l) = b.toNat * 2 ^ l.length + num l := by
  have := num_append [b] l
  simpa [num] using this
theorem num_lt (l : List Bool) : num l < 2 ^ l.length := by
  induction l with
  | nil => simp
  | cons b l ih =>
    rw [num_cons, List.length_cons, Nat.pow_succ]
    have : b.toNat ≤ 1 := Bool.toNat_le b
    have := Nat.mul_le_mul_right (2 ^ l.length) this
    omega
theorem num_zero {l : List Bool} (h : num l = 0) : l = List.replicate l.length false := by
  induction l with
  | nil => rfl
  | cons b l ih =>
    rw [num_cons] at h
    have hp := Nat.two_pow_pos l.length
    have hb : b.toNat * 2 ^ l.length = 0 := by omega
    have : b.toNat = 0 := by
      rcases Nat.mul_eq_zero.1 hb with h | h
      · exact h
      · omega
    have hbf : b = false := by
      cases b with
      | false => rfl
      | true => exact absurd this (by decide)
    subst hbf
    rw [List.length_cons, List.replicate_succ, ← ih (by simpa using h)]
theorem num_false (n : Nat) : num (List.replicate n false) = 0 := by
  induction n with
  | zero => rfl
  | succ n ih => rw [List.replicate_succ, num_cons, ih]; simp
theorem num_inj {l m : List Bool} (hl : l.length = m.length) (h : num l = num m) : l = m := by
  induction l generalizing m with
  | nil => cases m with
    | nil => rfl
    | cons _ _ => simp at hl
  | cons b l ih =>
    cases m with
    | nil => simp at hl
    | cons c m =>
      simp only [List.length_cons, Nat.add_right_cancel_iff] at hl
      rw [num_cons, num_cons, hl] at h
      have h1 := num_lt l
      have h2 := num_lt m
      rw [hl] at h1
      have hb : b = c := by
        cases b <;> cases c <;> simp at h ⊢ <;> omega
      subst hb
      rw [ih hl (by omega)]

/-- the w bits of n, the greatest first -/
def bitsN : Nat → Nat → List Bool
  | 0, _ => []
  | w + 1, n => decide (n / 2 ^ w % 2 = 1) :: bitsN w n
@[simp] theorem bitsN_len (w n : Nat) : (bitsN w n).length = w := by induction w with | zero => rfl | succ w ih => simp [bitsN, ih]
theorem num_bitsN (w n : Nat) : num (bitsN w n) = n % 2 ^ w := by
  induction w with
  | zero => simp [bitsN, Nat.mod_one]
  | succ w ih =>
    rw [bitsN, num_cons, ih, bitsN_len, Nat.mod_pow_succ]
    have : (decide (n / 2 ^ w % 2 = 1)).toNat = n / 2 ^ w % 2 := by
      have : n / 2 ^ w % 2 = 0 ∨ n / 2 ^ w % 2 = 1 := by omega
      rcases this with h | h <;> simp [h]
    rw [this, Nat.mul_comm, Nat.add_comm]
theorem bitsN_num (l : List Bool) : bitsN l.length (num l) = l :=
  num_inj (bitsN_len _ _) (by rw [num_bitsN, Nat.mod_eq_of_lt (num_lt l)])
theorem bitsN_num' {w : Nat} {l : List Bool} (h : l.length = w) : bitsN w (num l) = l := by subst h; exact bitsN_num l
theorem bitsN_inj {w a b : Nat} (ha : a < 2 ^ w) (hb : b < 2 ^ w) (h : bitsN w a = bitsN w b) : a = b := by
  have := congrArg num h
  rwa [num_bitsN, num_bitsN, Nat.mod_eq_of_lt ha, Nat.mod_eq_of_lt hb] at this

/-- digits of w bits each, one behind the other -/
def flat (w : Nat) (ds : List Nat) : List Bool := ds.flatMap (bitsN w)
@[simp] theorem flat_nil (w : Nat) : flat w [] = [] := rfl
@[simp] theorem flat_cons (w d : Nat) (ds : List Nat) : flat w (d :: ds) = bitsN w d ++ flat w ds := by simp [flat]
theorem flat_append (w : Nat) (ds es : List Nat) : flat w (ds ++ es) = flat w ds ++ flat w es := by simp [flat]
theorem flat_snoc (w : Nat) (ds : List Nat) (d : Nat) : flat w (ds ++ [d]) = flat w ds ++ bitsN w d := by simp [flat]
theorem flat_len (w : Nat) (ds : List Nat) : (flat w ds).length = w * ds.length := by
  induction ds with
  | nil => simp
  | cons d ds ih => simp [ih, Nat.mul_add, Nat.add_comm]
theorem flat_inj {w : Nat} (hw : 0 < w) {ds es : List Nat} (h : flat w ds = flat w es) (hd : ∀ d ∈ ds, d < 2 ^ w) (he : ∀ d ∈ es, d < 2 ^ w) : ds = es := by
  have hl : ds.length = es.length := by
    have := congrArg List.length h
    rw [flat_len, flat_len] at this
    exact Nat.eq_of_mul_eq_mul_left hw this
  induction ds generalizing es with
  | nil => cases es with
    | nil => rfl
    | cons _ _ => simp at hl
  | cons d ds ih =>
    cases es with
    | nil => simp at hl
    | cons e es =>
      simp only [flat_cons] at h
      obtain ⟨h1, h2⟩ := List.append_inj h (by simp)
      rw [bitsN_inj (hd d (by simp)) (he e (by simp)) h1, ih h2 (fun x hx => hd x (by simp [hx])) (fun x hx => he x (by simp [hx])) (by simpa using hl)]

def nats (l : List UInt8) : List Nat := l.map UInt8.toNat
theorem nats_inj {l m : List UInt8} (h : nats l = nats m) : l = m := by
  induction l generalizing m with
  | nil => cases m <;> simp_all [nats]
  | cons a l ih =>
    cases m with
    | nil => simp [nats] at h
    | cons b m =>
      simp only [nats, List.map_cons, List.cons.injEq] at h
      rw [UInt8.toNat_inj.1 h.1, ih h.2]
theorem nats_lt (l : List UInt8) : ∀ d ∈ nats l, d < 2 ^ 8 := by
  intro d hd
  obtain ⟨c, _, rfl⟩ := List.mem_map.1 hd
  exact c.toNat_lt
def bitsOf (l : List UInt8) : List Bool := flat 8 (nats l)
@[simp] theorem bitsOf_nil : bitsOf [] = [] := rfl
theorem bitsOf_snoc (l : List UInt8) (c : UInt8) : bitsOf (l ++ [c]) = bitsOf l ++ bitsN 8 c.toNat := by simp [bitsOf, nats, flat]
theorem bitsOf_append (l m : List UInt8) : bitsOf (l ++ m) = bitsOf l ++ bitsOf m := by simp [bitsOf, nats, flat]
theorem bitsOf_len (l : List UInt8) : (bitsOf l).length = 8 * l.length := by simp [bitsOf, flat_len, nats]
theorem bitsOf_inj {l m : List UInt8} (h : bitsOf l = bitsOf m) : l = m := nats_inj (flat_inj (by decide) h (nats_lt l) (nats_lt m))

/-- ds tells l in digits of w bits: l's bits, and fewer than w bits 0 behind them -/
def Tells (w : Nat) (l : List UInt8) (ds : List Nat) : Prop :=
  (∀ d ∈ ds, d < 2 ^ w) ∧ ∃ p, p < w ∧ flat w ds = bitsOf l ++ List.replicate p false
theorem Tells.unique {w : Nat} {l : List UInt8} {ds es : List Nat} (h : Tells w l ds) (k : Tells w l es) : ds = es := by
  obtain ⟨hd, p, hp, h1⟩ := h
  obtain ⟨he, q, hq, h2⟩ := k
  have e1 := congrArg List.length h1
  have e2 := congrArg List.length h2
  simp only [flat_len, List.length_append, List.length_replicate] at e1 e2
  have hpq : p = q := by
    have a1 : (w * ds.length) % w = 0 := Nat.mul_mod_right _ _
    have a2 : (w * es.length) % w = 0 := Nat.mul_mod_right _ _
    rw [e1] at a1
    rw [e2] at a2
    rcases Nat.lt_trichotomy p q with h | h | h
    · exfalso
      have := Nat.sub_mod_eq_zero_of_mod_eq (a2.trans a1.symm)
      rw [show (bitsOf l).length + q - ((bitsOf l).length + p) = q - p from by omega, Nat.mod_eq_of_lt (by omega)] at this
      omega
    · exact h
    · exfalso
      have := Nat.sub_mod_eq_zero_of_mod_eq (a1.trans a2.symm)
      rw [show (bitsOf l).length + p - ((bitsOf l).length + q) = p - q from by omega, Nat.mod_eq_of_lt (by omega)] at this
      omega
  subst hpq
  exact flat_inj (by omega) (h1.trans h2.symm) hd he
theorem Tells.inj {w : Nat} (hw : w ≤ 8) {l m : List UInt8} {ds : List Nat} (h : Tells w l ds) (k : Tells w m ds) : l = m := by
  obtain ⟨hd, p, hp, h1⟩ := h
  obtain ⟨he, q, hq, h2⟩ := k
  have e := h1.symm.trans h2
  have el := congrArg List.length e
  simp only [List.length_append, List.length_replicate, bitsOf_len] at el
  have hl : l.length = m.length := by omega
  exact bitsOf_inj (List.append_inj e (by simp [bitsOf_len, hl])).1

/-- so many digits of w bits off a row of bits -/
def digs (w : Nat) : Nat → List Bool → List Nat
  | 0, _ => []
  | q + 1, l => num (l.take w) :: digs w q (l.drop w)
theorem flat_digs (w q : Nat) (l : List Bool) (h : l.length = w * q) : flat w (digs w q l) = l := by
  induction q generalizing l with
  | zero => simp at h; subst h; rfl
  | succ q ih =>
    rw [Nat.mul_succ] at h
    rw [digs, flat_cons, bitsN_num' (by rw [List.length_take]; omega), ih _ (by rw [List.length_drop]; omega), List.take_append_drop]
theorem digs_lt (w q : Nat) (l : List Bool) : ∀ d ∈ digs w q l, d < 2 ^ w := by
  induction q generalizing l with
  | zero => simp [digs]
  | succ q ih =>
    intro d hd
    rcases List.mem_cons.1 hd with rfl | hd
    · exact Nat.lt_of_lt_of_le (num_lt _) (Nat.pow_le_pow_right (by decide) (List.length_take_le _ _))
    · exact ih _ _ hd
/-- the digits of w bits that tell l -/
def enc (w : Nat) (l : List UInt8) : List Nat :=
  digs w ((8 * l.length + (w - 8 * l.length % w) % w) / w) (bitsOf l ++ List.replicate ((w - 8 * l.length % w) % w) false)
theorem enc_tells {w : Nat} (hw : 0 < w) (l : List UInt8) : Tells w l (enc w l) := by
  refine ⟨digs_lt _ _ _, _, Nat.mod_lt _ hw, flat_digs _ _ _ ?_⟩
  rw [List.length_append, List.length_replicate, bitsOf_len]
  have hm := Nat.mod_lt (8 * l.length) hw
  have hd := Nat.div_add_mod (8 * l.length) w
  have hz : (8 * l.length + (w - 8 * l.length % w) % w) % w = 0 := by
    by_cases h0 : 8 * l.length % w = 0
    · rw [h0, Nat.sub_zero, Nat.mod_self, Nat.add_zero, h0]
    · rw [Nat.mod_eq_of_lt (a := w - 8 * l.length % w) (by omega)]
      rw [show 8 * l.length + (w - 8 * l.length % w) = w * (8 * l.length / w) + w from by omega]
      simp
  exact (Nat.mul_div_cancel' (Nat.dvd_of_mod_eq_zero hz)).symm
theorem Tells.eq_enc {w : Nat} (hw : 0 < w) {l : List UInt8} {ds : List Nat} (h : Tells w l ds) : ds = enc w l := h.unique (enc_tells hw l)

/-- the text of digits -/
def text (sg : Nat → UInt8) (ds : List Nat) : List UInt8 := ds.map sg
theorem text_inj {sg : Nat → UInt8} {w : Nat} (hsg : ∀ a b, a < 2 ^ w → b < 2 ^ w → sg a = sg b → a = b) {ds es : List Nat} (hd : ∀ d ∈ ds, d < 2 ^ w) (he : ∀ d ∈ es, d < 2 ^ w) (h : text sg ds = text sg es) : ds = es := by
  induction ds generalizing es with
  | nil => cases es <;> simp_all [text]
  | cons d ds ih =>
    cases es with
    | nil => simp [text] at h
    | cons e es =>
      simp only [text, List.map_cons, List.cons.injEq] at h
      rw [hsg d e (hd d (by simp)) (he e (by simp)) h.1, ih (fun x hx => hd x (by simp [hx])) (fun x hx => he x (by simp [hx])) h.2]

end Go.Proofs.YtpffebcaalbhjaaDoor.pl

namespace Go.Proofs.YtpffebcaalbhjaaDoor.oct
open Go.RowKit
open Go.Proofs.YtpffebcaalbhjaaDoor.pl

def bools (l : List Bool) : List Value := l.map Value.bool
@[simp] theorem bools_len (l : List Bool) : (bools l).length = l.length := by simp [bools]
theorem bools_snoc (l : List Bool) (b : Bool) : bools (l ++ [b]) = bools l ++ [.bool b] := by simp [bools]

theorem infoBool : (Tryd.prog.info? 4).map (fun i => (i.zero, i.size, i.bytes)) = some (some (.bool false), 1, 1) := by kernel_rfl
theorem bit_at (c j : Nat) (h : j < 8) : (bitsN 8 c).take (j + 1) = (bitsN 8 c).take j ++ [((c : Int) / ((128 / 2 ^ j : Nat) : Int) % 2 == 1)] := by
  have e : ((c : Int) / ((128 / 2 ^ j : Nat) : Int) % 2 == 1) = (c / (128 / 2 ^ j) % 2 == 1) := by
    rw [Bool.eq_iff_iff, beq_iff_eq, beq_iff_eq]
    rw [← Int.natCast_ediv]; omega
  rw [e]
  have : j = 0 ∨ j = 1 ∨ j = 2 ∨ j = 3 ∨ j = 4 ∨ j = 5 ∨ j = 6 ∨ j = 7 := by omega
  rcases this with rfl | rfl | rfl | rfl | rfl | rfl | rfl | rfl <;> (simp [bitsN] <;> rfl)
theorem quo_bd (c h : Nat) (hc : c < 256) : 0 ≤ (c : Int) / (h : Int) ∧ (c : Int) / (h : Int) ≤ 255 := by
  have h1 : ((c / h : Nat) : Int) = (c : Int) / (h : Int) := Int.natCast_ediv c h
  have h2 : c / h ≤ 255 := Nat.le_trans (Nat.div_le_self c h) (by omega)
  rw [← h1]
  exact ⟨Int.natCast_nonneg _, Int.ofNat_le.2 h2⟩
theorem half_at (j : Nat) (h : j < 8) : 128 / 2 ^ j / 2 = 128 / 2 ^ (j + 1) ∧ 1 ≤ 128 / 2 ^ j ∧ 128 / 2 ^ j ≤ 128 := by
  have : j = 0 ∨ j = 1 ∨ j = 2 ∨ j = 3 ∨ j = 4 ∨ j = 5 ∨ j = 6 ∨ j = 7 := by omega
  rcases this with rfl | rfl | rfl | rfl | rfl | rfl | rfl | rfl <;> simp

/-- a row of bools at a slice's address -/
def InB (w : World) (p : Option Addr) (l : List Bool) : Prop :=
  0 < l.length → ∃ b o, p = some ⟨b, o, none⟩ ∧ ∀ i, i < l.length → w.cell? ⟨b, o + i, none⟩ = some (.bool (l.getD i false))

theorem num_take {l : List Bool} {k : Nat} (h : k < l.length) : num (l.take (k + 1)) = 2 * num (l.take k) + (l[k]).toNat := by
  rw [List.take_succ_eq_append_getElem h, num_append]
  simp [num, Nat.mul_comm]

end Go.Proofs.YtpffebcaalbhjaaDoor.oct

namespace Go.Proofs.YtpffebcaalbhjaaDoor.oct
open Go.RowKit
open Go.Proofs.YtpffebcaalbhjaaDoor.pl
open Go.Lib (byteCells)

theorem own_inB {w : World} {B e n : Nat} {v : Value} {l : List Bool} (h : w.ownsRow B e 1 v n (bools l)) :
    n = l.length ∧ ∃ p cp, v = .slice p n cp ∧ n ≤ cp ∧ (p = none ∨ ∃ g, p = some ⟨g, 0, none⟩ ∧ B ≤ g ∧ g < w.heap.size) ∧ InB w p l := by
  obtain ⟨h0, h1⟩ := own_cells h
  rw [bools_len] at h0
  refine ⟨h0, ?_⟩
  rcases h1 with ⟨rfl, rfl⟩ | ⟨g, cp, rfl, hB, hg, hn, hc⟩
  · exact ⟨none, 0, rfl, Nat.le_refl _, Or.inl rfl, fun hl => by omega⟩
  · refine ⟨_, cp, rfl, hn, Or.inr ⟨g, rfl, hB, hg⟩, fun hl => ⟨g, 0, rfl, fun i hi => ?_⟩⟩
    rw [Nat.zero_add, hc i (by omega)]
    simp [bools, List.getD, List.getElem?_eq_getElem (show i < l.length by omega)]

end Go.Proofs.YtpffebcaalbhjaaDoor.oct

namespace Go.Proofs.YtpffebcaalbhjaaDoor.oct
open Go.RowKit
open Go.Proofs.YtpffebcaalbhjaaDoor.pl
open Go.Lib (byteCells)

/-- the sign at n of a text of signs -/
def sgS (S : ByteArray) (n : Nat) : UInt8 := S.data.toList.getD n 0

/-- what a round of spell leaves: digits that are written, bits that are left *)-/
def Spelt (wd : Nat) (L : List Bool) (ds : List Nat) (rest : List Bool) : Prop :=
  flat wd ds ++ rest = L ∧ (∀ d ∈ ds, d < 2 ^ wd) ∧ wd * ds.length + rest.length = L.length
theorem Spelt.start (wd : Nat) : Spelt wd (bitsOf []) [] [] := ⟨rfl, by simp, rfl⟩
theorem Spelt.byte {wd : Nat} {l : List UInt8} {ds : List Nat} {rest : List Bool} (c : UInt8) (h : Spelt wd (bitsOf l) ds rest) : Spelt wd (bitsOf (l ++ [c])) ds (rest ++ bitsN 8 c.toNat) := by
  obtain ⟨h1, h2, h3⟩ := h
  refine ⟨by rw [← List.append_assoc, h1, bitsOf_snoc], h2, ?_⟩
  rw [bitsOf_snoc, List.length_append, List.length_append, bitsN_len]; omega
theorem Spelt.digit {wd : Nat} {L : List Bool} {ds : List Nat} {rest : List Bool} (h : Spelt wd L ds rest) (hr : wd ≤ rest.length) : Spelt wd L (ds ++ [num (rest.take wd)]) (rest.drop wd) := by
  obtain ⟨h1, h2, h3⟩ := h
  refine ⟨?_, ?_, ?_⟩
  · rw [flat_snoc, bitsN_num' (by rw [List.length_take]; omega), List.append_assoc, List.take_append_drop, h1]
  · intro d hd
    rcases List.mem_append.1 hd with hd | hd
    · exact h2 d hd
    · rw [List.mem_singleton.1 hd]
      have := num_lt (rest.take wd)
      rwa [List.length_take, Nat.min_eq_left hr] at this
  · rw [List.length_append, List.length_drop, List.length_singleton, Nat.mul_add]; omega
theorem Spelt.bound {wd k : Nat} {l : List UInt8} {ds : List Nat} {rest : List Bool} (h : Spelt wd (bitsOf (l.take k)) ds rest) (hw : 4 ≤ wd) (hl : 8 * l.length ≤ wd * 140737488355328) : ds.length ≤ 140737488355328 := by
  have h3 := h.2.2
  rw [bitsOf_len] at h3
  have h4 : (l.take k).length ≤ l.length := by rw [List.length_take]; omega
  have h5 : wd * ds.length ≤ wd * 140737488355328 := by omega
  exact Nat.le_of_mul_le_mul_left h5 (by omega)
theorem Spelt.bound2 {wd : Nat} {l : List UInt8} {ds : List Nat} {rest : List Bool} (h : Spelt wd (bitsOf l) ds rest) (hr : 0 < rest.length) (hl : 8 * l.length ≤ wd * 140737488355328) : ds.length + 1 ≤ 140737488355328 := by
  have h3 := h.2.2
  rw [bitsOf_len] at h3
  have h5 : wd * ds.length < wd * 140737488355328 := by omega
  exact Nat.lt_of_mul_lt_mul_left h5
theorem Spelt.done {wd : Nat} {l : List UInt8} {ds : List Nat} {rest : List Bool} (h : Spelt wd (bitsOf l) ds rest) (hw : 0 < wd) (hr : rest.length = 0) : ds = enc wd l := by
  obtain ⟨h1, h2, h3⟩ := h
  obtain rfl : rest = [] := List.eq_nil_of_length_eq_zero hr
  exact Tells.eq_enc hw ⟨h2, 0, hw, by simpa using h1⟩
theorem Spelt.last {wd : Nat} {l : List UInt8} {ds : List Nat} {rest : List Bool} (h : Spelt wd (bitsOf l) ds rest) (hr : 0 < rest.length) (hr2 : rest.length < wd) : ds ++ [num rest * 2 ^ (wd - rest.length)] = enc wd l := by
  obtain ⟨h1, h2, h3⟩ := h
  have hn : num (rest ++ List.replicate (wd - rest.length) false) = num rest * 2 ^ (wd - rest.length) := by rw [num_append, num_false, List.length_replicate, Nat.add_zero]
  refine Tells.eq_enc (by omega) ⟨?_, wd - rest.length, by omega, ?_⟩
  · intro d hd
    rcases List.mem_append.1 hd with hd | hd
    · exact h2 d hd
    · rw [List.mem_singleton.1 hd, ← hn]
      have := num_lt (rest ++ List.replicate (wd - rest.length) false)
      rwa [List.length_append, List.length_replicate, show rest.length + (wd - rest.length) = wd from by omega] at this
  · rw [flat_snoc, ← hn, bitsN_num' (by rw [List.length_append, List.length_replicate]; omega), ← List.append_assoc, h1]

theorem wraps_i64 (n : Int) (h₀ : 0 ≤ n) (h₁ : n < 2 ^ 62) : IntKind.i64.wrap n = n := by rw [IntKind.wrap_i64]; omega
theorem or_step (rest : List Bool) (c : UInt8) (h : num rest < 2 ^ 40) : bits .or .i64 ((num rest : Int) * 256) (c.toNat : Int) = (num (rest ++ bitsN 8 c.toNat) : Int) := by
  have hc := c.toNat_lt
  rw [bits_join .i64 62 (by decide) wraps_i64 8 _ _ (by omega) (by omega) (by omega) (by omega) (by omega) (by omega), num_append, num_bitsN, bitsN_len, Nat.mod_eq_of_lt hc]
  simp

theorem two_pow_le (m : Nat) (h : m ≤ 9) : (2 : Int) ^ m ≤ 512 := by
  have h1 : 2 ^ m ≤ 512 := Nat.le_trans (Nat.pow_le_pow_right (n := 2) (by decide) h) (by decide)
  have e : ((2 ^ m : Nat) : Int) = (2 : Int) ^ m := by simp
  rw [← e]
  exact Int.ofNat_le.2 h1
theorem two_pow_pos (m : Nat) : (1 : Int) ≤ (2 : Int) ^ m := by
  have e : ((2 ^ m : Nat) : Int) = (2 : Int) ^ m := by simp
  rw [← e]
  exact Int.ofNat_le.2 (Nat.two_pow_pos m)
theorem sign_cells (S : ByteArray) (d : Nat) (h : d < S.size) : Lib.strCells (S.extract d (d + 1)) = [.int .u8 ((sgS S d).toNat : Int)] ∧ (S.extract d (d + 1)).size = 1 := by
  have hl : d < S.data.toList.length := by rw [Array.length_toList]; exact h
  have e : (S.extract d (d + 1)).data.toList = [sgS S d] := by
    rw [Lib.extract_data S d (d + 1), Nat.add_sub_cancel_left, sgS]
    simp [List.take_one, List.getD, List.getElem?_eq_getElem hl]
  refine ⟨?_, ?_⟩
  · unfold Lib.strCells; rw [e]; rfl
  · rw [Lib.size_eq, e]; rfl

theorem grow_bd (n wd : Nat) (hn : 8 * n ≤ wd * 140737488355328) (hw : 4 ≤ wd) : 0 ≤ ((n : Int) * 8 + (wd : Int) - 1) / (wd : Int) ∧ ((n : Int) * 8 + (wd : Int) - 1) / (wd : Int) ≤ 281474976710656 := by
  have e : ((n : Int) * 8 + (wd : Int) - 1) / (wd : Int) = (((n * 8 + wd - 1) / wd : Nat) : Int) := by
    rw [Int.natCast_ediv]; congr 1; omega
  rw [e]
  have h1 : (n * 8 + wd - 1) / wd ≤ 281474976710656 := by
    refine Nat.div_le_of_le_mul ?_
    omega
  exact ⟨Int.natCast_nonneg _, Int.ofNat_le.2 h1⟩
end Go.Proofs.YtpffebcaalbhjaaDoor.oct

namespace Go.Proofs.YtpffebcaalbhjaaDoor.oct
open Go.RowKit
open Go.Proofs.YtpffebcaalbhjaaDoor.pl
open Go.Lib (byteCells)

theorem indexByte_spec (l : List UInt8) (c : UInt8) : (∃ d, d < l.length ∧ l.getD d 0 = c ∧ Lib.indexByte l c = (d : Int)) ∨ ((∀ d, d < l.length → l.getD d 0 ≠ c) ∧ Lib.indexByte l c = -1) := by
  induction l with
  | nil => exact Or.inr ⟨fun d hd => by simp at hd, rfl⟩
  | cons b l ih =>
    unfold Lib.indexByte
    by_cases h : b = c
    · exact Or.inl ⟨0, by simp, by simp [h], by simp [h]⟩
    · have hb : (b == c) = false := by simpa using h
      rw [hb]
      rcases ih with ⟨d, hd, hg, hi⟩ | ⟨hn, hi⟩
      · refine Or.inl ⟨d + 1, by simpa using hd, by simpa using hg, ?_⟩
        rw [hi]
        have : ((d : Int) == -1) = false := by rw [beq_eq_false_iff_ne]; omega
        simp [this]
      · refine Or.inr ⟨fun d hd => ?_, by rw [hi]; rfl⟩
        cases d with
        | zero => simpa using h
        | succ d => simpa using hn d (by simpa using hd)

/-- what is read of s so far: n signs, the digits ws; the bytes out, the bits left over -/
def Unspelt (sg : Nat → UInt8) (wd : Nat) (s : List UInt8) (n : Nat) (ws : List Nat) (out : List UInt8) (rest : List Bool) : Prop :=
  ws.length = n ∧ text sg ws = s.take n ∧ (∀ d ∈ ws, d < 2 ^ wd) ∧ flat wd ws = bitsOf out ++ rest
section
variable {sg : Nat → UInt8} {wd n : Nat} {s : List UInt8} {ws : List Nat} {out : List UInt8} {rest : List Bool}
theorem Unspelt.start : Unspelt sg wd s 0 [] [] [] := ⟨rfl, by simp [text], by simp, rfl⟩
theorem Unspelt.sign (h : Unspelt sg wd s n ws out rest) (hn : n < s.length) (d : Nat) (hd : d < 2 ^ wd) (hs : sg d = s.getD n 0) : Unspelt sg wd s (n + 1) (ws ++ [d]) out (rest ++ bitsN wd d) := by
  obtain ⟨h1, h2, h3, h4⟩ := h
  refine ⟨by simp [h1], ?_, ?_, by rw [flat_snoc, h4, List.append_assoc]⟩
  · rw [List.take_succ_eq_append_getElem hn, ← h2]
    simp [text, hs, List.getD, List.getElem?_eq_getElem hn]
  · intro x hx
    rcases List.mem_append.1 hx with hx | hx
    · exact h3 x hx
    · rw [List.mem_singleton.1 hx]; exact hd
theorem Unspelt.byte (h : Unspelt sg wd s n ws out rest) (hr : 8 ≤ rest.length) : Unspelt sg wd s n ws (out ++ [UInt8.ofNat (num (rest.take 8))]) (rest.drop 8) := by
  obtain ⟨h1, h2, h3, h4⟩ := h
  have hl : (rest.take 8).length = 8 := by rw [List.length_take]; omega
  have hlt : num (rest.take 8) < 256 := by have := num_lt (rest.take 8); rwa [hl] at this
  refine ⟨h1, h2, h3, ?_⟩
  rw [bitsOf_snoc, UInt8.toNat_ofNat', Nat.mod_eq_of_lt hlt, bitsN_num' hl, List.append_assoc, List.take_append_drop, h4]
theorem Unspelt.len (h : Unspelt sg wd s n ws out rest) : 8 * out.length + rest.length = wd * n := by
  have := congrArg List.length h.2.2.2
  rw [flat_len, List.length_append, bitsOf_len, h.1] at this
  omega
theorem Unspelt.done (h : Unspelt sg wd s n ws out rest) (hn : n = s.length) (hr : rest.length < wd) (h0 : num rest = 0) : text sg (enc wd out) = s := by
  obtain ⟨h1, h2, h3, h4⟩ := h
  have : ws = enc wd out := Tells.eq_enc (by omega) ⟨h3, rest.length, hr, by rw [h4, ← num_zero h0]⟩
  rw [← this, h2, hn, List.take_length]
theorem Unspelt.none (h : Unspelt sg wd s n ws out rest) (hinj : ∀ a b, a < 2 ^ wd → b < 2 ^ wd → sg a = sg b → a = b) (hn : n = s.length) (hw : 0 < wd) (hw8 : wd ≤ 8) (hr : rest.length < 8) (h0 : wd ≤ rest.length ∨ num rest ≠ 0) (o : List UInt8) : text sg (enc wd o) ≠ s := by
  obtain ⟨h1, h2, h3, h4⟩ := h
  rw [hn, List.take_length] at h2
  intro he
  have ht := enc_tells hw o
  have hws : enc wd o = ws := text_inj hinj ht.1 h3 (he.trans h2.symm)
  rw [hws] at ht
  obtain ⟨_, p, hp, h5⟩ := ht
  have e := h4.symm.trans h5
  have el := congrArg List.length e
  simp only [List.length_append, List.length_replicate, bitsOf_len] at el
  have hol : out.length = o.length := by omega
  have e2 := (List.append_inj e (by simp [bitsOf_len, hol])).2
  rw [e2] at h0
  rcases h0 with h0 | h0
  · rw [List.length_replicate] at h0; omega
  · exact h0 (num_false p)
theorem Unspelt.alien (hn : n < s.length) (hs : ∀ d, d < 2 ^ wd → sg d ≠ s.getD n 0) (hw : 0 < wd) (o : List UInt8) : text sg (enc wd o) ≠ s := by
  intro he
  have hl : (enc wd o).length = s.length := by rw [← he]; simp [text]
  have hm : (enc wd o)[n]'(by omega) < 2 ^ wd := (enc_tells hw o).1 _ (List.getElem_mem _)
  refine hs _ hm ?_
  subst he
  simp [text, List.getD, List.getElem?_eq_getElem (show n < (enc wd o).length by omega)]
end
end Go.Proofs.YtpffebcaalbhjaaDoor.oct

namespace Go.Proofs.YtpffebcaalbhjaaDoor.oct
open Go.RowKit
open Go.Proofs.YtpffebcaalbhjaaDoor.pl
open Go.Lib (byteCells)

/-- what unspell comes to -/
def Read (sg : Nat → UInt8) (wd : Nat) (s : List UInt8) (w : World) (e : Ending) (w' : World) : Prop :=
  (∃ out v, text sg (enc wd out) = s ∧ e = .returned (.tuple #[v, .int .i64 0]) ∧ w'.ownsRow w.heap.size 5 1 v out.length (byteCells out) ∧ Below w.heap.size w w') ∨
  ((∀ o, text sg (enc wd o) ≠ s) ∧ e = .returned (.tuple #[.slice none 0 0, .int .i64 3]) ∧ Below w.heap.size w w')

theorem mul_bd (a b : Nat) (ha : a ≤ 140737488355328) (hb : b ≤ 6) : 0 ≤ (a : Int) * (b : Int) ∧ (a : Int) * (b : Int) ≤ 844424930131968 := by
  have h := Nat.mul_le_mul ha hb
  rw [← Int.natCast_mul]
  omega

end Go.Proofs.YtpffebcaalbhjaaDoor.oct

namespace Go.Proofs.YtpffebcaalbhjaaDoor.oct
open Go.RowKit
open Go.Proofs.YtpffebcaalbhjaaDoor.pl
open Go.Lib (byteCells)

def sg6 (web : Bool) (n : Nat) : UInt8 := UInt8.ofNat (sgn n web).toNat
theorem sgn_bd (n : Int) (web : Bool) (h0 : 0 ≤ n) (h1 : n < 64) : 0 ≤ sgn n web ∧ sgn n web < 256 := by
  unfold sgn
  split
  · omega
  split
  · omega
  split
  · omega
  split <;> cases web <;> simp
theorem sgn_sg6 (n : Nat) (web : Bool) (h1 : n < 64) : sgn n web = ((sg6 web n).toNat : Int) := by
  obtain ⟨a, b⟩ := sgn_bd n web (by omega) (by omega)
  unfold sg6
  rw [UInt8.toNat_ofNat', Nat.mod_eq_of_lt (by omega)]
  omega

def pad6 (n : Nat) : Nat := (6 - 8 * n % 6) % 6
theorem pad6_lt (n : Nat) : pad6 n < 6 := Nat.mod_lt _ (by omega)
theorem pad6_go (n j : Nat) (h : j < pad6 n) : ((8 * n + j : Nat) : Int) % 6 ≠ 0 := by unfold pad6 at h; omega
theorem pad6_end (n : Nat) : ((8 * n + pad6 n : Nat) : Int) % 6 = 0 := by unfold pad6; omega

theorem digs_take (w k : Nat) (L : List Bool) : digs w (k + 1) L = digs w k L ++ [num ((L.drop (w * k)).take w)] := by
  induction k generalizing L with
  | zero => simp [digs]
  | succ k ih =>
    rw [digs, ih, digs, List.drop_drop, List.cons_append]
    congr 4
    rw [Nat.mul_succ, Nat.add_comm]

end Go.Proofs.YtpffebcaalbhjaaDoor.oct

namespace Go.Proofs.YtpffebcaalbhjaaDoor.oct
open Go.RowKit
open Go.Proofs.YtpffebcaalbhjaaDoor.pl
open Go.Lib (byteCells)

def hexS : ByteArray := ⟨#[48, 49, 50, 51, 52, 53, 54, 55, 56, 57, 97, 98, 99, 100, 101, 102]⟩
def webS : ByteArray := ⟨#[65, 66, 67, 68, 69, 70, 71, 72, 73, 74, 75, 76, 77, 78, 79, 80, 81, 82, 83, 84, 85, 86, 87, 88, 89, 90, 97, 98, 99, 100, 101, 102, 103, 104, 105, 106, 107, 108, 109, 110, 111, 112, 113, 114, 115, 116, 117, 118, 119, 120, 121, 122, 48, 49, 50, 51, 52, 53, 54, 55, 56, 57, 45, 95]⟩
def basS : ByteArray := ⟨#[65, 66, 67, 68, 69, 70, 71, 72, 73, 74, 75, 76, 77, 78, 79, 80, 81, 82, 83, 84, 85, 86, 87, 88, 89, 90, 97, 98, 99, 100, 101, 102, 103, 104, 105, 106, 107, 108, 109, 110, 111, 112, 113, 114, 115, 116, 117, 118, 119, 120, 121, 122, 48, 49, 50, 51, 52, 53, 54, 55, 56, 57, 43, 47]⟩
theorem hexS_inj : ∀ a b, a < 2 ^ 4 → b < 2 ^ 4 → sgS hexS a = sgS hexS b → a = b := by
  have h : ∀ a, a < 16 → ∀ b, b < 16 → sgS hexS a = sgS hexS b → a = b := by decide +kernel
  exact fun a b ha hb => h a ha b hb
theorem webS_inj : ∀ a b, a < 2 ^ 6 → b < 2 ^ 6 → sgS webS a = sgS webS b → a = b := by
  have h : ∀ a, a < 64 → ∀ b, b < 64 → sgS webS a = sgS webS b → a = b := by decide +kernel
  exact fun a b ha hb => h a ha b hb
theorem basS_inj : ∀ a b, a < 2 ^ 6 → b < 2 ^ 6 → sgS basS a = sgS basS b → a = b := by
  have h : ∀ a, a < 64 → ∀ b, b < 64 → sgS basS a = sgS basS b → a = b := by decide +kernel
  exact fun a b ha hb => h a ha b hb
theorem webS_sg6 : ∀ a, a < 64 → sg6 true a = sgS webS a := by decide +kernel
theorem basS_sg6 : ∀ a, a < 64 → sg6 false a = sgS basS a := by decide +kernel
theorem basS_fill : ∀ a, a < 64 → sgS basS a ≠ 61 := by decide +kernel
theorem hexS_dig : ∀ a : Nat, a < 16 → ((sgS hexS a).toNat : Int) = dig a := by decide +kernel

def hexT (l : List UInt8) : List UInt8 := text (sgS hexS) (enc 4 l)
def webT (l : List UInt8) : List UInt8 := text (sgS webS) (enc 6 l)
def basB (l : List UInt8) : List UInt8 := text (sgS basS) (enc 6 l)
def basT (l : List UInt8) : List UInt8 := basB l ++ List.replicate (lack (basB l).length) 61

/-- what a reading of a text comes to: the bytes of which T is the text, or 3 (ErrForm), if there are none -/
def ReadT (T : List UInt8 → List UInt8) (s : List UInt8) (w : World) (e : Ending) (w' : World) : Prop :=
  (∃ out v, T out = s ∧ e = .returned (.tuple #[v, .int .i64 0]) ∧ w'.ownsRow w.heap.size 5 1 v out.length (byteCells out) ∧ Below w.heap.size w w') ∨
  ((∀ o, T o ≠ s) ∧ e = .returned (.tuple #[.slice none 0 0, .int .i64 3]) ∧ Below w.heap.size w w')

theorem text_len (sg : Nat → UInt8) (ds : List Nat) : (text sg ds).length = ds.length := by simp [text]
theorem enc_len4 (l : List UInt8) : (enc 4 l).length = 2 * l.length := by
  obtain ⟨_, p, hp, h⟩ := enc_tells (w := 4) (by decide) l
  have := congrArg List.length h
  rw [flat_len, List.length_append, bitsOf_len, List.length_replicate] at this
  omega
theorem enc_len6 (l : List UInt8) : (enc 6 l).length = (4 * l.length + 2) / 3 := by
  obtain ⟨_, p, hp, h⟩ := enc_tells (w := 6) (by decide) l
  have := congrArg List.length h
  rw [flat_len, List.length_append, bitsOf_len, List.length_replicate] at this
  omega
theorem hexT_len (l : List UInt8) : (hexT l).length = 2 * l.length := by rw [hexT, text_len, enc_len4]
theorem webT_len (l : List UInt8) : (webT l).length = (4 * l.length + 2) / 3 := by rw [webT, text_len, enc_len6]
theorem basB_len (l : List UInt8) : (basB l).length = (4 * l.length + 2) / 3 := by rw [basB, text_len, enc_len6]
theorem basT_len (l : List UInt8) : (basT l).length = (l.length + 2) / 3 * 4 := by
  rw [basT, List.length_append, List.length_replicate, basB_len, lack]; omega

end Go.Proofs.YtpffebcaalbhjaaDoor.oct

namespace Go.Proofs.YtpffebcaalbhjaaDoor.oct
open Go.RowKit
open Go.Proofs.YtpffebcaalbhjaaDoor.pl
open Go.Lib (byteCells)

theorem repeat_one (c : UInt8) (n : Nat) : Lib.repeatL [c] n = List.replicate n c := by
  induction n with
  | zero => rfl
  | succ n ih => simp [Lib.repeatL, ih, List.replicate_succ]
theorem basB_nofill (l : List UInt8) : (61 : UInt8) ∉ basB l := by
  intro h
  obtain ⟨d, hd, he⟩ := List.mem_map.1 h
  exact basS_fill d ((enc_tells (w := 6) (by decide) l).1 d hd) he
theorem dropWhile_rep (c : UInt8) (k : Nat) (t : List UInt8) (h : t.head? ≠ some c) : (List.replicate k c ++ t).dropWhile (· == c) = t := by
  induction k with
  | zero =>
    cases t with
    | nil => rfl
    | cons a t =>
      have : (a == c) = false := by rw [beq_eq_false_iff_ne]; intro e; exact h (by simp [e])
      simp [this]
  | succ k ih => simpa [List.replicate_succ, List.dropWhile] using ih
theorem trimR_fill (t : List UInt8) (k : Nat) (h : (61 : UInt8) ∉ t) : Lib.trimRightB (t ++ List.replicate k 61) 61 = t := by
  unfold Lib.trimRightB
  rw [List.reverse_append, List.reverse_replicate, dropWhile_rep, List.reverse_reverse]
  intro he
  apply h
  rw [List.head?_reverse] at he
  exact List.mem_of_getLast? he
theorem trimR_back (c : UInt8) (l : List UInt8) : Lib.trimRightB l c ++ List.replicate (l.length - (Lib.trimRightB l c).length) c = l ∧ (Lib.trimRightB l c).length ≤ l.length := by
  unfold Lib.trimRightB
  generalize hr : l.reverse = r
  have hl : l = r.reverse := by rw [← hr, List.reverse_reverse]
  subst hl
  clear hr
  induction r with
  | nil => simp
  | cons a r ih =>
    by_cases ha : a = c
    · subst ha
      simp only [List.dropWhile, beq_self_eq_true]
      obtain ⟨h1, h2⟩ := ih
      rw [List.length_reverse] at h1 h2 ⊢
      rw [List.length_reverse] at h1 h2
      rw [List.length_reverse, List.length_cons]
      refine ⟨?_, by omega⟩
      rw [Nat.succ_sub h2, List.replicate_succ', ← List.append_assoc, h1, List.reverse_cons]
    · have : (a == c) = false := by rw [beq_eq_false_iff_ne]; exact ha
      simp [List.dropWhile, this]

end Go.Proofs.YtpffebcaalbhjaaDoor.oct

namespace Go.Proofs.YtpffebcaalbhjaaDoor.oct
open Go.RowKit
open Go.Proofs.YtpffebcaalbhjaaDoor.pl
open Go.Lib (byteCells)

theorem textT_inj {sg : Nat → UInt8} {wd : Nat} (hw : 0 < wd) (hw8 : wd ≤ 8) (hi : ∀ a b, a < 2 ^ wd → b < 2 ^ wd → sg a = sg b → a = b) {a b : List UInt8} (h : text sg (enc wd a) = text sg (enc wd b)) : a = b := by
  have ta := enc_tells hw a
  have tb := enc_tells hw b
  have e := text_inj hi ta.1 tb.1 h
  rw [← e] at tb
  exact ta.inj hw8 tb
theorem hexT_inj {a b : List UInt8} (h : hexT a = hexT b) : a = b := textT_inj (by decide) (by decide) hexS_inj h
theorem webT_inj {a b : List UInt8} (h : webT a = webT b) : a = b := textT_inj (by decide) (by decide) webS_inj h
theorem basT_inj {a b : List UInt8} (h : basT a = basT b) : a = b := by
  have e := congrArg (fun l => Lib.trimRightB l 61) h
  simp only [basT, trimR_fill _ _ (basB_nofill _)] at e
  exact textT_inj (by decide) (by decide) basS_inj e

theorem ReadT.hit {T : List UInt8 → List UInt8} {o s : List UInt8} {w : World} {e : Ending} {w' : World} (hT : ∀ a b, T a = T b → a = b) (ho : T o = s) (h : ReadT T s w e w') :
    ∃ v, e = .returned (.tuple #[v, .int .i64 0]) ∧ w'.ownsRow w.heap.size 5 1 v o.length (byteCells o) ∧ Below w.heap.size w w' := by
  rcases h with ⟨out, v, h1, h2, h3, h4⟩ | ⟨h1, _⟩
  · obtain rfl : out = o := hT _ _ (h1.trans ho.symm)
    exact ⟨v, h2, h3, h4⟩
  · exact absurd ho (h1 o)

end Go.Proofs.YtpffebcaalbhjaaDoor.oct
