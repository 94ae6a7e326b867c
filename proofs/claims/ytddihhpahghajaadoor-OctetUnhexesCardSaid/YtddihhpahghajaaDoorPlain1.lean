/- Plain mathematics for octet: bits of bytes, digits, and what a text of digits determines. Of no program. -/
import Derived.Laws.BitsLemmas
import Derived.Lib.Strings
namespace Go.Proofs.YtddihhpahghajaaDoor.pl

def num (l : List Bool) : Nat := l.foldl (fun n b => 2 * n + b.toNat) 0
theorem num_go (l : List Bool) (a : Nat) : l.foldl (fun n b => 2 * n + b.toNat) a = a * 2 ^ l.length + num l := by
  unfold num
  induction l generalizing a with
  | nil => simp
  | cons b l ih => simp only [List.foldl_cons, List.length_cons]; rw [ih, ih (2 * 0 + b.toNat), Nat.pow_succ]; simp only [Nat.mul_zero, Nat.zero_add]; rw [Nat.add_mul, Nat.add_assoc]; congr 1; rw [Nat.mul_comm 2 a, Nat.mul_assoc, Nat.mul_comm 2]
@[simp] theorem num_nil : num [] = 0 := rfl
theorem num_append (l m : List Bool) : num (l ++ m) = num l * 2 ^ m.length + num m := by
  show (l ++ m).foldl _ 0 = _
  rw [List.foldl_append, num_go]; rfl
theorem num_cons (b : Bool) (l : List Bool) : num (b :: l) = b.toNat * 2 ^ l.length + num l := by
  have := num_append [b] l
  simpa [num] using this
theorem num_lt (l : List Bool) : num l < 2 ^ l.length := by
  induction l with
  | nil => simp
  | cons b l ih =>
    rw [num_cons, List.length_cons, Nat.pow_succ]
    have : b.toNat ≤ 1 := Bool.toNat_le b
    have := Nat.mul_le_mul_right (2 ^ l.length) this
    omega
theorem num_zero {l : List Bool} (h : num l = 0) : l = List.replicate l.length false := by
  induction l with
  | nil => rfl
  | cons b l ih =>
    rw [num_cons] at h
    have hp := Nat.two_pow_pos l.length
    have hb : b.toNat * 2 ^ l.length = 0 := by omega
    have : b.toNat = 0 := by
      rcases Nat.mul_eq_zero.1 hb with h | h
      · exact h
      · omega
    have hbf : b = false := by
      cases b with
      | false => rfl
      | true => exact absurd this (by decide)
    subst hbf
    rw [List.length_cons, List.replicate_succ, ← ih (by simpa using h)]
theorem num_false (n : Nat) : num (List.replicate n false) = 0 := by
  induction n with
  | zero => rfl
  | succ n ih => rw [List.replicate_succ, num_cons, ih]; simp
theorem num_inj {l m : List Bool} (hl : l.length = m.length) (h : num l = num m) : l = m := by
  induction l generalizing m with
  | nil => cases m with
    | nil => rfl
    | cons _ _ => simp at hl
  | cons b l ih =>
    cases m with
    | nil => simp at hl
    | cons c m =>
      simp only [List.length_cons, Nat.add_right_cancel_iff] at hl
      rw [num_cons, num_cons, hl] at h
      have h1 := num_lt l
      have h2 := num_lt m
      rw [hl] at h1
      have hb : b = c := by
        cases b <;> cases c <;> simp at h ⊢ <;> omega
      subst hb
      rw [ih hl (by omega)]

/-- the w bits of n, the greatest first -/
def bitsN : Nat → Nat → List Bool
  | 0, _ => []
  | w + 1, n => decide (n / 2 ^ w % 2 = 1) :: bitsN w n
@[simp] theorem bitsN_len (w n : Nat) : (bitsN w n).length = w := by induction w with | zero => rfl | succ w ih => simp [bitsN, ih]
theorem num_bitsN (w n : Nat) : num (bitsN w n) = n % 2 ^ w := by
  induction w with
  | zero => simp [bitsN, Nat.mod_one]
  | succ w ih =>
    rw [bitsN, num_cons, ih, bitsN_len, Nat.mod_pow_succ]
    have : (decide (n / 2 ^ w % 2 = 1)).toNat = n / 2 ^ w % 2 := by
      have : n / 2 ^ w % 2 = 0 ∨ n / 2 ^ w % 2 = 1 := by omega
      rcases this with h | h <;> simp [h]
    rw [this, Nat.mul_comm, Nat.add_comm]
theorem bitsN_num (l : List Bool) : bitsN l.length (num l) = l :=
  num_inj (bitsN_len _ _) (by rw [num_bitsN, Nat.mod_eq_of_lt (num_lt l)])
theorem bitsN_num' {w : Nat} {l : List Bool} (h : l.length = w) : bitsN w (num l) = l := by subst h; exact bitsN_num l
theorem bitsN_inj {w a b : Nat} (ha : a < 2 ^ w) (hb : b < 2 ^ w) (h : bitsN w a = bitsN w b) : a = b := by
  have := congrArg num h
  rwa [num_bitsN, num_bitsN, Nat.mod_eq_of_lt ha, Nat.mod_eq_of_lt hb] at this

/-- digits of w bits each, one behind the other -/
def flat (w : Nat) (ds : List Nat) : List Bool := ds.flatMap (bitsN w)
@[simp] theorem flat_nil (w : Nat) : flat w [] = [] := rfl
@[simp] theorem flat_cons (w d : Nat) (ds : List Nat) : flat w (d :: ds) = bitsN w d ++ flat w ds := by simp [flat]
theorem flat_append (w : Nat) (ds es : List Nat) : flat w (ds ++ es) = flat w ds ++ flat w es := by simp [flat]
theorem flat_snoc (w : Nat) (ds : List Nat) (d : Nat) : flat w (ds ++ [d]) = flat w ds ++ bitsN w d := by simp [flat]
theorem flat_len (w : Nat) (ds : List Nat) : (flat w ds).length = w * ds.length := by
  induction ds with
  | nil => simp
  | cons d ds ih => simp [ih, Nat.mul_add, Nat.add_comm]
theorem flat_inj {w : Nat} (hw : 0 < w) {ds es : List Nat} (h : flat w ds = flat w es) (hd : ∀ d ∈ ds, d < 2 ^ w) (he : ∀ d ∈ es, d < 2 ^ w) : ds = es := by
  have hl : ds.length = es.length := by
    have := congrArg List.length h
    rw [flat_len, flat_len] at this
    exact Nat.eq_of_mul_eq_mul_left hw this
  induction ds generalizing es with
  | nil => cases es with
    | nil => rfl
    | cons _ _ => simp at hl
  | cons d ds ih =>
    cases es with
    | nil => simp at hl
    | cons e es =>
      simp only [flat_cons] at h
      obtain ⟨h1, h2⟩ := List.append_inj h (by simp)
      rw [bitsN_inj (hd d (by simp)) (he e (by simp)) h1, ih h2 (fun x hx => hd x (by simp [hx])) (fun x hx => he x (by simp [hx])) (by simpa using hl)]

def nats (l : List UInt8) : List Nat := l.map UInt8.toNat
theorem nats_inj {l m : List UInt8} (h : nats l = nats m) : l = m := by
  induction l generalizing m with
  | nil => cases m <;> simp_all [nats]
  | cons a l ih =>
    cases m with
    | nil => simp [nats] at h
    | cons b m =>
      simp only [nats, List.map_cons, List.cons.injEq] at h
      rw [UInt8.toNat_inj.1 h.1, ih h.2]
theorem nats_lt (l : List UInt8) : ∀ d ∈ nats l, d < 2 ^ 8 := by
  intro d hd
  obtain ⟨c, _, rfl⟩ := List.mem_map.1 hd
  exact c.toNat_lt
def bitsOf (l : List UInt8) : List Bool := flat 8 (nats l)
@[simp] theorem bitsOf_nil : bitsOf [] = [] := rfl
theorem bitsOf_snoc (l : List UInt8) (c : UInt8) : bitsOf (l ++ [c]) = bitsOf l ++ bitsN 8 c.toNat := by simp [bitsOf, nats, flat]
theorem bitsOf_append (l m : List UInt8) : bitsOf (l ++ m) = bitsOf l ++ bitsOf m := by simp [bitsOf, nats, flat]
theorem bitsOf_len (l : List UInt8) : (bitsOf l).length = 8 * l.length := by simp [bitsOf, flat_len, nats]
theorem bitsOf_inj {l m : List UInt8} (h : bitsOf l = bitsOf m) : l = m := nats_inj (flat_inj (by decide) h (nats_lt l) (nats_lt m))

/-- ds tells l in digits of w bits: l's bits, and fewer than w bits 0 behind them -/
def Tells (w : Nat) (l : List UInt8) (ds : List Nat) : Prop :=
  (∀ d ∈ ds, d < 2 ^ w) ∧ ∃ p, p < w ∧ flat w ds = bitsOf l ++ List.replicate p false
theorem Tells.unique {w : Nat} {l : List UInt8} {ds es : List Nat} (h : Tells w l ds) (k : Tells w l es) : ds = es := by
  obtain ⟨hd, p, hp, h1⟩ := h
  obtain ⟨he, q, hq, h2⟩ := k
  have e1 := congrArg List.length h1
  have e2 := congrArg List.length h2
  simp only [flat_len, List.length_append, List.length_replicate] at e1 e2
  have hpq : p = q := by
    have a1 : (w * ds.length) % w = 0 := Nat.mul_mod_right _ _
    have a2 : (w * es.length) % w = 0 := Nat.mul_mod_right _ _
    rw [e1] at a1
    rw [e2] at a2
    rcases Nat.lt_trichotomy p q with h | h | h
    · exfalso
      have := Nat.sub_mod_eq_zero_of_mod_eq (a2.trans a1.symm)
      rw [show (bitsOf l).length + q - ((bitsOf l).length + p) = q - p from by omega, Nat.mod_eq_of_lt (by omega)] at this
      omega
    · exact h
    · exfalso
      have := Nat.sub_mod_eq_zero_of_mod_eq (a1.trans a2.symm)
      rw [show (bitsOf l).length + p - ((bitsOf l).length + q) = p - q from by omega, Nat.mod_eq_of_lt (by omega)] at this
      omega
  subst hpq
  exact flat_inj (by omega) (h1.trans h2.symm) hd he
theorem Tells.inj {w : Nat} (hw : w ≤ 8) {l m : List UInt8} {ds : List Nat} (h : Tells w l ds) (k : Tells w m ds) : l = m := by
  obtain ⟨hd, p, hp, h1⟩ := h
  obtain ⟨he, q, hq, h2⟩ := k
  have e := h1.symm.trans h2
  have el := congrArg List.length e
  simp only [List.length_append, List.length_replicate, bitsOf_len] at el
  have hl : l.length = m.length := by omega
  exact bitsOf_inj (List.append_inj e (by simp [bitsOf_len, hl])).1

/-- so many digits of w bits off a row of bits -/
def digs (w : Nat) : Nat → List Bool → List Nat
  | 0, _ => []
  | q + 1, l => num (l.take w) :: digs w q (l.drop w)
theorem flat_digs (w q : Nat) (l : List Bool) (h : l.length = w * q) : flat w (digs w q l) = l := by
  induction q generalizing l with
  | zero => simp at h; subst h; rfl
  | succ q ih =>
    rw [Nat.mul_succ] at h
    rw [digs, flat_cons, bitsN_num' (by rw [List.length_take]; omega), ih _ (by rw [List.length_drop]; omega), List.take_append_drop]
theorem digs_lt (w q : Nat) (l : List Bool) : ∀ d ∈ digs w q l, d < 2 ^ w := by
  induction q generalizing l with
  | zero => simp [digs]
  | succ q ih =>
    intro d hd
    rcases List.mem_cons.1 hd with rfl | hd
    · exact Nat.lt_of_lt_of_le (num_lt _) (Nat.pow_le_pow_right (by decide) (List.length_take_le _ _))
    · exact ih _ _ hd
/-- the digits of w bits that tell l -/
def enc (w : Nat) (l : List UInt8) : List Nat :=
  digs w ((8 * l.length + (w - 8 * l.length % w) % w) / w) (bitsOf l ++ List.replicate ((w - 8 * l.length % w) % w) false)
theorem enc_tells {w : Nat} (hw : 0 < w) (l : List UInt8) : Tells w l (enc w l) := by
  refine ⟨digs_lt _ _ _, _, Nat.mod_lt _ hw, flat_digs _ _ _ ?_⟩
  rw [List.length_append, List.length_replicate, bitsOf_len]
  have hm := Nat.mod_lt (8 * l.length) hw
  have hd := Nat.div_add_mod (8 * l.length) w
  have hz : (8 * l.length + (w - 8 * l.length % w) % w) % w = 0 := by
    by_cases h0 : 8 * l.length % w = 0
    · rw [h0, Nat.sub_zero, Nat.mod_self, Nat.add_zero, h0]
    · rw [Nat.mod_eq_of_lt (a := w - 8 * l.length % w) (by omega)]
      rw [show 8 * l.length + (w - 8 * l.length % w) = w * (8 * l.length / w) + w from by omega]
      simp
  exact (Nat.mul_div_cancel' (Nat.dvd_of_mod_eq_zero hz)).symm
theorem Tells.eq_enc {w : Nat} (hw : 0 < w) {l : List UInt8} {ds : List Nat} (h : Tells w l ds) : ds = enc w l := h.unique (enc_tells hw l)

/-- the text of digits -/
def text (sg : Nat → UInt8) (ds : List Nat) : List UInt8 := ds.map sg
theorem text_inj {sg : Nat → UInt8} {w : Nat} (hsg : ∀ a b, a < 2 ^ w → b < 2 ^ w → sg a = sg b → a = b) {ds es : List Nat} (hd : ∀ d ∈ ds, d < 2 ^ w) (he : ∀ d ∈ es, d < 2 ^ w) (h : text sg ds = text sg es) : ds = es := by
  induction ds generalizing es with
  | nil => cases es <;> simp_all [text]
  | cons d ds ih =>
    cases es with
    | nil => simp [text] at h
    | cons e es =>
      simp only [text, List.map_cons, List.cons.injEq] at h
      rw [hsg d e (hd d (by simp)) (he e (by simp)) h.1, ih (fun x hx => hd x (by simp [hx])) (fun x hx => he x (by simp [hx])) h.2]

end Go.Proofs.YtddihhpahghajaaDoor.pl
