/- Several texts in one: Ref1, Ref3, Ref4, Ref5. Conditions: as each theorem says. -/
import Derived.Test.YtjadginnaogjoaaGreatDoorOctA
import Derived.Deep.RegionWith
import Derived.WalkSmall
namespace Go.Proofs.YtjadginnaogjoaaGreatDoor.ref
set_option maxRecDepth 100000
open Go.RowKit
open Go.Proofs.YtjadginnaogjoaaGreatDoor.pl Go.Proofs.YtjadginnaogjoaaGreatDoor.oct
open Go.Lib (byteCells)

theorem text_congr {sg sg' : Nat → UInt8} {ds : List Nat} (h : ∀ d ∈ ds, sg d = sg' d) : text sg ds = text sg' ds := List.map_congr_left h
theorem text6w (l : List UInt8) : text (sg6 true) (enc 6 l) = webT l := text_congr fun d hd => webS_sg6 d ((enc_tells (w := 6) (by decide) l).1 d hd)
theorem text6b (l : List UInt8) : text (sg6 false) (enc 6 l) = basB l := text_congr fun d hd => basS_sg6 d ((enc_tells (w := 6) (by decide) l).1 d hd)

set_option maxHeartbeats 400000 in
theorem rweb_c (p : Option Addr) (cp : Nat) (l : List UInt8) (w : World) (hp : In8 w p l) (hl : l.length ≤ 2097152) :
    Calls Tryz.prog 31 #[.slice p l.length cp] w fun e w' => e = .returned (.string ⟨(webT l).toArray⟩) ∧ Below w.heap.size w w' := by
  have h := sixes_c p cp l true w hp hl
  rw [text6w] at h
  have H := Lib.hid h
  clear h
  go_enter Tryz.func31, Tryz.ntmps31
  go_wp2_with (go_at_call 48; refine H.out.mono ?_; rintro e w1 ⟨rfl, hb⟩)
  go_ret
  exact ⟨rfl, hb⟩

theorem lack_go (n j : Nat) (h : j < lack n) : (((n + j : Nat) : Int) % 4 != 0) = true := by rw [bne_iff_ne]; unfold lack at h; omega
theorem lack_end (n : Nat) : (((n + lack n : Nat) : Int) % 4 != 0) = false := by rw [bne_eq_false_iff_eq]; unfold lack; omega

/-- two signs a byte -/
def two (c : UInt8) : List UInt8 := [UInt8.ofNat (dig ((c.toNat : Int) / 16)).toNat, UInt8.ofNat (dig ((c.toNat : Int) % 16)).toNat]
theorem dig_u8 (a : Nat) (h : a < 16) : ∃ x : UInt8, dig (a : Int) = (x.toNat : Int) := by
  refine ⟨UInt8.ofNat (dig (a : Int)).toNat, ?_⟩
  rw [UInt8.toNat_ofNat']
  unfold dig
  split <;> omega
def hexR (l : List UInt8) : List UInt8 := l.flatMap two

end Go.Proofs.YtjadginnaogjoaaGreatDoor.ref

namespace Go.Proofs.YtjadginnaogjoaaGreatDoor.ref
set_option maxRecDepth 100000
open Go.Proofs.YtjadginnaogjoaaGreatDoor.pl Go.Proofs.YtjadginnaogjoaaGreatDoor.oct

/-- the last n below N whose sign is c; 0, if there is none -/
def valTo (web : Bool) (c : UInt8) : Nat → Nat
  | 0 => 0
  | n + 1 => if sg6 web n = c then n else valTo web c n
def val (web : Bool) (c : UInt8) : Nat := valTo web c 64
theorem valTo_lt (web : Bool) (c : UInt8) (N : Nat) (h : N ≤ 64) : valTo web c N < 64 := by
  induction N with
  | zero => exact Nat.zero_lt_succ _
  | succ n ih =>
    unfold valTo
    split
    · omega
    · exact ih (by omega)
theorem sg6_inj (web : Bool) : ∀ a b, a < 2 ^ 6 → b < 2 ^ 6 → sg6 web a = sg6 web b → a = b := by
  intro a b ha hb h
  cases web
  · rw [basS_sg6 a ha, basS_sg6 b hb] at h; exact basS_inj a b ha hb h
  · rw [webS_sg6 a ha, webS_sg6 b hb] at h; exact webS_inj a b ha hb h
theorem valTo_sg (web : Bool) (d : Nat) (hd : d < 64) (N : Nat) (h1 : d < N) (h2 : N ≤ 64) : valTo web (sg6 web d) N = d := by
  induction N with
  | zero => omega
  | succ n ih =>
    unfold valTo
    by_cases hn : n = d
    · subst hn; simp
    · rw [if_neg (fun h => hn (sg6_inj web n d (by omega) hd h))]
      exact ih (by omega) (by omega)
theorem val_sg (web : Bool) (d : Nat) (hd : d < 64) : val web (sg6 web d) = d := valTo_sg web d hd 64 hd (Nat.le_refl _)
theorem val_text (web : Bool) (ds : List Nat) (h : ∀ d ∈ ds, d < 64) : (text (sg6 web) ds).map (val web) = ds := by
  induction ds with
  | nil => rfl
  | cons d ds ih =>
    simp only [text, List.map_cons]
    rw [val_sg web d (h d (by simp))]
    congr 1
    exact ih fun x hx => h x (by simp [hx])

/-- the bits that signs have -/
def sbits (web : Bool) (s : List UInt8) : List Bool := flat 6 (s.map (val web))
theorem sbits_len (web : Bool) (s : List UInt8) : (sbits web s).length = 6 * s.length := by rw [sbits, flat_len, List.length_map]
theorem sbits_snoc (web : Bool) (s : List UInt8) (c : UInt8) : sbits web (s ++ [c]) = sbits web s ++ bitsN 6 (val web c) := by rw [sbits, List.map_append, flat_append]; simp [sbits]
/-- the whole bytes of bits -/
def octs (q : Nat) (L : List Bool) : List UInt8 := (digs 8 q L).map UInt8.ofNat
theorem octs_len (q : Nat) (L : List Bool) : (octs q L).length = q := by
  unfold octs
  rw [List.length_map]
  induction q generalizing L with
  | zero => rfl
  | succ q ih => simp [digs, ih]
theorem octs_bits (l : List UInt8) (r : List Bool) : octs l.length (bitsOf l ++ r) = l := by
  induction l with
  | nil => rfl
  | cons c l ih =>
    have e : bitsOf (c :: l) = bitsN 8 c.toNat ++ bitsOf l := by simp [bitsOf, nats]
    have hc := c.toNat_lt
    unfold octs at ih ⊢
    rw [List.length_cons, digs, e, List.append_assoc, List.take_append_of_le_length (by simp), List.drop_append_of_le_length (by simp)]
    rw [List.take_of_length_le (by simp), List.drop_of_length_le (by simp), List.nil_append, List.map_cons, ih, num_bitsN, Nat.mod_eq_of_lt hc]
    simp
def unsix (web : Bool) (s : List UInt8) : List UInt8 := octs (6 * s.length / 8) (sbits web s)
theorem unsix_text (web : Bool) (l : List UInt8) : unsix web (text (sg6 web) (enc 6 l)) = l := by
  obtain ⟨hd, p, hp, hf⟩ := enc_tells (w := 6) (by decide) l
  have hlen := congrArg List.length hf
  rw [flat_len, List.length_append, bitsOf_len, List.length_replicate] at hlen
  unfold unsix sbits
  rw [val_text web _ hd, hf, text_len, hlen, show (8 * l.length + p) / 8 = l.length from by omega]
  exact octs_bits l _
theorem unsix_len (web : Bool) (s : List UInt8) : (unsix web s).length = 6 * s.length / 8 := octs_len _ _
theorem digs_snoc8 (k : Nat) (L : List Bool) : octs (k + 1) L = octs k L ++ [UInt8.ofNat (num ((L.drop (8 * k)).take 8))] := by
  unfold octs; rw [digs_take, List.map_append]; rfl

theorem bit6_at (c j : Nat) (h : j < 6) : (bitsN 6 c).take (j + 1) = (bitsN 6 c).take j ++ [((c : Int) / ((32 / 2 ^ j : Nat) : Int) % 2 == 1)] := by
  have e : ((c : Int) / ((32 / 2 ^ j : Nat) : Int) % 2 == 1) = (c / (32 / 2 ^ j) % 2 == 1) := by
    rw [Bool.eq_iff_iff, beq_iff_eq, beq_iff_eq]
    rw [← Int.natCast_ediv]; omega
  rw [e]
  have : j = 0 ∨ j = 1 ∨ j = 2 ∨ j = 3 ∨ j = 4 ∨ j = 5 := by omega
  rcases this with rfl | rfl | rfl | rfl | rfl | rfl <;> (simp [bitsN] <;> rfl)
theorem half6_at (j : Nat) (h : j < 6) : 32 / 2 ^ j / 2 = 32 / 2 ^ (j + 1) ∧ 1 ≤ 32 / 2 ^ j ∧ 32 / 2 ^ j ≤ 32 := by
  have : j = 0 ∨ j = 1 ∨ j = 2 ∨ j = 3 ∨ j = 4 ∨ j = 5 := by omega
  rcases this with rfl | rfl | rfl | rfl | rfl | rfl <;> simp
end Go.Proofs.YtjadginnaogjoaaGreatDoor.ref

namespace Go.Proofs.YtjadginnaogjoaaGreatDoor.ref
set_option maxRecDepth 100000
open Go.RowKit
open Go.Proofs.YtjadginnaogjoaaGreatDoor.pl Go.Proofs.YtjadginnaogjoaaGreatDoor.oct
open Go.Lib (byteCells)

theorem sign_q (n : Nat) (web : Bool) (h1 : n < 64) (w : World) :
    Calls Tryz.prog 66 #[.int .i64 n, .bool web] w fun e w' => e = .returned (.int .u8 ((sg6 web n).toNat : Int)) ∧ w' = w := by
  rw [← sgn_sg6 n web h1]
  exact (sign_c n web (by omega) (by omega) w).mono fun e w' ⟨a, b⟩ => ⟨a, b.symm⟩
theorem quo_bd6 (c h : Nat) (hc : c < 64) : 0 ≤ (c : Int) / (h : Int) ∧ (c : Int) / (h : Int) ≤ 63 := by
  have h1 : ((c / h : Nat) : Int) = (c : Int) / (h : Int) := Int.natCast_ediv c h
  have h2 : c / h ≤ 63 := Nat.le_trans (Nat.div_le_self c h) (by omega)
  rw [← h1]
  exact ⟨Int.natCast_nonneg _, Int.ofNat_le.2 h2⟩

theorem own_mono {w : World} {B B' e n : Nat} {v : Value} {xs : List Value} (h : w.ownsRow B e 1 v n xs) (hB : B' ≤ B) : w.ownsRow B' e 1 v n xs := by
  refine ⟨h.1, ?_⟩
  rcases h.2 with h2 | ⟨g, cap, cur, h1, h2, h3⟩
  · exact Or.inl h2
  · exact Or.inr ⟨g, cap, cur, h1, by omega, h3⟩

end Go.Proofs.YtjadginnaogjoaaGreatDoor.ref

namespace Go.Proofs.YtjadginnaogjoaaGreatDoor.ref
set_option maxRecDepth 100000
open Go.RowKit
open Go.Proofs.YtjadginnaogjoaaGreatDoor.pl Go.Proofs.YtjadginnaogjoaaGreatDoor.oct
open Go.Lib (byteCells)

theorem unsix_web {o s : List UInt8} (h : webT o = s) : unsix true s = o := by rw [← h, ← text6w, unsix_text]
theorem unsix_bas (o : List UInt8) : unsix false (basB o) = o := by rw [← text6b, unsix_text]

theorem basB_lack (l : List UInt8) : lack (basB l).length ≤ 2 := by rw [basB_len, lack]; omega
/-- s without its last k signs, read: what k must be -/
theorem bas_at {o s : List UInt8} (h : basT o = s) : lack (basB o).length ≤ 2 ∧ lack (basB o).length ≤ s.length ∧ unsix false (s.take (s.length - lack (basB o).length)) = o := by
  refine ⟨basB_lack o, ?_, ?_⟩
  · rw [← h, basT, List.length_append, List.length_replicate]; omega
  · rw [← h, basT, List.length_append, List.length_replicate, Nat.add_sub_cancel, List.take_left, unsix_bas]

theorem ba_of {a : ByteArray} {l : List UInt8} (h : a.data.toList = l) : a = ⟨l.toArray⟩ := by subst h; simp
theorem cut_to (l : List UInt8) (n : Nat) : (⟨l.toArray⟩ : ByteArray).extract 0 n = ⟨(l.take n).toArray⟩ := ba_of (by rw [Lib.extract_data]; simp)

end Go.Proofs.YtjadginnaogjoaaGreatDoor.ref
