/- Several texts in one: Ref1, Ref3, Ref4, Ref5. Conditions: as each theorem says. -/
import Derived.Test.YthagdkipipldlaaGreatDoorOctA
import Derived.Deep.RegionWith
import Derived.WalkSmall
namespace Go.Proofs.YthagdkipipldlaaGreatDoor.ref
set_option maxRecDepth 100000
open Go.RowKit
open Go.Proofs.YthagdkipipldlaaGreatDoor.pl Go.Proofs.YthagdkipipldlaaGreatDoor.oct
open Go.Lib (byteCells)

theorem text_congr {sg sg' : Nat → UInt8} {ds : List Nat} (h : ∀ d ∈ ds, sg d = sg' d) : text sg ds = text sg' ds := List.map_congr_left h
theorem text6w (l : List UInt8) : text (sg6 true) (enc 6 l) = webT l := text_congr fun d hd => webS_sg6 d ((enc_tells (w := 6) (by decide) l).1 d hd)
theorem text6b (l : List UInt8) : text (sg6 false) (enc 6 l) = basB l := text_congr fun d hd => basS_sg6 d ((enc_tells (w := 6) (by decide) l).1 d hd)

set_option maxHeartbeats 400000 in
theorem rweb_c (p : Option Addr) (cp : Nat) (l : List UInt8) (w : World) (hp : In8 w p l) (hl : l.length ≤ 2097152) :
    Calls Tryz.prog 115 #[.slice p l.length cp] w fun e w' => e = .returned (.string ⟨(webT l).toArray⟩) ∧ Below w.heap.size w w' := by
  have h := sixes_c p cp l true w hp hl
  rw [text6w] at h
  have H := Lib.hid h
  clear h
  go_enter Tryz.func115, Tryz.ntmps115
  go_wp2_with (go_at_call 144; refine H.out.mono ?_; rintro e w1 ⟨rfl, hb⟩)
  go_ret
  exact ⟨rfl, hb⟩

theorem lack_go (n j : Nat) (h : j < lack n) : (((n + j : Nat) : Int) % 4 != 0) = true := by rw [bne_iff_ne]; unfold lack at h; omega
theorem lack_end (n : Nat) : (((n + lack n : Nat) : Int) % 4 != 0) = false := by rw [bne_eq_false_iff_eq]; unfold lack; omega

/-- two signs a byte -/
def two (c : UInt8) : List UInt8 := [UInt8.ofNat (dig ((c.toNat : Int) / 16)).toNat, UInt8.ofNat (dig ((c.toNat : Int) % 16)).toNat]
theorem dig_u8 (a : Nat) (h : a < 16) : ∃ x : UInt8, dig (a : Int) = (x.toNat : Int) := by
  refine ⟨UInt8.ofNat (dig (a : Int)).toNat, ?_⟩
  rw [UInt8.toNat_ofNat']
  unfold dig
  split <;> omega
def hexR (l : List UInt8) : List UInt8 := l.flatMap two

end Go.Proofs.YthagdkipipldlaaGreatDoor.ref

namespace Go.Proofs.YthagdkipipldlaaGreatDoor.ref
set_option maxRecDepth 100000
open Go.Proofs.YthagdkipipldlaaGreatDoor.pl Go.Proofs.YthagdkipipldlaaGreatDoor.oct

/-- the last n below N whose sign is c; 0, if there is none -/
def valTo (web : Bool) (c : UInt8) : Nat → Nat
  | 0 => 0
  | n + 1 => if sg6 web n = c then n else valTo web c n
def val (web : Bool) (c : UInt8) : Nat := valTo web c 64
theorem valTo_lt (web : Bool) (c : UInt8) (N : Nat) (h : N ≤ 64) : valTo web c N < 64 := by
  induction N with
  | zero => exact Nat.zero_lt_succ _
  | succ n ih =>
    unfold valTo
    split
    · omega
    · exact ih (by omega)
theorem sg6_inj (web : Bool) : ∀ a b, a < 2 ^ 6 → b < 2 ^ 6 → sg6 web a = sg6 web b → a = b := by
  intro a b ha hb h
  cases web
  · rw [basS_sg6 a ha, basS_sg6 b hb] at h; exact basS_inj a b ha hb h
  · rw [webS_sg6 a ha, webS_sg6 b hb] at h; exact webS_inj a b ha hb h
theorem valTo_sg (web : Bool) (d : Nat) (hd : d < 64) (N : Nat) (h1 : d < N) (h2 : N ≤ 64) : valTo web (sg6 web d) N = d := by
  induction N with
  | zero => omega
  | succ n ih =>
    unfold valTo
    by_cases hn : n = d
    · subst hn; simp
    · rw [if_neg (fun h => hn (sg6_inj web n d (by omega) hd h))]
      exact ih (by omega) (by omega)
theorem val_sg (web : Bool) (d : Nat) (hd : d < 64) : val web (sg6 web d) = d := valTo_sg web d hd 64 hd (Nat.le_refl _)
theorem val_text (web : Bool) (ds : List Nat) (h : ∀ d ∈ ds, d < 64) : (text (sg6 web) ds).map (val web) = ds := by
  induction ds with
  | nil => rfl
  | cons d ds ih =>
    simp only [text, List.map_cons]
    rw [val_sg web d (h d (by simp))]
    congr 1
    exact ih fun x hx => h x (by simp [hx])

/-- the bits that signs have -/
def sbits (web : Bool) (s : List UInt8) : List Bool := flat 6 (s.map (val web))
theorem sbits_len (web : Bool) (s : List UInt8) : (sbits web s).length = 6 * s.length := by rw [sbits, flat_len, List.length_map]
theorem sbits_snoc (web : Bool) (s : List UInt8) (c : UInt8) : sbits web (s ++ [c]) = sbits web s ++ bitsN 6 (val web c) := by rw [sbits, List.map_append, flat_append]; simp [sbits]
/-- the whole bytes of bits -/
def octs (q : Nat) (L : List Bool) : List UInt8 := (digs 8 q L).map UInt8.ofNat
theorem octs_len (q : Nat) (L : List Bool) : (octs q L).length = q := by
  unfold octs
  rw [List.length_map]
  induction q generalizing L with
  | zero => rfl
  | succ q ih => simp [digs, ih]
theorem octs_bits (l : List UInt8) (r : List Bool) : octs l.length (bitsOf l ++ r) = l := by
  induction l with
  | nil => rfl
  | cons c l ih =>
    have e : bitsOf (c :: l) = bitsN 8 c.toNat ++ bitsOf l := by simp [bitsOf, nats]
    have hc := c.toNat_lt
    unfold octs at ih ⊢
    rw [List.length_cons, digs, e, List.append_assoc, List.take_append_of_le_length (by simp), List.drop_append_of_le_length (by simp)]
    rw [List.take_of_length_le (by simp), List.drop_of_length_le (by simp), List.nil_append, List.map_cons, ih, num_bitsN, Nat.mod_eq_of_lt hc]
    simp
def unsix (web : Bool) (s : List UInt8) : List UInt8 := octs (6 * s.length / 8) (sbits web s)
theorem unsix_text (web : Bool) (l : List UInt8) : unsix web (text (sg6 web) (enc 6 l)) = l := by
  obtain ⟨hd, p, hp, hf⟩ := enc_tells (w := 6) (by decide) l
  have hlen := congrArg List.length hf
  rw [flat_len, List.length_append, bitsOf_len, List.length_replicate] at hlen
  unfold unsix sbits
  rw [val_text web _ hd, hf, text_len, hlen, show (8 * l.length + p) / 8 = l.length from by omega]
  exact octs_bits l _
theorem unsix_len (web : Bool) (s : List UInt8) : (unsix web s).length = 6 * s.length / 8 := octs_len _ _
theorem digs_snoc8 (k : Nat) (L : List Bool) : octs (k + 1) L = octs k L ++ [UInt8.ofNat (num ((L.drop (8 * k)).take 8))] := by
  unfold octs; rw [digs_take, List.map_append]; rfl

theorem bit6_at (c j : Nat) (h : j < 6) : (bitsN 6 c).take (j + 1) = (bitsN 6 c).take j ++ [((c : Int) / ((32 / 2 ^ j : Nat) : Int) % 2 == 1)] := by
  have e : ((c : Int) / ((32 / 2 ^ j : Nat) : Int) % 2 == 1) = (c / (32 / 2 ^ j) % 2 == 1) := by
    rw [Bool.eq_iff_iff, beq_iff_eq, beq_iff_eq]
    rw [← Int.natCast_ediv]; omega
  rw [e]
  have : j = 0 ∨ j = 1 ∨ j = 2 ∨ j = 3 ∨ j = 4 ∨ j = 5 := by omega
  rcases this with rfl | rfl | rfl | rfl | rfl | rfl <;> (simp [bitsN] <;> rfl)
theorem half6_at (j : Nat) (h : j < 6) : 32 / 2 ^ j / 2 = 32 / 2 ^ (j + 1) ∧ 1 ≤ 32 / 2 ^ j ∧ 32 / 2 ^ j ≤ 32 := by
  have : j = 0 ∨ j = 1 ∨ j = 2 ∨ j = 3 ∨ j = 4 ∨ j = 5 := by omega
  rcases this with rfl | rfl | rfl | rfl | rfl | rfl <;> simp
end Go.Proofs.YthagdkipipldlaaGreatDoor.ref

namespace Go.Proofs.YthagdkipipldlaaGreatDoor.ref
set_option maxRecDepth 100000
open Go.RowKit
open Go.Proofs.YthagdkipipldlaaGreatDoor.pl Go.Proofs.YthagdkipipldlaaGreatDoor.oct
open Go.Lib (byteCells)

theorem sign_q (n : Nat) (web : Bool) (h1 : n < 64) (w : World) :
    Calls Tryz.prog 152 #[.int .i64 n, .bool web] w fun e w' => e = .returned (.int .u8 ((sg6 web n).toNat : Int)) ∧ w' = w := by
  rw [← sgn_sg6 n web h1]
  exact (sign_c n web (by omega) (by omega) w).mono fun e w' ⟨a, b⟩ => ⟨a, b.symm⟩
theorem quo_bd6 (c h : Nat) (hc : c < 64) : 0 ≤ (c : Int) / (h : Int) ∧ (c : Int) / (h : Int) ≤ 63 := by
  have h1 : ((c / h : Nat) : Int) = (c : Int) / (h : Int) := Int.natCast_ediv c h
  have h2 : c / h ≤ 63 := Nat.le_trans (Nat.div_le_self c h) (by omega)
  rw [← h1]
  exact ⟨Int.natCast_nonneg _, Int.ofNat_le.2 h2⟩

theorem own_mono {w : World} {B B' e n : Nat} {v : Value} {xs : List Value} (h : w.ownsRow B e 1 v n xs) (hB : B' ≤ B) : w.ownsRow B' e 1 v n xs := by
  refine ⟨h.1, ?_⟩
  rcases h.2 with h2 | ⟨g, cap, cur, h1, h2, h3⟩
  · exact Or.inl h2
  · exact Or.inr ⟨g, cap, cur, h1, by omega, h3⟩

set_option maxHeartbeats 4000000 in
theorem unsixes_c (s : ByteArray) (web : Bool) (w : World) (hs : s.size ≤ 1048576) :
    Calls Tryz.prog 129 #[.string s, .bool web] w fun e w' =>
      ∃ v, e = .returned v ∧ w'.ownsRow w.heap.size 5 1 v (unsix web s.data.toList).length (byteCells (unsix web s.data.toList)) ∧ Below w.heap.size w w' := by
  obtain ⟨i0, hi, hz0, hz1, hz2⟩ := info_parts infoBool
  obtain ⟨j0, hj, hy0, hy1, hy2⟩ := info_parts infoByte
  have HSL : Hid (s.data.toList.length = s.size) := by show _ = _; rw [Array.length_toList]; rfl
  go_enter Tryz.func129, Tryz.ntmps129
  go_wp2_with fail
  go_loopg [5, 6] s.size (fun g s5 s6 wx => ∃ k : Nat, k + g = s.size ∧ s6 = .int .i64 k ∧ wx.ownsRow w.heap.size 4 1 s5 (sbits web (s.data.toList.take k)).length (bools (sbits web (s.data.toList.take k))) ∧ Below w.heap.size w wx)
  case atStart => exact ⟨0, by omega, rfl, World.ownsRow_nil _ _ _ _, Below.refl _ _⟩
  case round =>
    obtain ⟨k, hkg, rfl, hrow, hbx⟩ := hrel
    cases gk with
    | zero =>
      have hkz : ¬ ((k : Int) < (s.size : Int)) := by omega
      have HK : Hid (s.data.toList.take k = s.data.toList) := List.take_of_length_le (by rw [HSL.out]; omega)
      rw [HK.out] at hrow
      have HL : Hid ((sbits web s.data.toList).length = 6 * s.size) := by show _ = _; rw [sbits_len, HSL.out]
      have HU : Hid (unsix web s.data.toList = octs (6 * s.size / 8) (sbits web s.data.toList)) := by show _ = _; unfold unsix; rw [HSL.out]
      obtain ⟨L, hL⟩ : ∃ L, sbits web s.data.toList = L := ⟨_, rfl⟩
      rw [hL] at hrow HL HU
      clear hL
      obtain ⟨_, p5, c5, rfl, hcap, _, hin⟩ := own_inB hrow
      have hLb : L.length ≤ 6300000 := by rw [HL.out]; omega
      obtain ⟨q, hq⟩ : ∃ q, 6 * s.size / 8 = q := ⟨_, rfl⟩
      rw [hq] at HU
      have HQ : Hid (8 * q ≤ L.length ∧ L.length < 8 * q + 8) := by show _ ∧ _; rw [HL.out]; omega
      have hqb : q ≤ 800000 := by have := HQ.out; omega
      clear hq hrow
      go_wp2_with fail
      obtain ⟨wo, rfl⟩ : ∃ wo : World, wo = wr := ⟨_, rfl⟩
      have HO := Lib.hid hbx
      have HI := Lib.hid hin
      clear hbx hin
      go_loopg [10, 11] q (fun g s10 s11 wy => ∃ j : Nat, j + g = q ∧ s11 = .int .i64 ((8 * j : Nat) : Int) ∧ wy.ownsRow wo.heap.size 5 1 s10 j (byteCells (octs j L)) ∧ Below wo.heap.size wo wy)
      case atStart => exact ⟨0, by omega, rfl, World.ownsRow_nil _ _ _ _, Below.refl _ _⟩
      case round =>
        obtain ⟨j, hjg, rfl, hrow, hbx⟩ := hrel
        cases gk with
        | zero =>
          obtain rfl : j = q := by omega
          have hz : ¬ (((8 * j : Nat) : Int) + 8 ≤ ((L.length : Nat) : Int)) := by have := HQ.out; omega
          have hown : wr.ownsRow w.heap.size 5 1 u10 (unsix web s.data.toList).length (byteCells (unsix web s.data.toList)) := by
            rw [HU.out, octs_len]
            exact own_mono hrow HO.out.size
          have HW := Lib.hid hown
          clear hown hrow
          go_wp2_with fail
          go_ret
          exact ⟨_, rfl, HW.out, HO.out.trans (hbx.mono HO.out.size)⟩
        | succ g =>
          have hz : ((8 * j : Nat) : Int) + 8 ≤ ((L.length : Nat) : Int) := by have := HQ.out; omega
          have hz8 : 8 * j + 8 ≤ L.length := by have := HQ.out; omega
          obtain ⟨b, o, rfl, hc⟩ := HI.out (by omega)
          have hlt : b < wo.heap.size := cell_lt (hc 0 (by omega))
          have hM : Hid (((L.drop (8 * j)).take 8).length = 8) := by show _ = _; rw [List.length_take, List.length_drop]; omega
          have hin8 : InB wr (some ⟨b, o + 8 * j, none⟩) ((L.drop (8 * j)).take 8) := fun _ => ⟨b, o + 8 * j, rfl, fun i hi => by
            rw [hM.out] at hi
            rw [show o + 8 * j + i = o + (8 * j + i) from by omega, hbx.cell (p := ⟨b, o + (8 * j + i), none⟩) hlt, hc (8 * j + i) (by omega)]
            simp [List.getD, hi]⟩
          have cN := number_c _ (c5 - 8 * j) _ wr hin8 (by rw [hM.out]; omega)
          rw [hM.out] at cN
          have CN := Lib.hid cN
          have HD := Lib.hid (digs_snoc8 j L)
          have hd256 : num ((L.drop (8 * j)).take 8) < 256 := by have := num_lt ((L.drop (8 * j)).take 8); rw [hM.out] at this; omega
          obtain ⟨d, hd⟩ : ∃ d, num ((L.drop (8 * j)).take 8) = d := ⟨_, rfl⟩
          rw [hd] at CN HD hd256
          have hmod : (d : Int) % 256 = (d : Int) := by omega
          have HB : Hid (byteCells (octs (j + 1) L) = byteCells (octs j L) ++ [.int .u8 (d : Int)]) := by show _ = _; rw [HD.out, byteCells_snoc, UInt8.toNat_ofNat', Nat.mod_eq_of_lt (by omega)]
          clear cN hin8 hc hd
          go_wp2_with (first
            | (go_at_call 153; refine CN.out.mono ?_; rintro e w2 ⟨rfl, rfl⟩)
            | (at_builtin; refine wpList_append_own _ rfl _ _ 125 rfl wo.heap.size 5 j0 (.int .u8 0) 1 1 Tryz.underlying125 hj hy0 hy1 hy2 rfl (by decide) _ _ _ rfl (hrow.alloc _) ⟨wr.heap.size, 0, none⟩ 1 1 [.int .u8 (d : Int)] rfl rfl (cell_one_new _ _ _) (fun x hx => by simp at hx; subst hx; rfl) (by unfold maxLen; omega) (by omega) (by have := hbx.size; simp; omega) ?_; intro v' w1 hown' hgrow _))
          go_roundg g
          case measure => omega
          case rel =>
            refine ⟨j + 1, by omega, by go_num, ?_, (hbx.alloc hbx.size _).grown hgrow (by have := hbx.size; simp; omega) (fun q hq => (hrow.lt q hq).1)⟩
            rw [HB.out]
            exact hown'
    | succ g =>
      have hkz : (k : Int) < (s.size : Int) := by omega
      have hks : k < s.size := by omega
      obtain ⟨c, hc⟩ : ∃ c, s[k] = c := ⟨_, rfl⟩
      have HT : Hid (sbits web (s.data.toList.take (k + 1)) = sbits web (s.data.toList.take k) ++ bitsN 6 (val web c)) := by
        show _ = _
        rw [List.take_succ_eq_append_getElem (show k < s.data.toList.length by rw [HSL.out]; exact hks), sbits_snoc, ← hc]; rfl
      have HL : Hid ((sbits web (s.data.toList.take k)).length = 6 * k) := by show _ = _; rw [sbits_len, List.length_take, HSL.out]; omega
      obtain ⟨L, hL⟩ : ∃ L, sbits web (s.data.toList.take k) = L := ⟨_, rfl⟩
      rw [hL] at hrow HL HT
      clear hL
      go_wp2_with fail
      go_loopg [7, 8] 64 (fun g2 s7 s8 wy => ∃ n : Nat, n + g2 = 64 ∧ s8 = .int .i64 n ∧ s7 = .int .i64 ((valTo web c n : Nat) : Int) ∧ wy.ownsRow w.heap.size 4 1 u5 L.length (bools L) ∧ Below w.heap.size w wy)
      case atStart => exact ⟨0, by omega, rfl, rfl, hrow, hbx⟩
      case round =>
        clear hrow hbx
        obtain ⟨n, hng, rfl, rfl, hrow, hbx⟩ := hrel
        cases gk with
        | zero =>
          obtain rfl : n = 64 := by omega
          have hv64 := valTo_lt web c 64 (Nat.le_refl _)
          have HT2 : Hid (sbits web (s.data.toList.take (k + 1)) = L ++ bitsN 6 (valTo web c 64)) := HT.out
          obtain ⟨V, hV⟩ : ∃ V, valTo web c 64 = V := ⟨_, rfl⟩
          rw [hV] at hv64 HT2 ⊢
          clear hV HT
          go_wp2_with fail
          go_loopg [5, 9] 6 (fun g3 s5 s9 wz => ∃ j : Nat, j + g3 = 6 ∧ s9 = .int .i64 ((32 / 2 ^ j : Nat) : Int) ∧ wz.ownsRow w.heap.size 4 1 s5 (L ++ (bitsN 6 V).take j).length (bools (L ++ (bitsN 6 V).take j)) ∧ Below w.heap.size w wz)
          case atStart => exact ⟨0, by omega, rfl, by simpa using hrow, hbx⟩
          case round =>
            clear hrow hbx
            obtain ⟨j, hjg, rfl, hrow, hbx⟩ := hrel
            cases gk with
            | zero =>
              obtain rfl : j = 6 := by omega
              go_wp2_with fail
              go_roundg g
              case measure => omega
              case rel =>
                refine ⟨k + 1, by omega, by go_num, ?_, hbx⟩
                rw [HT2.out]
                rwa [show (bitsN 6 V).take 6 = bitsN 6 V from List.take_of_length_le (by simp)] at hrow
            | succ g3 =>
              obtain ⟨h1, h2, h3⟩ := half6_at j (by omega)
              have HB := Lib.hid (bit6_at V j (by omega))
              obtain ⟨q1, q2⟩ := quo_bd6 V (32 / 2 ^ j) hv64
              obtain ⟨hv, hhv⟩ : ∃ hv, 32 / 2 ^ j = hv := ⟨_, rfl⟩
              rw [hhv] at h1 h2 h3 HB q1 q2 ⊢
              have hlen : (L ++ (bitsN 6 V).take j).length ≤ 20000000 := by rw [List.length_append, HL.out, List.length_take]; omega
              have H1 := Lib.hid h1
              clear h1 hhv
              go_wp2_with (first
                | (at_builtin; refine wpList_append_own _ rfl _ _ 190 rfl w.heap.size 4 i0 (.bool false) 1 1 Tryz.underlying190 hi hz0 hz1 hz2 rfl (by decide) _ _ _ rfl (hrow.alloc _) ⟨wr.heap.size, 0, none⟩ 1 1 [.bool ((V : Int) / (hv : Int) % 2 == 1)] rfl rfl (cell_one_new _ _ _) (fun x hx => by simp at hx; subst hx; rfl) (by unfold maxLen; omega) (by omega) (by have := hbx.size; simp; omega) ?_; intro v' w1 hown' hgrow _))
              go_roundg g3
              case measure => omega
              case rel =>
                refine ⟨j + 1, by omega, ?_, ?_, (hbx.alloc hbx.size _).grown hgrow (by have := hbx.size; simp; omega) (fun q hq => (hrow.lt q hq).1)⟩
                · rw [← H1.out]; simp
                · rw [HB.out, ← List.append_assoc, bools_snoc, List.length_append]
                  exact hown'
        | succ g2 =>
          have hn : n < 64 := by omega
          by_cases he : sg6 web n = c
          · have hb : (((sg6 web n).toNat : Int) == (s[k].toNat : Int)) = true := by rw [hc, he]; simp
            have HV : Hid (valTo web c (n + 1) = n) := by show _ = _; unfold valTo; rw [if_pos he]
            have HC := Lib.hid hc
            clear he hc
            go_wp2_with fail
            go_quiet ((go_at_call 152; exact Calls.quiet_of_same (sign_q n web hn _)))
            go_wp2_with fail
            go_roundg g2
            case measure => omega
            case rel => exact ⟨n + 1, by omega, by go_num, by rw [HV.out], hrow, below_drewN hbx _⟩
          · have hb : (((sg6 web n).toNat : Int) == (s[k].toNat : Int)) = false := by
              rw [hc, beq_eq_false_iff_ne]
              intro h; exact he (UInt8.toNat_inj.1 (by omega))
            have HV : Hid (valTo web c (n + 1) = valTo web c n) := by show _ = _; rw [valTo, if_neg he]
            have HC := Lib.hid hc
            clear he hc
            go_wp2_with fail
            go_quiet ((go_at_call 152; exact Calls.quiet_of_same (sign_q n web hn _)))
            go_wp2_with fail
            go_roundg g2
            case measure => omega
            case rel => exact ⟨n + 1, by omega, by go_num, by rw [HV.out], hrow, below_drewN hbx _⟩
end Go.Proofs.YthagdkipipldlaaGreatDoor.ref

namespace Go.Proofs.YthagdkipipldlaaGreatDoor.ref
set_option maxRecDepth 100000
open Go.RowKit
open Go.Proofs.YthagdkipipldlaaGreatDoor.pl Go.Proofs.YthagdkipipldlaaGreatDoor.oct
open Go.Lib (byteCells)

theorem unsix_web {o s : List UInt8} (h : webT o = s) : unsix true s = o := by rw [← h, ← text6w, unsix_text]
theorem unsix_bas (o : List UInt8) : unsix false (basB o) = o := by rw [← text6b, unsix_text]

set_option maxHeartbeats 1000000 in
theorem runweb_c (s : ByteArray) (w : World) (hs : s.size ≤ 1048576) :
    Calls Tryz.prog 102 #[.string s] w (ReadT webT s.data.toList w) := by
  have hsl : s.data.toList.length = s.size := by rw [Array.length_toList]; rfl
  have hul := unsix_len true s.data.toList
  rw [hsl] at hul
  have H := Lib.hid (unsixes_c s true w hs)
  obtain ⟨U, hU⟩ : ∃ U, unsix true s.data.toList = U := ⟨_, rfl⟩
  rw [hU] at H hul
  have hU2 : ∀ o, webT o = s.data.toList → o = U := fun o ho => by rw [← hU, unsix_web ho]
  have HU2 := Lib.hid hU2
  have hub : U.length ≤ 1048576 := by omega
  obtain ⟨X, hX⟩ : ∃ X, webT U = X := ⟨_, rfl⟩
  have HX : Hid (webT U = X) := hX
  have HS : Hid (s = ⟨s.data.toList.toArray⟩) := by show _ = _; simp
  clear hsl hul hU hU2 hX
  obtain ⟨l, hl⟩ : ∃ l, s.data.toList = l := ⟨_, rfl⟩
  rw [hl] at HU2 HS ⊢
  rw [HS.out] at H ⊢
  by_cases he : X = l
  · have hb : (X == l) = true := by simp [he]
    have HE := Lib.hid he
    clear he hl
    go_enter Tryz.func102, Tryz.ntmps102
    go_wp2_with fail
    refine H.out.mono ?_
    rintro e w1 ⟨v, rfl, hown, hb1⟩
    obtain ⟨_, p, cp, rfl, h8⟩ := own_in8 hown
    go_wp2_with fail
    refine (rweb_c p cp U _ h8 (by omega)).mono ?_
    rintro e w2 ⟨rfl, hb2⟩
    rw [HX.out]
    go_wp2_with fail
    go_ret2
    exact Or.inl ⟨U, _, by rw [HX.out, HE.out], rfl, own_below hown hb2, bnext hb1 hb2⟩
  · have hb : (X == l) = false := by simp [he]
    have HE := Lib.hid he
    clear he hl
    go_enter Tryz.func102, Tryz.ntmps102
    go_wp2_with fail
    refine H.out.mono ?_
    rintro e w1 ⟨v, rfl, hown, hb1⟩
    obtain ⟨_, p, cp, rfl, h8⟩ := own_in8 hown
    go_wp2_with fail
    refine (rweb_c p cp U _ h8 (by omega)).mono ?_
    rintro e w2 ⟨rfl, hb2⟩
    rw [HX.out]
    go_wp2_with fail
    go_ret2
    exact Or.inr ⟨fun o ho => HE.out (by rw [← HX.out, ← HU2.out o ho, ho]), rfl, bnext hb1 hb2⟩

theorem basB_lack (l : List UInt8) : lack (basB l).length ≤ 2 := by rw [basB_len, lack]; omega
/-- s without its last k signs, read: what k must be -/
theorem bas_at {o s : List UInt8} (h : basT o = s) : lack (basB o).length ≤ 2 ∧ lack (basB o).length ≤ s.length ∧ unsix false (s.take (s.length - lack (basB o).length)) = o := by
  refine ⟨basB_lack o, ?_, ?_⟩
  · rw [← h, basT, List.length_append, List.length_replicate]; omega
  · rw [← h, basT, List.length_append, List.length_replicate, Nat.add_sub_cancel, List.take_left, unsix_bas]

theorem ba_of {a : ByteArray} {l : List UInt8} (h : a.data.toList = l) : a = ⟨l.toArray⟩ := by subst h; simp
theorem cut_to (l : List UInt8) (n : Nat) : (⟨l.toArray⟩ : ByteArray).extract 0 n = ⟨(l.take n).toArray⟩ := ba_of (by rw [Lib.extract_data]; simp)

end Go.Proofs.YthagdkipipldlaaGreatDoor.ref
