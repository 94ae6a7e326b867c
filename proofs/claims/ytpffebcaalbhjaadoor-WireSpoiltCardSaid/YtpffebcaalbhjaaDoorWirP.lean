/- A frame of which one byte is changed, that is cut off or longer is refused (plain). No condition but the frame's size. -/
import Derived.Test.YtpffebcaalbhjaaDoorWirJ
namespace Go.Proofs.YtpffebcaalbhjaaDoor.wir
open Go.Proofs.YtpffebcaalbhjaaDoor.oct Go.Proofs.YtpffebcaalbhjaaDoor.ref Go.Proofs.YtpffebcaalbhjaaDoor.rows Go.Proofs.YtpffebcaalbhjaaDoor.rowg Go.Proofs.YtpffebcaalbhjaaDoor.crc

theorem zx_set (t : T) : ∀ (k : Nat) (h : k < t.length) (b : UInt8), zx (t.set k (t[k] ^^^ b)) t = List.replicate k 0 ++ [b] ++ List.replicate (t.length - k - 1) 0 := by
  induction t with
  | nil => intro k h; simp at h
  | cons x r ih =>
    intro k h b
    have zz : ∀ r : T, zx r r = List.replicate r.length 0 := by
      intro r
      induction r with
      | nil => rfl
      | cons y q ih2 =>
        show (y ^^^ y) :: zx q q = _
        rw [ih2, UInt8.xor_self]
        rfl
    cases k with
    | zero =>
      show (x ^^^ b ^^^ x) :: zx r r = _
      rw [zz, UInt8.xor_comm x b, UInt8.xor_assoc, UInt8.xor_self, UInt8.xor_zero]
      simp
    | succ k =>
      show (x ^^^ x) :: zx (r.set k (r[k]'(by simpa using h) ^^^ b)) r = _
      rw [ih k (by simpa using h) b, UInt8.xor_self, List.replicate_succ]
      simp
theorem set_crc (t : T) (k : Nat) (h : k < t.length) (b : UInt8) (hb : b ≠ 0) : more 0 (t.set k (t[k] ^^^ b)) ≠ more 0 t := by
  intro e
  unfold more at e
  have e2 := congrArg crc.flip e
  rw [crc.flip_flip, crc.flip_flip] at e2
  have h3 := run_xor (t.set k (t[k] ^^^ b)) t (crc.flip 0) (crc.flip 0) (by simp)
  rw [e2, Nat.xor_self, Nat.xor_self, zx_set t k h b] at h3
  exact hb (run_burst k _ [b] (by simp) h3 b (by simp))
theorem said_four4 (a b c d : UInt8) (r : T) : saidT (a :: b :: c :: d :: r) = ((a.toNat * 256 + b.toNat) * 256 + c.toNat) * 256 + d.toNat := by
  unfold saidT
  show 256 * (256 * (256 * (256 * 0 + a.toNat) + b.toNat) + c.toNat) + d.toNat = _
  omega
theorem said_set {l : T} (h4 : 4 ≤ l.length) {k : Nat} (hk : k < 4) (v : UInt8) (hv : v ≠ l[k]'(by omega)) : saidT (l.set k v) ≠ saidT l := by
  match l, h4 with
  | a :: b :: c :: d :: r, _ =>
    have hn : v.toNat ≠ ((a :: b :: c :: d :: r)[k]'(by simp; omega)).toNat := fun e => hv (UInt8.toNat_inj.1 e)
    have ha := a.toNat_lt
    have hb := b.toNat_lt
    have hc := c.toNat_lt
    have hd := d.toNat_lt
    have hvl := v.toNat_lt
    have : k = 0 ∨ k = 1 ∨ k = 2 ∨ k = 3 := by omega
    rcases this with rfl | rfl | rfl | rfl
    · show saidT (v :: b :: c :: d :: r) ≠ _
      rw [said_four4, said_four4]
      have hn2 : v.toNat ≠ a.toNat := hn
      omega
    · show saidT (a :: v :: c :: d :: r) ≠ _
      rw [said_four4, said_four4]
      have hn2 : v.toNat ≠ b.toNat := hn
      omega
    · show saidT (a :: b :: v :: d :: r) ≠ _
      rw [said_four4, said_four4]
      have hn2 : v.toNat ≠ c.toNat := hn
      omega
    · show saidT (a :: b :: c :: v :: r) ≠ _
      rw [said_four4, said_four4]
      have hn2 : v.toNat ≠ d.toNat := hn
      omega
theorem xor_ne {a b : UInt8} (hb : b ≠ 0) : a ^^^ b ≠ a := fun e => hb (by
  have h : a ^^^ (a ^^^ b) = a ^^^ a := by rw [e]
  rwa [← UInt8.xor_assoc, UInt8.xor_self, UInt8.zero_xor] at h)
/-- what a right frame says -/
theorem frame_says {t : T} (h : t.length ≤ 65536) : saidT (frameT t) = t.length ∧ saidT ((frameT t).drop 4) = more 0 t ∧ (frameT t).drop 8 = t := by
  have h1 : frameT t = fourT t.length ++ (fourT (more 0 t) ++ t) := by unfold frameT; rw [List.append_assoc]
  have h3 : (frameT t).drop 4 = fourT (more 0 t) ++ t := by rw [h1]; exact List.drop_left' (fourT_len _)
  exact ⟨by rw [h1]; exact said_four _ _ (by omega), by rw [h3]; exact said_four _ _ (more_lt (by decide) t), frame_tail t⟩
theorem open_set_of {F t : T} (h : t.length ≤ 65536) (h1 : saidT F = t.length) (h2 : saidT (F.drop 4) = more 0 t) (h3 : F.drop 8 = t) (h5 : F.length = t.length + 8) {k : Nat} (hk : k < F.length) {b : UInt8} (hb : b ≠ 0) : openE (F.set k (F[k] ^^^ b)) ≠ 0 := by
  unfold openE
  rw [List.length_set, h5, if_neg (by omega)]
  by_cases h4 : k < 4
  · have hs := said_set (l := F) (by omega) h4 (F[k] ^^^ b) (xor_ne hb)
    rw [h1] at hs
    split
    · decide
    · split
      · decide
      · split
        · decide
        · omega
  · have hs : saidT (F.set k (F[k] ^^^ b)) = saidT F := by
      unfold saidT
      rw [List.take_set_of_le (by omega)]
    rw [hs, h1, if_neg (by omega), if_neg (by omega), if_neg (by omega)]
    by_cases h8 : k < 8
    · have hd : (F.set k (F[k] ^^^ b)).drop 4 = (F.drop 4).set (k - 4) (F[k] ^^^ b) := by
        rw [List.drop_set, if_neg (by omega)]
      have hd8 : (F.set k (F[k] ^^^ b)).drop 8 = F.drop 8 := List.drop_set_of_lt (by omega)
      have e : (F.drop 4)[k - 4]'(by rw [List.length_drop]; omega) = F[k] := by
        rw [List.getElem_drop]
        congr 1
        omega
      have hs2 := said_set (l := F.drop 4) (by rw [List.length_drop]; omega) (k := k - 4) (by omega) (F[k] ^^^ b) (by rw [e]; exact xor_ne hb)
      rw [h2] at hs2
      rw [hd, hd8, h3, if_pos hs2]
      decide
    · have hd : (F.set k (F[k] ^^^ b)).drop 4 = (F.drop 4).set (k - 4) (F[k] ^^^ b) := by
        rw [List.drop_set, if_neg (by omega)]
      have hs2 : saidT ((F.drop 4).set (k - 4) (F[k] ^^^ b)) = saidT (F.drop 4) := by
        unfold saidT
        rw [List.take_set_of_le (by omega)]
      have hd8 : (F.set k (F[k] ^^^ b)).drop 8 = t.set (k - 8) (F[k] ^^^ b) := by
        rw [List.drop_set, if_neg (by omega), h3]
      have hkt : k - 8 < t.length := by omega
      have e : t[k - 8] = F[k] := by
        have h9 : (F.drop 8)[k - 8]'(by rw [List.length_drop]; omega) = F[k] := by
          rw [List.getElem_drop]
          congr 1
          omega
        rw [← h9]
        congr 1
        exact h3.symm
      have hc := set_crc t (k - 8) hkt b hb
      rw [e] at hc
      rw [hd, hs2, h2, hd8, if_pos (Ne.symm hc)]
      decide
theorem open_set {t : T} (h : t.length ≤ 65536) {k : Nat} (hk : k < (frameT t).length) {b : UInt8} (hb : b ≠ 0) : openE ((frameT t).set k ((frameT t)[k] ^^^ b)) ≠ 0 :=
  open_set_of h (frame_says h).1 (frame_says h).2.1 (frame_says h).2.2 (frameT_len t) hk hb
theorem open_cut_of {F t : T} (h1 : saidT F = t.length) (h : t.length ≤ 65536) (h5 : F.length = t.length + 8) {n : Nat} (hn : 0 < n) (hn2 : n < F.length) : openE (F.take (F.length - n)) ≠ 0 := by
  unfold openE
  rw [List.length_take, Nat.min_eq_left (by omega), h5]
  by_cases h8 : t.length + 8 - n < 8
  · rw [if_pos h8]; decide
  · have hs : saidT (F.take (t.length + 8 - n)) = saidT F := by
      unfold saidT
      rw [List.take_take, Nat.min_eq_left (by omega)]
    rw [if_neg h8, hs, h1, if_neg (by omega), if_pos (by omega)]
    decide
theorem open_cut {t : T} (h : t.length ≤ 65536) {n : Nat} (hn : 0 < n) (hn2 : n < (frameT t).length) : openE ((frameT t).take ((frameT t).length - n)) ≠ 0 :=
  open_cut_of (frame_says h).1 h (frameT_len t) hn hn2
theorem open_more_of {F t m : T} (h1 : saidT F = t.length) (h : t.length ≤ 65536) (h5 : F.length = t.length + 8) (hm : m ≠ []) : openE (F ++ m) ≠ 0 := by
  have hml : 0 < m.length := List.length_pos_iff.2 hm
  have hs : saidT (F ++ m) = saidT F := by
    unfold saidT
    rw [List.take_append_of_le_length (by omega)]
  unfold openE
  rw [List.length_append, hs, h1, h5, if_neg (by omega), if_neg (by omega), if_neg (by omega), if_pos (by omega)]
  decide
theorem open_more {t m : T} (h : t.length ≤ 65536) (hm : m ≠ []) : openE (frameT t ++ m) ≠ 0 := open_more_of (frame_says h).1 h (frameT_len t) hm
end Go.Proofs.YtpffebcaalbhjaaDoor.wir
