/- The next number of a reader (cursor.next), by NumI. -/
import Derived.Test.YtpffebcaalbhjaaDoorWdv2
import Derived.Lib.EndianBits
namespace Go.Proofs.YtpffebcaalbhjaaDoor.wir
open Go.RowKit
open Go.Proofs.YtpffebcaalbhjaaDoor.oct Go.Proofs.YtpffebcaalbhjaaDoor.ref Go.Proofs.YtpffebcaalbhjaaDoor.rows Go.Proofs.YtpffebcaalbhjaaDoor.rowg
open Go.Lib (byteCells)

/-- what next answers of bytes, and what stands then -/
def nextR (t : T) : Nat × St := if (numR 0 t).1 ≠ 0 then (0, .bad (numR 0 t).1) else ((numR 0 t).2.1, .ok (t.drop (numR 0 t).2.2))
/-- a reader's cells: where its bytes lie, its error -/
def stC (t : T) (e0 : Nat) : St := if e0 = 0 then .ok t else .bad e0
/-- block g is a reader's: its bytes lie in another block from lo to below hi -/
structure RdP (w : World) (lo hi g : Nat) (st : St) : Prop where
  low : lo ≤ g
  high : g < hi
  size : hi ≤ w.heap.size
  ex : ∃ p c t e0, Blk w g 71 [.slice p t.length c, .int .i64 (e0 : Nat)] ∧ In8 w p t ∧ (p = none → c = 0) ∧ t.length ≤ c ∧ t.length ≤ 65536 ∧ (∀ b o, p = some ⟨b, o, none⟩ → lo ≤ b ∧ b < hi ∧ b ≠ g) ∧ (p = none ∨ ∃ b o, p = some ⟨b, o, none⟩) ∧ st = stC t e0
theorem RdP.keep {w w' : World} {lo hi g : Nat} {st : St} (h : RdP w lo hi g st) (hs : w.heap.size ≤ w'.heap.size) (hb : ∀ k, lo ≤ k → k < hi → w'.heap[k]? = w.heap[k]?) : RdP w' lo hi g st := by
  obtain ⟨h1, h2, h3, p, c, t, e0, h4, h5, h6, h7, h8, h9, ha, hst⟩ := h
  refine ⟨h1, h2, Nat.le_trans h3 hs, p, c, t, e0, (hb g h1 h2).trans h4, ?_, h6, h7, h8, h9, ha, hst⟩
  intro hl
  obtain ⟨b, o, rfl, hc⟩ := h5 hl
  obtain ⟨k1, k2, _⟩ := h9 b o rfl
  exact ⟨b, o, rfl, fun i hi => (World.cell?_of_block (hb b k1 k2)).trans (hc i hi)⟩
/-- a row of bytes beside a block that is written -/
theorem in8_grown {w w' : World} {p : Option Addr} {t : T} {g : Nat} (h : In8 w p t) (hg : w.grownBy w' (some g)) (hn : ∀ b o, p = some ⟨b, o, none⟩ → b ≠ g) : In8 w' p t := by
  intro hl
  obtain ⟨b, o, rfl, hc⟩ := h hl
  refine ⟨b, o, rfl, fun i hi => (World.cell?_of_block (hg.block b (cell_lt (hc i hi)) (fun e => hn b o rfl (by injection e)))).trans (hc i hi)⟩
/-- the rest of a row of bytes: at its end it may keep the place where it began -/
theorem in8_rest {w : World} {b o k : Nat} {t : T} (h : In8 w (some ⟨b, o, none⟩) t) : In8 w (some ⟨b, o + k, none⟩) (t.drop k) := by
  intro hl
  rw [List.length_drop] at hl
  obtain ⟨b', o', e, hc⟩ := h (by omega)
  injection e with e
  injection e with e1 e2
  subst e1 e2
  refine ⟨b, o + k, rfl, fun i hi => ?_⟩
  rw [List.length_drop] at hi
  have := hc (k + i) (by omega)
  rw [show o + k + i = o + (k + i) by omega, this]
  simp [List.getD]
theorem in8_done {w : World} {p : Option Addr} {t : T} {k : Nat} (hk : t.length ≤ k) : In8 w p (t.drop k) := fun h => by rw [List.length_drop] at h; omega
/-- a digit is put above those that were read -/
theorem or_digit {n k d : Nat} (hn : n < 128 ^ k) (hk : k ≤ 9) (h9 : k = 9 → d ≤ 1) (hd : d < 128) : bits .or .u64 (n : Int) (IntKind.u64.wrap ((d : Int) * 2 ^ (7 * k))) = ((n + 128 ^ k * d : Nat) : Int) := by
  have hp : (2 : Nat) ^ (7 * k) = 128 ^ k := by rw [Nat.pow_mul]
  have hlt : 128 ^ k * d < 18446744073709551616 := by
    by_cases h : k = 9
    · subst h
      have := h9 rfl
      have h2 : 128 ^ 9 * d ≤ 128 ^ 9 * 1 := Nat.mul_le_mul_left _ this
      exact Nat.lt_of_le_of_lt h2 (by decide)
    · have h2 : 128 ^ k ≤ 128 ^ 8 := Nat.pow_le_pow_right (by decide) (by omega)
      have h3 : 128 ^ k * d ≤ 128 ^ 8 * 127 := Nat.mul_le_mul h2 (by omega)
      exact Nat.lt_of_le_of_lt h3 (by decide)
  have hnl : n < 18446744073709551616 := Nat.lt_of_lt_of_le hn (Nat.le_trans (Nat.pow_le_pow_right (by decide) hk) (by decide))
  have e : (d : Int) * 2 ^ (7 * k) = ((128 ^ k * d : Nat) : Int) := by
    rw [← hp, Int.natCast_mul, Int.natCast_pow, Int.mul_comm]
    rfl
  have e2 : IntKind.u64.wrap ((d : Int) * 2 ^ (7 * k)) = ((128 ^ k * d : Nat) : Int) := by
    rw [e, IntKind.wrap_u64]
    omega
  rw [e2, bits_or_u64_nat n _ hnl hlt, ← hp, Nat.mul_comm (2 ^ (7 * k)) d, Nat.or_comm, ← Nat.shiftLeft_eq, ← Nat.shiftLeft_add_eq_or_of_lt (by rw [hp]; exact hn), Nat.shiftLeft_eq, Nat.add_comm]
theorem nextR_end {t : T} {k n : Nat} (h : NumI t k n) (hk : t.length ≤ k) : nextR t = (0, .bad 4) := by
  unfold nextR; rw [numI_end h hk]; rfl
theorem nextR_bad {t : T} {k n : Nat} (h : NumI t k n) (hk : k < t.length) (hd : BadD k t[k].toNat) : nextR t = (0, .bad 3) := by
  unfold nextR; rw [numI_bad h hk hd]; rfl
theorem nextR_last {t : T} {k n : Nat} (h : NumI t k n) (hk : k < t.length) (hd : ¬ BadD k t[k].toNat) (hl : t[k].toNat < 128) : nextR t = (n + 128 ^ k * t[k].toNat, .ok (t.drop (k + 1))) := by
  unfold nextR; rw [numI_last h hk hd hl]; rfl
theorem RdP.bad {w : World} {lo hi g e : Nat} (h1 : lo ≤ g) (h2 : g < hi) (h3 : hi ≤ w.heap.size) (hB : Blk w g 71 [.slice none 0 0, .int .i64 (e : Nat)]) (he : e ≠ 0) : RdP w lo hi g (.bad e) :=
  ⟨h1, h2, h3, none, 0, [], e, hB, (fun h => absurd h (by simp)), fun _ => rfl, by simp, by simp, (fun b o h => by cases h), Or.inl rfl, by unfold stC; rw [if_neg he]⟩
theorem RdP.good {w : World} {lo hi g : Nat} {t : T} (h : RdP w lo hi g (.ok t)) : ∃ p c, Blk w g 71 [.slice p t.length c, .int .i64 0] ∧ In8 w p t ∧ (p = none → c = 0) ∧ t.length ≤ c ∧ t.length ≤ 65536 ∧ (∀ b o, p = some ⟨b, o, none⟩ → lo ≤ b ∧ b < hi ∧ b ≠ g) ∧ (p = none ∨ ∃ b o, p = some ⟨b, o, none⟩) := by
  obtain ⟨h1, h2, h3, p, c, t2, e0, h4, h5, h6, h7, h8, h9, ha, hst⟩ := h
  unfold stC at hst
  by_cases he : e0 = 0
  · rw [if_pos he] at hst
    injection hst with hst
    subst hst he
    exact ⟨p, c, h4, h5, h6, h7, h8, h9, ha⟩
  · rw [if_neg he] at hst
    cases hst
theorem RdP.badE {w : World} {lo hi g e : Nat} (h : RdP w lo hi g (.bad e)) : e ≠ 0 ∧ ∃ d, Blk w g 71 [d, .int .i64 (e : Nat)] := by
  obtain ⟨h1, h2, h3, p, c, t2, e0, h4, h5, h6, h7, h8, h9, ha, hst⟩ := h
  unfold stC at hst
  by_cases he : e0 = 0
  · rw [if_pos he] at hst
    cases hst
  · rw [if_neg he] at hst
    injection hst with hst
    subst hst
    exact ⟨he, _, h4⟩
theorem RdP.rest {w : World} {lo hi g b o o2 c c2 m : Nat} {t : T} (h1 : lo ≤ g) (h2 : g < hi) (h3 : hi ≤ w.heap.size) (hB : Blk w g 71 [.slice (some ⟨b, o, none⟩) t.length c, .int .i64 0])
    (h8 : In8 w (some ⟨b, o2, none⟩) (t.drop m)) (hb : lo ≤ b ∧ b < hi ∧ b ≠ g) (hc : t.length - m ≤ c2) (hl : t.length ≤ 65536) :
    RdP (w.setCell ⟨g, 0, none⟩ (.slice (some ⟨b, o2, none⟩) (t.length - m) c2)) lo hi g (.ok (t.drop m)) := by
  refine ⟨h1, h2, by simpa using h3, some ⟨b, o2, none⟩, c2, t.drop m, 0, ?_, in8_grown h8 (grown_set _ _ _) (fun b' o' e => by injection e with e; injection e with e1; subst e1; exact hb.2.2), (fun h => by cases h), by rw [List.length_drop]; exact hc, by rw [List.length_drop]; omega, (fun b' o' e => by injection e with e; injection e with e1; subst e1; exact hb), Or.inr ⟨b, o2, rfl⟩, rfl⟩
  rw [List.length_drop]
  exact hB.set 0 _
set_option maxRecDepth 100000 in
set_option maxHeartbeats 8000000 in
theorem next_c (lo hi g : Nat) (t : T) (w : World) (hR : RdP w lo hi g (.ok t)) :
    Calls Tryd.prog 65 #[.pointer (some ⟨g, 0, none⟩)] w fun e w' => e = .returned (.int .u64 ((nextR t).1 : Nat)) ∧ RdP w' lo hi g (nextR t).2 ∧ w.grownBy w' (some g) := by
  have hlo := hR.low
  have hhi := hR.high
  have hsz := hR.size
  obtain ⟨p, c, hB, h8, hnil, htc, htl, hpb, hpp⟩ := hR.good
  have c0 : w.cell? ⟨g, 0, none⟩ = some (.slice p t.length c) := hB.cell 0
  have f0 := hB.frozen 0
  have HB := Lib.hid hB
  have HPB := Lib.hid hpb
  obtain ⟨r, hr⟩ : ∃ r, nextR t = r := ⟨_, rfl⟩
  have HRR := Lib.hid hr
  rw [hr]
  clear hB hR hpb hr hpp hnil
  go_enter Tryd.func65, Tryd.ntmps65
  go_wp2_with fail
  go_loopg [3, 11] 10 (fun gk s3 s11 wx => ∃ (k n : Nat), k + gk = 10 ∧ k ≤ 9 ∧ s11 = .int .i64 (k : Int) ∧ s3 = .int .u64 (n : Int) ∧ n < 128 ^ k ∧ k ≤ t.length ∧ Hid (NumI t k n) ∧ wx = w)
  case atStart => exact ⟨0, 0, rfl, by decide, rfl, rfl, by decide, Nat.zero_le _, numI_start _, rfl⟩
  case round =>
    obtain ⟨k, n, hkg, hk9, rfl, rfl, hn, hkt, HI, rfl⟩ := hrel
    have HN := Lib.hid hn
    clear hn
    by_cases he : k = t.length
    · have hE : r = (0, .bad 4) := by rw [← HRR.out]; exact nextR_end HI.out (by omega)
      have HF := Lib.hid (fail_c 4 HB.out)
      have hltI : ¬ ((k : Int) < (t.length : Int)) := by omega
      subst hE
      clear HI HRR
      go_wp2_with fail
      refine HF.out.mono ?_
      rintro e w2 ⟨rfl, hb2, hg2⟩
      go_wp2_with fail
      go_ret
      exact ⟨rfl, RdP.bad hlo hhi (Nat.le_trans hsz hg2.size) hb2 (by decide), hg2⟩
    · have hlt : k < t.length := by omega
      have hltI : (k : Int) < (t.length : Int) := by omega
      obtain ⟨bb, oo, rfl, hcell⟩ := h8.at (by omega)
      obtain ⟨d, hd⟩ : ∃ d, (t[k]).toNat = d := ⟨_, rfl⟩
      have hd8 : d < 256 := by rw [← hd]; exact UInt8.toNat_lt _
      have cd := hcell k hlt
      rw [show t.getD k 0 = t[k] by simp [List.getD, hlt], hd] at cd
      have HBAD : Hid (BadD k d → r = (0, .bad 3)) := fun h => by rw [← HRR.out]; exact nextR_bad HI.out hlt (by rw [hd]; exact h)
      have HLAST : Hid (¬ BadD k d → d < 128 → r = (n + 128 ^ k * d, .ok (t.drop (k + 1)))) := fun h1 h2 => by rw [← HRR.out, nextR_last HI.out hlt (by rw [hd]; exact h1) (by rw [hd]; exact h2), hd]
      have HMORE : Hid (¬ BadD k d → ¬ d < 128 → NumI t (k + 1) (n + 128 ^ k * (d % 128))) := fun h1 h2 => by have := numI_more HI.out hlt (by rw [hd]; exact h1) (by rw [hd]; exact h2); rw [hd] at this; exact this
      have H8 := Lib.hid h8
      have hbg := (HPB.out bb oo rfl).2.2
      clear hcell hd h8
      have HBADP : Hid (BadD k d → Calls Tryd.prog 62 #[.pointer (some ⟨g, 0, none⟩), .int .i64 3] wr fun x w' => x = .returned (.tuple #[]) ∧ Blk w' g 71 [.slice none 0 0, .int .i64 3] ∧ wr.grownBy w' (some g)) := fun _ => fail_c 3 HB.out
      by_cases hbad : BadD k d
      · have hE := HBAD.out hbad
        have HF := Lib.hid (HBADP.out hbad)
        subst hE
        clear HI HRR HBAD HLAST HMORE HBADP
        rcases hbad with ⟨h9, h1⟩ | ⟨h0, h1⟩
        · have i3 : (k : Int) > 0 := by omega
          have i4 : ((k : Int) == 9) = true := by rw [beq_iff_eq]; omega
          have i5 : ((d : Int) == 0) = false := by rw [beq_eq_false_iff_ne]; omega
          have i6 : (d : Int) > 1 := by omega
          clear h9 h1 hk9
          go_wp2_with fail
          refine HF.out.mono ?_
          rintro e w2 ⟨rfl, hb2, hg2⟩
          go_wp2_with fail
          go_ret
          exact ⟨rfl, RdP.bad hlo hhi (Nat.le_trans hsz hg2.size) hb2 (by decide), hg2⟩
        · have i3 : (k : Int) > 0 := by omega
          have i5 : ((d : Int) == 0) = true := by rw [beq_iff_eq]; omega
          clear h1
          go_wp2_with fail
          refine HF.out.mono ?_
          rintro e w2 ⟨rfl, hb2, hg2⟩
          go_wp2_with fail
          go_ret
          exact ⟨rfl, RdP.bad hlo hhi (Nat.le_trans hsz hg2.size) hb2 (by decide), hg2⟩
      · have h9 : k = 9 → d ≤ 1 := fun h => by
          by_cases h2 : d ≤ 1
          · exact h2
          · exact absurd (Or.inl ⟨h, by omega⟩) hbad
        have h0 : 0 < k → d ≠ 0 := fun h h2 => hbad (Or.inr ⟨h, h2⟩)
        have HOR := Lib.hid (or_digit (d := d % 128) HN.out hk9 (fun h => by have := h9 h; omega) (by omega))
        rw [show ((d % 128 : Nat) : Int) = (d : Int) % 128 from by omega] at HOR
        have HNN : Hid (n + 128 ^ k * (d % 128) < 128 ^ (k + 1)) := by
          show _ < _
          have h1 := HN.out
          have h2 : 128 ^ k * (d % 128) ≤ 128 ^ k * 127 := Nat.mul_le_mul_left _ (by omega)
          rw [Nat.pow_succ]
          omega
        have HL2 : Hid (d < 128 → r = (n + 128 ^ k * (d % 128), .ok (t.drop (k + 1)))) := fun h => by rw [HLAST.out hbad h, Nat.mod_eq_of_lt h]
        have HM2 := Lib.hid (HMORE.out hbad)
        obtain ⟨N, hN⟩ : ∃ N, n + 128 ^ k * (d % 128) = N := ⟨_, rfl⟩
        rw [hN] at HOR HNN HL2 HM2
        clear hN hbad HBAD HBADP HLAST HMORE HI HRR HN
        by_cases hk0 : k = 0
        · have i3 : ¬ ((k : Int) > 0) := by omega
          have i4 : ((k : Int) == 9) = false := by rw [beq_eq_false_iff_ne]; omega
          have hk1 : k < 1 := by omega
          clear hk0
          by_cases hdl : d < 128
          · have i7 : (d : Int) < 128 := by omega
            have hE := HL2.out hdl
            have HR2 : Hid (In8 wr (some ⟨bb, oo + (k + 1), none⟩) (t.drop (k + 1))) := in8_rest H8.out
            have HPP := Lib.hid (HPB.out bb oo rfl)
            have hkc : k + 1 ≤ c := by omega
            have hkI : (k : Int) + 1 ≤ (c : Int) := by omega
            subst hE
            clear hdl HL2 HM2
            go_wp2_with fail
            · have hck : t.length ≤ k + 1 := by omega
              go_ret
              exact ⟨congrArg (fun x => Ending.returned (.int .u64 x)) HOR.out, RdP.rest hlo hhi hsz HB.out (in8_done hck) HPP.out (by omega) htl, grown_set _ _ _⟩
            · go_ret
              exact ⟨congrArg (fun x => Ending.returned (.int .u64 x)) HOR.out, RdP.rest hlo hhi hsz HB.out HR2.out HPP.out (by omega) htl, grown_set _ _ _⟩
          · have i7 : ¬ ((d : Int) < 128) := by omega
            have HI2 := Lib.hid (HM2.out hdl)
            have hk8 : k ≤ 8 := by
              by_cases h : k = 9
              · have := h9 h; omega
              · omega
            clear h9 h0 hdl HL2 HM2
            rcases gk with _ | gk
            · exfalso; omega
            · go_wp2_with fail
              go_roundg gk
              case measure => omega
              case rel => exact ⟨k + 1, N, by omega, by omega, by go_num, congrArg (Value.int .u64) HOR.out, HNN.out, by omega, HI2.out, rfl⟩
        · have i3 : (k : Int) > 0 := by omega
          have i5 : ((d : Int) == 0) = false := by rw [beq_eq_false_iff_ne]; have := h0 (by omega); omega
          by_cases hk9b : k = 9
          · have i4 : ((k : Int) == 9) = true := by rw [beq_iff_eq]; omega
            have i6 : ¬ ((d : Int) > 1) := by have := h9 hk9b; omega
            have hk9c : 9 ≤ k := by omega
            clear hk9b
            by_cases hdl : d < 128
            · have i7 : (d : Int) < 128 := by omega
              have hE := HL2.out hdl
              have HR2 : Hid (In8 wr (some ⟨bb, oo + (k + 1), none⟩) (t.drop (k + 1))) := in8_rest H8.out
              have HPP := Lib.hid (HPB.out bb oo rfl)
              have hkc : k + 1 ≤ c := by omega
              have hkI : (k : Int) + 1 ≤ (c : Int) := by omega
              subst hE
              clear hdl HL2 HM2
              go_wp2_with fail
              · have hck : t.length ≤ k + 1 := by omega
                go_ret
                exact ⟨congrArg (fun x => Ending.returned (.int .u64 x)) HOR.out, RdP.rest hlo hhi hsz HB.out (in8_done hck) HPP.out (by omega) htl, grown_set _ _ _⟩
              · go_ret
                exact ⟨congrArg (fun x => Ending.returned (.int .u64 x)) HOR.out, RdP.rest hlo hhi hsz HB.out HR2.out HPP.out (by omega) htl, grown_set _ _ _⟩
            · exfalso
              have := h9 (by omega)
              omega
          · have i4 : ((k : Int) == 9) = false := by rw [beq_eq_false_iff_ne]; omega
            by_cases hdl : d < 128
            · have i7 : (d : Int) < 128 := by omega
              have hE := HL2.out hdl
              have HR2 : Hid (In8 wr (some ⟨bb, oo + (k + 1), none⟩) (t.drop (k + 1))) := in8_rest H8.out
              have HPP := Lib.hid (HPB.out bb oo rfl)
              have hkc : k + 1 ≤ c := by omega
              have hkI : (k : Int) + 1 ≤ (c : Int) := by omega
              subst hE
              clear hdl HL2 HM2
              go_wp2_with fail
              · have hck : t.length ≤ k + 1 := by omega
                go_ret
                exact ⟨congrArg (fun x => Ending.returned (.int .u64 x)) HOR.out, RdP.rest hlo hhi hsz HB.out (in8_done hck) HPP.out (by omega) htl, grown_set _ _ _⟩
              · go_ret
                exact ⟨congrArg (fun x => Ending.returned (.int .u64 x)) HOR.out, RdP.rest hlo hhi hsz HB.out HR2.out HPP.out (by omega) htl, grown_set _ _ _⟩
            · have i7 : ¬ ((d : Int) < 128) := by omega
              have HI2 := Lib.hid (HM2.out hdl)
              have hk8 : k ≤ 8 := by
                by_cases h : k = 9
                · have := h9 h; omega
                · omega
              clear h9 h0 hdl HL2 HM2
              rcases gk with _ | gk
              · exfalso; omega
              · go_wp2_with fail
                go_roundg gk
                case measure => omega
                case rel => exact ⟨k + 1, N, by omega, by omega, by go_num, congrArg (Value.int .u64) HOR.out, HNN.out, by omega, HI2.out, rfl⟩
end Go.Proofs.YtpffebcaalbhjaaDoor.wir
