/- What stands next is read (read), by WApi. -/
import Derived.Test.YtpffebcaalbhjaaDoorWirLa
namespace Go.Proofs.YtpffebcaalbhjaaDoor.wir
open Go.RowKit
open Go.Proofs.YtpffebcaalbhjaaDoor.oct Go.Proofs.YtpffebcaalbhjaaDoor.ref Go.Proofs.YtpffebcaalbhjaaDoor.rows Go.Proofs.YtpffebcaalbhjaaDoor.rowg
open Go.Lib (byteCells)

theorem unzz_bd {m : Nat} (h : m ≤ 18446744073709551615) : -9223372036854775808 ≤ unzz m ∧ unzz m ≤ 9223372036854775807 := by
  unfold unzz
  split <;> constructor <;> omega
theorem wordsS_len : ∀ (n : Nat) (st : St), (wordsS n st).1.length ≤ n ∧ ∀ y ∈ (wordsS n st).1, y.length ≤ 65536
  | 0, st => ⟨Nat.le_refl _, fun y hy => absurd hy (by simp [wordsS])⟩
  | n + 1, st => by
    rw [wordsS]
    have hw := wordS_len st
    obtain ⟨q, hq⟩ : ∃ q, wordS st = q := ⟨_, rfl⟩
    rw [hq] at hw ⊢
    obtain ⟨s, s2⟩ := q
    cases s2 with
    | ok t =>
      obtain ⟨h1, h2⟩ := wordsS_len n (.ok t)
      dsimp only at hw ⊢
      refine ⟨by rw [List.length_cons]; omega, fun y hy => ?_⟩
      rcases List.mem_cons.1 hy with rfl | h
      · exact hw
      · exact h2 y h
    | bad e => exact ⟨Nat.zero_le _, fun y hy => absurd hy (by simp)⟩
theorem textsS_len (st : St) : (textsS st).1.length ≤ 4096 ∧ ∀ y ∈ (textsS st).1, y.length ≤ 65536 := by
  have hn := numS_le 4096 st
  unfold textsS
  obtain ⟨q, hq⟩ : ∃ q, numS 4096 st = q := ⟨_, rfl⟩
  rw [hq] at hn ⊢
  obtain ⟨n, s⟩ := q
  have hw := wordsS_len n s
  dsimp only at hn ⊢
  obtain ⟨r, hr⟩ : ∃ r, wordsS n s = r := ⟨_, rfl⟩
  rw [hr] at hw ⊢
  obtain ⟨l, s2⟩ := r
  cases s2 with
  | ok t => exact ⟨Nat.le_trans hw.1 hn, hw.2⟩
  | bad e => exact ⟨Nat.zero_le _, fun y hy => absurd hy (by simp)⟩
/-- what read answers -/
def ReadB {T' : World → Prop} {Cap : Nat → Prop} (X : WApi T' Cap) (lo hi : Nat) (v : Value) (k : Int) (st : St) (w : World) (e : Ending) (w' : World) : Prop :=
  ∃ y : PutA, e = .returned (.agg (penc y).toArray) ∧ y.put = (readS k st).1 ∧ GoodP w' y ∧ X.Rd w' lo hi v (readS k st).2 ∧ Stay lo hi w w' ∧ (∀ e0, st = .bad e0 → y.p = none ∧ y.c = 0) ∧ ∀ g o, y.p = some ⟨g, o, none⟩ → w.heap.size ≤ g
/-- blocks of a call's own stay behind a call on a reader -/
theorem rd_wrote {T' : World → Prop} {Cap : Nat → Prop} (X : WApi T' Cap) {w w' : World} {lo hi g : Nat} {v : Value} {st : St} (h : X.Rd w lo hi v st) (hw : Wrote w w' g) (hg : hi ≤ g) : X.Rd w' lo hi v st :=
  X.rkeep h (by rw [hw.size]; exact Nat.le_refl _) fun k _ hk => hw.other k (by omega)
theorem rd_set {T' : World → Prop} {Cap : Nat → Prop} (X : WApi T' Cap) {w : World} {lo hi g : Nat} {v : Value} {st : St} (h : X.Rd w lo hi v st) (hg : hi ≤ g) (i : Nat) (u : Value) : X.Rd (w.setCell ⟨g, i, none⟩ u) lo hi v st :=
  X.rkeep h (by simp) fun k _ hk => by rw [Below.heap_setCell _ _ _ _ (by exact fun e => by have : k = g := e; omega)]
theorem stay_wrote {lo hi g : Nat} {w w1 w2 : World} (h : Stay lo hi w w1) (hw : Wrote w1 w2 g) (hg : w.heap.size ≤ g) : Stay lo hi w w2 := by
  have hb := hw.below 0 w1 (Below.refl _ _) (Nat.zero_le _)
  exact ⟨hb.os.trans h.os, hb.tape.trans h.tape, hb.output.trans h.output, by rw [hw.size]; exact h.size, fun k hk hn => (hw.other k (by omega)).trans (h.block k hk hn)⟩
theorem stay4 {lo hi : Nat} {w w1 : World} (h : Stay lo hi w w1) {g : Nat} (hg : w.heap.size ≤ g) (a b c d : Value) : Stay lo hi w ((((w1.setCell ⟨g, 0, none⟩ a).setCell ⟨g, 1, none⟩ b).setCell ⟨g, 2, none⟩ c).setCell ⟨g, 3, none⟩ d) :=
  (((h.set hg 0 a).set hg 1 b).set hg 2 c).set hg 3 d
theorem rd4 {T' : World → Prop} {Cap : Nat → Prop} (X : WApi T' Cap) {w : World} {lo hi g : Nat} {v : Value} {st : St} (h : X.Rd w lo hi v st) (hg : hi ≤ g) (a b c d : Value) : X.Rd ((((w.setCell ⟨g, 0, none⟩ a).setCell ⟨g, 1, none⟩ b).setCell ⟨g, 2, none⟩ c).setCell ⟨g, 3, none⟩ d) lo hi v st :=
  rd_set X (rd_set X (rd_set X (rd_set X h hg 0 a) hg 1 b) hg 2 c) hg 3 d
theorem own4 {w : World} {B e k n g : Nat} {v : Value} {xs : List Value} (h : w.ownsRow B e k v n xs) (hg : g < B) (a b c d : Value) : ((((w.setCell ⟨g, 0, none⟩ a).setCell ⟨g, 1, none⟩ b).setCell ⟨g, 2, none⟩ c).setCell ⟨g, 3, none⟩ d).ownsRow B e k v n xs :=
  own_set (own_set (own_set (own_set h hg 0 a) hg 1 b) hg 2 c) hg 3 d
set_option maxRecDepth 100000 in
set_option maxHeartbeats 8000000 in
theorem read_c {T' : World → Prop} {Cap : Nat → Prop} (X : WApi T' Cap) {lo hi : Nat} {v : Value} {st : St} (k : Int) (w : World) (hR : X.Rd w lo hi v st) :
    Calls Tryd.prog 18 #[v, .int .i64 k] w fun e w' => ReadB X lo hi v k st w e w' := by
  obtain ⟨pv, rfl⟩ := X.rptr hR
  obtain ⟨hlo, hhi⟩ := X.rsize hR
  unfold ReadB
  by_cases hk : k = 0
  · subst hk
    have hB0 := Lib.hid ((Below.refl w.heap.size w).alloc (Nat.le_refl _) (.cells #[.int .i64 0, .int .i64 0, .string ⟨#[]⟩, .slice none 0 0] 43) |>.alloc (by simp) (.cells #[.int .i64 0, .int .i64 0, .string ⟨#[]⟩, .slice none 0 0] 43))
    have hA0 : Blk ((w.alloc (.cells #[.int .i64 0, .int .i64 0, .string ⟨#[]⟩, .slice none 0 0] 43)).alloc (.cells #[.int .i64 0, .int .i64 0, .string ⟨#[]⟩, .slice none 0 0] 43)) w.heap.size 43 [.int .i64 0, .int .i64 0, .string ⟨#[]⟩, .slice none 0 0] := blk_old (blk_new w _ _ _ rfl) _
    have hA1 : Blk ((w.alloc (.cells #[.int .i64 0, .int .i64 0, .string ⟨#[]⟩, .slice none 0 0] 43)).alloc (.cells #[.int .i64 0, .int .i64 0, .string ⟨#[]⟩, .slice none 0 0] 43)) (w.heap.size + 1) 43 [.int .i64 0, .int .i64 0, .string ⟨#[]⟩, .slice none 0 0] := by
      have h := blk_new (w.alloc (.cells #[.int .i64 0, .int .i64 0, .string ⟨#[]⟩, .slice none 0 0] 43)) #[.int .i64 0, .int .i64 0, .string ⟨#[]⟩, .slice none 0 0] 43 _ rfl
      rwa [show (w.alloc (.cells #[.int .i64 0, .int .i64 0, .string ⟨#[]⟩, .slice none 0 0] 43)).heap.size = w.heap.size + 1 by simp] at h
    have hRo : X.Rd ((w.alloc (.cells #[.int .i64 0, .int .i64 0, .string ⟨#[]⟩, .slice none 0 0] 43)).alloc (.cells #[.int .i64 0, .int .i64 0, .string ⟨#[]⟩, .slice none 0 0] 43)) lo hi (.pointer pv) st := X.rkeep hR hB0.out.size fun i _ hi2 => hB0.out.block i (by omega)
    have HSO : Hid (((w.alloc (.cells #[.int .i64 0, .int .i64 0, .string ⟨#[]⟩, .slice none 0 0] 43)).alloc (.cells #[.int .i64 0, .int .i64 0, .string ⟨#[]⟩, .slice none 0 0] 43)).heap.size = w.heap.size + 2) := by show _ = _; simp
    have HA0 := Lib.hid hA0
    have HA1 := Lib.hid hA1
    have HC := Lib.hid (X.rint _ hRo)
    have HQ : Hid (readS 0 st = (⟨0, unzz (numS 18446744073709551615 st).1, [], []⟩, (numS 18446744073709551615 st).2)) := rfl
    obtain ⟨q, hq⟩ : ∃ q, readS 0 st = q := ⟨_, rfl⟩
    rw [hq] at HQ ⊢
    clear hA0 hA1 hRo hq
    go_enter Tryd.func18, Tryd.ntmps18
    go_wp2_with fail
    refine HC.out.mono ?_
    rintro e w1 ⟨rfl, hrd, hst⟩
    have HI := Lib.hid (unzz_bd (numS_le 18446744073709551615 st))
    obtain ⟨n, hn⟩ : ∃ n, unzz (numS 18446744073709551615 st).1 = n := ⟨_, rfl⟩
    rw [hn] at HI ⊢
    have HN := Lib.hid hn
    clear hn
    have Z0 := Stay.blk HA0.out hst (by omega)
    have y0 := Z0.cell 0
    have x0 := Z0.frozen 0
    have y1 := Z0.cell 1
    have x1 := Z0.frozen 1
    have y2 := Z0.cell 2
    have x2 := Z0.frozen 2
    have y3 := Z0.cell 3
    have x3 := Z0.frozen 3
    have Z1 := Stay.blk HA1.out hst (by omega)
    have F1 := Blk.set Z1 1 (.int .i64 n)
    have F0 := Blk.set_other Z0 (show w.heap.size + 1 ≠ w.heap.size by omega) 1 (.int .i64 n)
    have HST := Lib.hid (((Stay.of_below hB0.out).trans hst).set (g := w.heap.size + 1) (by omega) 1 (.int .i64 n))
    have HRD := Lib.hid (rd_set X hrd (g := w.heap.size + 1) (by omega) 1 (.int .i64 n))
    have z0 := Z1.cell 1
    have z1 := Z1.frozen 1
    have HF1 := Lib.hid F1
    have HF0 := Lib.hid F0
    have c0 := HF1.out.cell 0
    have c1 := HF1.out.cell 1
    have c2 := HF1.out.cell 2
    have c3 := HF1.out.cell 3
    clear Z0 Z1 F0 F1 hst hrd HA0 HA1 hB0 HC hR HSO
    have HS4 := Lib.hid (stay4 HST.out (Nat.le_refl w.heap.size) (.int .i64 0) (.int .i64 n) (.string ⟨#[]⟩) (.slice none 0 0))
    have HR4 := Lib.hid (rd4 X HRD.out (g := w.heap.size) (by omega) (.int .i64 0) (.int .i64 n) (.string ⟨#[]⟩) (.slice none 0 0))
    have HD4 : Hid (Blk _ w.heap.size 43 [.int .i64 0, .int .i64 n, .string ⟨#[]⟩, .slice none 0 0]) := put4 HF0.out
    go_wp2_with fail
    refine bodyPost_ret (results_blk Tryd.results18 _ _ w.heap.size 43 _ _ rfl HD4.out Tryd.underlying43 rfl infoPut) rfl ?_
    exact ⟨⟨0, n, [], none, 0, []⟩, rfl, by rw [HQ.out, HN.out]; rfl, ⟨⟨HI.out.1, HI.out.2⟩, (by simp), ins_none _, fun _ => rfl, Nat.le_refl _, by simp, by simp⟩, by rw [HQ.out]; exact HR4.out, HS4.out, (fun _ _ => ⟨rfl, rfl⟩), fun _ _ h => absurd h (by simp)⟩
  · have i0 : (k == 0) = false := by rw [beq_eq_false_iff_ne]; exact hk
    have N0 := Lib.hid hk
    clear hk
    by_cases hk : k = 1
    · subst hk
      have hB0 := Lib.hid ((Below.refl w.heap.size w).alloc (Nat.le_refl _) (.cells #[.int .i64 0, .int .i64 0, .string ⟨#[]⟩, .slice none 0 0] 43) |>.alloc (by simp) (.cells #[.int .i64 1, .int .i64 0, .string ⟨#[]⟩, .slice none 0 0] 43))
      have hA0 : Blk ((w.alloc (.cells #[.int .i64 0, .int .i64 0, .string ⟨#[]⟩, .slice none 0 0] 43)).alloc (.cells #[.int .i64 1, .int .i64 0, .string ⟨#[]⟩, .slice none 0 0] 43)) w.heap.size 43 [.int .i64 0, .int .i64 0, .string ⟨#[]⟩, .slice none 0 0] := blk_old (blk_new w _ _ _ rfl) _
      have hA1 : Blk ((w.alloc (.cells #[.int .i64 0, .int .i64 0, .string ⟨#[]⟩, .slice none 0 0] 43)).alloc (.cells #[.int .i64 1, .int .i64 0, .string ⟨#[]⟩, .slice none 0 0] 43)) (w.heap.size + 1) 43 [.int .i64 1, .int .i64 0, .string ⟨#[]⟩, .slice none 0 0] := by
        have h := blk_new (w.alloc (.cells #[.int .i64 0, .int .i64 0, .string ⟨#[]⟩, .slice none 0 0] 43)) #[.int .i64 1, .int .i64 0, .string ⟨#[]⟩, .slice none 0 0] 43 _ rfl
        rwa [show (w.alloc (.cells #[.int .i64 0, .int .i64 0, .string ⟨#[]⟩, .slice none 0 0] 43)).heap.size = w.heap.size + 1 by simp] at h
      have hRo : X.Rd ((w.alloc (.cells #[.int .i64 0, .int .i64 0, .string ⟨#[]⟩, .slice none 0 0] 43)).alloc (.cells #[.int .i64 1, .int .i64 0, .string ⟨#[]⟩, .slice none 0 0] 43)) lo hi (.pointer pv) st := X.rkeep hR hB0.out.size fun i _ hi2 => hB0.out.block i (by omega)
      have HSO : Hid (((w.alloc (.cells #[.int .i64 0, .int .i64 0, .string ⟨#[]⟩, .slice none 0 0] 43)).alloc (.cells #[.int .i64 1, .int .i64 0, .string ⟨#[]⟩, .slice none 0 0] 43)).heap.size = w.heap.size + 2) := by show _ = _; simp
      have HA0 := Lib.hid hA0
      have HA1 := Lib.hid hA1
      have HC := Lib.hid (X.rtext _ hRo)
      have HQ : Hid (readS 1 st = (⟨1, 0, (wordS st).1, []⟩, (wordS st).2)) := rfl
      obtain ⟨q, hq⟩ : ∃ q, readS 1 st = q := ⟨_, rfl⟩
      rw [hq] at HQ ⊢
      clear hA0 hA1 hRo hq
      go_enter Tryd.func18, Tryd.ntmps18
      go_wp2_with fail
      refine HC.out.mono ?_
      rintro e w1 ⟨rfl, hrd, hst⟩
      have HI := Lib.hid (wordS_len st)
      obtain ⟨n, hn⟩ : ∃ n, (wordS st).1 = n := ⟨_, rfl⟩
      rw [hn] at HI ⊢
      have HN := Lib.hid hn
      clear hn
      unfold tx8
      have Z0 := Stay.blk HA0.out hst (by omega)
      have y0 := Z0.cell 0
      have x0 := Z0.frozen 0
      have y1 := Z0.cell 1
      have x1 := Z0.frozen 1
      have y2 := Z0.cell 2
      have x2 := Z0.frozen 2
      have y3 := Z0.cell 3
      have x3 := Z0.frozen 3
      have Z1 := Stay.blk HA1.out hst (by omega)
      have F1 := Blk.set Z1 2 (.string ⟨n.toArray⟩)
      have F0 := Blk.set_other Z0 (show w.heap.size + 1 ≠ w.heap.size by omega) 2 (.string ⟨n.toArray⟩)
      have HST := Lib.hid (((Stay.of_below hB0.out).trans hst).set (g := w.heap.size + 1) (by omega) 2 (.string ⟨n.toArray⟩))
      have HRD := Lib.hid (rd_set X hrd (g := w.heap.size + 1) (by omega) 2 (.string ⟨n.toArray⟩))
      have z0 := Z1.cell 2
      have z1 := Z1.frozen 2
      have HF1 := Lib.hid F1
      have HF0 := Lib.hid F0
      have c0 := HF1.out.cell 0
      have c1 := HF1.out.cell 1
      have c2 := HF1.out.cell 2
      have c3 := HF1.out.cell 3
      clear Z0 Z1 F0 F1 hst hrd HA0 HA1 hB0 HC hR HSO
      have HS4 := Lib.hid (stay4 HST.out (Nat.le_refl w.heap.size) (.int .i64 1) (.int .i64 0) (.string ⟨n.toArray⟩) (.slice none 0 0))
      have HR4 := Lib.hid (rd4 X HRD.out (g := w.heap.size) (by omega) (.int .i64 1) (.int .i64 0) (.string ⟨n.toArray⟩) (.slice none 0 0))
      have HD4 : Hid (Blk _ w.heap.size 43 [.int .i64 1, .int .i64 0, .string ⟨n.toArray⟩, .slice none 0 0]) := put4 HF0.out
      go_wp2_with fail
      refine bodyPost_ret (results_blk Tryd.results18 _ _ w.heap.size 43 _ _ rfl HD4.out Tryd.underlying43 rfl infoPut) rfl ?_
      exact ⟨⟨1, 0, n, none, 0, []⟩, rfl, by rw [HQ.out, HN.out]; rfl, ⟨⟨(by show (-9223372036854775808 : Int) ≤ 0; omega), (by show (0 : Int) ≤ 9223372036854775807; omega)⟩, (by show n.length ≤ _; have := HI.out; omega), ins_none _, fun _ => rfl, Nat.le_refl _, by simp, by simp⟩, by rw [HQ.out]; exact HR4.out, HS4.out, (fun _ _ => ⟨rfl, rfl⟩), fun _ _ h => absurd h (by simp)⟩
    · have i1 : (k == 1) = false := by rw [beq_eq_false_iff_ne]; exact hk
      have N1 := Lib.hid hk
      clear hk
      by_cases hk : k = 2
      · subst hk
        have hB0 := Lib.hid ((Below.refl w.heap.size w).alloc (Nat.le_refl _) (.cells #[.int .i64 0, .int .i64 0, .string ⟨#[]⟩, .slice none 0 0] 43) |>.alloc (by simp) (.cells #[.int .i64 2, .int .i64 0, .string ⟨#[]⟩, .slice none 0 0] 43))
        have hA0 : Blk ((w.alloc (.cells #[.int .i64 0, .int .i64 0, .string ⟨#[]⟩, .slice none 0 0] 43)).alloc (.cells #[.int .i64 2, .int .i64 0, .string ⟨#[]⟩, .slice none 0 0] 43)) w.heap.size 43 [.int .i64 0, .int .i64 0, .string ⟨#[]⟩, .slice none 0 0] := blk_old (blk_new w _ _ _ rfl) _
        have hA1 : Blk ((w.alloc (.cells #[.int .i64 0, .int .i64 0, .string ⟨#[]⟩, .slice none 0 0] 43)).alloc (.cells #[.int .i64 2, .int .i64 0, .string ⟨#[]⟩, .slice none 0 0] 43)) (w.heap.size + 1) 43 [.int .i64 2, .int .i64 0, .string ⟨#[]⟩, .slice none 0 0] := by
          have h := blk_new (w.alloc (.cells #[.int .i64 0, .int .i64 0, .string ⟨#[]⟩, .slice none 0 0] 43)) #[.int .i64 2, .int .i64 0, .string ⟨#[]⟩, .slice none 0 0] 43 _ rfl
          rwa [show (w.alloc (.cells #[.int .i64 0, .int .i64 0, .string ⟨#[]⟩, .slice none 0 0] 43)).heap.size = w.heap.size + 1 by simp] at h
        have hRo : X.Rd ((w.alloc (.cells #[.int .i64 0, .int .i64 0, .string ⟨#[]⟩, .slice none 0 0] 43)).alloc (.cells #[.int .i64 2, .int .i64 0, .string ⟨#[]⟩, .slice none 0 0] 43)) lo hi (.pointer pv) st := X.rkeep hR hB0.out.size fun i _ hi2 => hB0.out.block i (by omega)
        have HSO : Hid (((w.alloc (.cells #[.int .i64 0, .int .i64 0, .string ⟨#[]⟩, .slice none 0 0] 43)).alloc (.cells #[.int .i64 2, .int .i64 0, .string ⟨#[]⟩, .slice none 0 0] 43)).heap.size = w.heap.size + 2) := by show _ = _; simp
        have HA0 := Lib.hid hA0
        have HA1 := Lib.hid hA1
        have HC := Lib.hid (X.rbool _ hRo)
        have HQ : Hid (readS 2 st = (⟨2, ((numS 1 st).1 : Nat), [], []⟩, (numS 1 st).2)) := rfl
        obtain ⟨q, hq⟩ : ∃ q, readS 2 st = q := ⟨_, rfl⟩
        rw [hq] at HQ ⊢
        clear hA0 hA1 hRo hq
        go_enter Tryd.func18, Tryd.ntmps18
        go_wp2_with fail
        refine HC.out.mono ?_
        rintro e w1 ⟨rfl, hrd, hst⟩
        have HI := Lib.hid (numS_le 1 st)
        obtain ⟨n, hn⟩ : ∃ n, (numS 1 st).1 = n := ⟨_, rfl⟩
        rw [hn] at HI ⊢
        have HN := Lib.hid hn
        clear hn
        by_cases h1 : n = 1
        · subst h1
          rw [decide_eq_true rfl]
          have Z0 := Stay.blk HA0.out hst (by omega)
          have y0 := Z0.cell 0
          have x0 := Z0.frozen 0
          have y1 := Z0.cell 1
          have x1 := Z0.frozen 1
          have y2 := Z0.cell 2
          have x2 := Z0.frozen 2
          have y3 := Z0.cell 3
          have x3 := Z0.frozen 3
          have Z1 := Stay.blk HA1.out hst (by omega)
          have F1 := Blk.set Z1 1 (.int .i64 1)
          have F0 := Blk.set_other Z0 (show w.heap.size + 1 ≠ w.heap.size by omega) 1 (.int .i64 1)
          have HST := Lib.hid (((Stay.of_below hB0.out).trans hst).set (g := w.heap.size + 1) (by omega) 1 (.int .i64 1))
          have HRD := Lib.hid (rd_set X hrd (g := w.heap.size + 1) (by omega) 1 (.int .i64 1))
          have z0 := Z1.cell 1
          have z1 := Z1.frozen 1
          have HF1 := Lib.hid F1
          have HF0 := Lib.hid F0
          have c0 := HF1.out.cell 0
          have c1 := HF1.out.cell 1
          have c2 := HF1.out.cell 2
          have c3 := HF1.out.cell 3
          clear Z0 Z1 F0 F1 hst hrd HA0 HA1 hB0 HC hR HSO
          have HS4 := Lib.hid (stay4 HST.out (Nat.le_refl w.heap.size) (.int .i64 2) (.int .i64 1) (.string ⟨#[]⟩) (.slice none 0 0))
          have HR4 := Lib.hid (rd4 X HRD.out (g := w.heap.size) (by omega) (.int .i64 2) (.int .i64 1) (.string ⟨#[]⟩) (.slice none 0 0))
          have HD4 : Hid (Blk _ w.heap.size 43 [.int .i64 2, .int .i64 1, .string ⟨#[]⟩, .slice none 0 0]) := put4 HF0.out
          go_wp2_with fail
          refine bodyPost_ret (results_blk Tryd.results18 _ _ w.heap.size 43 _ _ rfl HD4.out Tryd.underlying43 rfl infoPut) rfl ?_
          exact ⟨⟨2, 1, [], none, 0, []⟩, rfl, by rw [HQ.out, HN.out]; rfl, ⟨⟨(by show (-9223372036854775808 : Int) ≤ 1; omega), (by show (1 : Int) ≤ 9223372036854775807; omega)⟩, (by simp), ins_none _, fun _ => rfl, Nat.le_refl _, by simp, by simp⟩, by rw [HQ.out]; exact HR4.out, HS4.out, (fun _ _ => ⟨rfl, rfl⟩), fun _ _ h => absurd h (by simp)⟩
        · rw [decide_eq_false h1]
          have HZ : Hid (n = 0) := by show _ = _; have := HI.out; omega
          clear h1
          have Z0 := Stay.blk HA0.out hst (by omega)
          have y0 := Z0.cell 0
          have x0 := Z0.frozen 0
          have y1 := Z0.cell 1
          have x1 := Z0.frozen 1
          have y2 := Z0.cell 2
          have x2 := Z0.frozen 2
          have y3 := Z0.cell 3
          have x3 := Z0.frozen 3
          have Z1 := Stay.blk HA1.out hst (by omega)
          have HST := Lib.hid ((Stay.of_below hB0.out).trans hst)
          have HRD := Lib.hid hrd
          have HF1 := Lib.hid Z1
          have HF0 := Lib.hid Z0
          have c0 := HF1.out.cell 0
          have c1 := HF1.out.cell 1
          have c2 := HF1.out.cell 2
          have c3 := HF1.out.cell 3
          clear Z0 Z1 hst hrd HA0 HA1 hB0 HC hR HSO
          have HS4 := Lib.hid (stay4 HST.out (Nat.le_refl w.heap.size) (.int .i64 2) (.int .i64 0) (.string ⟨#[]⟩) (.slice none 0 0))
          have HR4 := Lib.hid (rd4 X HRD.out (g := w.heap.size) (by omega) (.int .i64 2) (.int .i64 0) (.string ⟨#[]⟩) (.slice none 0 0))
          have HD4 : Hid (Blk _ w.heap.size 43 [.int .i64 2, .int .i64 0, .string ⟨#[]⟩, .slice none 0 0]) := put4 HF0.out
          go_wp2_with fail
          refine bodyPost_ret (results_blk Tryd.results18 _ _ w.heap.size 43 _ _ rfl HD4.out Tryd.underlying43 rfl infoPut) rfl ?_
          exact ⟨⟨2, 0, [], none, 0, []⟩, rfl, by rw [HQ.out, HN.out, HZ.out]; rfl, ⟨⟨(by show (-9223372036854775808 : Int) ≤ 0; omega), (by show (0 : Int) ≤ 9223372036854775807; omega)⟩, (by simp), ins_none _, fun _ => rfl, Nat.le_refl _, by simp, by simp⟩, by rw [HQ.out]; exact HR4.out, HS4.out, (fun _ _ => ⟨rfl, rfl⟩), fun _ _ h => absurd h (by simp)⟩
      · have i2 : (k == 2) = false := by rw [beq_eq_false_iff_ne]; exact hk
        have N2 := Lib.hid hk
        clear hk
        by_cases hk : k = 3
        · subst hk
          have hB0 := Lib.hid ((Below.refl w.heap.size w).alloc (Nat.le_refl _) (.cells #[.int .i64 0, .int .i64 0, .string ⟨#[]⟩, .slice none 0 0] 43) |>.alloc (by simp) (.cells #[.int .i64 3, .int .i64 0, .string ⟨#[]⟩, .slice none 0 0] 43))
          have hA0 : Blk ((w.alloc (.cells #[.int .i64 0, .int .i64 0, .string ⟨#[]⟩, .slice none 0 0] 43)).alloc (.cells #[.int .i64 3, .int .i64 0, .string ⟨#[]⟩, .slice none 0 0] 43)) w.heap.size 43 [.int .i64 0, .int .i64 0, .string ⟨#[]⟩, .slice none 0 0] := blk_old (blk_new w _ _ _ rfl) _
          have hA1 : Blk ((w.alloc (.cells #[.int .i64 0, .int .i64 0, .string ⟨#[]⟩, .slice none 0 0] 43)).alloc (.cells #[.int .i64 3, .int .i64 0, .string ⟨#[]⟩, .slice none 0 0] 43)) (w.heap.size + 1) 43 [.int .i64 3, .int .i64 0, .string ⟨#[]⟩, .slice none 0 0] := by
            have h := blk_new (w.alloc (.cells #[.int .i64 0, .int .i64 0, .string ⟨#[]⟩, .slice none 0 0] 43)) #[.int .i64 3, .int .i64 0, .string ⟨#[]⟩, .slice none 0 0] 43 _ rfl
            rwa [show (w.alloc (.cells #[.int .i64 0, .int .i64 0, .string ⟨#[]⟩, .slice none 0 0] 43)).heap.size = w.heap.size + 1 by simp] at h
          have hRo : X.Rd ((w.alloc (.cells #[.int .i64 0, .int .i64 0, .string ⟨#[]⟩, .slice none 0 0] 43)).alloc (.cells #[.int .i64 3, .int .i64 0, .string ⟨#[]⟩, .slice none 0 0] 43)) lo hi (.pointer pv) st := X.rkeep hR hB0.out.size fun i _ hi2 => hB0.out.block i (by omega)
          have HSO : Hid (((w.alloc (.cells #[.int .i64 0, .int .i64 0, .string ⟨#[]⟩, .slice none 0 0] 43)).alloc (.cells #[.int .i64 3, .int .i64 0, .string ⟨#[]⟩, .slice none 0 0] 43)).heap.size = w.heap.size + 2) := by show _ = _; simp
          have HA0 := Lib.hid hA0
          have HA1 := Lib.hid hA1
          have HC := Lib.hid (X.rcount _ hRo)
          have HQ : Hid (readS 3 st = (⟨3, ((numS 4096 st).1 : Nat), [], []⟩, (numS 4096 st).2)) := rfl
          obtain ⟨q, hq⟩ : ∃ q, readS 3 st = q := ⟨_, rfl⟩
          rw [hq] at HQ ⊢
          clear hA0 hA1 hRo hq
          go_enter Tryd.func18, Tryd.ntmps18
          go_wp2_with fail
          refine HC.out.mono ?_
          rintro e w1 ⟨rfl, hrd, hst⟩
          have HI := Lib.hid (numS_le 4096 st)
          obtain ⟨n, hn⟩ : ∃ n, (numS 4096 st).1 = n := ⟨_, rfl⟩
          rw [hn] at HI ⊢
          have HN := Lib.hid hn
          clear hn
          have Z0 := Stay.blk HA0.out hst (by omega)
          have y0 := Z0.cell 0
          have x0 := Z0.frozen 0
          have y1 := Z0.cell 1
          have x1 := Z0.frozen 1
          have y2 := Z0.cell 2
          have x2 := Z0.frozen 2
          have y3 := Z0.cell 3
          have x3 := Z0.frozen 3
          have Z1 := Stay.blk HA1.out hst (by omega)
          have F1 := Blk.set Z1 1 (.int .i64 (n : Int))
          have F0 := Blk.set_other Z0 (show w.heap.size + 1 ≠ w.heap.size by omega) 1 (.int .i64 (n : Int))
          have HST := Lib.hid (((Stay.of_below hB0.out).trans hst).set (g := w.heap.size + 1) (by omega) 1 (.int .i64 (n : Int)))
          have HRD := Lib.hid (rd_set X hrd (g := w.heap.size + 1) (by omega) 1 (.int .i64 (n : Int)))
          have z0 := Z1.cell 1
          have z1 := Z1.frozen 1
          have HF1 := Lib.hid F1
          have HF0 := Lib.hid F0
          have c0 := HF1.out.cell 0
          have c1 := HF1.out.cell 1
          have c2 := HF1.out.cell 2
          have c3 := HF1.out.cell 3
          clear Z0 Z1 F0 F1 hst hrd HA0 HA1 hB0 HC hR HSO
          have HS4 := Lib.hid (stay4 HST.out (Nat.le_refl w.heap.size) (.int .i64 3) (.int .i64 (n : Int)) (.string ⟨#[]⟩) (.slice none 0 0))
          have HR4 := Lib.hid (rd4 X HRD.out (g := w.heap.size) (by omega) (.int .i64 3) (.int .i64 (n : Int)) (.string ⟨#[]⟩) (.slice none 0 0))
          have HD4 : Hid (Blk _ w.heap.size 43 [.int .i64 3, .int .i64 (n : Int), .string ⟨#[]⟩, .slice none 0 0]) := put4 HF0.out
          go_wp2_with fail
          refine bodyPost_ret (results_blk Tryd.results18 _ _ w.heap.size 43 _ _ rfl HD4.out Tryd.underlying43 rfl infoPut) rfl ?_
          exact ⟨⟨3, (n : Int), [], none, 0, []⟩, rfl, by rw [HQ.out, HN.out]; rfl, ⟨⟨(by show (-9223372036854775808 : Int) ≤ (n : Int); omega), (by show (n : Int) ≤ 9223372036854775807; have := HI.out; omega)⟩, (by simp), ins_none _, fun _ => rfl, Nat.le_refl _, by simp, by simp⟩, by rw [HQ.out]; exact HR4.out, HS4.out, (fun _ _ => ⟨rfl, rfl⟩), fun _ _ h => absurd h (by simp)⟩
        · have i3 : (k == 3) = false := by rw [beq_eq_false_iff_ne]; exact hk
          have N3 := Lib.hid hk
          clear hk
          by_cases hk : k = 4
          · subst hk
            have hB0 := Lib.hid ((Below.refl w.heap.size w).alloc (Nat.le_refl _) (.cells #[.int .i64 0, .int .i64 0, .string ⟨#[]⟩, .slice none 0 0] 43) |>.alloc (by simp) (.cells #[.int .i64 4, .int .i64 0, .string ⟨#[]⟩, .slice none 0 0] 43))
            have hA0 : Blk ((w.alloc (.cells #[.int .i64 0, .int .i64 0, .string ⟨#[]⟩, .slice none 0 0] 43)).alloc (.cells #[.int .i64 4, .int .i64 0, .string ⟨#[]⟩, .slice none 0 0] 43)) w.heap.size 43 [.int .i64 0, .int .i64 0, .string ⟨#[]⟩, .slice none 0 0] := blk_old (blk_new w _ _ _ rfl) _
            have hA1 : Blk ((w.alloc (.cells #[.int .i64 0, .int .i64 0, .string ⟨#[]⟩, .slice none 0 0] 43)).alloc (.cells #[.int .i64 4, .int .i64 0, .string ⟨#[]⟩, .slice none 0 0] 43)) (w.heap.size + 1) 43 [.int .i64 4, .int .i64 0, .string ⟨#[]⟩, .slice none 0 0] := by
              have h := blk_new (w.alloc (.cells #[.int .i64 0, .int .i64 0, .string ⟨#[]⟩, .slice none 0 0] 43)) #[.int .i64 4, .int .i64 0, .string ⟨#[]⟩, .slice none 0 0] 43 _ rfl
              rwa [show (w.alloc (.cells #[.int .i64 0, .int .i64 0, .string ⟨#[]⟩, .slice none 0 0] 43)).heap.size = w.heap.size + 1 by simp] at h
            have hRo : X.Rd ((w.alloc (.cells #[.int .i64 0, .int .i64 0, .string ⟨#[]⟩, .slice none 0 0] 43)).alloc (.cells #[.int .i64 4, .int .i64 0, .string ⟨#[]⟩, .slice none 0 0] 43)) lo hi (.pointer pv) st := X.rkeep hR hB0.out.size fun i _ hi2 => hB0.out.block i (by omega)
            have HSO : Hid (((w.alloc (.cells #[.int .i64 0, .int .i64 0, .string ⟨#[]⟩, .slice none 0 0] 43)).alloc (.cells #[.int .i64 4, .int .i64 0, .string ⟨#[]⟩, .slice none 0 0] 43)).heap.size = w.heap.size + 2) := by show _ = _; simp
            have HA0 := Lib.hid hA0
            have HA1 := Lib.hid hA1
            have HC := Lib.hid (X.rtexts _ hRo)
            have HQ : Hid (readS 4 st = (⟨4, 0, [], (textsS st).1⟩, (textsS st).2)) := rfl
            obtain ⟨q, hq⟩ : ∃ q, readS 4 st = q := ⟨_, rfl⟩
            rw [hq] at HQ ⊢
            clear hA0 hA1 hRo hq
            go_enter Tryd.func18, Tryd.ntmps18
            go_wp2_with fail
            refine HC.out.mono ?_
            rintro e w1 ⟨u, rfl, hown, hz, hrd, hst⟩
            have HI := Lib.hid (textsS_len st)
            obtain ⟨n, hn⟩ : ∃ n, (textsS st).1 = n := ⟨_, rfl⟩
            rw [hn] at HI hown
            obtain ⟨p6, c6, rfl⟩ := own_slice hown
            have HZ4 : Hid (∀ e0, st = .bad e0 → p6 = none ∧ c6 = 0) := fun e0 he => by
              have h := hz e0 he
              injection h with h1 _ h3
              exact ⟨h1, h3⟩
            clear hz
            have HN := Lib.hid hn
            clear hn
            have Z0 := Stay.blk HA0.out hst (by omega)
            have y0 := Z0.cell 0
            have x0 := Z0.frozen 0
            have y1 := Z0.cell 1
            have x1 := Z0.frozen 1
            have y2 := Z0.cell 2
            have x2 := Z0.frozen 2
            have y3 := Z0.cell 3
            have x3 := Z0.frozen 3
            have Z1 := Stay.blk HA1.out hst (by omega)
            have F1 := Blk.set Z1 3 (.slice p6 n.length c6)
            have F0 := Blk.set_other Z0 (show w.heap.size + 1 ≠ w.heap.size by omega) 3 (.slice p6 n.length c6)
            have HST := Lib.hid (((Stay.of_below hB0.out).trans hst).set (g := w.heap.size + 1) (by omega) 3 (.slice p6 n.length c6))
            have HRD := Lib.hid (rd_set X hrd (g := w.heap.size + 1) (by omega) 3 (.slice p6 n.length c6))
            have HO6 := Lib.hid (own_set hown (show w.heap.size + 1 < _ by rw [HSO.out]; omega) 3 (.slice p6 n.length c6))
            have HSO2 := HSO
            clear hown
            have z0 := Z1.cell 3
            have z1 := Z1.frozen 3
            have HF1 := Lib.hid F1
            have HF0 := Lib.hid F0
            have c0 := HF1.out.cell 0
            have c1 := HF1.out.cell 1
            have c2 := HF1.out.cell 2
            have c3 := HF1.out.cell 3
            clear Z0 Z1 F0 F1 hst hrd HA0 HA1 hB0 HC hR HSO
            have HS4 := Lib.hid (stay4 HST.out (Nat.le_refl w.heap.size) (.int .i64 4) (.int .i64 0) (.string ⟨#[]⟩) (.slice p6 n.length c6))
            have HR4 := Lib.hid (rd4 X HRD.out (g := w.heap.size) (by omega) (.int .i64 4) (.int .i64 0) (.string ⟨#[]⟩) (.slice p6 n.length c6))
            have HD4 : Hid (Blk _ w.heap.size 43 [.int .i64 4, .int .i64 0, .string ⟨#[]⟩, .slice p6 n.length c6]) := put4 HF0.out
            go_wp2_with fail
            refine bodyPost_ret (results_blk Tryd.results18 _ _ w.heap.size 43 _ _ rfl HD4.out Tryd.underlying43 rfl infoPut) rfl ?_
            exact ⟨⟨4, 0, [], p6, c6, n⟩, rfl, by rw [HQ.out, HN.out]; rfl, ⟨⟨(by show (-9223372036854775808 : Int) ≤ 0; omega), (by show (0 : Int) ≤ 9223372036854775807; omega)⟩, (by simp), (own_row rfl (own4 HO6.out (g := w.heap.size) (by rw [HSO2.out]; omega) _ _ _ _)).1, (own_row rfl HO6.out).2.1, (own_row rfl HO6.out).2.2, (by show n.length ≤ _; have := HI.out.1; omega), fun y hy => (by have := HI.out.2 y hy; omega)⟩, by rw [HQ.out]; exact HR4.out, HS4.out, (fun e0 he => HZ4.out e0 he), fun g o hgo => (by have h := (HO6.out.lt g (by subst hgo; rfl)).1; rw [HSO2.out] at h; omega)⟩
          · have i4 : (k == 4) = false := by rw [beq_eq_false_iff_ne]; exact hk
            have HQ : Hid (readS k st = (none0 k, st)) := by show _ = _; unfold readS; rw [if_neg N0.out, if_neg N1.out, if_neg N2.out, if_neg N3.out, if_neg hk]
            obtain ⟨q, hq⟩ : ∃ q, readS k st = q := ⟨_, rfl⟩
            rw [hq] at HQ ⊢
            clear hq hk
            have hB0 := Lib.hid ((Below.refl w.heap.size w).alloc (Nat.le_refl _) (.cells #[.int .i64 k, .int .i64 0, .string ⟨#[]⟩, .slice none 0 0] 43) |>.alloc (by simp) (.cells #[.int .i64 k, .int .i64 0, .string ⟨#[]⟩, .slice none 0 0] 43))
            have HD4 : Hid (Blk ((w.alloc (.cells #[.int .i64 k, .int .i64 0, .string ⟨#[]⟩, .slice none 0 0] 43)).alloc (.cells #[.int .i64 k, .int .i64 0, .string ⟨#[]⟩, .slice none 0 0] 43)) w.heap.size 43 [.int .i64 k, .int .i64 0, .string ⟨#[]⟩, .slice none 0 0]) := blk_old (blk_new w _ _ _ rfl) _
            have HR4 : Hid (X.Rd ((w.alloc (.cells #[.int .i64 k, .int .i64 0, .string ⟨#[]⟩, .slice none 0 0] 43)).alloc (.cells #[.int .i64 k, .int .i64 0, .string ⟨#[]⟩, .slice none 0 0] 43)) lo hi (.pointer pv) st) := X.rkeep hR hB0.out.size fun i _ hi2 => hB0.out.block i (by omega)
            have HS4 : Hid (Stay lo hi w ((w.alloc (.cells #[.int .i64 k, .int .i64 0, .string ⟨#[]⟩, .slice none 0 0] 43)).alloc (.cells #[.int .i64 k, .int .i64 0, .string ⟨#[]⟩, .slice none 0 0] 43))) := Stay.of_below hB0.out
            clear hR
            go_enter Tryd.func18, Tryd.ntmps18
            go_wp2_with fail
            refine bodyPost_ret (results_blk Tryd.results18 _ _ w.heap.size 43 _ _ rfl HD4.out Tryd.underlying43 rfl infoPut) rfl ?_
            exact ⟨⟨k, 0, [], none, 0, []⟩, rfl, by rw [HQ.out]; rfl, ⟨⟨(by show (-9223372036854775808 : Int) ≤ 0; omega), (by show (0 : Int) ≤ 9223372036854775807; omega)⟩, (by simp), ins_none _, fun _ => rfl, Nat.le_refl _, by simp, by simp⟩, by rw [HQ.out]; exact HR4.out, HS4.out, (fun _ _ => ⟨rfl, rfl⟩), fun _ _ h => absurd h (by simp)⟩
/-- behind an error all answers are zero -/
theorem readS_bad (k : Int) (e : Nat) : readS k (.bad e) = (none0 k, .bad e) := by
  unfold readS none0
  split
  · show ((⟨k, unzz 0, [], []⟩ : Put), St.bad e) = _
    rfl
  · split
    · rfl
    · split
      · rfl
      · split
        · rfl
        · split
          · rfl
          · rfl
/-- a reader that has an error: nothing is read -/
theorem read_bad {T' : World → Prop} {Cap : Nat → Prop} (X : WApi T' Cap) {lo hi : Nat} {v : Value} {e0 : Nat} (k : Int) (w : World) (hR : X.Rd w lo hi v (.bad e0)) :
    Calls Tryd.prog 18 #[v, .int .i64 k] w fun e w' => e = .returned (.agg #[.int .i64 k, .int .i64 0, .string ⟨#[]⟩, .slice none 0 0]) ∧ X.Rd w' lo hi v (.bad e0) ∧ Stay lo hi w w' :=
  (read_c X k w hR).mono fun e w' h => by
    unfold ReadB at h
    obtain ⟨y, h1, h2, _, h4, h5, h6⟩ := h
    obtain ⟨h7, h8⟩ := h6.1 e0 rfl
    rw [readS_bad] at h2 h4
    obtain ⟨yk, yn, ys, yp, yc, yl⟩ := y
    have h9 : (⟨yk, yn, ys, yl⟩ : Put) = ⟨k, 0, [], []⟩ := h2
    injection h9 with a1 a2 a3 a4
    dsimp only at h7 h8
    subst a1 a2 a3 a4 h7 h8
    exact ⟨h1, h4, h5⟩
end Go.Proofs.YtpffebcaalbhjaaDoor.wir
