/- A writer in memory (WrP) and what is put into it: cursor.put, Writer's Int, Text, Bool, Count, NewWriter. Texts of at most 2^47 bytes. -/
import Derived.Test.YtpffebcaalbhjaaDoorWdv1
import Derived.Test.YtpffebcaalbhjaaDoorWirR
namespace Go.Proofs.YtpffebcaalbhjaaDoor.wir
open Go.RowKit
open Go.Proofs.YtpffebcaalbhjaaDoor.oct Go.Proofs.YtpffebcaalbhjaaDoor.ref Go.Proofs.YtpffebcaalbhjaaDoor.rows Go.Proofs.YtpffebcaalbhjaaDoor.rowg
open Go.Lib (byteCells)

theorem own_nilcap {w : World} {B e k n c : Nat} {p : Option Addr} {xs : List Value} (h : w.ownsRow B e k (.slice p n c) n xs) : (p = none → c = 0) ∧ n ≤ c := by
  rcases h.2 with ⟨h1, h2⟩ | ⟨g, cap, cur, h1, _, _, h5, _⟩
  · injection h1 with e1 e2 e3
    exact ⟨fun _ => e3, by omega⟩
  · injection h1 with e1 e2 e3
    subst e1 e3
    exact ⟨(fun h => by cases h), h5⟩
theorem own_apart {w : World} {B e e2 k n g : Nat} {v : Value} {xs X : List Value} (h : w.ownsRow B e k v n xs) (hB : Blk w g e2 X) (hn : e ≠ e2) : some g ≠ v.ownBlock := by
  rcases h.2 with ⟨h1, h2⟩ | ⟨g2, cap, cur, h1, _, h3, _⟩
  · subst h1; intro hh; cases hh
  · subst h1
    intro hh
    have e3 : g = g2 := by simpa [Value.ownBlock] using hh
    subst e3
    have hB2 : w.heap[g]? = some (.cells X.toArray e2 (0, 0)) := hB
    rw [hB2] at h3
    injection h3 with h3
    injection h3 with _ h4
    exact hn h4.symm
theorem own_stays {w w' : World} {B e k n : Nat} {v : Value} {xs : List Value} (h : w.ownsRow B e k v n xs) (hb : ∀ g, v.ownBlock = some g → w'.heap[g]? = w.heap[g]?) : w'.ownsRow B e k v n xs := by
  refine ⟨h.1, ?_⟩
  rcases h.2 with h2 | ⟨g, cap, cur, h1, h2, h3, h4⟩
  · exact Or.inl h2
  · exact Or.inr ⟨g, cap, cur, h1, h2, by rw [hb g (by rw [h1]; rfl)]; exact h3, h4⟩
theorem own_setne {w : World} {B e k n g : Nat} {v : Value} {xs : List Value} (h : w.ownsRow B e k v n xs) (hn : some g ≠ v.ownBlock) (i : Nat) (u : Value) : (w.setCell ⟨g, i, none⟩ u).ownsRow B e k v n xs :=
  own_stays h fun j hj => Below.heap_setCell _ _ _ _ (by exact fun e => hn (by rw [hj, show j = g from e]))
theorem blk_grew {w w' : World} {g e : Nat} {X : List Value} {r : Option Nat} (h : Blk w g e X) (hg : w.grownBy w' r) (hn : some g ≠ r) : Blk w' g e X := (hg.block g h.lt hn).trans h
theorem own_sl {w : World} {B e k n : Nat} {v : Value} {xs : List Value} (h : w.ownsRow B e k v n xs) : ∃ p c, v = .slice p n c := by
  rcases h.2 with ⟨h1, h2⟩ | ⟨g, cap, cur, h1, _⟩
  · exact ⟨none, 0, by rw [h1, h2]⟩
  · exact ⟨_, _, h1⟩
/-- the error of a writer that was told t, and (bad) a count that is none -/
def wE (t : T) (bad : Bool) : Nat := if bad then 3 else if 65536 < t.length then 2 else 0
theorem wE_bad (t : T) : wE t true = 3 := rfl
theorem wE_long {t : T} (h : 65536 < t.length) : wE t false = 2 := by unfold wE; simp [h]
theorem wE_ok {t : T} (h : t.length ≤ 65536) : wE t false = 0 := by
  unfold wE
  rw [if_neg (by simp), if_neg (by omega)]
theorem wE_more {t u : T} {bad : Bool} (h : wE t bad ≠ 0) : wE (t ++ u) bad = wE t bad := by
  cases bad with
  | true => rfl
  | false =>
    by_cases h1 : 65536 < t.length
    · rw [wE_long h1, wE_long (by rw [List.length_append]; omega)]
    · exact absurd (wE_ok (by omega)) h
theorem wE_zero {t : T} {bad : Bool} (h : wE t bad = 0) : bad = false ∧ t.length ≤ 65536 := by
  cases bad with
  | true => cases h
  | false =>
    refine ⟨rfl, ?_⟩
    by_cases h1 : 65536 < t.length
    · rw [wE_long h1] at h; cases h
    · omega
/-- block g is a writer that was told t; its bytes are a row of its own; all lies at or above B -/
def WrP (w : World) (B g : Nat) (t : T) (bad : Bool) : Prop :=
  B ≤ g ∧ B ≤ w.heap.size ∧ ∃ d, Blk w g 81 [d, .int .i64 (wE t bad : Nat)] ∧ (wE t bad = 0 → w.ownsRow B 5 1 d t.length (byteCells t))
theorem WrP.keep {w w' : World} {B g : Nat} {t : T} {bad : Bool} (h : WrP w B g t bad) (hb : Below w.heap.size w w') : WrP w' B g t bad := by
  obtain ⟨h1, h2, d, h3, h4⟩ := h
  exact ⟨h1, Nat.le_trans h2 hb.size, d, h3.below hb, fun e => own_below (h4 e) hb⟩
theorem WrP.any {w : World} {B g : Nat} {t : T} (h : WrP w B g t true) (u : T) : WrP w B g u true := by
  obtain ⟨h1, h2, d, h3, h4⟩ := h
  exact ⟨h1, h2, d, h3, fun e => by cases e⟩
/-- what a call on a writer's block comes to -/
def PutA1 (w w' : World) (B g : Nat) (t : T) (bad : Bool) (e : Ending) : Prop := e = .returned (.tuple #[]) ∧ WrP w' B g t bad ∧ Below B w w'
set_option maxRecDepth 100000 in
set_option maxHeartbeats 4000000 in
theorem cput_c (B g : Nat) (t : T) (bad : Bool) (n : Nat) (s : T) (w : World) (hW : WrP w B g t bad) (hn : n < 18446744073709551616) (hs : s.length ≤ 140737488351232) :
    Calls Tryd.prog 60 #[.pointer (some ⟨g, 0, none⟩), .int .u64 (n : Int), .string ⟨s.toArray⟩] w fun e w' => PutA1 w w' B g (t ++ numB n ++ s) bad e := by
  obtain ⟨hBg, hBw, d, hblk, hrow⟩ := hW
  by_cases hE : wE t bad = 0
  · obtain ⟨rfl, htl⟩ := wE_zero hE
    have hrw := hrow hE
    clear hrow
    rw [hE] at hblk
    obtain ⟨pd, cd, rfl, hd8⟩ := own_in8' hrw
    have c1 : w.cell? ⟨g, 1, none⟩ = some (.int .i64 0) := hblk.cell 1
    have HB := Lib.hid hblk
    have HR := Lib.hid hrw
    have HD := Lib.hid (digits_c n w hn)
    have hten := numB_ten hn
    obtain ⟨u, hu⟩ : ∃ u, numB n = u := ⟨_, rfl⟩
    rw [hu] at HD hten ⊢
    clear hu hblk hrw hn hE hd8
    go_enter Tryd.func60, Tryd.ntmps60
    go_wp2_with fail
    refine HD.out.mono ?_
    rintro e w1 ⟨v, rfl, hown, hb1⟩
    obtain ⟨pu, cu, rfl, hu8⟩ := own_in8' hown
    have hnc := own_nilcap hown
    have hblk1 := HB.out.below hb1
    have hrow1 := own_below HR.out hb1
    have c0 : w1.cell? ⟨g, 0, none⟩ = some (.slice pd t.length cd) := hblk1.cell 0
    have HU8 := Lib.hid hu8
    have HNC := Lib.hid hnc
    have HB1 := Lib.hid hblk1
    have HR1 := Lib.hid hrow1
    have HW1 := Lib.hid (hb1.mono hBw)
    have hBw1 : B ≤ w1.heap.size := Nat.le_trans hBw hb1.size
    clear hown hu8 hnc hblk1 hrow1 hb1 HD HB HR c1
    by_cases hlong : t.length + u.length + s.length > 65536
    · have i1 : (t.length : Int) + (u.length : Int) + (s.length : Int) > 65536 := by omega
      have HF := Lib.hid (fail_c 2 HB1.out)
      have HE : Hid (wE (t ++ u ++ s) false = 2) := wE_long (by rw [List.length_append, List.length_append]; exact hlong)
      clear hlong
      go_wp2_with fail
      refine HF.out.mono ?_
      rintro e w2 ⟨rfl, hb2, hg2⟩
      go_wp2_with fail
      refine bodyPost_ret (results_none rfl _ _ _) rfl ?_
      refine ⟨rfl, ⟨hBg, Nat.le_trans hBw1 hg2.size, .slice none 0 0, ?_, fun e => ?_⟩, HW1.out.grown hg2 hBw1 (fun k hk => by injection hk with hk; omega)⟩
      · rw [HE.out]; exact hb2
      · rw [HE.out] at e; cases e
    · have i1 : ¬ ((t.length : Int) + (u.length : Int) + (s.length : Int) > 65536) := by omega
      have hl : t.length + u.length + s.length ≤ 65536 := by omega
      have HE : Hid (wE (t ++ u ++ s) false = 0) := wE_ok (by rw [List.length_append, List.length_append]; exact hl)
      have f0 := HB1.out.frozen 0
      clear hlong
      go_wp2_with
        first
        | (at_builtin; refine wpList_append_in8g rfl (.tmp 32) (.tmp 33) rfl B _ t.length (byteCells t) rfl HR1.out pu u.length cu u rfl HU8.out rfl HNC.out.1 (by omega) hBw1 ?_; intro v2 w2 q1 q2; have HR2 := Lib.hid q1; have hblk2 := blk_grew HB1.out q2 (own_apart HR1.out HB1.out (by decide)); have HW2 := Lib.hid (HW1.out.grown q2 hBw1 (fun k hk => (HR1.out.lt k hk).1)); have hBw2 : B ≤ w2.heap.size := Nat.le_trans hBw1 q2.size; have HB2 := Lib.hid hblk2; clear q1 q2 hblk2)
        | (at_builtin; refine wpList_append_text rfl (.tmp 34) (.tmp 35) rfl B _ (t.length + u.length) (t ++ u) rfl (by rw [byteCells_append]; exact HR2.out) s rfl (by omega) hBw2 ?_; intro v3 w3 q1 q2; obtain ⟨p3, k3, hv3⟩ := own_sl q1; subst hv3; have HR3 := Lib.hid q1; have hblk3 := blk_grew HB2.out q2 (own_apart HR2.out HB2.out (by decide)); have HW3 := Lib.hid (HW2.out.grown q2 hBw2 (fun k hk => (HR2.out.lt k hk).1)); have hBw3 : B ≤ w3.heap.size := Nat.le_trans hBw2 q2.size; have HB3 := Lib.hid hblk3; have d0 := hblk3.cell 0; have g0 := hblk3.frozen 0; have hlt3 := hblk3.lt; clear q1 q2 hblk3)
      go_end0
      refine ⟨rfl, ⟨hBg, Nat.le_trans hBw3 (by simp), .slice p3 (t.length + u.length + s.length) k3, ?_, fun e => ?_⟩, HW3.out.setCell (p := ⟨g, 0, none⟩) hBg _⟩
      rotate_left
      · have h := own_setne HR3.out (own_apart HR3.out HB3.out (by decide)) 0 (.slice p3 (t.length + u.length + s.length) k3)
        rw [List.length_append, List.length_append]
        exact h
      · rw [HE.out]
        exact HB3.out.set 0 _
  · have i0 : (((wE t bad : Nat) : Int) == 0) = false := by rw [beq_eq_false_iff_ne]; omega
    have c1 : w.cell? ⟨g, 1, none⟩ = some (.int .i64 ((wE t bad : Nat) : Int)) := hblk.cell 1
    have HE := Lib.hid (wE_more (u := numB n ++ s) hE)
    have HB := Lib.hid hblk
    obtain ⟨q, hq⟩ : ∃ q, wE t bad = q := ⟨_, rfl⟩
    rw [hq] at i0 c1 HE HB
    clear hrow hE hq hblk
    go_enter Tryd.func60, Tryd.ntmps60
    go_wp2_with fail
    refine bodyPost_ret (results_none rfl _ _ _) rfl ?_
    refine ⟨rfl, ⟨hBg, hBw, d, ?_, fun e => ?_⟩, Below.refl _ _⟩
    · rw [List.append_assoc, HE.out]; exact HB.out
    · rw [List.append_assoc, HE.out] at e; subst e; cases i0
theorem wir_new (w : World) :
    Calls Tryd.prog 25 #[] w fun e w' => ∃ g, e = .returned (.pointer (some ⟨g, 0, none⟩)) ∧ WrP w' w.heap.size g [] false ∧ Below w.heap.size w w' := by
  have hB := (Below.refl w.heap.size w).alloc (Nat.le_refl _) (.cells #[.slice none 0 0, .int .i64 0] 81)
  have HB := Lib.hid hB
  have HN : Hid (WrP (w.alloc (.cells #[.slice none 0 0, .int .i64 0] 81)) w.heap.size w.heap.size [] false) :=
    ⟨Nat.le_refl _, hB.size, .slice none 0 0, blk_new w _ _ _ rfl, fun _ => World.ownsRow_nil _ _ _ _⟩
  clear hB
  go_enter Tryd.func25, Tryd.ntmps25
  go_wp2_with fail
  go_ret
  exact ⟨_, rfl, HN.out, HB.out⟩
set_option maxRecDepth 100000 in
set_option maxHeartbeats 4000000 in
theorem wint_c (B g : Nat) (t : T) (bad : Bool) (n : Int) (w : World) (hW : WrP w B g t bad) (h1 : -9223372036854775808 ≤ n) (h2 : n ≤ 9223372036854775807) :
    Calls Tryd.prog 47 #[.pointer (some ⟨g, 0, none⟩), .int .i64 n] w fun e w' => PutA1 w w' B g (t ++ numB (zz n)) bad e := by
  have HF := Lib.hid (fun wx => folded_c n wx h1 h2)
  have HP := Lib.hid (fun wx (hb : Below w.heap.size w wx) => cput_c B g t bad (zz n) [] wx (hW.keep hb) (zz_lt h1 h2) (by simp))
  simp only [List.append_nil] at HP
  obtain ⟨q, hq⟩ : ∃ q, zz n = q := ⟨_, rfl⟩
  rw [hq] at HF HP ⊢
  clear hq hW h1 h2
  go_enter Tryd.func47, Tryd.ntmps47
  go_wp2_with fail
  go_region_with (first
    | (go_at_call 61; refine (HF.out _).mono ?_; rintro e w' ⟨rfl, rfl⟩)
    | (go_at_call 60; refine (HP.out _ (by exact below_drewN (Below.refl _ _) _)).mono ?_; rintro e w' ⟨rfl, h1, h2⟩))
  go_end0
  exact ⟨rfl, h1, ((Below.refl B w).drew).trans h2⟩
set_option maxRecDepth 100000 in
set_option maxHeartbeats 4000000 in
theorem wtext_c (B g : Nat) (t : T) (bad : Bool) (s : T) (w : World) (hW : WrP w B g t bad) (hs : s.length ≤ 140737488351232) :
    Calls Tryd.prog 48 #[.pointer (some ⟨g, 0, none⟩), .string ⟨s.toArray⟩] w fun e w' => PutA1 w w' B g (t ++ textB s) bad e := by
  have HP := Lib.hid (cput_c B g t bad s.length s w hW (by omega) hs)
  rw [List.append_assoc, show numB s.length ++ s = textB s from rfl] at HP
  have i1 : (s.length : Int) % 18446744073709551616 = (s.length : Int) := by omega
  clear hW
  go_enter Tryd.func48, Tryd.ntmps48
  go_wp2_with fail
  refine HP.out.mono ?_
  rintro e w1 ⟨rfl, h1, h2⟩
  go_wp2_with fail
  go_end0
  exact ⟨rfl, h1, h2⟩
set_option maxRecDepth 100000 in
set_option maxHeartbeats 4000000 in
theorem wcount_c (B g : Nat) (t : T) (bad : Bool) (n : Int) (w : World) (hW : WrP w B g t bad) (h1 : -9223372036854775808 ≤ n) (h2 : n ≤ 9223372036854775807) :
    Calls Tryd.prog 50 #[.pointer (some ⟨g, 0, none⟩), .int .i64 n] w fun e w' =>
      if 0 ≤ n ∧ n ≤ 4096 then PutA1 w w' B g (t ++ numB n.toNat) bad e else PutA1 w w' B g t true e := by
  by_cases hn : 0 ≤ n ∧ n ≤ 4096
  · have HP := Lib.hid (cput_c B g t bad n.toNat [] w hW (by omega) (by simp))
    rw [show ((n.toNat : Nat) : Int) = n by omega, List.append_nil] at HP
    have i1 : n % 18446744073709551616 = n := by omega
    have i2 : ¬ (n < 0) := by omega
    have i3 : ¬ (n > 4096) := by omega
    simp only [if_pos hn]
    clear hW hn
    go_enter Tryd.func50, Tryd.ntmps50
    go_wp2_with fail
    refine HP.out.mono ?_
    rintro e w1 ⟨rfl, h1, h2⟩
    go_wp2_with fail
    go_end0
    exact ⟨rfl, h1, h2⟩
  · obtain ⟨hBg, hBw, d, hblk, hrow⟩ := hW
    have HF := Lib.hid (fail_c 3 hblk)
    simp only [if_neg hn]
    clear hrow hblk
    by_cases i2 : n < 0
    · go_enter Tryd.func50, Tryd.ntmps50
      go_wp2_with fail
      refine HF.out.mono ?_
      rintro e w1 ⟨rfl, hb2, hg2⟩
      go_wp2_with fail
      go_end0
      exact ⟨rfl, ⟨hBg, Nat.le_trans hBw hg2.size, .slice none 0 0, hb2, fun e => by cases e⟩, (Below.refl B w).grown hg2 hBw (fun k hk => by injection hk with hk; omega)⟩
    · have i3 : n > 4096 := by omega
      clear hn
      go_enter Tryd.func50, Tryd.ntmps50
      go_wp2_with fail
      refine HF.out.mono ?_
      rintro e w1 ⟨rfl, hb2, hg2⟩
      go_wp2_with fail
      go_end0
      exact ⟨rfl, ⟨hBg, Nat.le_trans hBw hg2.size, .slice none 0 0, hb2, fun e => by cases e⟩, (Below.refl B w).grown hg2 hBw (fun k hk => by injection hk with hk; omega)⟩
set_option maxRecDepth 100000 in
set_option maxHeartbeats 4000000 in
theorem wbool_c (B g : Nat) (t : T) (bad b : Bool) (w : World) (hW : WrP w B g t bad) :
    Calls Tryd.prog 49 #[.pointer (some ⟨g, 0, none⟩), .bool b] w fun e w' => PutA1 w w' B g (t ++ [if b then 1 else 0]) bad e := by
  cases b with
  | true =>
    have HP := Lib.hid (wcount_c B g t bad 1 w hW (by decide) (by decide))
    simp only [show (0 : Int) ≤ 1 ∧ (1 : Int) ≤ 4096 from ⟨by decide, by decide⟩, and_self, if_true, show numB (1 : Int).toNat = [1] from numB_one (n := 1) (by decide)] at HP
    go_enter Tryd.func49, Tryd.ntmps49
    go_wp2_with fail
    refine HP.out.mono ?_
    rintro e w1 ⟨rfl, h1, h2⟩
    go_wp2_with fail
    go_end0
    exact ⟨rfl, h1, h2⟩
  | false =>
    have HP := Lib.hid (wcount_c B g t bad 0 w hW (by decide) (by decide))
    simp only [show (0 : Int) ≤ 0 ∧ (0 : Int) ≤ 4096 from ⟨by decide, by decide⟩, and_self, if_true, show numB (0 : Int).toNat = [0] from numB_one (n := 0) (by decide)] at HP
    go_enter Tryd.func49, Tryd.ntmps49
    go_wp2_with fail
    refine HP.out.mono ?_
    rintro e w1 ⟨rfl, h1, h2⟩
    go_wp2_with fail
    go_end0
    exact ⟨rfl, h1, h2⟩
end Go.Proofs.YtpffebcaalbhjaaDoor.wir
