/- The reference's Take, Spoil. -/
import Derived.Test.YtdjgafemmihlgaaLanW
namespace Go.Proofs.Ytdjgafemmihlgaa.lan
open Go.RowKit
open Go.Proofs.Ytdjgafemmihlgaa.oct Go.Proofs.Ytdjgafemmihlgaa.ref Go.Proofs.Ytdjgafemmihlgaa.rows Go.Proofs.Ytdjgafemmihlgaa.rowg Go.Proofs.Ytdjgafemmihlgaa.trn
open Go.Lib (byteCells)

/-- what the reference's Take comes to -/
def RTakeA (w w' : World) (R : Nat → Prop) (g : Nat) (q : Pk × Nat × LS) (e : Ending) : Prop := ∃ p c, e = .returned (.tuple #[.agg #[.int .i64 (q.1.a : Nat), .int .i64 (q.1.b : Nat), .slice p q.1.d.length c], err q.2.1]) ∧ In8 w' p q.1.d ∧ (∀ b o z, p = some ⟨b, o, z⟩ → R b) ∧ RTo w w' R g q.2.2
theorem rtake_zero {w w' : World} {R : Nat → Prop} {g : Nat} {s : LS} (h : RA w R g s) (n : Nat) (hb : Below w.heap.size w w') : RTakeA w w' R g (zeroPk, n, s) (.returned (.tuple #[.agg #[.int .i64 0, .int .i64 0, .slice none 0 0], err n])) :=
  ⟨none, 0, rfl, (fun h => absurd h (by simp [zeroPk])), (fun b o z e => by cases e), RTo.same h hb⟩
theorem set3_below {w w' : World} (h : Below w.heap.size w w') (x y z : Value) : Below w.heap.size w (((w'.setCell ⟨w.heap.size, 0, none⟩ x).setCell ⟨w.heap.size, 1, none⟩ y).setCell ⟨w.heap.size, 2, none⟩ z) :=
  ((h.setCell (p := ⟨w.heap.size, 0, none⟩) (Nat.le_refl _) _).setCell (p := ⟨w.heap.size, 1, none⟩) (Nat.le_refl _) _).setCell (p := ⟨w.heap.size, 2, none⟩) (Nat.le_refl _) _
theorem set3_turn (w : World) (g : Nat) (x y z : Value) : Turn (fun k => k = g) w (((w.setCell ⟨g, 0, none⟩ x).setCell ⟨g, 1, none⟩ y).setCell ⟨g, 2, none⟩ z) :=
  ((Turn.set (S := fun k => k = g) _ _ _ _ rfl).next (Turn.set (S := fun k => k = g) _ _ _ _ rfl)).next (Turn.set (S := fun k => k = g) _ _ _ _ rfl)
theorem rtake_fin {w w3 w4 : World} {R : Nat → Prop} {g : Nat} {s : LS} {p : Option Addr} {d : T} (hlt : ∀ k, R k → k < w.heap.size) (hb : Below w.heap.size w w3) (h5 : w.heap.size < w3.heap.size) (hto : RTo w3 w4 R g s) (ht : Turn (fun k => k = g) w3 w4) (hp : In8 w3 p d) (hpR : ∀ b o z, p = some ⟨b, o, z⟩ → R b ∧ b ≠ g) (x y z : Value) :
    In8 (((w4.setCell ⟨w.heap.size, 0, none⟩ x).setCell ⟨w.heap.size, 1, none⟩ y).setCell ⟨w.heap.size, 2, none⟩ z) p d ∧ RTo w (((w4.setCell ⟨w.heap.size, 0, none⟩ x).setCell ⟨w.heap.size, 1, none⟩ y).setCell ⟨w.heap.size, 2, none⟩ z) R g s := by
  have h3 := set3_turn w4 w.heap.size x y z
  obtain ⟨R', r1, r2, r3⟩ := hto
  have hne : ∀ k, R' k → ¬ k = w.heap.size := fun k hk => (r3 k hk).elim (fun h => by have := hlt k h; omega) fun h => by omega
  refine ⟨in8_turn (in8_turn hp ht fun b o z e _ h => (hpR b o z e).2 h) h3 fun b o z e _ h => by have := hlt b (hpR b o z e).1; omega, R', r1.turn h3 hne, ?_, fun k hk => (r3 k hk).imp id fun e => Nat.le_trans hb.size e⟩
  have t1 : Turn (fun k => R k ∨ k = w.heap.size) w w3 := Turn.of_below hb
  have t2 := (t1.next (r2.mono fun k _ hk => Or.inl hk)).next (h3.mono fun k _ hk => Or.inr hk)
  exact t2.mono fun k hk h => h.elim id fun e => by omega
set_option maxRecDepth 100000 in
set_option maxHeartbeats 8000000 in
theorem rtake_c {w : World} {R : Nat → Prop} {g : Nat} {s : LS} (h : RA w R g s) (hw : Wf s) (k : Int) (hk : I64 k) :
    Calls Try.prog 30 #[ptr g, .int .i64 k] w fun e w' => RTakeA w w' R g (takeP s k) e := by
  have hb0 := (Below.refl w.heap.size w).alloc (Nat.le_refl _) (.cells #[.int .i64 0, .int .i64 0, .slice none 0 0] 44)
  have hB0 := blk_new w #[.int .i64 0, .int .i64 0, .slice none 0 0] 44 [.int .i64 0, .int .i64 0, .slice none 0 0] rfl
  have HC := Lib.hid (rat_c (h.below hb0) hw k hk)
  have HB0 := Lib.hid hB0
  have HBL := Lib.hid hb0
  have HH := Lib.hid h
  have HLT := Lib.hid h.lt
  have HWF := Lib.hid hw
  have hs0 : Hid ((w.alloc (.cells #[.int .i64 0, .int .i64 0, .slice none 0 0] 44)).heap.size = w.heap.size + 1) := by show _ = _; simp
  unfold takeP
  unfold tellP at HC
  cases ha : atP s k with
  | none =>
    rw [ha] at HC
    dsimp only [zeroPk] at HC ⊢
    clear ha hw h hb0 hB0
    go_enter Try.func30, Try.ntmps30
    go_wp2_with fail
    refine HC.out.mono ?_
    rintro e w1 ⟨p, c, rfl, _, _, _, hb⟩
    dsimp only
    have hb2 := hb.alloc hb.size (.cells #[.int .i64 0, .int .i64 0, .slice p 0 c] 44)
    have hpb : Blk (w1.alloc (.cells #[.int .i64 0, .int .i64 0, .slice p 0 c] 44)) w1.heap.size 44 [.int .i64 0, .int .i64 0, .slice p 0 c] := blk_new w1 _ _ _ rfl
    have hz := HB0.out.below hb2
    have hbw := bnext HBL.out hb2
    have l0 : w.heap.size < w1.heap.size := by have := hb.size; rw [hs0.out] at this; omega
    have h12 : Below w1.heap.size w1 (w1.alloc (.cells #[.int .i64 0, .int .i64 0, .slice p 0 c] 44)) := (Below.refl _ _).alloc (Nat.le_refl _) _
    obtain ⟨w2, hw2⟩ : ∃ w2, w1.alloc (.cells #[.int .i64 0, .int .i64 0, .slice p 0 c] 44) = w2 := ⟨_, rfl⟩
    rw [hw2] at hb2 hpb hz hbw h12
    have HZ := Lib.hid hz
    have HB := Lib.hid hbw
    have HPB := Lib.hid hpb
    have H12 := Lib.hid h12
    have z0 := hz.cell 0
    have z1 := hz.cell 1
    have z2 := hz.cell 2
    have y0 := hz.frozen 0
    have y1 := hz.frozen 1
    have y2 := hz.frozen 2
    have x0 := hpb.cell 0
    have x1 := hpb.cell 1
    have x2 := hpb.cell 2
    have l1 := hz.lt
    have l2 := hpb.lt
    have k0 : w.heap.size ≠ w1.heap.size := Nat.ne_of_lt l0
    have k1 : w1.heap.size ≠ w.heap.size := Nat.ne_of_gt l0
    clear hb hb2 hz hpb hbw h12
    go_wp2_with fail
    clear hw2
    refine bodyPost_ret (results_rowtmp Try.results30 _ _ w.heap.size 44 [.int .i64 0, .int .i64 0, .slice none 0 0] _ rfl rfl (((HZ.out.set 0 _).set 1 _).set 2 _) Try.underlying44 rfl infoPk) rfl ?_
    exact rtake_zero HH.out 6 (set3_below HB.out _ _ _)
  | some i =>
    rw [ha] at HC
    dsimp only at HC ⊢
    obtain ⟨_, rfl, hi⟩ := atP_some ha
    have hx := hw.getD hi
    have hn32 := hw.hi
    obtain ⟨pc, cc, _, _, hsh⟩ := h.cells
    have hfree : freeP s (s.ps.getD i zeroPk) = !s.sh (s.ps.getD i zeroPk).a (s.ps.getD i zeroPk).b := rfl
    obtain ⟨x, hxe⟩ : ∃ x, s.ps.getD i zeroPk = x := ⟨_, rfl⟩
    rw [hxe] at HC hx hfree ⊢
    have hxa : x.a < 32 := by omega
    have hxb : x.b < 32 := by omega
    have hxaI : (x.a : Int) < 32 := by omega
    have hxbI : (x.b : Int) < 32 := by omega
    have hcell := hsh x.a x.b hxa hxb
    have hglt : g < w.heap.size := by obtain ⟨_, _, h1, _⟩ := h; exact h1.blk.lt
    have HDR := Lib.hid (fun wx (hr : RA wx R g s) => rdrop_c hr hw (i : Int) hk)
    have hdp : dropP s (i : Int) = (0, gone s i) := by unfold dropP; rw [ha]
    rw [hdp] at HDR
    clear ha hw h hb0 hB0 hxe hsh hx hdp
    cases hv : s.sh x.a x.b with
    | true =>
      rw [hv] at hcell hfree
      rw [hfree]
      clear hfree hv
      go_enter Try.func30, Try.ntmps30
      go_wp2_with fail
      refine HC.out.mono ?_
      rintro e w1 ⟨p, c, rfl, _, _, _, hb⟩
      dsimp only
      have hb2 := hb.alloc hb.size (.cells #[.int .i64 (x.a : Nat), .int .i64 (x.b : Nat), .slice p x.d.length c] 44)
      have hpb : Blk (w1.alloc (.cells #[.int .i64 (x.a : Nat), .int .i64 (x.b : Nat), .slice p x.d.length c] 44)) w1.heap.size 44 [.int .i64 (x.a : Nat), .int .i64 (x.b : Nat), .slice p x.d.length c] := blk_new w1 _ _ _ rfl
      have hz := HB0.out.below hb2
      have hbw := bnext HBL.out hb2
      have l0 : w.heap.size < w1.heap.size := by have := hb.size; rw [hs0.out] at this; omega
      have h12 : Below w1.heap.size w1 (w1.alloc (.cells #[.int .i64 (x.a : Nat), .int .i64 (x.b : Nat), .slice p x.d.length c] 44)) := (Below.refl _ _).alloc (Nat.le_refl _) _
      obtain ⟨w2, hw2⟩ : ∃ w2, w1.alloc (.cells #[.int .i64 (x.a : Nat), .int .i64 (x.b : Nat), .slice p x.d.length c] 44) = w2 := ⟨_, rfl⟩
      rw [hw2] at hb2 hpb hz hbw h12
      have HZ := Lib.hid hz
      have HB := Lib.hid hbw
      have HPB := Lib.hid hpb
      have H12 := Lib.hid h12
      have z0 := hz.cell 0
      have z1 := hz.cell 1
      have z2 := hz.cell 2
      have y0 := hz.frozen 0
      have y1 := hz.frozen 1
      have y2 := hz.frozen 2
      have x0 := hpb.cell 0
      have x1 := hpb.cell 1
      have x2 := hpb.cell 2
      have l1 := hz.lt
      have l2 := hpb.lt
      have k0 : w.heap.size ≠ w1.heap.size := Nat.ne_of_lt l0
      have k1 : w1.heap.size ≠ w.heap.size := Nat.ne_of_gt l0
      have q0 := (hbw.cell (p := ⟨g, 2 + x.a * 32 + x.b, none⟩) hglt).trans hcell
      have lg : g < w2.heap.size := Nat.lt_of_lt_of_le hglt hbw.size
      clear hb hb2 hz hpb hbw h12 hcell
      go_wp2_with fail
      clear hw2
      go_quiet (fail)
      go_wp2_with fail
      refine bodyPost_ret (results_rowtmp Try.results30 _ _ w.heap.size 44 [.int .i64 0, .int .i64 0, .slice none 0 0] _ rfl rfl ((((HZ.out.drewN _).set 0 _).set 1 _).set 2 _) Try.underlying44 rfl infoPk) rfl ?_
      exact rtake_zero HH.out 9 (set3_below (below_drewN HB.out _) _ _ _)
    | false =>
      rw [hv] at hcell hfree
      rw [hfree]
      clear hfree hv
      go_enter Try.func30, Try.ntmps30
      go_wp2_with fail
      refine HC.out.mono ?_
      rintro e w1 ⟨p, c, rfl, hp8, hpn, hpR, hb⟩
      dsimp only
      have hb2 := hb.alloc hb.size (.cells #[.int .i64 (x.a : Nat), .int .i64 (x.b : Nat), .slice p x.d.length c] 44)
      have hpb : Blk (w1.alloc (.cells #[.int .i64 (x.a : Nat), .int .i64 (x.b : Nat), .slice p x.d.length c] 44)) w1.heap.size 44 [.int .i64 (x.a : Nat), .int .i64 (x.b : Nat), .slice p x.d.length c] := blk_new w1 _ _ _ rfl
      have hz := HB0.out.below hb2
      have hbw := bnext HBL.out hb2
      have l0 : w.heap.size < w1.heap.size := by have := hb.size; rw [hs0.out] at this; omega
      have h12 : Below w1.heap.size w1 (w1.alloc (.cells #[.int .i64 (x.a : Nat), .int .i64 (x.b : Nat), .slice p x.d.length c] 44)) := (Below.refl _ _).alloc (Nat.le_refl _) _
      obtain ⟨w2, hw2⟩ : ∃ w2, w1.alloc (.cells #[.int .i64 (x.a : Nat), .int .i64 (x.b : Nat), .slice p x.d.length c] 44) = w2 := ⟨_, rfl⟩
      rw [hw2] at hb2 hpb hz hbw h12
      have HZ := Lib.hid hz
      have HB := Lib.hid hbw
      have HPB := Lib.hid hpb
      have H12 := Lib.hid h12
      have z0 := hz.cell 0
      have z1 := hz.cell 1
      have z2 := hz.cell 2
      have y0 := hz.frozen 0
      have y1 := hz.frozen 1
      have y2 := hz.frozen 2
      have x0 := hpb.cell 0
      have x1 := hpb.cell 1
      have x2 := hpb.cell 2
      have l1 := hz.lt
      have l2 := hpb.lt
      have k0 : w.heap.size ≠ w1.heap.size := Nat.ne_of_lt l0
      have k1 : w1.heap.size ≠ w.heap.size := Nat.ne_of_gt l0
      have q0 := (hbw.cell (p := ⟨g, 2 + x.a * 32 + x.b, none⟩) hglt).trans hcell
      have lg : g < w2.heap.size := Nat.lt_of_lt_of_le hglt hbw.size
      have HP8 := Lib.hid (hp8.below h12)
      have HPR := Lib.hid hpR
      have HL0 : Hid (w.heap.size < w1.heap.size) := l0
      clear hb hb2 hz hpb hbw h12 hcell hp8 hpR hpn
      go_wp2_with fail
      clear hw2
      go_quiet (fail)
      rename_i nq
      have HD := Lib.hid (HDR.out (w2.drewN nq) (HH.out.below (below_drewN HB.out _)))
      go_wp2_with fail
      refine HD.out.mono ?_
      rintro e w4 ⟨rfl, hto, hgr⟩
      have hgb : g ≠ w.heap.size := Nat.ne_of_lt hglt
      have hgb1 : g ≠ w1.heap.size := by have := HL0.out; omega
      have t4 : Turn (fun k => k = g) (w2.drewN nq) w4 := Turn.of_grown hgr rfl
      have hz4 := blk_turn (HZ.out.drewN nq) t4 (fun e => hgb e.symm)
      have hp4 := blk_turn (HPB.out.drewN nq) t4 (fun e => hgb1 e.symm)
      have HFIN := Lib.hid (rtake_fin HLT.out (below_drewN HB.out nq) (Nat.lt_trans HL0.out l2) hto t4 (HP8.out.below (below_drewN (Below.refl _ _) nq)) HPR.out)
      have HZ4 := Lib.hid hz4
      have z0 := hz4.cell 0
      have z1 := hz4.cell 1
      have z2 := hz4.cell 2
      have y0 := hz4.frozen 0
      have y1 := hz4.frozen 1
      have y2 := hz4.frozen 2
      have x0 := hp4.cell 0
      have x1 := hp4.cell 1
      have x2 := hp4.cell 2
      have l3 := hz4.lt
      have l4 := hp4.lt
      clear hz4 hp4 t4 hto hgr
      go_wp2_with fail
      refine bodyPost_ret (results_rowtmp Try.results30 _ _ w.heap.size 44 [.int .i64 (x.a : Nat), .int .i64 (x.b : Nat), .slice p x.d.length c] _ rfl rfl (((HZ4.out.set 0 _).set 1 _).set 2 _) Try.underlying44 rfl infoPk) rfl ?_
      exact ⟨p, c, rfl, (HFIN.out _ _ _).1, fun b o z e => (HPR.out b o z e).1, (HFIN.out _ _ _).2⟩
end Go.Proofs.Ytdjgafemmihlgaa.lan
