/- PlatePlays: whatever is called, both plates tell alike. -/
import Derived.Test.YtggcdlhgmikemaaPlk
namespace Go.Proofs.Ytggcdlhgmikemaa.plt
open Go.RowKit
open Go.Proofs.Ytggcdlhgmikemaa.oct Go.Proofs.Ytggcdlhgmikemaa.ref Go.Proofs.Ytggcdlhgmikemaa.rows Go.Proofs.Ytggcdlhgmikemaa.rowg Go.Proofs.Ytggcdlhgmikemaa.trn
open Go.Lib (byteCells)
open Go.Proofs.Ytggcdlhgmikemaa.opn (SP spenc spenc_len GoodS)

set_option maxRecDepth 100000 in
set_option maxHeartbeats 16000000 in
theorem plays_no (n : Int) (h : ¬ (0 ≤ n ∧ n ≤ 268435456)) (P : Option Addr) (L C : Nat) (w : World) :
    Calls Try.prog 3 #[.int .i64 n, .slice P L C] w fun e w' => e = .returned (.bool true) ∧ Below w.heap.size w w' := by
  have HNEW := Lib.hid (pnew_no w n h)
  have HKN := Lib.hid (fun w0 => known_c w0 w0 (Below.refl _ _))
  have hr : n < 0 ∨ (¬ (n < 0) ∧ n > 268435456) := by omega
  clear h
  rcases hr with h1 | ⟨h1, h2⟩
  all_goals
    go_enter Try.func3, Try.ntmps3
    go_wp2_with fail
    refine HNEW.out.mono ?_
    rintro e w1 ⟨rfl, rfl⟩
    go_wp2_with fail
    refine (HKN.out _).mono ?_
    rintro e w2 ⟨rfl, hb2⟩
    have HB2 := Lib.hid hb2
    clear hb2
    go_wp2_with fail
    refine (HKN.out _).mono ?_
    rintro e w3 ⟨rfl, hb3⟩
    have HB3 := Lib.hid (bnext HB2.out hb3)
    clear hb3
    go_wp2_with fail
    go_ret
    exact ⟨rfl, HB3.out⟩
/-- a plate of the document's that is new -/
abbrev rzero (n : Nat) : Array Value := #[.slice none 0 0, .int .i64 (n : Nat), .bool false, .int .i64 0, .bool false]
theorem rb_new (w : World) (n : Nat) : RB (w.alloc (.cells (rzero n) 31)) (fun k => k = w.heap.size) w.heap.size (newP n) := by
  refine ⟨fun _ => False, ⟨none, 0, [], 0, ⟨fun k h => h.elim, id, blk_new w _ _ _ rfl, (fun h => absurd h (by simp)), fun _ => rfl, Nat.le_refl _, (fun b o e => by cases e), fun x hx => by cases hx⟩, rfl, (fun n e => by cases e), by omega, by omega⟩, fun k => ?_⟩
  simp
/-- a plate of the program's, and one of the document's that has come to be behind it -/
theorem qs_start {w w1 w2 : World} {n j g : Nat} {s : PS} {R : Nat → Prop} (hla : PA w1 R g s) (hws : Wf s) (hR : ∀ k, R k → w.heap.size ≤ k) (hb1 : Below w.heap.size w w1) (hb2 : Below w1.heap.size w1 w2) (X : Nat → Prop) (hX : ∀ k, X k → k < w2.heap.size ∧ ¬ R k) (hj : j ≤ 268435456) (_hn : n = n) :
    QS w (w2.alloc (.cells (rzero j) 31)) g w2.heap.size s (newP j) X := by
  have hb3 := (Below.refl w2.heap.size w2).alloc (Nat.le_refl _) (.cells (rzero j) 31)
  have hlt := (hla.below hb2).lt
  have hbw := bnext hb1 hb2
  refine ⟨R, fun k => k = w2.heap.size, ⟨(hla.below hb2).below hb3, rb_new w2 j, fun k hk e => (by have := hlt k hk; omega), hR, fun k e => (by have := hbw.size; omega), fun k hk => (hX k hk).2, fun k hk e => (by have := (hX k hk).1; omega), fun k hk => Nat.lt_of_lt_of_le (hX k hk).1 hb3.size, hws, wf_new hj, bnext hbw hb3⟩⟩
set_option maxRecDepth 100000 in
set_option maxHeartbeats 16000000 in
theorem plays_yes (n : Nat) (h2 : n ≤ 268435456) (P : Option Addr) (C : Nat) (l : List SP) (w : World) (hP : InG spenc 5 w P l) (hg : ∀ x ∈ l, GoodS w x) :
    Calls Try.prog 3 #[.int .i64 (n : Nat), .slice P l.length C] w fun e w' => e = .returned (.bool true) ∧ Below w.heap.size w w' := by
  have HNEW := Lib.hid (pnew_c w n h2)
  have HKN := Lib.hid (fun w0 => known_c w0 w0 (Below.refl _ _))
  have i1 : ¬ ((n : Int) < 0) := by omega
  have i2 : ¬ ((n : Int) > 268435456) := by omega
  have HP := Lib.hid hP
  have HG := Lib.hid hg
  have HN2 := Lib.hid h2
  clear hP hg
  go_enter Try.func3, Try.ntmps3
  go_wp2_with fail
  refine HNEW.out.mono ?_
  rintro e w1 hnp
  obtain ⟨g, R, rfl, hla, hR, hb1⟩ := newpl_pa hnp
  have HLA := Lib.hid hla
  have HB1 := Lib.hid hb1
  have HR := Lib.hid hR
  clear hla hb1 hR HNEW hnp
  go_wp2_with fail
  refine (HKN.out _).mono ?_
  rintro e w2 ⟨rfl, hb2⟩
  have HB2 := Lib.hid hb2
  clear hb2
  go_wp2_with fail
  have hst : Hid (∃ s, QS w (w2.alloc (.cells (rzero n) 31)) g w2.heap.size s s (fun _ => False)) :=
    ⟨newP n, qs_start (n := n) HLA.out (wf_new HN2.out) HR.out HB1.out HB2.out _ (fun _ e => e.elim) HN2.out rfl⟩
  obtain ⟨w3, hw3⟩ : ∃ w3, w2.alloc (.cells (rzero n) 31) = w3 := ⟨_, rfl⟩
  rw [hw3] at hst
  obtain ⟨gr, hgr⟩ : ∃ gr, w2.heap.size = gr := ⟨_, rfl⟩
  rw [hgr] at hst ⊢
  rw [hw3]
  clear hw3 hgr HLA HR HB1 HB2 HKN HN2
  go_loopg [8] 120 (fun gk s8 wy => ∃ i : Nat, i + gk = 120 ∧ s8 = .int .i64 (i : Int) ∧ Hid (∃ s, QS w wy g gr s s (fun _ => False)))
  case atStart => exact ⟨0, by omega, rfl, hst⟩
  case round =>
    obtain ⟨i, hig, rfl, HX⟩ := hrel
    by_cases hin : i < l.length ∧ i < 120
    · obtain ⟨hin1, hin2⟩ := hin
      have j1 : (i : Int) < l.length := by omega
      have j2 : (i : Int) < 120 := by omega
      obtain ⟨s, hps⟩ := HX.out
      obtain ⟨b, o, rfl, hc⟩ := InG.cells (InG.below spenc_len (by decide) HP.out hps.below) i hin1
      have hgd := HG.out _ (List.getElem_mem hin1)
      obtain ⟨x, hx⟩ : ∃ x, l[i] = x := ⟨_, rfl⟩
      rw [hx] at hc hgd
      have d0 : wr.cell? ⟨b, o + i * 5, none⟩ = some (.int .i64 x.k) := hc 0 (by decide)
      have d1 : wr.cell? ⟨b, o + i * 5 + 1, none⟩ = some (.string ⟨x.n.toArray⟩) := hc 1 (by decide)
      have d2 : wr.cell? ⟨b, o + i * 5 + 2, none⟩ = some (.slice x.p x.d.length x.c) := hc 2 (by decide)
      have d3 : wr.cell? ⟨b, o + i * 5 + 3, none⟩ = some (.int .i64 x.m) := hc 3 (by decide)
      have d4 : wr.cell? ⟨b, o + i * 5 + 4, none⟩ = some (.slice x.q x.ks.length x.e) := hc 4 (by decide)
      have HDO : Hid (Calls Try.prog 11 #[dptr g, dptr gr, .agg #[.int .i64 x.k, .string ⟨x.n.toArray⟩, .slice x.p x.d.length x.c, .int .i64 x.m, .slice x.q x.ks.length x.e]] wr fun e w2 => e = .returned (.bool true) ∧ ∃ s2, QS w w2 g gr s2 s2 (fun _ => False)) :=
        (do_c hps True (fun _ => rfl) x hgd).mono fun e w2 ⟨⟨b, e1, e2⟩, e3, _⟩ => ⟨by rw [e1, e2 trivial], _, e3⟩
      clear hc hx hgd hps
      go_wp2_with fail
      refine HDO.out.mono ?_
      rintro e w4 ⟨rfl, s2, hps2⟩
      have HAL := Lib.hid (alike_c hps2)
      have HP2 := Lib.hid hps2
      clear hps2
      go_wp2_with fail
      refine HAL.out.mono ?_
      rintro e w5 ⟨rfl, hb5⟩
      have HP5 := Lib.hid (HP2.out.same hb5)
      clear hb5
      go_wp2_with fail
      go_roundg (gk - 1)
      case measure => omega
      case rel => exact ⟨i + 1, by omega, by go_num, ⟨_, HP5.out⟩⟩
    · have hex : ¬ ((i : Int) < l.length) ∨ ((i : Int) < l.length ∧ ¬ ((i : Int) < 120)) := by omega
      obtain ⟨s, hps⟩ := HX.out
      have HB := Lib.hid hps.below
      clear hps hin
      rcases hex with e1 | ⟨e1, e2⟩
      all_goals
        go_wp2_with fail
        go_ret
        exact ⟨rfl, HB.out⟩
theorem g_plays (n : Int) (P : Option Addr) (C : Nat) (l : List SP) (w : World) (_hn : (Lit.int .i64 n).wf = true) (hP : InG spenc 5 w P l) (hg : ∀ x ∈ l, GoodS w x) :
    Calls Try.prog 3 #[.int .i64 n, .slice P l.length C] w fun e w' => e = .returned (.bool true) ∧ Below w.heap.size w w' := by
  by_cases h : 0 ≤ n ∧ n ≤ 268435456
  · obtain ⟨m, rfl⟩ : ∃ m : Nat, n = m := ⟨n.toNat, by omega⟩
    exact plays_yes m (by omega) P C l w hP hg
  · exact plays_no n h P l.length C w
end Go.Proofs.Ytggcdlhgmikemaa.plt
