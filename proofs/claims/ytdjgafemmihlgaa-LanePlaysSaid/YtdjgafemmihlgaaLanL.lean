/- LanePlays: whatever is called, both lanes tell alike. -/
import Derived.Test.YtdjgafemmihlgaaLanDB
import Derived.Test.YtdjgafemmihlgaaLanDC
import Derived.Test.YtdjgafemmihlgaaLanDD
import Derived.Test.YtdjgafemmihlgaaLanDE
import Derived.Test.YtdjgafemmihlgaaLanDF
import Derived.Test.YtdjgafemmihlgaaLanDK
import Derived.Test.YtdjgafemmihlgaaLanDG
import Derived.Test.YtdjgafemmihlgaaLanDJ
import Derived.Test.YtdjgafemmihlgaaLanOp
namespace Go.Proofs.Ytdjgafemmihlgaa.opn
open Go.Proofs.Ytdjgafemmihlgaa.oct (In8)
open Go.Proofs.Ytdjgafemmihlgaa.lan (I64)
/-- a step that reaches a law -/
structure GoodS (w : World) (x : SP) : Prop where
  row : In8 w x.p x.d
  nil : x.p = none → x.c = 0
  fit : x.d.length ≤ 140737488351232
  ik : I64 x.k
  ia : I64 x.a
  ib : I64 x.b
theorem spq_reach {H : Type} {ts : List TypeId} {ds : List (DataW H)} {d : DataW H} {t : TypeId} {W : World} {x : SP} (hz : (DataW.weightsEach Try.prog ts ds).all (· ≤ reachBytes) = true) (j : Nat) (h1 : ts[j]? = some t) (h2 : ds[j]? = some d) (h : SpQ W t x d) : GoodS W x :=
  ⟨h.row, h.nil, bytes_reach hz j h1 h2 h.many, h.ik, h.ia, h.ib⟩
end Go.Proofs.Ytdjgafemmihlgaa.opn
namespace Go.Proofs.Ytdjgafemmihlgaa.lan
open Go.RowKit
open Go.Proofs.Ytdjgafemmihlgaa.oct Go.Proofs.Ytdjgafemmihlgaa.ref Go.Proofs.Ytdjgafemmihlgaa.rows Go.Proofs.Ytdjgafemmihlgaa.rowg Go.Proofs.Ytdjgafemmihlgaa.trn
open Go.Lib (byteCells)
open Go.Proofs.Ytdjgafemmihlgaa.opn (SP spenc spenc_len GoodS)

/-- a step, by both -/
theorem do_c {w wx : World} {gl gr : Nat} {s : LS} {X : Nat → Prop} (h : PS w wx gl gr s s X) (hc : s.cn < 1000000) (x : SP) (hg : GoodS w x) :
    Calls Try.prog 9 #[ptr gl, ptr gr, .agg (spenc x).toArray] wx fun e w2 => DoA w w2 gl gr s X wx e := by
  obtain ⟨k, a, b, y, p, c, d⟩ := x
  obtain ⟨g1, g2, g3, _, g5, g6⟩ := hg
  dsimp only at g1 g2 g3 g5 g6
  have g4 : d.length ≤ 140737488355328 := by omega
  unfold spenc
  dsimp only
  by_cases k0 : k = 0
  · subst k0; exact do_send h hc a b y p d c g5 g6 g1 g2 g4
  by_cases k1 : k = 1
  · subst k1; exact do_take h a b y p d.length c g5
  by_cases k2 : k = 2
  · subst k2; exact do_drop h hc a b y p d c g5 g6 g1 g2 g4
  by_cases k3 : k = 3
  · subst k3; exact do_twice h hc a b y p d c g5 g6 g1 g2 g4
  by_cases k4 : k = 4
  · subst k4; exact do_spoil h hc a b y p d c g5 g6 g1 g2 g4
  by_cases k5 : k = 5
  · subst k5; exact do_shut h hc a b y p d c g5 g6 g1 g2 g4
  by_cases k6 : k = 6
  · subst k6; exact do_join h hc a b y p d c g5 g6 g1 g2 g4
  by_cases k7 : k = 7
  · subst k7; exact do_heal h a b y p d.length c
  by_cases k8 : k = 8
  · subst k8; exact do_next h a b y p d.length c
  exact do_none h k a b y p d.length c k0 k1 k2 k3 k4 k5 k6 k7 k8
set_option maxRecDepth 100000 in
set_option maxHeartbeats 16000000 in
theorem plays_no (n : Int) (hn : I64 n) (h : ¬ (1 ≤ n ∧ n ≤ 32)) (P : Option Addr) (L C : Nat) (w : World) :
    Calls Try.prog 3 #[.int .i64 n, .slice P L C] w fun e w' => e = .returned (.bool true) ∧ Below w.heap.size w w' := by
  have HNEW := Lib.hid (new_no w n hn h)
  have HKN := Lib.hid (fun w0 => known_c w0 w0 (Below.refl _ _))
  have hr : n < 1 ∨ (¬ (n < 1) ∧ n > 32) := by omega
  clear hn h
  rcases hr with h1 | ⟨h1, h2⟩
  all_goals
    go_enter Try.func3, Try.ntmps3
    go_wp2_with fail
    refine HNEW.out.mono ?_
    rintro e w1 ⟨rfl, rfl⟩
    go_wp2_with fail
    refine (HKN.out _).mono ?_
    rintro e w2 ⟨rfl, hb2⟩
    have HB2 := Lib.hid hb2
    clear hb2
    go_wp2_with fail
    refine (HKN.out _).mono ?_
    rintro e w3 ⟨rfl, hb3⟩
    have HB3 := Lib.hid (bnext HB2.out hb3)
    clear hb3
    go_wp2_with fail
    go_ret
    exact ⟨rfl, HB3.out⟩
theorem zero_lane (w : World) : (zeroValue 33).run Try.prog w = .ok (.agg (rcells 0 (.slice none 0 0) (fun _ _ => false)).toArray) w := by kernel_rfl
theorem plays_start {w w1 w2 : World} {n g : Nat} {R : Nat → Prop} (hla : LA w1 R g (newP n)) (hR : ∀ k, R k → w.heap.size ≤ k) (hb1 : Below w.heap.size w w1) (hb2 : Below w1.heap.size w1 w2) (h1 : 1 ≤ n) (h2 : n ≤ 32) :
    PS w (w2.alloc (.cells (rcells n (.slice none 0 0) (fun _ _ => false)).toArray 33)) g w2.heap.size (newP n) (newP n) (fun _ => False) := by
  have hb3 := (Below.refl w2.heap.size w2).alloc (Nat.le_refl _) (.cells (rcells n (.slice none 0 0) (fun _ _ => false)).toArray 33)
  have hs : (w2.alloc (.cells (rcells n (.slice none 0 0) (fun _ _ => false)).toArray 33)).heap.size = w2.heap.size + 1 := by simp
  have hB := blk_new w2 (rcells n (.slice none 0 0) (fun _ _ => false)).toArray 33 _ rfl
  have hlt := (hla.below hb2).lt
  have hbw := bnext hb1 hb2
  exact ⟨R, fun k => k = w2.heap.size, ⟨(hla.below hb2).below hb3, ⟨.slice none 0 0, [], ⟨rfl, fun k e => (by omega), hB, ⟨⟨rfl, Or.inl ⟨rfl, rfl⟩⟩, (fun b hb => by cases hb), fun x hx => by cases hx⟩⟩, rfl⟩, fun k hk e => (by have := hlt k hk; omega), hR, fun k e => (by have := hbw.size; omega), (fun k hk => hk.elim), (fun k hk => hk.elim), (fun k hk => hk.elim), Wf.new h1 h2, Wf.new h1 h2, bnext hbw hb3⟩⟩
set_option maxRecDepth 100000 in
set_option maxHeartbeats 16000000 in
theorem plays_yes (n : Nat) (h1 : 1 ≤ n) (h2 : n ≤ 32) (P : Option Addr) (C : Nat) (l : List SP) (w : World) (hP : InG spenc 5 w P l) (hg : ∀ x ∈ l, GoodS w x) :
    Calls Try.prog 3 #[.int .i64 (n : Nat), .slice P l.length C] w fun e w' => e = .returned (.bool true) ∧ Below w.heap.size w w' := by
  have HNEW := Lib.hid (new_c w n h1 h2)
  have HKN := Lib.hid (fun w0 => known_c w0 w0 (Below.refl _ _))
  have i1 : ¬ ((n : Int) < 1) := by omega
  have i2 : ¬ ((n : Int) > 32) := by omega
  have HP := Lib.hid hP
  have HG := Lib.hid hg
  have hzs : (rcells 0 (.slice none 0 0) (fun _ _ => false)).toArray.setIfInBounds 0 (.int .i64 (n : Nat)) = (rcells n (.slice none 0 0) (fun _ _ => false)).toArray := by
    rw [List.setIfInBounds_toArray]
    rfl
  have hzn : ¬ ((rcells 0 (.slice none 0 0) (fun _ _ => false)).toArray = #[]) := fun e => by
    have := congrArg Array.size e
    rw [List.size_toArray, rcells_len] at this
    exact absurd this (by decide)
  obtain ⟨Z, hZ⟩ : ∃ Z, (rcells 0 (.slice none 0 0) (fun _ _ => false)).toArray = Z := ⟨_, rfl⟩
  rw [hZ] at hzs hzn
  have hzr : ∀ w, (zeroValue 33).run Try.prog w = .ok (.agg Z) w := fun w => by rw [← hZ]; exact zero_lane w
  clear hZ
  obtain ⟨Z2, hZ2⟩ : ∃ Z2, (rcells n (.slice none 0 0) (fun _ _ => false)).toArray = Z2 := ⟨_, rfl⟩
  rw [hZ2] at hzs
  have HZ2 := Lib.hid hZ2
  clear hP hg hZ2
  go_enter Try.func3, Try.ntmps3
  go_wp2_with fail
  refine HNEW.out.mono ?_
  rintro e w1 ⟨g, R, rfl, hla, hb1, hR⟩
  have HLA := Lib.hid hla
  have HB1 := Lib.hid hb1
  have HR := Lib.hid hR
  clear hla hb1 hR HNEW
  go_wp2_with fail
  refine (HKN.out _).mono ?_
  rintro e w2 ⟨rfl, hb2⟩
  have HB2 := Lib.hid hb2
  clear hb2
  go_wp2_with fail
  have hst : Hid (∃ s, PS w (w2.alloc (.cells Z2 33)) g w2.heap.size s s (fun _ => False) ∧ s.cn ≤ 0) := by
    refine ⟨newP n, ?_, Nat.le_refl _⟩
    have h3 := plays_start HLA.out HR.out HB1.out HB2.out h1 h2
    rw [HZ2.out] at h3
    exact h3
  obtain ⟨w3, hw3⟩ : ∃ w3, w2.alloc (.cells Z2 33) = w3 := ⟨_, rfl⟩
  rw [hw3] at hst
  obtain ⟨gr, hgr⟩ : ∃ gr, w2.heap.size = gr := ⟨_, rfl⟩
  rw [hgr] at hst ⊢
  rw [hw3]
  clear hw3 hgr HLA HR HB1 HB2 HZ2 hzs hzn hzr HKN
  go_loopg [8] 150 (fun gk s8 wy => ∃ i : Nat, i + gk = 150 ∧ s8 = .int .i64 (i : Int) ∧ Hid (∃ s, PS w wy g gr s s (fun _ => False) ∧ s.cn ≤ i))
  case atStart => exact ⟨0, by omega, rfl, hst⟩
  case round =>
    obtain ⟨i, hig, rfl, HX⟩ := hrel
    by_cases hin : i < l.length ∧ i < 150
    · obtain ⟨hin1, hin2⟩ := hin
      have j1 : (i : Int) < l.length := by omega
      have j2 : (i : Int) < 150 := by omega
      obtain ⟨s, hps, hcn⟩ := HX.out
      have HC1 : Hid (∀ wy, Below w.heap.size w wy → InG spenc 5 wy P l) := fun wy hb => InG.below spenc_len (by decide) HP.out hb
      obtain ⟨b, o, rfl, hc⟩ := InG.cells (HC1.out _ hps.below) i hin1
      have c0 := hc 0 (by decide)
      have c1 := hc 1 (by decide)
      have c2 := hc 2 (by decide)
      have c3 := hc 3 (by decide)
      have c4 := hc 4 (by decide)
      have hgd := HG.out _ (List.getElem_mem hin1)
      obtain ⟨x, hx⟩ : ∃ x, l[i] = x := ⟨_, rfl⟩
      rw [hx] at c0 c1 c2 c3 c4 hgd
      have HCC : Hid (∀ wy, Below w.heap.size w wy → (wy.cell? ⟨b, o + i * 5, none⟩ = some (.int .i64 x.k) ∧ wy.cell? ⟨b, o + i * 5 + 1, none⟩ = some (.int .i64 x.a) ∧ wy.cell? ⟨b, o + i * 5 + 2, none⟩ = some (.int .i64 x.b) ∧ wy.cell? ⟨b, o + i * 5 + 3, none⟩ = some (.int .u8 (x.y.toNat : Int)) ∧ wy.cell? ⟨b, o + i * 5 + 4, none⟩ = some (.slice x.p x.d.length x.c))) := fun wy hb => by
        obtain ⟨b2, o2, e, hc2⟩ := InG.cells (HC1.out _ hb) i hin1
        cases e
        rw [hx] at hc2
        exact ⟨hc2 0 (by decide), hc2 1 (by decide), hc2 2 (by decide), hc2 3 (by decide), hc2 4 (by decide)⟩
      have d0 : wr.cell? ⟨b, o + i * 5, none⟩ = some (.int .i64 x.k) := c0
      have d1 : wr.cell? ⟨b, o + i * 5 + 1, none⟩ = some (.int .i64 x.a) := c1
      have d2 : wr.cell? ⟨b, o + i * 5 + 2, none⟩ = some (.int .i64 x.b) := c2
      have d3 : wr.cell? ⟨b, o + i * 5 + 3, none⟩ = some (.int .u8 (x.y.toNat : Int)) := c3
      have d4 : wr.cell? ⟨b, o + i * 5 + 4, none⟩ = some (.slice x.p x.d.length x.c) := c4
      have HDO : Hid (∀ wy, Below wr.heap.size wr wy → Calls Try.prog 9 #[ptr g, ptr gr, .agg #[.int .i64 x.k, .int .i64 x.a, .int .i64 x.b, .int .u8 (x.y.toNat : Int), .slice x.p x.d.length x.c]] wy fun e w2 => e = .returned (.bool true) ∧ ∃ s2, PS w w2 g gr s2 s2 (fun _ => False) ∧ s2.cn ≤ i + 1) := fun wy hb =>
        (do_c (hps.same hb) (by omega) x hgd).mono fun e w2 ⟨e1, ⟨s2, e2, e3⟩, _⟩ => ⟨e1, s2, e2, by omega⟩
      have HIA := Lib.hid hgd.ia
      have HIB := Lib.hid hgd.ib
      clear c0 c1 c2 c3 c4 hc hx hgd hps
      go_wp2_with fail
      go_region_held3 (fun W => W.cell? ⟨b, o + i * 5, none⟩ = some (.int .i64 x.k) ∧ W.cell? ⟨b, o + i * 5 + 1, none⟩ = some (.int .i64 x.a) ∧ W.cell? ⟨b, o + i * 5 + 2, none⟩ = some (.int .i64 x.b) ∧ W.cell? ⟨b, o + i * 5 + 3, none⟩ = some (.int .u8 (x.y.toNat : Int)) ∧ W.cell? ⟨b, o + i * 5 + 4, none⟩ = some (.slice x.p x.d.length x.c)) (first | exact ⟨d0, d1, d2, d3, d4⟩ | exact HS2.out | exact HS5.out | assumption | go_keep) (first
        | (go_at_call 9; refine (HDO.out _ (by first | exact Below.refl _ _ | exact (Below.refl _ _).drew)).mono ?_; rintro e w2 ⟨rfl, s2, hps2, hcn2⟩; have HS2 := Lib.hid (HCC.out w2 hps2.below); have HAL := Lib.hid (fun (wy : World) (hb : Below w2.heap.size w2 wy) => alike_c (hps2.same hb) x.a x.b HIA.out HIB.out); have HP2 := Lib.hid hps2; have HC2 := Lib.hid hcn2; clear hps2 hcn2)
        | (go_at_call 10; refine (HAL.out _ (by first | exact Below.refl _ _ | exact (Below.refl _ _).drew)).mono ?_; rintro e w5 ⟨rfl, hb5⟩; have HP5 := Lib.hid (HP2.out.same (by first | exact hb5 | exact (Below.refl _ _).drew.trans hb5)); have HS5 := Lib.hid (HCC.out w5 HP5.out.below); clear hb5))
      all_goals
        go_wp2_with fail
        go_roundg (gk - 1)
        case measure => omega
        case rel => exact ⟨i + 1, by omega, by go_num, ⟨_, HP5.out, HC2.out⟩⟩
    · have hex : ¬ ((i : Int) < l.length) ∨ ((i : Int) < l.length ∧ ¬ ((i : Int) < 150)) := by omega
      obtain ⟨s, hps, _⟩ := HX.out
      have HB := Lib.hid hps.below
      clear hps hin
      rcases hex with e1 | ⟨e1, e2⟩
      all_goals
        go_wp2_with fail
        go_ret
        exact ⟨rfl, HB.out⟩
theorem g_plays (n : Int) (P : Option Addr) (C : Nat) (l : List SP) (w : World) (hn : (Lit.int .i64 n).wf = true) (hP : InG spenc 5 w P l) (hg : ∀ x ∈ l, GoodS w x) :
    Calls Try.prog 3 #[.int .i64 n, .slice P l.length C] w fun e w' => e = .returned (.bool true) ∧ Below w.heap.size w w' := by
  by_cases h : 1 ≤ n ∧ n ≤ 32
  · obtain ⟨m, rfl⟩ : ∃ m : Nat, n = m := ⟨n.toNat, by omega⟩
    exact plays_yes m (by omega) (by omega) P C l w hP hg
  · exact plays_no n (opn.li64_wf hn) h P l.length C w
end Go.Proofs.Ytdjgafemmihlgaa.lan
