/- LaneOrders: taken by Next again and again, the packets of open links come in their order. -/
import Derived.Test.YtdjgafemmihlgaaLanE
import Derived.Deep.CutBlock
import Derived.Deep.CutRange
namespace Go.Proofs.Ytdjgafemmihlgaa.lan
open Go.RowKit
open Go.Proofs.Ytdjgafemmihlgaa.oct Go.Proofs.Ytdjgafemmihlgaa.ref Go.Proofs.Ytdjgafemmihlgaa.rows Go.Proofs.Ytdjgafemmihlgaa.rowg Go.Proofs.Ytdjgafemmihlgaa.trn
open Go.Lib (byteCells)

theorem wrap_I64 (n : Int) : I64 (IntKind.i64.wrap n) := by rw [IntKind.wrap_i64]; exact ⟨by omega, by omega⟩
theorem linkP_keeps (s : LS) (a b : Int) : (linkP s a b true).2.n = s.n ∧ (linkP s a b true).2.ps = s.ps ∧ (linkP s a b true).2.cn ≤ s.cn + 1 := by
  unfold linkP
  split
  · exact ⟨rfl, rfl, by show s.cn ≤ _; omega⟩
  · exact ⟨rfl, rfl, Nat.le_refl _⟩
/-- the state of the second loop -/
def OInv (w wx : World) (g i : Nat) (vw vs : Value) : Prop := ∃ s W S, OM w wx g s vw vs W S ∧ s.n = 8 ∧ s.ps.length ≤ i ∧ W.map Qk.f = s.ps.filter (freeP s) ∧ S.map Qk.f = s.ps.filter (fun y => !freeP s y) ∧ Ins w W ∧ Ins w S
theorem umodI (a : Int) : ∃ k : Nat, k < 8 ∧ IntKind.i64.wrap ((IntKind.u64.wrap a).tmod 8) = (k : Int) := by
  obtain ⟨k, h1, h2⟩ := umod a (n := 8) (by decide) (by decide)
  refine ⟨k, h1, ?_⟩
  rw [← h2, IntKind.wrap_i64]
  unfold wrap64
  rfl
theorem send_yes {s : LS} {a b : Nat} {d : T} (hn : s.n = 8) (ha : a < 8) (hb : b < 8) (hd : d.length ≤ 65544) (hl : s.ps.length < 4096) : sendP s a b d = (0, { s with ps := s.ps ++ [⟨a, b, d⟩] }) := by
  unfold sendP
  rw [if_neg (by rw [hn, inN_iff.2 ⟨by omega, by omega⟩, inN_iff.2 ⟨by omega, by omega⟩]; rintro (h | h) <;> cases h), if_neg (by omega), if_neg (by omega), Int.toNat_natCast, Int.toNat_natCast]
theorem send_long {s : LS} {a b : Nat} {d : T} (hn : s.n = 8) (ha : a < 8) (hb : b < 8) (hd : ¬ (d.length ≤ 65544)) : sendP s a b d = (2, s) := by
  unfold sendP
  rw [if_neg (by rw [hn, inN_iff.2 ⟨by omega, by omega⟩, inN_iff.2 ⟨by omega, by omega⟩]; rintro (h | h) <;> cases h), if_pos (by omega)]
theorem open_free {s : LS} {a b : Nat} {d : T} (hn : s.n = 8) (ha : a < 8) (hb : b < 8) : openP s a b = freeP s ⟨a, b, d⟩ := by
  unfold openP freeP
  rw [hn, inN_iff.2 ⟨by omega, by omega⟩, inN_iff.2 ⟨by omega, by omega⟩]
  rfl
/-- the third loop's state: the first k that are wanted have come -/
def TInv (w wx : World) (g : Nat) (s : LS) (vw vs : Value) (W S : List Qk) (k : Nat) : Prop := ∃ s2, OM w wx g s2 vw vs W S ∧ s2.sh = s.sh ∧ s2.ps.filter (freeP s) = (W.map Qk.f).drop k ∧ s2.ps.filter (fun y => !freeP s y) = S.map Qk.f
/-- the fourth one's: the first k that stayed have come, all links being open -/
def FInv (w wx : World) (g : Nat) (vw vs : Value) (W S : List Qk) (k : Nat) : Prop := ∃ s2, OM w wx g s2 vw vs W S ∧ s2.sh = (fun _ _ => false) ∧ s2.ps = (S.map Qk.f).drop k
theorem free_sh {s s2 : LS} (h : s2.sh = s.sh) : freeP s2 = freeP s := by funext x; unfold freeP; rw [h]
theorem drop_at {W : List Qk} {k : Nat} (hk : k < W.length) : (W.map Qk.f).drop k = (W[k]).f :: (W.map Qk.f).drop (k + 1) := by
  rw [List.drop_eq_getElem_cons (by rw [List.length_map]; exact hk), List.getElem_map]
/-- a round of the third loop, by its words -/
theorem tinv_next {w wx : World} {g : Nat} {s : LS} {vw vs : Value} {W S : List Qk} {k : Nat} (h : TInv w wx g s vw vs W S k) (hk : k < W.length) : ∃ (s2 : LS) (j : Nat), OM w wx g s2 vw vs W S ∧ nextP s2 = (j : Int) ∧ j < 4097 ∧ takeP s2 (j : Int) = ((W[k]).f, 0, gone s2 j) ∧ ∀ w2, OM w w2 g (gone s2 j) vw vs W S → TInv w w2 g s vw vs W S (k + 1) := by
  obtain ⟨s2, h1, h2, h3, h4⟩ := h
  rw [drop_at hk, ← free_sh h2] at h3
  obtain ⟨j, r1, r2, r3, r4, r5⟩ := take_next h3
  refine ⟨s2, j, h1, r1, by have := h1.wf.few; omega, r3, fun w2 hm => ⟨_, hm, h2, ?_, ?_⟩⟩
  · rw [← free_sh h2]; exact r4
  · rw [← free_sh h2, r5, free_sh h2]; exact h4
theorem tinv_end {w wx : World} {g : Nat} {s : LS} {vw vs : Value} {W S : List Qk} (h : TInv w wx g s vw vs W S W.length) : ∃ s2, OM w wx g s2 vw vs W S ∧ nextP s2 = -1 ∧ s2.ps.length = S.length ∧ ∀ w2, OM w w2 g (healP s2) vw vs W S → FInv w w2 g vw vs W S 0 := by
  obtain ⟨s2, h1, h2, h3, h4⟩ := h
  rw [List.drop_of_length_le (by rw [List.length_map]; exact Nat.le_refl _), ← free_sh h2] at h3
  obtain ⟨r1, r2⟩ := next_no h3
  rw [← free_sh h2, r2] at h4
  exact ⟨s2, h1, r1, by rw [h4, List.length_map], fun w2 hm => ⟨_, hm, rfl, by rw [List.drop_zero]; exact h4⟩⟩
theorem finv_next {w wx : World} {g : Nat} {vw vs : Value} {W S : List Qk} {k : Nat} (h : FInv w wx g vw vs W S k) (hk : k < S.length) : ∃ s2 : LS, OM w wx g s2 vw vs W S ∧ takeP s2 0 = ((S[k]).f, 0, gone s2 0) ∧ ∀ w2, OM w w2 g (gone s2 0) vw vs W S → FInv w w2 g vw vs W S (k + 1) := by
  obtain ⟨s2, h1, h2, h3⟩ := h
  rw [drop_at hk] at h3
  obtain ⟨r1, r2⟩ := take_head h3 (by unfold freeP; rw [h2]; rfl)
  exact ⟨s2, h1, r1, fun w2 hm => ⟨_, hm, h2, r2⟩⟩
/-- one packet more under way: it is wanted, or stays -/
theorem oinv_yes {w wx : World} {g i : Nat} {s s2 : LS} {v2 vs : Value} {W S : List Qk} {y : Qk} (hs2 : { s with ps := s.ps ++ [y.f] } = s2) (hf : freeP s2 y.f = true) (hm : OM w wx g s2 v2 vs (W ++ [y]) S) (hn : s.n = 8) (hps : s.ps.length ≤ i) (hW : W.map Qk.f = s.ps.filter (freeP s)) (hS : S.map Qk.f = s.ps.filter (fun y => !freeP s y)) (hIW : Ins w W) (hIS : Ins w S) (hy : In8 w y.p y.d ∧ (y.p = none → y.c = 0) ∧ y.d.length ≤ 65544) : OInv w wx g (i + 1) v2 vs := by
  subst hs2
  have hf2 : freeP s y.f = true := hf
  refine ⟨_, W ++ [y], S, hm, hn, ?_, ?_, ?_, ?_, hIS⟩
  · show (s.ps ++ [_]).length ≤ _
    rw [List.length_append, List.length_singleton]; omega
  · show _ = (s.ps ++ [y.f]).filter (freeP s)
    rw [List.map_append, hW, List.filter_append, List.map_cons, List.map_nil, List.filter_cons, if_pos hf2]; rfl
  · show _ = (s.ps ++ [y.f]).filter (fun y => !freeP s y)
    rw [hS, List.filter_append, List.filter_cons, if_neg (by rw [hf2]; simp)]; simp
  · intro x hx
    rw [List.mem_append, List.mem_singleton] at hx
    rcases hx with hx | rfl
    · exact hIW x hx
    · exact hy
theorem oinv_no {w wx : World} {g i : Nat} {s s2 : LS} {vw v2 : Value} {W S : List Qk} {y : Qk} (hs2 : { s with ps := s.ps ++ [y.f] } = s2) (hf : freeP s2 y.f = false) (hm : OM w wx g s2 v2 vw (S ++ [y]) W) (hn : s.n = 8) (hps : s.ps.length ≤ i) (hW : W.map Qk.f = s.ps.filter (freeP s)) (hS : S.map Qk.f = s.ps.filter (fun y => !freeP s y)) (hIW : Ins w W) (hIS : Ins w S) (hy : In8 w y.p y.d ∧ (y.p = none → y.c = 0) ∧ y.d.length ≤ 65544) : OInv w wx g (i + 1) vw v2 := by
  subst hs2
  have hf2 : freeP s y.f = false := hf
  refine ⟨_, W, S ++ [y], hm.swap, hn, ?_, ?_, ?_, hIW, ?_⟩
  · show (s.ps ++ [_]).length ≤ _
    rw [List.length_append, List.length_singleton]; omega
  · show _ = (s.ps ++ [y.f]).filter (freeP s)
    rw [hW, List.filter_append, List.filter_cons, if_neg (by rw [hf2]; simp)]; simp
  · show _ = (s.ps ++ [y.f]).filter (fun y => !freeP s y)
    rw [List.map_append, hS, List.filter_append, List.map_cons, List.map_nil, List.filter_cons, if_pos (by rw [hf2]; rfl)]; rfl
  · intro x hx
    rw [List.mem_append, List.mem_singleton] at hx
    rcases hx with hx | rfl
    · exact hIS x hx
    · exact hy
theorem two_cells (W : World) (x y z : Value) (e : TypeId) : (∀ i u, ([x, y, z] : List Value)[i]? = some u → (W.alloc (.cells #[x, y, z] e)).drew.cell? ⟨W.heap.size, i, none⟩ = some u) := by
  intro i u h
  have h1 : Blk (W.alloc (.cells #[x, y, z] e)) W.heap.size e [x, y, z] := blk_new W _ _ _ rfl
  exact (h1.cell i).trans h
def LInv (w wx : World) (g k : Nat) : Prop := ∃ s, St w wx g s ∧ s.n = 8 ∧ s.ps = [] ∧ s.cn ≤ k
set_option maxRecDepth 100000 in
set_option maxHeartbeats 16000000 in
theorem law_orders (P : Option Addr) (C : Nat) (l : List AP) (PI : Option Addr) (CI : Nat) (li : List Int) (w : World) (hP : InG aenc 3 w P l) (hg : ∀ x ∈ l, GoodA w x) (hI : InG ienc 1 w PI li) (hli : li.length ≤ 140737488355328) :
    Calls Try.prog 4 #[.slice P l.length C, .slice PI li.length CI] w fun e w' => e = .returned (.bool true) ∧ Below w.heap.size w w' := by
  have HNEW := Lib.hid (St.new w w (Below.refl _ _) 8 (by decide) (by decide))
  have HKN := Lib.hid (fun w0 => known_c w0 w0 (Below.refl _ _))
  have HP := Lib.hid hP
  have HG := Lib.hid hg
  have HI := Lib.hid hI
  clear hP hg hI
  go_enter Try.func4, Try.ntmps4
  go_wp2_with fail
  refine HNEW.out.mono ?_
  rintro e w1 ⟨g, rfl, h1⟩
  have H1 := Lib.hid h1
  clear h1
  go_upto_block 0 with (fail)
  go_cut [9] from 23 to 50 (fun s9 wx => Hid (OInv w wx g 0 (.slice none 0 0) (.slice none 0 0)))
  case first =>
    go_wp2_with fail
    go_loopg [9] 20 (fun gk s9 wx => ∃ k : Nat, k + gk = 20 ∧ s9 = .int .i64 ((2 * k : Nat) : Int) ∧ Hid (LInv w wx g k))
    case atStart => exact ⟨0, by omega, rfl, ⟨_, H1.out, rfl, rfl, Nat.le_refl _⟩⟩
    case round =>
      obtain ⟨k, hkg, rfl, HX⟩ := hrel
      obtain ⟨k2, hk2⟩ : ∃ k2, 2 * k = k2 := ⟨_, rfl⟩
      rw [hk2]
      by_cases hin : k2 + 1 < li.length ∧ k2 < 40
      · obtain ⟨hin1, hin2⟩ := hin
        have j1 : (k2 : Int) + 1 < li.length := by omega
        have j2 : (k2 : Int) < 40 := by omega
        have j3 : (k2 : Int) < li.length := by omega
        obtain ⟨s, hst, hn, hps, hcn⟩ := HX.out
        obtain ⟨b, o, rfl, hc⟩ := (InG.below ienc_len (by decide) HI.out hst.below) (by omega)
        have c0 := hc k2 (by omega) 0 (by decide)
        have c1 := hc (k2 + 1) (by omega) 0 (by decide)
        rw [Nat.mul_one, Nat.add_zero] at c0 c1
        have d0 : wr.cell? ⟨b, o + k2, none⟩ = some (.int .i64 li[k2]) := c0
        have d1 : wr.cell? ⟨b, o + (k2 + 1), none⟩ = some (.int .i64 li[k2 + 1]) := c1
        obtain ⟨x0, hx0⟩ : ∃ x0, li[k2] = x0 := ⟨_, rfl⟩
        obtain ⟨x1, hx1⟩ : ∃ x1, li[k2 + 1] = x1 := ⟨_, rfl⟩
        rw [hx0] at d0
        rw [hx1] at d1
        have HC := Lib.hid (fun a b ha hb => (hst.more ((Below.refl wr.heap.size wr).drew)).shut (by omega) a b ha hb)
        clear c0 c1 hc hx0 hx1 hst
        go_wp2_with fail
        have j4 : IntKind.i64.wrap ((k2 : Int) + 1) = (k2 : Int) + 1 := IntWalk.i64_in _ (by omega)
        have j5 : (0 : Int) ≤ (k2 : Int) + 1 := by omega
        have j6 : ((k2 : Int) + 1).toNat = k2 + 1 := by omega
        obtain ⟨ka, hka, hka2⟩ := umodI x0
        obtain ⟨kb, hkb, hkb2⟩ := umodI x1
        go_still_tail 16, (by kernel_rfl)
        clear j4 j5 j6 hka2 hkb2
        change wpList _ _ _ _ _ wr.drew
        go_wp2_with fail
        refine (HC.out (ka : Nat) (kb : Nat) ⟨by omega, by omega⟩ ⟨by omega, by omega⟩).mono ?_
        rintro e w2 ⟨rfl, h2⟩
        have HL : Hid (LInv w w2 g (k + 1)) := ⟨_, h2, (linkP_keeps s _ _).1.trans hn, (linkP_keeps s _ _).2.1.trans hps, Nat.le_trans (linkP_keeps s _ _).2.2 (by omega)⟩
        clear h2 hn hps hcn
        go_wp2_with fail
        go_roundg (gk - 1)
        case measure => omega
        case rel => exact ⟨k + 1, by omega, by rw [← hk2]; go_num, HL⟩
      · have hex : ¬ ((k2 : Int) + 1 < li.length) ∨ ((k2 : Int) + 1 < li.length ∧ ¬ ((k2 : Int) < 40)) := by omega
        obtain ⟨s1, hst1, hn1, hps1, _⟩ := HX.out
        have HO : Hid (OInv w wr g 0 (.slice none 0 0) (.slice none 0 0)) := ⟨s1, [], [], OM.of_st hst1, hn1, by rw [hps1]; exact Nat.le_refl _, by rw [hps1]; rfl, by rw [hps1]; rfl, (fun x hx => by cases hx), fun x hx => by cases hx⟩
        clear hst1 hn1 hps1 hin
        rcases hex with e1 | ⟨e1, e2⟩
        all_goals
          go_wp2_with fail
          go_meet
          case rel => exact HO
  case rest =>
    have HO := hcut
    clear hcut
    go_upto_block 2 with (fail)
    go_cut [7, 8, 10, 11, 12] from 51 to 114 (fun s7 s8 s10 s11 s12 wx => Hid (∃ i, i ≤ 150 ∧ OInv w wx g i s7 s8))
    case first =>
      go_wp2_with fail
      go_loopg [7, 8, 10] 150 (fun gk s7 s8 s10 wx => ∃ i : Nat, i + gk = 150 ∧ s10 = .int .i64 (i : Int) ∧ Hid (OInv w wx g i s7 s8))
      case atStart => exact ⟨0, by omega, rfl, HO⟩
      case round =>
        obtain ⟨i, hig, rfl, HX⟩ := hrel
        by_cases hin : i < l.length ∧ i < 150
        · obtain ⟨hin1, hin2⟩ := hin
          have j1 : (i : Int) < l.length := by omega
          have j2 : (i : Int) < 150 := by omega
          obtain ⟨s, W, S, hom, hn, hps, hW, hS, hIW, hIS⟩ := HX.out
          obtain ⟨b, o, rfl, hc⟩ := InG.cells (InG.below aenc_len (by decide) HP.out hom.below) i hin1
          have c0 := hc 0 (by decide)
          have c1 := hc 1 (by decide)
          have c2 := hc 2 (by decide)
          have hgd := HG.out _ (List.getElem_mem hin1)
          obtain ⟨x, hx⟩ : ∃ x, l[i] = x := ⟨_, rfl⟩
          rw [hx] at c0 c1 c2 hgd
          have d0 : wr.cell? ⟨b, o + i * 3, none⟩ = some (.int .i64 x.a) := c0
          have d1 : wr.cell? ⟨b, o + i * 3 + 1, none⟩ = some (.int .i64 x.b) := c1
          have d2 : wr.cell? ⟨b, o + i * 3 + 2, none⟩ = some (.slice x.p x.d.length x.c) := c2
          obtain ⟨ka, hka, hka2⟩ := umodI x.a
          obtain ⟨kb, hkb, hkb2⟩ := umodI x.b
          have HGD := Lib.hid hgd
          have HOM := Lib.hid hom
          have hbl := cell_lt d0
          clear c0 c1 c2 hc hx hgd hom
          go_wp2_with fail
          go_region
          have hb3 : Below wr.heap.size wr (wr.alloc (.cells #[.int .i64 (ka : Nat), .int .i64 (kb : Nat), .slice x.p x.d.length x.c] 44)).drew := ((Below.refl _ _).alloc (Nat.le_refl _) _).drew
          have hom3 := HOM.out.more hb3
          have hB3 : Blk (wr.alloc (.cells #[.int .i64 (ka : Nat), .int .i64 (kb : Nat), .slice x.p x.d.length x.c] 44)).drew wr.heap.size 44 [.int .i64 (ka : Nat), .int .i64 (kb : Nat), .slice x.p x.d.length x.c] := blk_new wr _ _ _ rfl
          obtain ⟨w3, hw3⟩ : ∃ w3, (wr.alloc (.cells #[.int .i64 (ka : Nat), .int .i64 (kb : Nat), .slice x.p x.d.length x.c] 44)).drew = w3 := ⟨_, rfl⟩
          rw [hw3] at hb3 hom3 hB3 ⊢
          have e0 := hB3.cell 0
          have e1 := hB3.cell 1
          have e2 := hB3.cell 2
          have HB3 := Lib.hid hB3
          have HOM3 := Lib.hid hom3
          have hlt3 := hB3.lt
          have HC := Lib.hid (HOM.out.runB hb3 (Nat.le_refl _) hB3 (HOM.out.wf.send (ka : Nat) (kb : Nat) x.d) fun _ hR => send_c hR HOM.out.wf (ka : Nat) (kb : Nat) ⟨by omega, by omega⟩ ⟨by omega, by omega⟩ x.p x.c x.d (HGD.out.row.below hom3.below) HGD.out.nil (by have := HGD.out.fit; omega))
          clear hw3 hb3 hom3 hB3 d0 d1 d2 hka2 hkb2 hbl
          by_cases hlong : x.d.length ≤ 65544
          · rw [send_yes hn hka hkb hlong (by omega)] at HC
            have j3 : (x.d.length : Int) ≤ 65544 := by omega
            go_wp2_with fail
            refine HC.out.mono ?_
            rintro e w4 ⟨rfl, h4, hB4⟩
            have e0 := hB4.cell 0
            have e1 := hB4.cell 1
            have e2 := hB4.cell 2
            have HB4 := Lib.hid hB4
            have hlt4 := hB4.lt
            obtain ⟨s2, hs2⟩ : ∃ s2, ({ s with ps := s.ps ++ [(⟨ka, kb, x.d⟩ : Pk)] } : LS) = s2 := ⟨_, rfl⟩
            rw [hs2] at h4
            have hn2 : s2.n = 8 := by rw [← hs2]; exact hn
            obtain ⟨R, hR, _⟩ := h4.st
            have HC := Lib.hid (open_c hR h4.wf (ka : Nat) (kb : Nat) ⟨by omega, by omega⟩ ⟨by omega, by omega⟩)
            rw [open_free (d := x.d) hn2 hka hkb] at HC
            have HOM4 := Lib.hid h4
            have HS2 := Lib.hid hs2
            have HW := Lib.hid hW
            have HSS := Lib.hid hS
            have HYY : Hid (In8 w x.p x.d ∧ (x.p = none → x.c = 0) ∧ x.d.length ≤ 65544) := ⟨HGD.out.row, HGD.out.nil, hlong⟩
            have HPS := Lib.hid hps
            have HN := Lib.hid hn
            clear h4 hB4 hs2 hW hS hR hps hn hn2
            cases hfr : freeP s2 ⟨ka, kb, x.d⟩ with
            | true =>
              rw [hfr] at HC
              have HFR := Lib.hid hfr
              clear hfr
              go_wp2_with fail
              refine HC.out.mono ?_
              rintro e w5 ⟨rfl, hb5⟩
              have HOM5 := Lib.hid (HOM4.out.more hb5)
              have hB5 := HB4.out.below hb5
              have e0 := hB5.cell 0
              have e1 := hB5.cell 1
              have e2 := hB5.cell 2
              have HB5 := Lib.hid HOM5.out.below
              have hlt5 := hB5.lt
              clear hb5 hB5
              have HOW := Lib.hid HOM5.out.ow
              obtain ⟨j0, hj, hy0, hy1, hy2⟩ := info_parts infoPks
              have hlen : W.length < 4096 := by
                have h1 := congrArg List.length HW.out
                rw [List.length_map] at h1
                have h2 := List.length_filter_le (freeP s) s.ps
                have h3 := HPS.out
                omega
              have HGO : Hid (∀ (gg cap : Nat) (w6 : World), w6.ownsRow w.heap.size 44 3 (.slice (some ⟨gg, 0, none⟩) (W.length + 1) cap) (W.length + 1) (cells qenc W ++ qenc ⟨ka, kb, x.p, x.c, x.d⟩) → (w5.alloc (.cells #[.int .i64 (ka : Nat), .int .i64 (kb : Nat), .slice x.p x.d.length x.c] 44)).grownBy w6 u7.ownBlock → (u7.ownBlock = some gg ∨ gg = (w5.alloc (.cells #[.int .i64 (ka : Nat), .int .i64 (kb : Nat), .slice x.p x.d.length x.c] 44)).heap.size) → OInv w w6 g (i + 1) (.slice (some ⟨gg, 0, none⟩) (W.length + 1) cap) u8) := by
                intro gg cap w6 r1 r2 r3
                have hm := HOM5.out.want ⟨ka, kb, x.p, x.c, x.d⟩ _ r2 r1 (fun b e => by
                  injection e with e
                  subst e
                  exact r3.imp id fun e => by rw [e]; simp)
                exact oinv_yes HS2.out HFR.out hm HN.out HPS.out HW.out HSS.out hIW hIS HYY.out
              go_wp2_with (
                refine wpList_append_lies _ rfl (.tmp 107) (.tmp 109) 29 rfl w.heap.size 44 j0 (.agg #[.int .i64 0, .int .i64 0, .slice none 0 0]) 3 40 Try.underlying29 hj hy0 hy1 hy2 rfl (by decide) u7 W.length (cells qenc W) rfl (HOW.out.alloc _) ⟨w5.heap.size, 0, none⟩ 1 1 (qenc ⟨ka, kb, x.p, x.c, x.d⟩) rfl rfl (q_new w5 ⟨ka, kb, x.p, x.c, x.d⟩ _ rfl) (qenc_one _) (by decide) (by unfold maxLen; omega) (by omega) (by have := HB5.out.size; simp; omega) _ rfl ?_
                intro gg cap w6 r1 r2 r3 r4; have HF := Lib.hid (HGO.out gg cap w6 r1 r2 r3); clear r1 r2 r3)
              go_roundg (gk - 1)
              case measure => omega
              case rel => exact ⟨i + 1, by omega, by go_num, HF⟩
            | false =>
              rw [hfr] at HC
              have HFR := Lib.hid hfr
              clear hfr
              go_wp2_with fail
              refine HC.out.mono ?_
              rintro e w5 ⟨rfl, hb5⟩
              have HOM5 := Lib.hid (HOM4.out.more hb5).swap
              have hB5 := HB4.out.below hb5
              have e0 := hB5.cell 0
              have e1 := hB5.cell 1
              have e2 := hB5.cell 2
              have HB5 := Lib.hid HOM5.out.below
              have hlt5 := hB5.lt
              clear hb5 hB5
              have HOW := Lib.hid HOM5.out.ow
              obtain ⟨j0, hj, hy0, hy1, hy2⟩ := info_parts infoPks
              have hlen : S.length < 4096 := by
                have h1 := congrArg List.length HSS.out
                rw [List.length_map] at h1
                have h2 := List.length_filter_le (fun y => !freeP s y) s.ps
                have h3 := HPS.out
                omega
              have HGO : Hid (∀ (gg cap : Nat) (w6 : World), w6.ownsRow w.heap.size 44 3 (.slice (some ⟨gg, 0, none⟩) (S.length + 1) cap) (S.length + 1) (cells qenc S ++ qenc ⟨ka, kb, x.p, x.c, x.d⟩) → (w5.alloc (.cells #[.int .i64 (ka : Nat), .int .i64 (kb : Nat), .slice x.p x.d.length x.c] 44)).grownBy w6 u8.ownBlock → (u8.ownBlock = some gg ∨ gg = (w5.alloc (.cells #[.int .i64 (ka : Nat), .int .i64 (kb : Nat), .slice x.p x.d.length x.c] 44)).heap.size) → OInv w w6 g (i + 1) u7 (.slice (some ⟨gg, 0, none⟩) (S.length + 1) cap)) := by
                intro gg cap w6 r1 r2 r3
                have hm := HOM5.out.want ⟨ka, kb, x.p, x.c, x.d⟩ _ r2 r1 (fun b e => by
                  injection e with e
                  subst e
                  exact r3.imp id fun e => by rw [e]; simp)
                exact oinv_no HS2.out HFR.out hm HN.out HPS.out HW.out HSS.out hIW hIS HYY.out
              go_wp2_with (
                refine wpList_append_lies _ rfl (.tmp 111) (.tmp 113) 29 rfl w.heap.size 44 j0 (.agg #[.int .i64 0, .int .i64 0, .slice none 0 0]) 3 40 Try.underlying29 hj hy0 hy1 hy2 rfl (by decide) u8 S.length (cells qenc S) rfl (HOW.out.alloc _) ⟨w5.heap.size, 0, none⟩ 1 1 (qenc ⟨ka, kb, x.p, x.c, x.d⟩) rfl rfl (q_new w5 ⟨ka, kb, x.p, x.c, x.d⟩ _ rfl) (qenc_one _) (by decide) (by unfold maxLen; omega) (by omega) (by have := HB5.out.size; simp; omega) _ rfl ?_
                intro gg cap w6 r1 r2 r3 r4; have HF := Lib.hid (HGO.out gg cap w6 r1 r2 r3); clear r1 r2 r3)
              go_roundg (gk - 1)
              case measure => omega
              case rel => exact ⟨i + 1, by omega, by go_num, HF⟩
          · rw [send_long hn hka hkb hlong] at HC
            have j3 : ¬ ((x.d.length : Int) ≤ 65544) := by omega
            go_wp2_with fail
            refine HC.out.mono ?_
            rintro e w4 ⟨rfl, h4, hB4⟩
            have HO4 : Hid (OInv w w4 g (i + 1) u7 u8) := ⟨s, W, S, h4, hn, by omega, hW, hS, hIW, hIS⟩
            have f2 := hB4.cell 2
            clear h4 hB4
            go_wp2_with fail
            go_roundg (gk - 1)
            case measure => omega
            case rel => exact ⟨i + 1, by omega, by go_num, HO4⟩
        · have HE : Hid (∃ i, i ≤ 150 ∧ OInv w wr g i u7 u8) := ⟨i, by omega, HX.out⟩
          have hex : ¬ ((i : Int) < l.length) ∨ ((i : Int) < l.length ∧ ¬ ((i : Int) < 150)) := by omega
          clear HX hin
          rcases hex with e1 | ⟨e1, e2⟩
          all_goals
            go_wp2_with fail
            go_meet
            case rel => exact HE
    case rest =>
      obtain ⟨i, hi150, s, W, S, hom, hn, hps, hW, hS, hIW, hIS⟩ := hcut.out
      have HT : Hid (TInv w wc g s u7 u8 W S 0) := ⟨s, hom, rfl, by rw [List.drop_zero]; exact hW.symm, hS.symm⟩
      obtain ⟨pw, cw, rfl, _⟩ := own_g qenc_len (by decide) hom.ow
      obtain ⟨pz, cz, rfl, _⟩ := own_g qenc_len (by decide) hom.os
      have HIW := Lib.hid hIW
      have HIS := Lib.hid hIS
      have hWl : W.length ≤ 150 := by
        have h1 := congrArg List.length hW
        rw [List.length_map] at h1
        have h2 := List.length_filter_le (freeP s) s.ps
        omega
      have hSl : S.length ≤ 150 := by
        have h1 := congrArg List.length hS
        rw [List.length_map] at h1
        have h2 := List.length_filter_le (fun y => !freeP s y) s.ps
        omega
      clear hcut hom hn hps hW hS hIW hIS
      go_wp2_with fail
      go_loopg [13] W.length (fun gk s13 wx => ∃ k : Nat, k + gk = W.length ∧ s13 = .int .i64 (k : Int) ∧ Hid (TInv w wx g s (.slice pw W.length cw) (.slice pz S.length cz) W S k))
      case atStart => exact ⟨0, by omega, rfl, HT⟩
      case round =>
        obtain ⟨k, hkg, rfl, HX⟩ := hrel
        rcases gk with _ | gk
        · obtain rfl : k = W.length := by omega
          obtain ⟨s2, hom, hnx, hln, hfin⟩ := tinv_end HX.out
          have HOM := Lib.hid hom
          have HN := Lib.hid (fun w2 (h : OM w w2 g s2 (.slice pw W.length cw) (.slice pz S.length cz) W S) => h.next)
          rw [hnx] at HN
          have HCN := Lib.hid (fun w2 (h : OM w w2 g s2 (.slice pw W.length cw) (.slice pz S.length cz) W S) => h.count)
          rw [hln] at HCN
          have HFIN := Lib.hid hfin
          have hcn : ((S.length : Int) != (S.length : Int)) = false := by simp
          clear hom hnx hln hfin
          go_wp2_with fail
          refine (HKN.out wr).mono ?_
          rintro e w2 ⟨rfl, hb2⟩
          have HOM2 := Lib.hid (HOM.out.more hb2)
          have HC := Lib.hid (HN.out w2 HOM2.out)
          clear hb2
          go_wp2_with fail
          refine HC.out.mono ?_
          rintro e w3 ⟨rfl, h3⟩
          have HOM3 := Lib.hid h3
          have HC := Lib.hid (HCN.out w3 h3)
          clear h3
          go_wp2_with fail
          refine HC.out.mono ?_
          rintro e w4 ⟨rfl, rfl⟩
          have HC := Lib.hid HOM3.out.heal
          go_wp2_with fail
          refine HC.out.mono ?_
          rintro e w5 ⟨rfl, h5⟩
          have HF := Lib.hid (HFIN.out w5 h5)
          clear h5 HOM HOM2 HOM3 HN HCN HC HFIN
          go_wp2_with fail
          go_loopg [16] S.length (fun gk s16 wx => ∃ k : Nat, k + gk = S.length ∧ s16 = .int .i64 (k : Int) ∧ Hid (FInv w wx g (.slice pw W.length cw) (.slice pz S.length cz) W S k))
          case atStart => exact ⟨0, by omega, rfl, HF⟩
          case round =>
            obtain ⟨k, hkg, rfl, HX⟩ := hrel
            rcases gk with _ | gk
            · obtain rfl : k = S.length := by omega
              obtain ⟨s4, hom4, _, hps4⟩ := HX.out
              have HC := Lib.hid hom4.count
              rw [hps4, List.drop_of_length_le (by rw [List.length_map]; exact Nat.le_refl _)] at HC
              have HB := Lib.hid hom4.below
              clear hom4 hps4
              go_wp2_with fail
              refine HC.out.mono ?_
              rintro e w6 ⟨rfl, rfl⟩
              go_wp2_with fail
              go_ret
              exact ⟨rfl, HB.out⟩
            · have hk : k < S.length := by omega
              have hkI : (k : Int) < S.length := by omega
              obtain ⟨s2, hom, htk, hfin⟩ := finv_next HX.out hk
              have HC := Lib.hid (hom.take 0 (by decide))
              rw [htk] at HC
              have HFIN := Lib.hid hfin
              have hyi := HIS.out _ (List.getElem_mem hk)
              obtain ⟨y, hy⟩ : ∃ y, S[k] = y := ⟨_, rfl⟩
              have HY := Lib.hid hy
              rw [hy] at HC hyi
              have HYI := Lib.hid hyi
              clear htk hfin hom hy hyi
              go_wp2_with fail
              refine HC.out.mono ?_
              rintro e w3 ⟨⟨p, c, rfl, hp8⟩, h3⟩
              dsimp only [Qk.f] at hp8 ⊢
              have hb4 := (Below.refl w3.heap.size w3).alloc (Nat.le_refl _) (.cells #[.int .i64 (y.a : Nat), .int .i64 (y.b : Nat), .slice p y.d.length c] 44)
              have h4 := h3.more hb4
              obtain ⟨pw2, cw2, hpe, _, _, hin⟩ := own_g qenc_len (by decide) h4.os
              injection hpe with hpe _ hpc
              subst hpe
              obtain ⟨b, o, rfl, hc⟩ := InG.cells hin k hk
              have c0 := hc 0 (by decide)
              have c1 := hc 1 (by decide)
              have c2 := hc 2 (by decide)
              rw [HY.out] at c0 c1 c2
              have HP8 := Lib.hid (hp8.below hb4)
              have HB4 : Blk (w3.alloc (.cells #[.int .i64 (y.a : Nat), .int .i64 (y.b : Nat), .slice p y.d.length c] 44)) w3.heap.size 44 [.int .i64 (y.a : Nat), .int .i64 (y.b : Nat), .slice p y.d.length c] := blk_new w3 _ _ _ rfl
              have H4 := Lib.hid h4
              clear hp8 h3 hc hin hpc h4 hb4
              go_wp2_with fail
              obtain ⟨w4, hw4⟩ : ∃ w4, w3.alloc (.cells #[.int .i64 (y.a : Nat), .int .i64 (y.b : Nat), .slice p y.d.length c] 44) = w4 := ⟨_, rfl⟩
              rw [hw4] at c0 c1 c2 HP8 HB4 H4 ⊢
              have hb3 := HB4.lt
              have hbb : b < w4.heap.size := cell_lt c0
              have d0 : ∀ z : After w4, z.v.cell? ⟨w3.heap.size, 0, none⟩ = some (.int .i64 (y.a : Nat)) := fun z => (z.below.cell (p := ⟨w3.heap.size, 0, none⟩) hb3).trans (HB4.cell 0)
              have d1 : ∀ z : After w4, z.v.cell? ⟨w3.heap.size, 1, none⟩ = some (.int .i64 (y.b : Nat)) := fun z => (z.below.cell (p := ⟨w3.heap.size, 1, none⟩) hb3).trans (HB4.cell 1)
              have d2 : ∀ z : After w4, z.v.cell? ⟨w3.heap.size, 2, none⟩ = some (.slice p y.d.length c) := fun z => (z.below.cell (p := ⟨w3.heap.size, 2, none⟩) hb3).trans (HB4.cell 2)
              have g0 : ∀ z : After w4, z.v.cell? ⟨b, o + k * 3, none⟩ = some (.int .i64 (y.a : Nat)) := fun z => (z.below.cell (p := ⟨b, o + k * 3, none⟩) hbb).trans c0
              have g1 : ∀ z : After w4, z.v.cell? ⟨b, o + k * 3 + 1, none⟩ = some (.int .i64 (y.b : Nat)) := fun z => (z.below.cell (p := ⟨b, o + k * 3 + 1, none⟩) hbb).trans c1
              have g2 : ∀ z : After w4, z.v.cell? ⟨b, o + k * 3 + 2, none⟩ = some (.slice y.p y.d.length y.c) := fun z => (z.below.cell (p := ⟨b, o + k * 3 + 2, none⟩) hbb).trans c2
              have CS := Lib.hid (fun z : After w4 => after_of z (same_c z.v y.a y.b p y.p c y.c y.d (HP8.out.below z.below) (HYI.out.1.below (bnext H4.out.below z.below)) (by have := HYI.out.2.2; omega)))
              clear c0 c1 c2 HB4 hw4 HP8
              refine wp_region_after (by kernel_rfl) (by kernel_rfl) ?_
              repeat (go_big_quiet_step (first | (rename_i z; go_at_call 16; with_reducible exact CS.out z)))
              refine wpQuiet_nil ?_
              rintro ⟨w5, hxb⟩
              dsimp only
              have HF := Lib.hid (HFIN.out w5 (H4.out.more hxb))
              clear d0 d1 d2 g0 g1 g2 CS hxb
              go_wp2_with fail
              go_roundg gk
              case measure => omega
              case rel => exact ⟨k + 1, by omega, by go_num, HF⟩
        · have hk : k < W.length := by omega
          have hkI : (k : Int) < W.length := by omega
          obtain ⟨s2, j, hom, hnx, hj, htk, hfin⟩ := tinv_next HX.out hk
          have HN := Lib.hid hom.next
          rw [hnx] at HN
          have HTK := Lib.hid (fun w2 (h : OM w w2 g s2 (.slice pw W.length cw) (.slice pz S.length cz) W S) => h.take (j : Int) ⟨by omega, by omega⟩)
          rw [htk] at HTK
          have HFIN := Lib.hid hfin
          have hyi := HIW.out _ (List.getElem_mem hk)
          obtain ⟨y, hy⟩ : ∃ y, W[k] = y := ⟨_, rfl⟩
          have HY := Lib.hid hy
          rw [hy] at HTK hyi
          have HYI := Lib.hid hyi
          clear hnx htk hfin hom hy hyi
          go_wp2_with fail
          refine HN.out.mono ?_
          rintro e w2 ⟨rfl, h2⟩
          have HC := Lib.hid (HTK.out w2 h2)
          clear h2
          go_wp2_with fail
          refine HC.out.mono ?_
          rintro e w3 ⟨⟨p, c, rfl, hp8⟩, h3⟩
          dsimp only [Qk.f] at hp8 ⊢
          have hb4 := (Below.refl w3.heap.size w3).alloc (Nat.le_refl _) (.cells #[.int .i64 (y.a : Nat), .int .i64 (y.b : Nat), .slice p y.d.length c] 44)
          have h4 := h3.more hb4
          obtain ⟨pw2, cw2, hpe, _, _, hin⟩ := own_g qenc_len (by decide) h4.ow
          injection hpe with hpe _ hpc
          subst hpe
          obtain ⟨b, o, rfl, hc⟩ := InG.cells hin k hk
          have c0 := hc 0 (by decide)
          have c1 := hc 1 (by decide)
          have c2 := hc 2 (by decide)
          rw [HY.out] at c0 c1 c2
          have HP8 := Lib.hid (hp8.below hb4)
          have HB4 : Blk (w3.alloc (.cells #[.int .i64 (y.a : Nat), .int .i64 (y.b : Nat), .slice p y.d.length c] 44)) w3.heap.size 44 [.int .i64 (y.a : Nat), .int .i64 (y.b : Nat), .slice p y.d.length c] := blk_new w3 _ _ _ rfl
          have H4 := Lib.hid h4
          clear hp8 h3 hc hin hpc h4 hb4
          go_wp2_with fail
          obtain ⟨w4, hw4⟩ : ∃ w4, w3.alloc (.cells #[.int .i64 (y.a : Nat), .int .i64 (y.b : Nat), .slice p y.d.length c] 44) = w4 := ⟨_, rfl⟩
          rw [hw4] at c0 c1 c2 HP8 HB4 H4 ⊢
          have hb3 := HB4.lt
          have hbb : b < w4.heap.size := cell_lt c0
          have d0 : ∀ z : After w4, z.v.cell? ⟨w3.heap.size, 0, none⟩ = some (.int .i64 (y.a : Nat)) := fun z => (z.below.cell (p := ⟨w3.heap.size, 0, none⟩) hb3).trans (HB4.cell 0)
          have d1 : ∀ z : After w4, z.v.cell? ⟨w3.heap.size, 1, none⟩ = some (.int .i64 (y.b : Nat)) := fun z => (z.below.cell (p := ⟨w3.heap.size, 1, none⟩) hb3).trans (HB4.cell 1)
          have d2 : ∀ z : After w4, z.v.cell? ⟨w3.heap.size, 2, none⟩ = some (.slice p y.d.length c) := fun z => (z.below.cell (p := ⟨w3.heap.size, 2, none⟩) hb3).trans (HB4.cell 2)
          have g0 : ∀ z : After w4, z.v.cell? ⟨b, o + k * 3, none⟩ = some (.int .i64 (y.a : Nat)) := fun z => (z.below.cell (p := ⟨b, o + k * 3, none⟩) hbb).trans c0
          have g1 : ∀ z : After w4, z.v.cell? ⟨b, o + k * 3 + 1, none⟩ = some (.int .i64 (y.b : Nat)) := fun z => (z.below.cell (p := ⟨b, o + k * 3 + 1, none⟩) hbb).trans c1
          have g2 : ∀ z : After w4, z.v.cell? ⟨b, o + k * 3 + 2, none⟩ = some (.slice y.p y.d.length y.c) := fun z => (z.below.cell (p := ⟨b, o + k * 3 + 2, none⟩) hbb).trans c2
          have CS := Lib.hid (fun z : After w4 => after_of z (same_c z.v y.a y.b p y.p c y.c y.d (HP8.out.below z.below) (HYI.out.1.below (bnext H4.out.below z.below)) (by have := HYI.out.2.2; omega)))
          clear c0 c1 c2 HB4 hw4 HP8
          refine wp_region_after (by kernel_rfl) (by kernel_rfl) ?_
          repeat (go_big_quiet_step (first | (rename_i z; go_at_call 16; with_reducible exact CS.out z)))
          refine wpQuiet_nil ?_
          rintro ⟨w5, hxb⟩
          dsimp only
          have HF := Lib.hid (HFIN.out w5 (H4.out.more hxb))
          clear d0 d1 d2 g0 g1 g2 CS hxb
          go_wp2_with fail
          go_roundg gk
          case measure => omega
          case rel => exact ⟨k + 1, by omega, by go_num, HF⟩
end Go.Proofs.Ytdjgafemmihlgaa.lan
