/- A step by both plates: Append, Sync, Cut, Arm, Crash, nothing. -/
import Derived.Test.YtggcdlhgmikemaaPly
namespace Go.Proofs.Ytggcdlhgmikemaa.plt
open Go.RowKit
open Go.Proofs.Ytggcdlhgmikemaa.oct Go.Proofs.Ytggcdlhgmikemaa.ref Go.Proofs.Ytggcdlhgmikemaa.rows Go.Proofs.Ytggcdlhgmikemaa.rowg Go.Proofs.Ytggcdlhgmikemaa.trn
open Go.Lib (byteCells)
open Go.Proofs.Ytggcdlhgmikemaa.opn (SP spenc GoodS)

theorem i64_wf {n : Int} (h1 : -9223372036854775808 ≤ n) (h2 : n ≤ 9223372036854775807) : (Lit.int .i64 n).wf = true := by
  have e1 : IntKind.i64.min = -9223372036854775808 := rfl
  have e2 : IntKind.i64.max = 9223372036854775807 := rfl
  simp only [Lit.wf, Bool.and_eq_true, decide_eq_true_eq]
  omega
theorem parm_p {w : World} {R : Nat → Prop} {g : Nat} {st : PS} (h : PA w R g st) (n : Int) (h1 : -9223372036854775808 ≤ n) (h2 : n ≤ 9223372036854775807) :
    Calls Try.prog 20 #[dptr g, .int .i64 n] w fun e w' => e = .returned (.tuple #[]) ∧ To w w' R g (armP st n) := by
  obtain ⟨m, D, fl, k, hM, hfs, hk, hk1, hk2⟩ := h
  refine (parm_c hM.blk n).mono fun e w' ⟨e1, e2, e3⟩ => ⟨e1, R, ?_, Turn.of_grown e3 hM.mem, Grown.refl R w⟩
  unfold armP
  cases hd : st.down with
  | true =>
    rw [hd] at e2
    rw [if_pos rfl] at e2 ⊢
    exact ⟨m, D, fl, k, hM.cells e3 (by rw [hd]; exact e2), hfs, hk, hk1, hk2⟩
  | false =>
    rw [hd, if_neg (by simp)] at e2
    rw [if_neg (by simp)]
    exact ⟨m, D, fl, n, hM.cells e3 e2, hfs, rfl, h1, h2⟩
set_option maxRecDepth 100000 in
set_option maxHeartbeats 16000000 in
theorem do_append {w wx : World} {gl gr : Nat} {s t : PS} {X : Nat → Prop} (h : QS w wx gl gr s t X) (same : Prop) (hst : same → s = t) (n : T) (p : Option Addr) (c : Nat) (d : T) (m : Int) (q : Option Addr) (e : Nat) (ks : List Int) (hg : GoodS w ⟨0, n, p, c, d, m, q, e, ks⟩) :
    Calls Try.prog 11 #[dptr gl, dptr gr, .agg #[.int .i64 0, .string ⟨n.toArray⟩, .slice p d.length c, .int .i64 m, .slice q ks.length e]] wx fun e w2 => DoA w w2 gl gr same (appP s n d).2 (appP t n d).2 X wx e := by
  have hn := hg.name
  have hG := Gd.start h [.int .i64 0, .string ⟨n.toArray⟩, .slice p d.length c, .int .i64 m, .slice q ks.length e]
  have hws : Wf (appP s n d).2 := wf_app h.ws n d
  have hwt : Wf (appP t n d).2 := wf_app h.wt n d
  have HL := Lib.hid fun (wy : World) (hbw : Below _ _ wy) => hG.runL (s2 := (appP s n d).2) (Q := fun e => e = .returned (.int .i64 ((appP s n d).1 : Nat))) hws (fun wy R hwy hlo hR => pappend_c hR h.ws n p c d hn (hg.row.below hwy) (by have := hg.fit; exact Nat.le_trans this (by decide)) (arg_out hlo hg.row)) wy hbw
  have HR := Lib.hid fun (w4 : World) (hG2 : Gd w wx w4 gl gr (appP s n d).2 t X wx.heap.size [.int .i64 0, .string ⟨n.toArray⟩, .slice p d.length c, .int .i64 m, .slice q ks.length e]) (wy : World) (hbw : Below w4.heap.size w4 wy) => hG2.runR (t2 := (appP t n d).2) (Q := fun e => e = .returned (.int .i64 ((appP t n d).1 : Nat))) hwt (fun wy R hwy hlo hR => hR.append hwy hlo h.wt n hn p c d hg.row hg.nil (by have := hg.fit; exact Nat.le_trans this (by decide))) wy hbw
  have HEQ : Hid (same → (appP s n d).1 = (appP t n d).1) := fun e => by rw [hst e]
  obtain ⟨s2, hs2⟩ : ∃ s2, (appP s n d).2 = s2 := ⟨_, rfl⟩
  obtain ⟨t2, ht2⟩ : ∃ t2, (appP t n d).2 = t2 := ⟨_, rfl⟩
  obtain ⟨r1, hr1⟩ : ∃ r1, (appP s n d).1 = r1 := ⟨_, rfl⟩
  obtain ⟨r2, hr2⟩ : ∃ r2, (appP t n d).1 = r2 := ⟨_, rfl⟩
  rw [hs2, hr1] at HL
  rw [hs2, ht2, hr2] at HR
  rw [hr1, hr2] at HEQ
  rw [hs2, ht2]
  have x9 := hG.c0
  have zs3 := hG.sz
  clear h hws hwt hs2 ht2 hr1 hr2 hst hg hn
  obtain ⟨kb, hkb⟩ : ∃ kb, wx.heap.size = kb := ⟨_, rfl⟩
  rw [hkb] at HL HR x9 zs3 hG
  obtain ⟨w3, hw3⟩ : ∃ w3, wx.alloc (.cells #[.int .i64 0, .string ⟨n.toArray⟩, .slice p d.length c, .int .i64 m, .slice q ks.length e] 36) = w3 := ⟨_, rfl⟩
  have hw3' : wx.alloc (.cells ([.int .i64 0, .string ⟨n.toArray⟩, .slice p d.length c, .int .i64 m, .slice q ks.length e] : List Value).toArray 36) = w3 := hw3
  rw [hw3'] at HL x9 zs3 hG
  have x0 : w3.cell? ⟨kb, 0, none⟩ = some (.int .i64 0) := x9 0
  have x1 : w3.cell? ⟨kb, 1, none⟩ = some (.string ⟨n.toArray⟩) := x9 1
  have x2 : w3.cell? ⟨kb, 2, none⟩ = some (.slice p d.length c) := x9 2
  clear x9 hG hw3'
  go_enter Try.func11, Try.ntmps11
  go_wp2_with fail
  clear hw3
  go_region_held3 (fun W => W.cell? ⟨kb, 0, none⟩ = some (.int .i64 0) ∧ W.cell? ⟨kb, 1, none⟩ = some (.string ⟨n.toArray⟩) ∧ W.cell? ⟨kb, 2, none⟩ = some (.slice p d.length c)) (first | exact ⟨x0, x1, x2⟩ | exact ⟨y0, y1, y2⟩ | exact ⟨z0, z1, z2⟩ | go_keep) (first
    | (go_at_call 22; refine (HL.out _ (by first | exact Below.refl _ _ | exact (Below.refl w3.heap.size w3).drew)).mono ?_; rintro e w4 ⟨rfl, hg4⟩; have G4 := Lib.hid hg4; have y0 : w4.cell? ⟨kb, 0, none⟩ = some (.int .i64 0) := hg4.c0 0; have y1 : w4.cell? ⟨kb, 1, none⟩ = some (.string ⟨n.toArray⟩) := hg4.c0 1; have y2 : w4.cell? ⟨kb, 2, none⟩ = some (.slice p d.length c) := hg4.c0 2; clear hg4)
    | (go_at_call 25; refine (HR.out _ G4.out _ (by first | exact Below.refl _ _ | exact (Below.refl _ _).drew)).mono ?_; rintro e w5 ⟨rfl, hg5⟩; have G5 := Lib.hid hg5; have z0 : w5.cell? ⟨kb, 0, none⟩ = some (.int .i64 0) := hg5.c0 0; have z1 : w5.cell? ⟨kb, 1, none⟩ = some (.string ⟨n.toArray⟩) := hg5.c0 1; have z2 : w5.cell? ⟨kb, 2, none⟩ = some (.slice p d.length c) := hg5.c0 2; clear hg5))
  all_goals
    go_wp2_with fail
    go_ret
    exact G5.out.done _ (eq_ints HEQ.out)
set_option maxRecDepth 100000 in
set_option maxHeartbeats 16000000 in
theorem do_sync {w wx : World} {gl gr : Nat} {s t : PS} {X : Nat → Prop} (h : QS w wx gl gr s t X) (same : Prop) (hst : same → s = t) (n : T) (p : Option Addr) (c : Nat) (d : T) (m : Int) (q : Option Addr) (e : Nat) (ks : List Int) (hg : GoodS w ⟨1, n, p, c, d, m, q, e, ks⟩) :
    Calls Try.prog 11 #[dptr gl, dptr gr, .agg #[.int .i64 1, .string ⟨n.toArray⟩, .slice p d.length c, .int .i64 m, .slice q ks.length e]] wx fun e w2 => DoA w w2 gl gr same (synP s n).2 (synP t n).2 X wx e := by
  have hn := hg.name
  have hG := Gd.start h [.int .i64 1, .string ⟨n.toArray⟩, .slice p d.length c, .int .i64 m, .slice q ks.length e]
  have hws : Wf (synP s n).2 := wf_syn h.ws n
  have hwt : Wf (synP t n).2 := wf_syn h.wt n
  have HL := Lib.hid fun (wy : World) (hbw : Below _ _ wy) => hG.runL (s2 := (synP s n).2) (Q := fun e => e = .returned (.int .i64 ((synP s n).1 : Nat))) hws (fun wy R hwy hlo hR => psync_c hR h.ws n hn) wy hbw
  have HR := Lib.hid fun (w4 : World) (hG2 : Gd w wx w4 gl gr (synP s n).2 t X wx.heap.size [.int .i64 1, .string ⟨n.toArray⟩, .slice p d.length c, .int .i64 m, .slice q ks.length e]) (wy : World) (hbw : Below w4.heap.size w4 wy) => hG2.runR (t2 := (synP t n).2) (Q := fun e => e = .returned (.int .i64 ((synP t n).1 : Nat))) hwt (fun wy R hwy hlo hR => hR.sync h.wt n hn) wy hbw
  have HEQ : Hid (same → (synP s n).1 = (synP t n).1) := fun e => by rw [hst e]
  obtain ⟨s2, hs2⟩ : ∃ s2, (synP s n).2 = s2 := ⟨_, rfl⟩
  obtain ⟨t2, ht2⟩ : ∃ t2, (synP t n).2 = t2 := ⟨_, rfl⟩
  obtain ⟨r1, hr1⟩ : ∃ r1, (synP s n).1 = r1 := ⟨_, rfl⟩
  obtain ⟨r2, hr2⟩ : ∃ r2, (synP t n).1 = r2 := ⟨_, rfl⟩
  rw [hs2, hr1] at HL
  rw [hs2, ht2, hr2] at HR
  rw [hr1, hr2] at HEQ
  rw [hs2, ht2]
  have x9 := hG.c0
  have zs3 := hG.sz
  clear h hws hwt hs2 ht2 hr1 hr2 hst hg hn
  obtain ⟨kb, hkb⟩ : ∃ kb, wx.heap.size = kb := ⟨_, rfl⟩
  rw [hkb] at HL HR x9 zs3 hG
  obtain ⟨w3, hw3⟩ : ∃ w3, wx.alloc (.cells #[.int .i64 1, .string ⟨n.toArray⟩, .slice p d.length c, .int .i64 m, .slice q ks.length e] 36) = w3 := ⟨_, rfl⟩
  have hw3' : wx.alloc (.cells ([.int .i64 1, .string ⟨n.toArray⟩, .slice p d.length c, .int .i64 m, .slice q ks.length e] : List Value).toArray 36) = w3 := hw3
  rw [hw3'] at HL x9 zs3 hG
  have x0 : w3.cell? ⟨kb, 0, none⟩ = some (.int .i64 1) := x9 0
  have x1 : w3.cell? ⟨kb, 1, none⟩ = some (.string ⟨n.toArray⟩) := x9 1
  clear x9 hG hw3'
  go_enter Try.func11, Try.ntmps11
  go_wp2_with fail
  clear hw3
  go_region_held3 (fun W => W.cell? ⟨kb, 0, none⟩ = some (.int .i64 1) ∧ W.cell? ⟨kb, 1, none⟩ = some (.string ⟨n.toArray⟩)) (first | exact ⟨x0, x1⟩ | exact ⟨y0, y1⟩ | exact ⟨z0, z1⟩ | go_keep) (first
    | (go_at_call 28; refine (HL.out _ (by first | exact Below.refl _ _ | exact (Below.refl w3.heap.size w3).drew)).mono ?_; rintro e w4 ⟨rfl, hg4⟩; have G4 := Lib.hid hg4; have y0 : w4.cell? ⟨kb, 0, none⟩ = some (.int .i64 1) := hg4.c0 0; have y1 : w4.cell? ⟨kb, 1, none⟩ = some (.string ⟨n.toArray⟩) := hg4.c0 1; clear hg4)
    | (go_at_call 30; refine (HR.out _ G4.out _ (by first | exact Below.refl _ _ | exact (Below.refl _ _).drew)).mono ?_; rintro e w5 ⟨rfl, hg5⟩; have G5 := Lib.hid hg5; have z0 : w5.cell? ⟨kb, 0, none⟩ = some (.int .i64 1) := hg5.c0 0; have z1 : w5.cell? ⟨kb, 1, none⟩ = some (.string ⟨n.toArray⟩) := hg5.c0 1; clear hg5))
  all_goals
    go_wp2_with fail
    go_ret
    exact G5.out.done _ (eq_ints HEQ.out)
set_option maxRecDepth 100000 in
set_option maxHeartbeats 16000000 in
theorem do_cut {w wx : World} {gl gr : Nat} {s t : PS} {X : Nat → Prop} (h : QS w wx gl gr s t X) (same : Prop) (hst : same → s = t) (n : T) (p : Option Addr) (c : Nat) (d : T) (m : Int) (q : Option Addr) (e : Nat) (ks : List Int) (hg : GoodS w ⟨2, n, p, c, d, m, q, e, ks⟩) :
    Calls Try.prog 11 #[dptr gl, dptr gr, .agg #[.int .i64 2, .string ⟨n.toArray⟩, .slice p d.length c, .int .i64 m, .slice q ks.length e]] wx fun e w2 => DoA w w2 gl gr same (cutP s n m).2 (cutP t n m).2 X wx e := by
  have hn := hg.name
  have hG := Gd.start h [.int .i64 2, .string ⟨n.toArray⟩, .slice p d.length c, .int .i64 m, .slice q ks.length e]
  have hws : Wf (cutP s n m).2 := wf_cut h.ws n m
  have hwt : Wf (cutP t n m).2 := wf_cut h.wt n m
  have HL := Lib.hid fun (wy : World) (hbw : Below _ _ wy) => hG.runL (s2 := (cutP s n m).2) (Q := fun e => e = .returned (.int .i64 ((cutP s n m).1 : Nat))) hws (fun wy R hwy hlo hR => pcut_c hR h.ws n hn m (by have := hg.im; exact i64_wf this.1 this.2)) wy hbw
  have HR := Lib.hid fun (w4 : World) (hG2 : Gd w wx w4 gl gr (cutP s n m).2 t X wx.heap.size [.int .i64 2, .string ⟨n.toArray⟩, .slice p d.length c, .int .i64 m, .slice q ks.length e]) (wy : World) (hbw : Below w4.heap.size w4 wy) => hG2.runR (t2 := (cutP t n m).2) (Q := fun e => e = .returned (.int .i64 ((cutP t n m).1 : Nat))) hwt (fun wy R hwy hlo hR => hR.cut h.wt n hn m hg.im.1 hg.im.2) wy hbw
  have HEQ : Hid (same → (cutP s n m).1 = (cutP t n m).1) := fun e => by rw [hst e]
  obtain ⟨s2, hs2⟩ : ∃ s2, (cutP s n m).2 = s2 := ⟨_, rfl⟩
  obtain ⟨t2, ht2⟩ : ∃ t2, (cutP t n m).2 = t2 := ⟨_, rfl⟩
  obtain ⟨r1, hr1⟩ : ∃ r1, (cutP s n m).1 = r1 := ⟨_, rfl⟩
  obtain ⟨r2, hr2⟩ : ∃ r2, (cutP t n m).1 = r2 := ⟨_, rfl⟩
  rw [hs2, hr1] at HL
  rw [hs2, ht2, hr2] at HR
  rw [hr1, hr2] at HEQ
  rw [hs2, ht2]
  have x9 := hG.c0
  have zs3 := hG.sz
  clear h hws hwt hs2 ht2 hr1 hr2 hst hg hn
  obtain ⟨kb, hkb⟩ : ∃ kb, wx.heap.size = kb := ⟨_, rfl⟩
  rw [hkb] at HL HR x9 zs3 hG
  obtain ⟨w3, hw3⟩ : ∃ w3, wx.alloc (.cells #[.int .i64 2, .string ⟨n.toArray⟩, .slice p d.length c, .int .i64 m, .slice q ks.length e] 36) = w3 := ⟨_, rfl⟩
  have hw3' : wx.alloc (.cells ([.int .i64 2, .string ⟨n.toArray⟩, .slice p d.length c, .int .i64 m, .slice q ks.length e] : List Value).toArray 36) = w3 := hw3
  rw [hw3'] at HL x9 zs3 hG
  have x0 : w3.cell? ⟨kb, 0, none⟩ = some (.int .i64 2) := x9 0
  have x1 : w3.cell? ⟨kb, 1, none⟩ = some (.string ⟨n.toArray⟩) := x9 1
  have x3 : w3.cell? ⟨kb, 3, none⟩ = some (.int .i64 m) := x9 3
  clear x9 hG hw3'
  go_enter Try.func11, Try.ntmps11
  go_wp2_with fail
  clear hw3
  go_region_held3 (fun W => W.cell? ⟨kb, 0, none⟩ = some (.int .i64 2) ∧ W.cell? ⟨kb, 1, none⟩ = some (.string ⟨n.toArray⟩) ∧ W.cell? ⟨kb, 3, none⟩ = some (.int .i64 m)) (first | exact ⟨x0, x1, x3⟩ | exact ⟨y0, y1, y3⟩ | exact ⟨z0, z1, z3⟩ | go_keep) (first
    | (go_at_call 29; refine (HL.out _ (by first | exact Below.refl _ _ | exact (Below.refl w3.heap.size w3).drew)).mono ?_; rintro e w4 ⟨rfl, hg4⟩; have G4 := Lib.hid hg4; have y0 : w4.cell? ⟨kb, 0, none⟩ = some (.int .i64 2) := hg4.c0 0; have y1 : w4.cell? ⟨kb, 1, none⟩ = some (.string ⟨n.toArray⟩) := hg4.c0 1; have y3 : w4.cell? ⟨kb, 3, none⟩ = some (.int .i64 m) := hg4.c0 3; clear hg4)
    | (go_at_call 31; refine (HR.out _ G4.out _ (by first | exact Below.refl _ _ | exact (Below.refl _ _).drew)).mono ?_; rintro e w5 ⟨rfl, hg5⟩; have G5 := Lib.hid hg5; have z0 : w5.cell? ⟨kb, 0, none⟩ = some (.int .i64 2) := hg5.c0 0; have z1 : w5.cell? ⟨kb, 1, none⟩ = some (.string ⟨n.toArray⟩) := hg5.c0 1; have z3 : w5.cell? ⟨kb, 3, none⟩ = some (.int .i64 m) := hg5.c0 3; clear hg5))
  all_goals
    go_wp2_with fail
    go_ret
    exact G5.out.done _ (eq_ints HEQ.out)
set_option maxRecDepth 100000 in
set_option maxHeartbeats 16000000 in
theorem do_arm {w wx : World} {gl gr : Nat} {s t : PS} {X : Nat → Prop} (h : QS w wx gl gr s t X) (same : Prop) (_hst : same → s = t) (n : T) (p : Option Addr) (c : Nat) (d : T) (m : Int) (q : Option Addr) (e : Nat) (ks : List Int) (hg : GoodS w ⟨3, n, p, c, d, m, q, e, ks⟩) :
    Calls Try.prog 11 #[dptr gl, dptr gr, .agg #[.int .i64 3, .string ⟨n.toArray⟩, .slice p d.length c, .int .i64 m, .slice q ks.length e]] wx fun e w2 => DoA w w2 gl gr same (armP s m) (armP t m) X wx e := by
  have hn := hg.name
  have hG := Gd.start h [.int .i64 3, .string ⟨n.toArray⟩, .slice p d.length c, .int .i64 m, .slice q ks.length e]
  have hws : Wf (armP s m) := wf_arm h.ws m
  have hwt : Wf (armP t m) := wf_arm h.wt m
  have HL := Lib.hid fun (wy : World) (hbw : Below _ _ wy) => hG.runL (s2 := (armP s m)) (Q := fun e => e = .returned (.tuple #[])) hws (fun wy R hwy hlo hR => parm_p hR m hg.im.1 hg.im.2) wy hbw
  have HR := Lib.hid fun (w4 : World) (hG2 : Gd w wx w4 gl gr (armP s m) t X wx.heap.size [.int .i64 3, .string ⟨n.toArray⟩, .slice p d.length c, .int .i64 m, .slice q ks.length e]) (wy : World) (hbw : Below w4.heap.size w4 wy) => hG2.runR (t2 := (armP t m)) (Q := fun e => e = .returned (.tuple #[])) hwt (fun wy R hwy hlo hR => hR.arm m hg.im.1 hg.im.2) wy hbw
  obtain ⟨s2, hs2⟩ : ∃ s2, (armP s m) = s2 := ⟨_, rfl⟩
  obtain ⟨t2, ht2⟩ : ∃ t2, (armP t m) = t2 := ⟨_, rfl⟩
  rw [hs2] at HL
  rw [hs2, ht2] at HR
  rw [hs2, ht2]
  have x9 := hG.c0
  have zs3 := hG.sz
  clear h hws hwt hs2 ht2 hg hn
  obtain ⟨kb, hkb⟩ : ∃ kb, wx.heap.size = kb := ⟨_, rfl⟩
  rw [hkb] at HL HR x9 zs3 hG
  obtain ⟨w3, hw3⟩ : ∃ w3, wx.alloc (.cells #[.int .i64 3, .string ⟨n.toArray⟩, .slice p d.length c, .int .i64 m, .slice q ks.length e] 36) = w3 := ⟨_, rfl⟩
  have hw3' : wx.alloc (.cells ([.int .i64 3, .string ⟨n.toArray⟩, .slice p d.length c, .int .i64 m, .slice q ks.length e] : List Value).toArray 36) = w3 := hw3
  rw [hw3'] at HL x9 zs3 hG
  have x0 : w3.cell? ⟨kb, 0, none⟩ = some (.int .i64 3) := x9 0
  have x3 : w3.cell? ⟨kb, 3, none⟩ = some (.int .i64 m) := x9 3
  clear x9 hG hw3'
  go_enter Try.func11, Try.ntmps11
  go_wp2_with fail
  clear hw3
  refine (HL.out _ (Below.refl _ _)).mono ?_
  rintro e4 w4 ⟨rfl, hg4⟩
  have G4 := Lib.hid hg4
  have y3 : w4.cell? ⟨kb, 3, none⟩ = some (.int .i64 m) := hg4.c0 3
  clear hg4 x0 x3
  go_wp2_with fail
  refine (HR.out _ G4.out _ (Below.refl _ _)).mono ?_
  rintro e5 w5 ⟨rfl, hg5⟩
  have G5 := Lib.hid hg5
  clear hg5
  go_wp2_with fail
  go_ret
  exact G5.out.done _ (fun _ => rfl)
set_option maxRecDepth 100000 in
set_option maxHeartbeats 16000000 in
theorem do_crash {w wx : World} {gl gr : Nat} {s t : PS} {X : Nat → Prop} (h : QS w wx gl gr s t X) (same : Prop) (_hst : same → s = t) (n : T) (p : Option Addr) (c : Nat) (d : T) (m : Int) (q : Option Addr) (e : Nat) (ks : List Int) (hg : GoodS w ⟨4, n, p, c, d, m, q, e, ks⟩) :
    Calls Try.prog 11 #[dptr gl, dptr gr, .agg #[.int .i64 4, .string ⟨n.toArray⟩, .slice p d.length c, .int .i64 m, .slice q ks.length e]] wx fun e w2 => DoA w w2 gl gr same (crashP s ks) (crashP t ks) X wx e := by
  have hn := hg.name
  have hG := Gd.start h [.int .i64 4, .string ⟨n.toArray⟩, .slice p d.length c, .int .i64 m, .slice q ks.length e]
  have hws : Wf (crashP s ks) := wf_crash h.ws ks
  have hwt : Wf (crashP t ks) := wf_crash h.wt ks
  have HL := Lib.hid fun (wy : World) (hbw : Below _ _ wy) => hG.runL (s2 := (crashP s ks)) (Q := fun e => e = .returned (.tuple #[])) hws (fun wy R hwy hlo hR => pcrash_c hR h.ws q e ks (InG.below ienc_len (by decide) hg.nts hwy) (Nat.le_trans hg.ints (by decide)) hg.each (ints_out hlo hg.nts)) wy hbw
  have HR := Lib.hid fun (w4 : World) (hG2 : Gd w wx w4 gl gr (crashP s ks) t X wx.heap.size [.int .i64 4, .string ⟨n.toArray⟩, .slice p d.length c, .int .i64 m, .slice q ks.length e]) (wy : World) (hbw : Below w4.heap.size w4 wy) => hG2.runR (t2 := (crashP t ks)) (Q := fun e => e = .returned (.tuple #[])) hwt (fun wy R hwy hlo hR => hR.crash hwy hlo h.wt q e ks hg.nts (Nat.le_trans hg.ints (by decide)) hg.each) wy hbw
  obtain ⟨s2, hs2⟩ : ∃ s2, (crashP s ks) = s2 := ⟨_, rfl⟩
  obtain ⟨t2, ht2⟩ : ∃ t2, (crashP t ks) = t2 := ⟨_, rfl⟩
  rw [hs2] at HL
  rw [hs2, ht2] at HR
  rw [hs2, ht2]
  have x9 := hG.c0
  have zs3 := hG.sz
  clear h hws hwt hs2 ht2 hg hn
  obtain ⟨kb, hkb⟩ : ∃ kb, wx.heap.size = kb := ⟨_, rfl⟩
  rw [hkb] at HL HR x9 zs3 hG
  obtain ⟨w3, hw3⟩ : ∃ w3, wx.alloc (.cells #[.int .i64 4, .string ⟨n.toArray⟩, .slice p d.length c, .int .i64 m, .slice q ks.length e] 36) = w3 := ⟨_, rfl⟩
  have hw3' : wx.alloc (.cells ([.int .i64 4, .string ⟨n.toArray⟩, .slice p d.length c, .int .i64 m, .slice q ks.length e] : List Value).toArray 36) = w3 := hw3
  rw [hw3'] at HL x9 zs3 hG
  have x0 : w3.cell? ⟨kb, 0, none⟩ = some (.int .i64 4) := x9 0
  have x4 : w3.cell? ⟨kb, 4, none⟩ = some (.slice q ks.length e) := x9 4
  clear x9 hG hw3'
  go_enter Try.func11, Try.ntmps11
  go_wp2_with fail
  clear hw3
  refine (HL.out _ (Below.refl _ _)).mono ?_
  rintro e4 w4 ⟨rfl, hg4⟩
  have G4 := Lib.hid hg4
  have y4 : w4.cell? ⟨kb, 4, none⟩ = some (.slice q ks.length e) := hg4.c0 4
  clear hg4 x0 x4
  go_wp2_with fail
  refine (HR.out _ G4.out _ (Below.refl _ _)).mono ?_
  rintro e5 w5 ⟨rfl, hg5⟩
  have G5 := Lib.hid hg5
  clear hg5
  go_wp2_with fail
  go_ret
  exact G5.out.done _ (fun _ => rfl)
set_option maxRecDepth 100000 in
set_option maxHeartbeats 16000000 in
theorem do_none {w wx : World} {gl gr : Nat} {s t : PS} {X : Nat → Prop} (h : QS w wx gl gr s t X) (same : Prop) (k : Int) (n : T) (p : Option Addr) (c : Nat) (d : T) (m : Int) (q : Option Addr) (e : Nat) (ks : List Int) (h0 : k ≠ 0) (h1 : k ≠ 1) (h2 : k ≠ 2) (h3 : k ≠ 3) (h4 : k ≠ 4) (h5 : k ≠ 5) :
    Calls Try.prog 11 #[dptr gl, dptr gr, .agg #[.int .i64 k, .string ⟨n.toArray⟩, .slice p d.length c, .int .i64 m, .slice q ks.length e]] wx fun e w2 => DoA w w2 gl gr same s t X wx e := by
  have hG := Gd.start h [.int .i64 k, .string ⟨n.toArray⟩, .slice p d.length c, .int .i64 m, .slice q ks.length e]
  have e0 : (k == 0) = false := by rw [beq_eq_false_iff_ne]; exact h0
  have e1 : (k == 1) = false := by rw [beq_eq_false_iff_ne]; exact h1
  have e2 : (k == 2) = false := by rw [beq_eq_false_iff_ne]; exact h2
  have e3 : (k == 3) = false := by rw [beq_eq_false_iff_ne]; exact h3
  have e4 : (k == 4) = false := by rw [beq_eq_false_iff_ne]; exact h4
  have e5 : (k == 5) = false := by rw [beq_eq_false_iff_ne]; exact h5
  have x9 := hG.c0
  have zs3 := hG.sz
  clear h h0 h1 h2 h3 h4 h5
  obtain ⟨kb, hkb⟩ : ∃ kb, wx.heap.size = kb := ⟨_, rfl⟩
  rw [hkb] at x9 zs3 hG
  obtain ⟨w3, hw3⟩ : ∃ w3, wx.alloc (.cells #[.int .i64 k, .string ⟨n.toArray⟩, .slice p d.length c, .int .i64 m, .slice q ks.length e] 36) = w3 := ⟨_, rfl⟩
  have hw3' : wx.alloc (.cells ([.int .i64 k, .string ⟨n.toArray⟩, .slice p d.length c, .int .i64 m, .slice q ks.length e] : List Value).toArray 36) = w3 := hw3
  rw [hw3'] at x9 zs3 hG
  have x0 : w3.cell? ⟨kb, 0, none⟩ = some (.int .i64 k) := x9 0
  have HG := Lib.hid hG
  clear x9 hG hw3'
  go_enter Try.func11, Try.ntmps11
  go_wp2_with fail
  go_ret
  exact HG.out.done _ (fun _ => rfl)
end Go.Proofs.Ytggcdlhgmikemaa.plt
