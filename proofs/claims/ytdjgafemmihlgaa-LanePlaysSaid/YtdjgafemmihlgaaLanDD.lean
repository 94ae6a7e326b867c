/- LanePlays: a step, by both: Shut. -/
import Derived.Test.YtdjgafemmihlgaaLanDA
import Derived.Deep.RegionHeld3
namespace Go.Proofs.Ytdjgafemmihlgaa.lan
open Go.RowKit
open Go.Proofs.Ytdjgafemmihlgaa.oct Go.Proofs.Ytdjgafemmihlgaa.ref Go.Proofs.Ytdjgafemmihlgaa.rows Go.Proofs.Ytdjgafemmihlgaa.rowg Go.Proofs.Ytdjgafemmihlgaa.trn
open Go.Lib (byteCells)

set_option maxRecDepth 100000 in
set_option maxHeartbeats 16000000 in
theorem do_shut {w wx : World} {gl gr : Nat} {s : LS} {X : Nat → Prop} (h : PS w wx gl gr s s X) (hc : s.cn < 1000000) (a b : Int) (y8 : UInt8) (p : Option Addr) (d : T) (c : Nat) (ha : I64 a) (hb : I64 b) (_hp : In8 w p d) (_hn : p = none → c = 0) (_hd : d.length ≤ 140737488355328) :
    Calls Try.prog 9 #[ptr gl, ptr gr, .agg #[.int .i64 5, .int .i64 a, .int .i64 b, .int .u8 (y8.toNat : Int), .slice p d.length c]] wx fun e w2 => DoA w w2 gl gr s X wx e := by
  have hG := Gd.start h [.int .i64 5, .int .i64 a, .int .i64 b, .int .u8 (y8.toNat : Int), .slice p d.length c]
  have hws := h.ws.link a b true hc
  have HL := Lib.hid fun (wy : World) (hbw : Below _ _ wy) => hG.runL (s2 := (linkP s a b true).2) (Q := fun e => e = .returned (err (linkP s a b true).1)) hws (fun wy R hwy hR => shut_c hR h.ws hc a b ha hb) wy hbw
  have HR := Lib.hid fun (w4 : World) (hG2 : Gd w wx w4 gl gr (linkP s a b true).2 s X wx.heap.size [.int .i64 5, .int .i64 a, .int .i64 b, .int .u8 (y8.toNat : Int), .slice p d.length c]) (wy : World) (hbw : Below w4.heap.size w4 wy) => hG2.runR (t2 := (linkP s a b true).2) (Q := fun e => e = .returned (err (linkP s a b true).1)) hws (fun wy R hwy hR => rlink_c hR h.ws a b true ha hb) wy hbw
  have HCN : Hid ((linkP s a b true).2.cn ≤ s.cn + 1) := by
    show _ ≤ _
    exact cn_link s a b true
  obtain ⟨s2, hs2⟩ : ∃ s2, (linkP s a b true).2 = s2 := ⟨_, rfl⟩
  obtain ⟨n, hn2⟩ : ∃ n, (linkP s a b true).1 = n := ⟨_, rfl⟩
  rw [hs2] at HL HR HCN
  rw [hn2] at HL HR
  have x9 := hG.c0
  have z3 := hG.sz
  unfold w3Of at HL hG x9 z3
  clear h hws hs2 hn2 ha hb _hp _hn _hd hc
  obtain ⟨kb, hkb⟩ : ∃ kb, wx.heap.size = kb := ⟨_, rfl⟩
  rw [hkb] at HL HR x9 z3 hG
  obtain ⟨w3, hw3⟩ : ∃ w3, w3Of wx [.int .i64 5, .int .i64 a, .int .i64 b, .int .u8 (y8.toNat : Int), .slice p d.length c].toArray = w3 := ⟨_, rfl⟩
  unfold w3Of at hw3
  rw [hw3] at HL x9 z3 hG
  have x0 : w3.cell? ⟨kb, 0, none⟩ = some (.int .i64 5) := x9 0
  have x1 : w3.cell? ⟨kb, 1, none⟩ = some (.int .i64 a) := x9 1
  have x2 : w3.cell? ⟨kb, 2, none⟩ = some (.int .i64 b) := x9 2
  clear x9 hG
  go_enter Try.func9, Try.ntmps9
  go_wp2_with fail
  clear hw3
  go_region_held3 (fun W => W.cell? ⟨kb, 0, none⟩ = some (.int .i64 5) ∧ W.cell? ⟨kb, 1, none⟩ = some (.int .i64 a) ∧ W.cell? ⟨kb, 2, none⟩ = some (.int .i64 b)) (first | exact ⟨x0, x1, x2⟩ | exact ⟨y0, y1, y2⟩ | exact ⟨z0, z1, z2⟩ | go_keep) (first
    | (go_at_call 11; refine (HL.out _ (by first | exact Below.refl _ _ | exact (Below.refl w3.heap.size w3).drew)).mono ?_; rintro e w4 ⟨rfl, hg4⟩; have G4 := Lib.hid hg4; have y0 : w4.cell? ⟨kb, 0, none⟩ = some (.int .i64 5) := hg4.c0 0; have y1 : w4.cell? ⟨kb, 1, none⟩ = some (.int .i64 a) := hg4.c0 1; have y2 : w4.cell? ⟨kb, 2, none⟩ = some (.int .i64 b) := hg4.c0 2; clear hg4)
    | (go_at_call 34; refine (HR.out _ G4.out _ (by first | exact Below.refl _ _ | exact (Below.refl _ _).drew)).mono ?_; rintro e w5 ⟨rfl, hg5⟩; have G5 := Lib.hid hg5; have z0 : w5.cell? ⟨kb, 0, none⟩ = some (.int .i64 5) := hg5.c0 0; have z1 : w5.cell? ⟨kb, 1, none⟩ = some (.int .i64 a) := hg5.c0 1; have z2 : w5.cell? ⟨kb, 2, none⟩ = some (.int .i64 b) := hg5.c0 2; clear hg5))
  all_goals
    have p0 : w5.cell? ⟨kb + 1, 0, none⟩ = some (.int .i64 0) := G5.out.c1 0
    have p1 : w5.cell? ⟨kb + 1, 1, none⟩ = some (.int .i64 0) := G5.out.c1 1
    have p2 : w5.cell? ⟨kb + 1, 2, none⟩ = some (.slice none 0 0) := G5.out.c1 2
    have q0 : w5.cell? ⟨kb + 1 + 1, 0, none⟩ = some (.int .i64 0) := G5.out.c2 0
    have q1 : w5.cell? ⟨kb + 1 + 1, 1, none⟩ = some (.int .i64 0) := G5.out.c2 1
    have q2 : w5.cell? ⟨kb + 1 + 1, 2, none⟩ = some (.slice none 0 0) := G5.out.c2 2
    clear x0 y0 z0 x1 y1 z1 x2 y2 z2 G4 HL HR
    go_wp2_with fail
    refine (same_zero _).mono ?_
    rintro e w6 ⟨rfl, hb6⟩
    have HB6 := Lib.hid hb6
    clear hb6
    go_wp2_with fail
    go_ret
    exact (G5.out.same HB6.out).done HCN.out
end Go.Proofs.Ytdjgafemmihlgaa.lan
