/- LanePlays: a step, by both: Take. -/
import Derived.Test.YtdjgafemmihlgaaLanDA
namespace Go.Proofs.Ytdjgafemmihlgaa.lan
open Go.RowKit
open Go.Proofs.Ytdjgafemmihlgaa.oct Go.Proofs.Ytdjgafemmihlgaa.ref Go.Proofs.Ytdjgafemmihlgaa.rows Go.Proofs.Ytdjgafemmihlgaa.rowg Go.Proofs.Ytdjgafemmihlgaa.trn
open Go.Lib (byteCells)

theorem X3_lo {X : Nat → Prop} {kb : Nat} : X3 X kb (kb + 1) := Or.inr ⟨by omega, by omega⟩
theorem X3_hi {X : Nat → Prop} {kb : Nat} : X3 X kb (kb + 1 + 1) := Or.inr ⟨by omega, by omega⟩
def pk0 : List Value := [.int .i64 0, .int .i64 0, .slice none 0 0]
def pkv (x : Pk) (p : Option Addr) (c : Nat) : List Value := [.int .i64 (x.a : Nat), .int .i64 (x.b : Nat), .slice p x.d.length c]
/-- a world in which a box has another packet -/
def put3 (w : World) (g : Nat) (x : Pk) (p : Option Addr) (c : Nat) : World := ((w.setCell ⟨g, 0, none⟩ (.int .i64 (x.a : Nat))).setCell ⟨g, 1, none⟩ (.int .i64 (x.b : Nat))).setCell ⟨g, 2, none⟩ (.slice p x.d.length c)
theorem put3_blk {w : World} {g : Nat} (h : Blk w g 44 pk0) (x : Pk) (p : Option Addr) (c : Nat) : Blk (put3 w g x p c) g 44 (pkv x p c) := ((h.set 0 _).set 1 _).set 2 _
theorem put3_turn (w : World) (g : Nat) (x : Pk) (p : Option Addr) (c : Nat) : Turn (fun k => k = g) w (put3 w g x p c) := set3_turn _ _ _ _ _
/-- behind the first Take -/
structure GT (w w0 wz : World) (gl gr : Nat) (s t : LS) (X : Nat → Prop) (kb : Nat) (st : List Value) (C1 : List Value) (p : Option Addr) (d : T) : Prop where
  pt : PT w wz gl gr s t (X3 X kb) p d
  turn : Turn (fun k => ¬ X k) w0 wz
  b0 : Blk wz kb 37 st
  b1 : Blk wz (kb + 1) 44 C1
  b2 : Blk wz (kb + 1 + 1) 44 pk0
/-- behind the second -/
structure GE (w w0 wz : World) (gl gr : Nat) (s : LS) (X : Nat → Prop) (kb : Nat) (C1 C2 : List Value) (p q : Option Addr) (d : T) : Prop where
  ps : PS w wz gl gr s s (X3 X kb)
  turn : Turn (fun k => ¬ X k) w0 wz
  b1 : Blk wz (kb + 1) 44 C1
  b2 : Blk wz (kb + 1 + 1) 44 C2
  ip : In8 wz p d
  iq : In8 wz q d
  op : ∀ b o z, p = some ⟨b, o, z⟩ → b < wz.heap.size → ¬ X3 X kb b
  oq : ∀ b o z, q = some ⟨b, o, z⟩ → ¬ X3 X kb b
theorem Gd.takeL {w w0 wz : World} {gl gr : Nat} {s t : LS} {X : Nat → Prop} {kb : Nat} {st : List Value} (h : Gd w w0 wz gl gr s t X kb st) (k : Int) (hk : I64 k) (wy : World) (hb : Below wz.heap.size wz wy) :
    Calls Try.prog 14 #[ptr gl, .int .i64 k] wy fun e w2 => ∃ p c, e = TookL ((takeP s k).1, (takeP s k).2.1) p c ∧ GT w w0 w2 gl gr (takeP s k).2.2 t X kb st pk0 p (takeP s k).1.d := by
  have hy := h.same hb
  refine (hy.ps.takeL k hk).mono fun e w2 ⟨p, c, e1, e2, ht⟩ => ⟨p, c, e1, e2, hy.turn.next (ht.mono fun k _ hn hx => hn (Or.inl hx)), blk_turn hy.b0 ht fun hn => hn (Or.inr ⟨by omega, by omega⟩), blk_turn hy.b1 ht fun hn => hn X3_lo, blk_turn hy.b2 ht fun hn => hn X3_hi⟩
theorem GT.put {w w0 wz : World} {gl gr : Nat} {s t : LS} {X : Nat → Prop} {kb : Nat} {st : List Value} {p : Option Addr} {d : T} (h : GT w w0 wz gl gr s t X kb st pk0 p d) (hw : w.heap.size ≤ kb) (hX : ∀ k, X k → k < kb) (x : Pk) (q : Option Addr) (c : Nat) : GT w w0 (put3 wz (kb + 1) x q c) gl gr s t X kb st (pkv x q c) p d := by
  have ht := put3_turn wz (kb + 1) x q c
  exact ⟨h.pt.set X3_lo (by omega) ht, h.turn.next (ht.mono fun k _ e hx => by have := hX k hx; omega), blk_turn h.b0 ht (by omega), put3_blk h.b1 x q c, blk_turn h.b2 ht (by omega)⟩
theorem GT.takeR {w w0 wz : World} {gl gr : Nat} {t : LS} {X : Nat → Prop} {kb : Nat} {st C1 : List Value} {p : Option Addr} (k : Int) (h : GT w w0 wz gl gr (takeP t k).2.2 t X kb st C1 p (takeP t k).1.d) (hk : I64 k) :
    Calls Try.prog 30 #[ptr gr, .int .i64 k] wz fun e w2 => ∃ q c, e = TookL ((takeP t k).1, (takeP t k).2.1) q c ∧ GE w w0 w2 gl gr (takeP t k).2.2 X kb C1 pk0 p q (takeP t k).1.d := by
  refine (h.pt.takeR k hk).mono fun e w2 ⟨q, c, e1, o1, o2, o3, o4, hp, ht⟩ => ⟨q, c, e1, hp, h.turn.next (ht.mono fun k _ hn hx => hn (Or.inl hx)), blk_turn h.b1 ht fun hn => hn X3_lo, blk_turn h.b2 ht fun hn => hn X3_hi, o3, o1, ?_, o2⟩
  intro b o z e _ hx
  obtain ⟨_, _, h1, _⟩ := h.pt.pr
  exact o4 b o z e (h1.ext b hx) hx
theorem GE.put {w w0 wz : World} {gl gr : Nat} {s : LS} {X : Nat → Prop} {kb : Nat} {C1 : List Value} {p q : Option Addr} {d : T} (h : GE w w0 wz gl gr s X kb C1 pk0 p q d) (hw : w.heap.size ≤ kb) (hX : ∀ k, X k → k < kb) (x : Pk) (q2 : Option Addr) (c : Nat) : GE w w0 (put3 wz (kb + 1 + 1) x q2 c) gl gr s X kb C1 (pkv x q2 c) p q d := by
  have ht := put3_turn wz (kb + 1 + 1) x q2 c
  have hx := h.ps
  refine ⟨h.ps.set X3_hi (by omega) ht, h.turn.next (ht.mono fun k _ e hx => by have := hX k hx; omega), blk_turn h.b1 ht (by omega), put3_blk h.b2 x q2 c, in8_turn h.ip ht fun b o z e hl e2 => h.op b o z e hl (e2 ▸ X3_hi), in8_turn h.iq ht fun b o z e _ e2 => h.oq b o z e (e2 ▸ X3_hi), ?_, h.oq⟩
  intro b o z e _ hx2
  obtain ⟨_, _, h1⟩ := hx
  exact h.op b o z e (h1.ext b hx2) hx2
theorem GE.done {w w0 wz w2 : World} {gl gr : Nat} {s s0 : LS} {X : Nat → Prop} {kb : Nat} {C1 C2 : List Value} {p q : Option Addr} {d : T} (h : GE w w0 wz gl gr s X kb C1 C2 p q d) (hb : Below wz.heap.size wz w2) (hc : s.cn ≤ s0.cn + 1) : DoA w w2 gl gr s0 X w0 (.returned (.bool true)) :=
  ⟨rfl, ⟨s, (h.ps.same hb).less fun _ hk => Or.inl hk, hc⟩, h.turn.next (Turn.of_below hb)⟩
set_option maxRecDepth 100000 in
set_option maxHeartbeats 16000000 in
theorem do_take {w wx : World} {gl gr : Nat} {s : LS} {X : Nat → Prop} (h : PS w wx gl gr s s X) (a b : Int) (y8 : UInt8) (p : Option Addr) (l c : Nat) (ha : I64 a) :
    Calls Try.prog 9 #[ptr gl, ptr gr, .agg #[.int .i64 1, .int .i64 a, .int .i64 b, .int .u8 (y8.toNat : Int), .slice p l c]] wx fun e w2 => DoA w w2 gl gr s X wx e := by
  have hG := Gd.start h [.int .i64 1, .int .i64 a, .int .i64 b, .int .u8 (y8.toNat : Int), .slice p l c]
  have HL := Lib.hid fun (wy : World) (hbw : Below _ _ wy) => hG.takeL a ha wy hbw
  have HR := Lib.hid fun (w4 : World) (C1 : List Value) (p2 : Option Addr) (hG2 : GT w wx w4 gl gr (takeP s a).2.2 s X wx.heap.size [.int .i64 1, .int .i64 a, .int .i64 b, .int .u8 (y8.toNat : Int), .slice p l c] C1 p2 (takeP s a).1.d) => hG2.takeR a ha
  have HCN : Hid ((takeP s a).2.2.cn ≤ s.cn + 1) := by
    show _ ≤ _
    rw [cn_take]
    omega
  have HD := Lib.hid (small_take h.ws a)
  have HW := Lib.hid h.below.size
  have HX : Hid (∀ k, X k → k < wx.heap.size) := by
    obtain ⟨_, _, h1⟩ := h
    exact h1.ext
  obtain ⟨s2, hs2⟩ : ∃ s2, (takeP s a).2.2 = s2 := ⟨_, rfl⟩
  obtain ⟨n, hn2⟩ : ∃ n, (takeP s a).2.1 = n := ⟨_, rfl⟩
  obtain ⟨x, hx2⟩ : ∃ x, (takeP s a).1 = x := ⟨_, rfl⟩
  rw [hs2, hx2] at HL HR
  rw [hs2] at HCN
  rw [hx2] at HD
  rw [hn2] at HL HR
  have x9 := hG.c0
  unfold w3Of at HL hG x9
  unfold TookL at HL HR
  dsimp only at HL HR
  clear h hs2 hn2 hx2 ha
  obtain ⟨kb, hkb⟩ : ∃ kb, wx.heap.size = kb := ⟨_, rfl⟩
  rw [hkb] at HL HR x9 hG HW HX
  obtain ⟨w3, hw3⟩ : ∃ w3, w3Of wx [.int .i64 1, .int .i64 a, .int .i64 b, .int .u8 (y8.toNat : Int), .slice p l c].toArray = w3 := ⟨_, rfl⟩
  unfold w3Of at hw3
  rw [hw3] at HL x9 hG
  have x0 : w3.cell? ⟨kb, 0, none⟩ = some (.int .i64 1) := x9 0
  have x1 : w3.cell? ⟨kb, 1, none⟩ = some (.int .i64 a) := x9 1
  clear x9 hG
  go_enter Try.func9, Try.ntmps9
  go_wp2_with fail
  clear hw3
  refine (HL.out _ (Below.refl _ _)).mono ?_
  rintro e w4 ⟨p1, k1, rfl, hg4⟩
  have e10 : w4.cell? ⟨kb + 1, 0, none⟩ = some (.int .i64 0) := hg4.b1.cell 0
  have e11 : w4.cell? ⟨kb + 1, 1, none⟩ = some (.int .i64 0) := hg4.b1.cell 1
  have e12 : w4.cell? ⟨kb + 1, 2, none⟩ = some (.slice none 0 0) := hg4.b1.cell 2
  have g10 := hg4.b1.frozen 0
  have g11 := hg4.b1.frozen 1
  have g12 := hg4.b1.frozen 2
  have hg5 := hg4.put HW.out HX.out x p1 k1
  obtain ⟨w5, hw5⟩ : ∃ w5, put3 w4 (kb + 1) x p1 k1 = w5 := ⟨_, rfl⟩
  rw [hw5] at hg5
  unfold put3 at hw5
  have HC := Lib.hid (HR.out w5 _ p1 hg5)
  clear hg4 hg5 HL HR x0 x1
  go_wp2_with fail
  clear hw5 e10 e11 e12 g10 g11 g12
  refine HC.out.mono ?_
  rintro e w6 ⟨q1, k2, rfl, hg6⟩
  have e10 : w6.cell? ⟨kb + 1 + 1, 0, none⟩ = some (.int .i64 0) := hg6.b2.cell 0
  have e11 : w6.cell? ⟨kb + 1 + 1, 1, none⟩ = some (.int .i64 0) := hg6.b2.cell 1
  have e12 : w6.cell? ⟨kb + 1 + 1, 2, none⟩ = some (.slice none 0 0) := hg6.b2.cell 2
  have g10 := hg6.b2.frozen 0
  have g11 := hg6.b2.frozen 1
  have g12 := hg6.b2.frozen 2
  have hg7 := hg6.put HW.out HX.out x q1 k2
  obtain ⟨w7, hw7⟩ : ∃ w7, put3 w6 (kb + 1 + 1) x q1 k2 = w7 := ⟨_, rfl⟩
  rw [hw7] at hg7
  unfold put3 at hw7
  have p0 : w7.cell? ⟨kb + 1, 0, none⟩ = some (.int .i64 (x.a : Nat)) := hg7.b1.cell 0
  have p1' : w7.cell? ⟨kb + 1, 1, none⟩ = some (.int .i64 (x.b : Nat)) := hg7.b1.cell 1
  have p2 : w7.cell? ⟨kb + 1, 2, none⟩ = some (.slice p1 x.d.length k1) := hg7.b1.cell 2
  have q0 : w7.cell? ⟨kb + 1 + 1, 0, none⟩ = some (.int .i64 (x.a : Nat)) := hg7.b2.cell 0
  have q1' : w7.cell? ⟨kb + 1 + 1, 1, none⟩ = some (.int .i64 (x.b : Nat)) := hg7.b2.cell 1
  have q2 : w7.cell? ⟨kb + 1 + 1, 2, none⟩ = some (.slice q1 x.d.length k2) := hg7.b2.cell 2
  have HS := Lib.hid (same_c w7 x.a x.b p1 q1 k1 k2 x.d hg7.ip hg7.iq (by have := HD.out; omega))
  have G7 := Lib.hid hg7
  clear hg6 hg7 HC
  go_wp2_with fail
  clear hw7
  refine HS.out.mono ?_
  rintro e w8 ⟨rfl, hb8⟩
  have HB8 := Lib.hid hb8
  clear hb8
  go_wp2_with fail
  go_ret
  exact G7.out.done HB8.out HCN.out
end Go.Proofs.Ytdjgafemmihlgaa.lan
