/- LanePlays: a step, by both: Take of Next. -/
import Derived.Test.YtdjgafemmihlgaaLanDH
namespace Go.Proofs.Ytdjgafemmihlgaa.lan
open Go.RowKit
open Go.Proofs.Ytdjgafemmihlgaa.oct Go.Proofs.Ytdjgafemmihlgaa.ref Go.Proofs.Ytdjgafemmihlgaa.rows Go.Proofs.Ytdjgafemmihlgaa.rowg Go.Proofs.Ytdjgafemmihlgaa.trn
open Go.Lib (byteCells)

theorem first_in (f : Pk → Bool) : ∀ (l : List Pk) (i : Nat), -1 ≤ firstP f l i ∧ firstP f l i ≤ (i : Int) + l.length
  | [], i => by
    unfold firstP
    exact ⟨by decide, by simp only [List.length_nil]; omega⟩
  | x :: r, i => by
    unfold firstP
    rw [List.length_cons]
    split
    · exact ⟨by omega, by omega⟩
    · have h := first_in f r (i + 1)
      exact ⟨h.1, by have := h.2; omega⟩
theorem next_I64 {s : LS} (h : Wf s) : I64 (nextP s) := by
  have h1 := first_in (freeP s) s.ps 0
  have h2 := h.few
  unfold nextP
  exact ⟨by omega, by omega⟩
theorem Gd.nextR {w w0 wz : World} {gl gr : Nat} {s t : LS} {X : Nat → Prop} {kb : Nat} {st : List Value} (h : Gd w w0 wz gl gr s t X kb st) (wy : World) (hb : Below wz.heap.size wz wy) :
    Calls Try.prog 29 #[ptr gr] wy fun e w2 => e = .returned (.int .i64 (nextP t)) ∧ Gd w w0 w2 gl gr s t X kb st := by
  have hy := h.same hb
  obtain ⟨R1, R2, h1⟩ := hy.ps
  exact (rnext_c h1.ra h1.wt).mono fun e w2 ⟨e1, n, e2⟩ => ⟨e1, hy.same (by rw [e2]; exact below_drewN (Below.refl _ _) n)⟩
theorem Gd.nextL {w w0 wz : World} {gl gr : Nat} {s t : LS} {X : Nat → Prop} {kb : Nat} {st : List Value} (h : Gd w w0 wz gl gr s t X kb st) (wy : World) (hb : Below wz.heap.size wz wy) :
    Calls Try.prog 15 #[ptr gl] wy fun e w2 => e = .returned (.int .i64 (nextP s)) ∧ Gd w w0 w2 gl gr s t X kb st := by
  have hy := h.same hb
  obtain ⟨R1, R2, h1⟩ := hy.ps
  exact (next_c h1.la h1.ws).mono fun e w2 ⟨e1, e2⟩ => ⟨e1, hy.same e2⟩
set_option maxRecDepth 100000 in
set_option maxHeartbeats 16000000 in
theorem do_next {w wx : World} {gl gr : Nat} {s : LS} {X : Nat → Prop} (h : PS w wx gl gr s s X) (a b : Int) (y8 : UInt8) (p : Option Addr) (l c : Nat) :
    Calls Try.prog 9 #[ptr gl, ptr gr, .agg #[.int .i64 8, .int .i64 a, .int .i64 b, .int .u8 (y8.toNat : Int), .slice p l c]] wx fun e w2 => DoA w w2 gl gr s X wx e := by
  have hG := Gd.start h [.int .i64 8, .int .i64 a, .int .i64 b, .int .u8 (y8.toNat : Int), .slice p l c]
  have ha := next_I64 h.ws
  have HN := Lib.hid (hG.nextR _ (Below.refl _ _))
  have HN2 := Lib.hid fun (w4 : World) (hG2 : Gd w wx w4 gl gr s s X wx.heap.size [.int .i64 8, .int .i64 a, .int .i64 b, .int .u8 (y8.toNat : Int), .slice p l c]) => hG2.nextL w4 (Below.refl _ _)
  obtain ⟨k, hk⟩ : ∃ k, nextP s = k := ⟨_, rfl⟩
  rw [hk] at ha HN HN2
  have ek : (k != k) = false := by simp
  have HL := Lib.hid fun (w4 : World) (hG2 : Gd w wx w4 gl gr s s X wx.heap.size [.int .i64 8, .int .i64 a, .int .i64 b, .int .u8 (y8.toNat : Int), .slice p l c]) => hG2.takeL k ha w4 (Below.refl _ _)
  have HR := Lib.hid fun (w4 : World) (C1 : List Value) (p2 : Option Addr) (hG2 : GT w wx w4 gl gr (takeP s k).2.2 s X wx.heap.size [.int .i64 8, .int .i64 a, .int .i64 b, .int .u8 (y8.toNat : Int), .slice p l c] C1 p2 (takeP s k).1.d) => hG2.takeR k ha
  have HCN : Hid ((takeP s k).2.2.cn ≤ s.cn + 1) := by
    show _ ≤ _
    rw [cn_take]
    omega
  have HD := Lib.hid (small_take h.ws k)
  have HW := Lib.hid h.below.size
  have HX : Hid (∀ k, X k → k < wx.heap.size) := by
    obtain ⟨_, _, h1⟩ := h
    exact h1.ext
  obtain ⟨s2, hs2⟩ : ∃ s2, (takeP s k).2.2 = s2 := ⟨_, rfl⟩
  obtain ⟨n, hn2⟩ : ∃ n, (takeP s k).2.1 = n := ⟨_, rfl⟩
  obtain ⟨x, hx2⟩ : ∃ x, (takeP s k).1 = x := ⟨_, rfl⟩
  rw [hs2, hx2] at HL HR
  rw [hs2] at HCN
  rw [hx2] at HD
  rw [hn2] at HL HR
  have x9 := hG.c0
  unfold w3Of at HN hG x9
  unfold TookL at HL HR
  dsimp only at HL HR
  clear h hs2 hn2 hx2 ha hk
  obtain ⟨kb, hkb⟩ : ∃ kb, wx.heap.size = kb := ⟨_, rfl⟩
  rw [hkb] at HN HN2 HL HR x9 hG HW HX
  obtain ⟨w3, hw3⟩ : ∃ w3, w3Of wx [.int .i64 8, .int .i64 a, .int .i64 b, .int .u8 (y8.toNat : Int), .slice p l c].toArray = w3 := ⟨_, rfl⟩
  unfold w3Of at hw3
  rw [hw3] at HN x9 hG
  have x0 : w3.cell? ⟨kb, 0, none⟩ = some (.int .i64 8) := x9 0
  have x1 : w3.cell? ⟨kb, 1, none⟩ = some (.int .i64 a) := x9 1
  clear x9 hG
  go_enter Try.func9, Try.ntmps9
  go_wp2_with fail
  clear hw3
  refine HN.out.mono ?_
  rintro e w1 ⟨rfl, hg1⟩
  have x2 : w1.cell? ⟨kb, 0, none⟩ = some (.int .i64 8) := hg1.c0 0
  have HC := Lib.hid (HN2.out w1 hg1)
  clear hg1 HN HN2
  go_wp2_with fail
  refine HC.out.mono ?_
  rintro e w2 ⟨rfl, hg2⟩
  have HC := Lib.hid (HL.out w2 hg2)
  clear hg2
  go_wp2_with fail
  refine HC.out.mono ?_
  rintro e w4 ⟨p1, k1, rfl, hg4⟩
  have e10 : w4.cell? ⟨kb + 1, 0, none⟩ = some (.int .i64 0) := hg4.b1.cell 0
  have e11 : w4.cell? ⟨kb + 1, 1, none⟩ = some (.int .i64 0) := hg4.b1.cell 1
  have e12 : w4.cell? ⟨kb + 1, 2, none⟩ = some (.slice none 0 0) := hg4.b1.cell 2
  have g10 := hg4.b1.frozen 0
  have g11 := hg4.b1.frozen 1
  have g12 := hg4.b1.frozen 2
  have hg5 := hg4.put HW.out HX.out x p1 k1
  obtain ⟨w5, hw5⟩ : ∃ w5, put3 w4 (kb + 1) x p1 k1 = w5 := ⟨_, rfl⟩
  rw [hw5] at hg5
  unfold put3 at hw5
  have HC := Lib.hid (HR.out w5 _ p1 hg5)
  clear hg4 hg5 HL HR x0 x1 x2
  go_wp2_with fail
  clear hw5 e10 e11 e12 g10 g11 g12
  refine HC.out.mono ?_
  rintro e w6 ⟨q1, k2, rfl, hg6⟩
  have e10 : w6.cell? ⟨kb + 1 + 1, 0, none⟩ = some (.int .i64 0) := hg6.b2.cell 0
  have e11 : w6.cell? ⟨kb + 1 + 1, 1, none⟩ = some (.int .i64 0) := hg6.b2.cell 1
  have e12 : w6.cell? ⟨kb + 1 + 1, 2, none⟩ = some (.slice none 0 0) := hg6.b2.cell 2
  have g10 := hg6.b2.frozen 0
  have g11 := hg6.b2.frozen 1
  have g12 := hg6.b2.frozen 2
  have hg7 := hg6.put HW.out HX.out x q1 k2
  obtain ⟨w7, hw7⟩ : ∃ w7, put3 w6 (kb + 1 + 1) x q1 k2 = w7 := ⟨_, rfl⟩
  rw [hw7] at hg7
  unfold put3 at hw7
  have p0 : w7.cell? ⟨kb + 1, 0, none⟩ = some (.int .i64 (x.a : Nat)) := hg7.b1.cell 0
  have p1' : w7.cell? ⟨kb + 1, 1, none⟩ = some (.int .i64 (x.b : Nat)) := hg7.b1.cell 1
  have p2 : w7.cell? ⟨kb + 1, 2, none⟩ = some (.slice p1 x.d.length k1) := hg7.b1.cell 2
  have q0 : w7.cell? ⟨kb + 1 + 1, 0, none⟩ = some (.int .i64 (x.a : Nat)) := hg7.b2.cell 0
  have q1' : w7.cell? ⟨kb + 1 + 1, 1, none⟩ = some (.int .i64 (x.b : Nat)) := hg7.b2.cell 1
  have q2 : w7.cell? ⟨kb + 1 + 1, 2, none⟩ = some (.slice q1 x.d.length k2) := hg7.b2.cell 2
  have HS := Lib.hid (same_c w7 x.a x.b p1 q1 k1 k2 x.d hg7.ip hg7.iq (by have := HD.out; omega))
  have G7 := Lib.hid hg7
  clear hg6 hg7 HC
  go_wp2_with fail
  clear hw7
  refine HS.out.mono ?_
  rintro e w8 ⟨rfl, hb8⟩
  have HB8 := Lib.hid hb8
  clear hb8
  go_wp2_with fail
  go_ret
  exact G7.out.done HB8.out HCN.out
end Go.Proofs.Ytdjgafemmihlgaa.lan
