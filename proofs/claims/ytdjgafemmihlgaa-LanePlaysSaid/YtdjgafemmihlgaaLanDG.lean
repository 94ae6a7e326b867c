/- LanePlays: a step, by both: Heal; none. -/
import Derived.Test.YtdjgafemmihlgaaLanDA
namespace Go.Proofs.Ytdjgafemmihlgaa.lan
open Go.RowKit
open Go.Proofs.Ytdjgafemmihlgaa.oct Go.Proofs.Ytdjgafemmihlgaa.ref Go.Proofs.Ytdjgafemmihlgaa.rows Go.Proofs.Ytdjgafemmihlgaa.rowg Go.Proofs.Ytdjgafemmihlgaa.trn
open Go.Lib (byteCells)

set_option maxRecDepth 100000 in
set_option maxHeartbeats 16000000 in
theorem do_heal {w wx : World} {gl gr : Nat} {s : LS} {X : Nat → Prop} (h : PS w wx gl gr s s X) (a b : Int) (y8 : UInt8) (p : Option Addr) (l c : Nat) :
    Calls Try.prog 9 #[ptr gl, ptr gr, .agg #[.int .i64 7, .int .i64 a, .int .i64 b, .int .u8 (y8.toNat : Int), .slice p l c]] wx fun e w2 => DoA w w2 gl gr s X wx e := by
  have hG := Gd.start h [.int .i64 7, .int .i64 a, .int .i64 b, .int .u8 (y8.toNat : Int), .slice p l c]
  have HL := Lib.hid (hG.runL (s2 := healP s) (Q := fun e => e = .returned (.tuple #[])) h.ws.heal (fun wy R _ hR => heal_c hR) _ (Below.refl _ _))
  have HR := Lib.hid fun (w4 : World) (hG2 : Gd w wx w4 gl gr (healP s) s X wx.heap.size [.int .i64 7, .int .i64 a, .int .i64 b, .int .u8 (y8.toNat : Int), .slice p l c]) => hG2.runR (t2 := healP s) (Q := fun e => e = .returned (.tuple #[])) h.ws.heal (fun wy R _ hR => rheal_c hR) w4 (Below.refl _ _)
  have HCN : Hid ((healP s).cn ≤ s.cn + 1) := show _ ≤ _ from Nat.le_succ _
  obtain ⟨s2, hs2⟩ : ∃ s2, healP s = s2 := ⟨_, rfl⟩
  rw [hs2] at HL HR HCN
  have x9 := hG.c0
  unfold w3Of at HL hG x9
  clear h hs2
  obtain ⟨kb, hkb⟩ : ∃ kb, wx.heap.size = kb := ⟨_, rfl⟩
  rw [hkb] at HL HR x9 hG
  obtain ⟨w3, hw3⟩ : ∃ w3, w3Of wx [.int .i64 7, .int .i64 a, .int .i64 b, .int .u8 (y8.toNat : Int), .slice p l c].toArray = w3 := ⟨_, rfl⟩
  unfold w3Of at hw3
  rw [hw3] at HL x9 hG
  have x0 : w3.cell? ⟨kb, 0, none⟩ = some (.int .i64 7) := x9 0
  clear x9 hG
  go_enter Try.func9, Try.ntmps9
  go_wp2_with fail
  clear hw3
  refine HL.out.mono ?_
  rintro e w4 ⟨rfl, hg4⟩
  have HC := Lib.hid (HR.out w4 hg4)
  clear hg4
  go_wp2_with fail
  refine HC.out.mono ?_
  rintro e w5 ⟨rfl, hg5⟩
  have G5 := Lib.hid hg5
  clear hg5
  have p0 : w5.cell? ⟨kb + 1, 0, none⟩ = some (.int .i64 0) := G5.out.c1 0
  have p1 : w5.cell? ⟨kb + 1, 1, none⟩ = some (.int .i64 0) := G5.out.c1 1
  have p2 : w5.cell? ⟨kb + 1, 2, none⟩ = some (.slice none 0 0) := G5.out.c1 2
  have q0 : w5.cell? ⟨kb + 1 + 1, 0, none⟩ = some (.int .i64 0) := G5.out.c2 0
  have q1 : w5.cell? ⟨kb + 1 + 1, 1, none⟩ = some (.int .i64 0) := G5.out.c2 1
  have q2 : w5.cell? ⟨kb + 1 + 1, 2, none⟩ = some (.slice none 0 0) := G5.out.c2 2
  clear x0 HL HR HC
  go_wp2_with fail
  refine (same_zero _).mono ?_
  rintro e w6 ⟨rfl, hb6⟩
  have HB6 := Lib.hid hb6
  clear hb6
  go_wp2_with fail
  go_ret
  exact (G5.out.same HB6.out).done HCN.out
set_option maxRecDepth 100000 in
set_option maxHeartbeats 16000000 in
theorem do_none {w wx : World} {gl gr : Nat} {s : LS} {X : Nat → Prop} (h : PS w wx gl gr s s X) (kd a b : Int) (y8 : UInt8) (p : Option Addr) (l c : Nat) (h0 : kd ≠ 0) (h1 : kd ≠ 1) (h2 : kd ≠ 2) (h3 : kd ≠ 3) (h4 : kd ≠ 4) (h5 : kd ≠ 5) (h6 : kd ≠ 6) (h7 : kd ≠ 7) (h8 : kd ≠ 8) :
    Calls Try.prog 9 #[ptr gl, ptr gr, .agg #[.int .i64 kd, .int .i64 a, .int .i64 b, .int .u8 (y8.toNat : Int), .slice p l c]] wx fun e w2 => DoA w w2 gl gr s X wx e := by
  have hG := Gd.start h [.int .i64 kd, .int .i64 a, .int .i64 b, .int .u8 (y8.toNat : Int), .slice p l c]
  have x9 := hG.c0
  unfold w3Of at hG x9
  clear h
  obtain ⟨kb, hkb⟩ : ∃ kb, wx.heap.size = kb := ⟨_, rfl⟩
  rw [hkb] at x9 hG
  obtain ⟨w3, hw3⟩ : ∃ w3, w3Of wx [.int .i64 kd, .int .i64 a, .int .i64 b, .int .u8 (y8.toNat : Int), .slice p l c].toArray = w3 := ⟨_, rfl⟩
  unfold w3Of at hw3
  rw [hw3] at x9 hG
  have x0 : w3.cell? ⟨kb, 0, none⟩ = some (.int .i64 kd) := x9 0
  have G5 := Lib.hid hG
  clear x9 hG
  have m0 : (kd == 0) = false := by simp [h0]
  have m1 : (kd == 1) = false := by simp [h1]
  have m2 : (kd == 2) = false := by simp [h2]
  have m3 : (kd == 3) = false := by simp [h3]
  have m4 : (kd == 4) = false := by simp [h4]
  have m5 : (kd == 5) = false := by simp [h5]
  have m6 : (kd == 6) = false := by simp [h6]
  have m7 : (kd == 7) = false := by simp [h7]
  have m8 : (kd == 8) = false := by simp [h8]
  have p0 : w3.cell? ⟨kb + 1, 0, none⟩ = some (.int .i64 0) := G5.out.c1 0
  have p1 : w3.cell? ⟨kb + 1, 1, none⟩ = some (.int .i64 0) := G5.out.c1 1
  have p2 : w3.cell? ⟨kb + 1, 2, none⟩ = some (.slice none 0 0) := G5.out.c1 2
  have q0 : w3.cell? ⟨kb + 1 + 1, 0, none⟩ = some (.int .i64 0) := G5.out.c2 0
  have q1 : w3.cell? ⟨kb + 1 + 1, 1, none⟩ = some (.int .i64 0) := G5.out.c2 1
  have q2 : w3.cell? ⟨kb + 1 + 1, 2, none⟩ = some (.slice none 0 0) := G5.out.c2 2
  go_enter Try.func9, Try.ntmps9
  go_wp2_with fail
  clear hw3
  refine (same_zero _).mono ?_
  rintro e w6 ⟨rfl, hb6⟩
  have HB6 := Lib.hid hb6
  clear hb6
  go_wp2_with fail
  go_ret
  exact (G5.out.same HB6.out).done (Nat.le_succ _)
end Go.Proofs.Ytdjgafemmihlgaa.lan
