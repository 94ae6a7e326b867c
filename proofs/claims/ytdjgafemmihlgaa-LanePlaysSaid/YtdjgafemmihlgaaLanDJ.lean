/- LanePlays: both lanes tell alike. -/
import Derived.Test.YtdjgafemmihlgaaLanDI
import Derived.Deep.RegionHeld3
namespace Go.Proofs.Ytdjgafemmihlgaa.lan
open Go.RowKit
open Go.Proofs.Ytdjgafemmihlgaa.oct Go.Proofs.Ytdjgafemmihlgaa.ref Go.Proofs.Ytdjgafemmihlgaa.rows Go.Proofs.Ytdjgafemmihlgaa.rowg Go.Proofs.Ytdjgafemmihlgaa.trn
open Go.Lib (byteCells)

theorem tell_err (s : LS) (k : Int) : (tellP s k).2 ≤ 9 := by
  unfold tellP
  split
  · show 6 ≤ 9
    decide
  · exact Nat.zero_le _
theorem small_tell {s : LS} (h : Wf s) (k : Int) : (tellP s k).1.d.length ≤ 65544 := by
  unfold tellP
  split
  · exact Nat.zero_le _
  · exact (h.getD (atP_some (by assumption)).2.2).2.2
set_option maxRecDepth 100000 in
set_option maxHeartbeats 16000000 in
theorem alike_c {w wx : World} {gl gr : Nat} {s : LS} {X : Nat → Prop} (h : PS w wx gl gr s s X) (a b : Int) (ha : I64 a) (hb : I64 b) :
    Calls Try.prog 10 #[ptr gl, ptr gr, .int .i64 a, .int .i64 b] wx fun e w2 => e = .returned (.bool true) ∧ Below wx.heap.size wx w2 := by
  obtain ⟨R1, R2, h1⟩ := h
  have HLA := Lib.hid fun (wy : World) (hbw : Below wx.heap.size wx wy) => h1.la.below hbw
  have HRA := Lib.hid fun (wy : World) (hbw : Below wx.heap.size wx wy) => h1.ra.below hbw
  have HW := Lib.hid h1.ws
  have HCT := Lib.hid fun (wy : World) (hbw : Below wx.heap.size wx wy) => count_c (HLA.out wy hbw)
  have HN := Lib.hid fun (wy : World) (hbw : Below wx.heap.size wx wy) => next_c (HLA.out wy hbw) h1.ws
  have HRN := Lib.hid fun (wy : World) (hbw : Below wx.heap.size wx wy) => (rnext_c (HRA.out wy hbw) h1.ws).mono fun e w' (h : e = .returned (.int .i64 (nextP s)) ∧ ∃ n, w' = wy.drewN n) => (show e = .returned (.int .i64 (nextP s)) ∧ Below wy.heap.size wy w' from ⟨h.1, by obtain ⟨_, n, e2⟩ := h; rw [e2]; exact below_drewN (Below.refl _ _) n⟩)
  have HO := Lib.hid fun (wy : World) (hbw : Below wx.heap.size wx wy) => open_c (HLA.out wy hbw) h1.ws a b ha hb
  have HRO := Lib.hid fun (wy : World) (hbw : Below wx.heap.size wx wy) => ropen_c (HRA.out wy hbw) h1.ws a b ha hb
  have hlen := h1.ws.few
  obtain ⟨pw, cw, _, c1, _⟩ := h1.ra.cells
  have hglt : gr < wx.heap.size := by
    obtain ⟨_, _, h2, _⟩ := h1.ra
    exact h2.blk.lt
  have HC1 : Hid (∀ wy, Below wx.heap.size wx wy → wy.cell? ⟨gr, 1, none⟩ = some (.slice pw s.ps.length cw)) := fun wy hbw => (hbw.cell (p := ⟨gr, 1, none⟩) hglt).trans c1
  obtain ⟨k0, hk0⟩ : ∃ k0, nextP s = k0 := ⟨_, rfl⟩
  obtain ⟨o0, ho0⟩ : ∃ o0, openP s a b = o0 := ⟨_, rfl⟩
  rw [hk0] at HN HRN
  rw [ho0] at HO HRO
  obtain ⟨N, hN⟩ : ∃ N, s.ps.length = N := ⟨_, rfl⟩
  rw [hN] at HCT hlen c1 HC1
  have HS : Hid (∀ W, (Below wx.heap.size wx W ∧ W.cell? ⟨gr, 1, none⟩ = some (.slice pw N cw)) → Below wx.heap.size wx W) := fun W h => h.1
  have HK0 : Hid (Below wx.heap.size wx wx.drew ∧ wx.drew.cell? ⟨gr, 1, none⟩ = some (.slice pw N cw)) := ⟨(Below.refl _ _).drew, c1⟩
  have HK1 : Hid (∀ W W' : World, (Below wx.heap.size wx W ∧ W.cell? ⟨gr, 1, none⟩ = some (.slice pw N cw)) → Below W.heap.size W W' → (Below wx.heap.size wx W' ∧ W'.cell? ⟨gr, 1, none⟩ = some (.slice pw N cw))) := fun W W' h hb => ⟨bnext h.1 hb, HC1.out W' (bnext h.1 hb)⟩
  have eN : ((N : Int) != (N : Int)) = false := by simp
  have ek : (k0 != k0) = false := by simp
  have eo : (o0 != o0) = false := by simp
  clear h1 ha hb hk0 ho0 hN
  go_enter Try.func10, Try.ntmps10
  go_wp2_with fail
  go_region_held3 (fun W => Below wx.heap.size wx W ∧ W.cell? ⟨gr, 1, none⟩ = some (.slice pw N cw)) (first | exact HK0.out | assumption | exact HK1.out _ _ (by assumption) (by assumption)) (first
    | (go_at_call 17; refine (HCT.out _ (HS.out _ (by assumption))).mono ?_; rintro e w1 ⟨rfl, rfl⟩)
    | (go_at_call 15; refine (HN.out _ (HS.out _ (by assumption))).mono ?_; rintro e w1 ⟨rfl, hbn⟩)
    | (go_at_call 29; refine (HRN.out _ (HS.out _ (by assumption))).mono ?_; rintro e w1 ⟨rfl, hbn⟩)
    | (go_at_call 13; refine (HO.out _ (HS.out _ (by assumption))).mono ?_; rintro e w1 ⟨rfl, hbn⟩)
    | (go_at_call 36; refine (HRO.out _ (HS.out _ (by assumption))).mono ?_; rintro e w1 ⟨rfl, rfl⟩))
  go_wp2_with fail
  have HB1 := Lib.hid (HS.out _ (by assumption))
  clear HCT HN HRN HO HRO HK0 HK1 HS c1
  go_loopg [9] (N + 2) (fun gk s9 wy => ∃ j : Int, j + gk = N + 1 ∧ -1 ≤ j ∧ s9 = .int .i64 j ∧ Hid (Below wx.heap.size wx wy))
  case atStart => exact ⟨-1, by omega, by decide, rfl, HB1⟩
  case round =>
    obtain ⟨j, hj, hj1, rfl, HB⟩ := hrel
    have hIj : I64 j := ⟨by omega, by omega⟩
    rcases gk with _ | gk
    · have c1 := HC1.out _ HB.out
      have hle : ¬ (j ≤ (N : Int)) := by omega
      go_wp2_with fail
      go_ret
      exact ⟨rfl, HB.out⟩
    · have hle : j ≤ (N : Int) := by omega
      have c1 := HC1.out _ HB.out
      have hwr : IntKind.i64.wrap (j + 1) = j + 1 := by rw [IntKind.wrap_i64]; omega
      have HC := Lib.hid (at_c (HLA.out _ HB.out) HW.out j hIj)
      have HRC := Lib.hid fun (wy : World) (hbw : Below wx.heap.size wx wy) => rat_c (HRA.out wy hbw) HW.out j hIj
      have HD := Lib.hid (small_tell HW.out j)
      have hn9 := tell_err s j
      obtain ⟨x, hx⟩ : ∃ x, (tellP s j).1 = x := ⟨_, rfl⟩
      obtain ⟨n, hn⟩ : ∃ n, (tellP s j).2 = n := ⟨_, rfl⟩
      rw [hx, hn] at HC HRC
      rw [hx] at HD
      rw [hn] at hn9
      have en : ((n : Int) != (n : Int)) = false := by simp
      have hwn : IntKind.i64.wrap (n : Int) = (n : Int) := by rw [IntKind.wrap_i64]; omega
      clear hx hn hIj
      go_wp2_with fail
      refine HC.out.mono ?_
      rintro e w2 ⟨v, rfl, hv, hb2⟩
      obtain ⟨p1, k1, rfl⟩ := own_slice hv
      have hb3 := hb2.alloc hb2.size (.cells #[.int .i64 (x.a : Nat), .int .i64 (x.b : Nat), .slice p1 x.d.length k1] 44)
      have hB3 : Blk (w2.alloc (.cells #[.int .i64 (x.a : Nat), .int .i64 (x.b : Nat), .slice p1 x.d.length k1] 44)) w2.heap.size 44 [.int .i64 (x.a : Nat), .int .i64 (x.b : Nat), .slice p1 x.d.length k1] := blk_new w2 _ _ _ rfl
      have hi3 := (own_in8 hv).below ((Below.refl w2.heap.size w2).alloc (Nat.le_refl _) (.cells #[.int .i64 (x.a : Nat), .int .i64 (x.b : Nat), .slice p1 x.d.length k1] 44))
      obtain ⟨w3, hw3⟩ : ∃ w3, w2.alloc (.cells #[.int .i64 (x.a : Nat), .int .i64 (x.b : Nat), .slice p1 x.d.length k1] 44) = w3 := ⟨_, rfl⟩
      rw [hw3] at hb3 hB3 hi3
      have hbx := bnext HB.out hb3
      have HC := Lib.hid (HRC.out w3 hbx)
      have HBX := Lib.hid hbx
      have HB3 := Lib.hid hB3
      have HI3 := Lib.hid hi3
      clear hv hb2 hb3 hB3 hi3 hbx HRC
      go_wp2_with fail
      clear hw3
      refine HC.out.mono ?_
      rintro e w4 ⟨p2, k2, rfl, hi4, _, _, hb4⟩
      have hB4 := HB3.out.below hb4
      have hbx := bnext HBX.out hb4
      have ha4 := (Below.refl w4.heap.size w4).alloc (Nat.le_refl _) (.cells #[.int .i64 (x.a : Nat), .int .i64 (x.b : Nat), .slice p2 x.d.length k2] 44)
      have hB5 : Blk (w4.alloc (.cells #[.int .i64 (x.a : Nat), .int .i64 (x.b : Nat), .slice p2 x.d.length k2] 44)) w4.heap.size 44 [.int .i64 (x.a : Nat), .int .i64 (x.b : Nat), .slice p2 x.d.length k2] := blk_new w4 _ _ _ rfl
      have hi5 := hi4.below ha4
      have hj5 := (HI3.out.below hb4).below ha4
      have hA5 := hB4.below ha4
      have hb5 := bnext hbx ha4
      obtain ⟨w5, hw5⟩ : ∃ w5, w4.alloc (.cells #[.int .i64 (x.a : Nat), .int .i64 (x.b : Nat), .slice p2 x.d.length k2] 44) = w5 := ⟨_, rfl⟩
      rw [hw5] at hB5 hi5 hj5 hA5 hb5
      have p0 : w5.cell? ⟨w2.heap.size, 0, none⟩ = some (.int .i64 (x.a : Nat)) := hA5.cell 0
      have p1' : w5.cell? ⟨w2.heap.size, 1, none⟩ = some (.int .i64 (x.b : Nat)) := hA5.cell 1
      have p2' : w5.cell? ⟨w2.heap.size, 2, none⟩ = some (.slice p1 x.d.length k1) := hA5.cell 2
      have q0 : w5.cell? ⟨w4.heap.size, 0, none⟩ = some (.int .i64 (x.a : Nat)) := hB5.cell 0
      have q1' : w5.cell? ⟨w4.heap.size, 1, none⟩ = some (.int .i64 (x.b : Nat)) := hB5.cell 1
      have q2' : w5.cell? ⟨w4.heap.size, 2, none⟩ = some (.slice p2 x.d.length k2) := hB5.cell 2
      have HS := Lib.hid (same_c w5 x.a x.b p1 p2 k1 k2 x.d hj5 hi5 (by have := HD.out; omega))
      have HB5 := Lib.hid hb5
      clear hi4 hb4 hB4 hbx ha4 hB5 hi5 hj5 hA5 hb5 HC HI3 HB3
      go_wp2_with fail
      clear hw5
      refine HS.out.mono ?_
      rintro e w6 ⟨rfl, hb6⟩
      have HB6 := Lib.hid (bnext HB5.out hb6)
      clear hb6
      go_wp2_with fail
      go_roundg gk
      case measure => omega
      case rel => exact ⟨j + 1, by omega, by omega, rfl, HB6⟩
end Go.Proofs.Ytdjgafemmihlgaa.lan
