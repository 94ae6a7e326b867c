/- LaneKeeps: the law. -/
import Derived.Test.YtdjgafemmihlgaaLanG
import Derived.Deep.CutRange
namespace Go.Proofs.Ytdjgafemmihlgaa.lan
open Go.RowKit
open Go.Proofs.Ytdjgafemmihlgaa.oct Go.Proofs.Ytdjgafemmihlgaa.ref Go.Proofs.Ytdjgafemmihlgaa.rows Go.Proofs.Ytdjgafemmihlgaa.rowg Go.Proofs.Ytdjgafemmihlgaa.trn Go.Proofs.Ytdjgafemmihlgaa.apt
open Go.Lib (byteCells)

theorem kp1_wf {d : T} (hd : d.length ≤ 65544) : Wf (kp1 d) := (Wf.new (n := 2) (by decide) (by decide)).add (x := ⟨0, 1, d⟩) ⟨show 0 < 2 by decide, show 1 < 2 by decide, hd⟩ (show ¬ (4096 ≤ 0) by decide)
/-- what is handed in, beside the lane, while it is written over -/
def InR (w wx : World) (g : Nat) (D : T) (bs gi n : Nat) : Prop := ∃ Y : List Value, Blk wx gi 5 Y ∧ Y.length = n + 3 ∧ (∀ i, i < n + 3 → ∃ m : Int, Y[i]? = some (.int .u8 m)) ∧ KS w wx g (kp2 D) (fun k => k = bs ∨ k = gi)
theorem inr_start (D : T) {n : Nat} (hn : D.length = n) : ∀ i, i < n + 3 → ∃ m : Int, (byteCells D ++ seven 3)[i]? = some (.int .u8 m) := by
  intro i hi
  by_cases h : i < D.length
  · rw [List.getElem?_append_left (by rw [byteCells_len]; exact h)]
    exact ⟨((D[i]).toNat : Int), by simp [byteCells, List.getElem?_eq_getElem h]⟩
  · rw [List.getElem?_append_right (by rw [byteCells_len]; omega), byteCells_len]
    exact ⟨77, by unfold seven; rw [List.getElem?_replicate, if_pos (by omega)]⟩
theorem inr_set {Y : List Value} {n : Nat} (h : ∀ i, i < n + 3 → ∃ m : Int, Y[i]? = some (.int .u8 m)) (hl : Y.length = n + 3) (k : Nat) (v : Int) : ∀ i, i < n + 3 → ∃ m : Int, (Y.set k (.int .u8 v))[i]? = some (.int .u8 m) := by
  intro i hi
  by_cases e : k = i
  · subst e
    exact ⟨v, by rw [List.getElem?_set_self (by omega)]⟩
  · rw [List.getElem?_set_ne e]; exact h i hi
/-- the four rows share no memory -/
theorem keeps_apart {w : World} {D : T} {n0 m gi c1 c2 c3 : Nat} {p1 p2 p3 : Option Addr} {B1 B2 B3 : Nat} {xs : List Value} {Y : List Value} (hD : D.length = n0) (gl : Nat) (hB : Blk w gl 35 [.slice p1 n0 c1, .slice p2 n0 c2, .slice p3 m c3, .slice (some ⟨gi, 0, none⟩) n0 (n0 + 3)]) (B : Nat)
    (h1 : w.ownsRow B1 5 1 (.slice p1 D.length c1) D.length (byteCells D)) (h2 : w.ownsRow B2 5 1 (.slice p2 D.length c2) D.length (byteCells D)) (h3 : w.ownsRow B3 5 1 (.slice p3 m c3) m xs) (h4 : Blk w gi 5 Y) (hY : Y.length = n0 + 3) (hgi : B ≤ gi) (hn0 : n0 ≤ 65544)
    (n1 : ∀ b, (Value.slice p1 D.length c1).ownBlock = some b → B ≤ b ∧ b ≠ gi) (n2 : ∀ b, (Value.slice p2 D.length c2).ownBlock = some b → B ≤ b ∧ b ≠ gi ∧ (Value.slice p1 D.length c1).ownBlock ≠ some b)
    (n3 : ∀ b, (Value.slice p3 m c3).ownBlock = some b → B ≤ b ∧ b ≠ gi ∧ (Value.slice p1 D.length c1).ownBlock ≠ some b ∧ (Value.slice p2 D.length c2).ownBlock ≠ some b) :
    Calls Try.prog 26 #[.slice (some ⟨gl, 0, none⟩) 4 4] w fun e w' => e = .returned (.bool true) ∧ Below B w w' := by
  obtain ⟨x1, v1, o1, b1, r1⟩ := own_lst h1
  obtain ⟨x2, v2, o2, b2, r2⟩ := own_lst h2
  obtain ⟨x3, v3, o3, b3, r3⟩ := own_lst h3
  rw [← b1] at n1 n2 n3
  rw [← b2] at n2 n3
  rw [← b3] at n3
  rw [hD] at v1 v2
  have o4 : (⟨some gi, n0, n0 + 3⟩ : Lst).ok := ⟨(fun e => by cases e), by show n0 ≤ n0 + 3; omega, by show n0 + 3 ≤ maxLen; unfold maxLen; omega⟩
  have bt : ∀ g, x1.blk = some g ∨ x2.blk = some g ∨ x3.blk = some g ∨ some gi = some g → g ≠ gl := by
    intro g hg e
    have hu : ∃ X, Blk w g 5 X := by
      rcases hg with h | h | h | h
      · obtain ⟨X, h, _⟩ := r1 g h; exact ⟨X, h⟩
      · obtain ⟨X, h, _⟩ := r2 g h; exact ⟨X, h⟩
      · obtain ⟨X, h, _⟩ := r3 g h; exact ⟨X, h⟩
      · injection h with h; subst h; exact ⟨Y, h4⟩
    obtain ⟨X, hX⟩ := hu
    subst e
    have h5 : w.heap[g]? = some _ := hB
    rw [show w.heap[g]? = _ from hX] at h5
    injection h5 with h5
    injection h5 with _ h5
    exact absurd h5 (by decide)
  refine apartN_c 4 (by decide) gl [x1, x2, x3, ⟨some gi, n0, n0 + 3⟩] w rfl ?_ ?_ ?_ ?_ B ?_
  · intro x hx
    simp only [List.mem_cons, List.not_mem_nil, or_false] at hx
    rcases hx with rfl | rfl | rfl | rfl <;> assumption
  · intro i j x y g hi hj hx hy
    have hi4 : i < 4 := (List.getElem?_eq_some_iff.1 hi).1
    have hj4 : j < 4 := (List.getElem?_eq_some_iff.1 hj).1
    match i, j, hi4, hj4 with
    | 0, 0, _, _ => rfl
    | 1, 1, _, _ => rfl
    | 2, 2, _, _ => rfl
    | 3, 3, _, _ => rfl
    | 0, 1, _, _ => cases hi; cases hj; exact absurd hx (n2 g hy).2.2
    | 1, 0, _, _ => cases hi; cases hj; exact absurd hy (n2 g hx).2.2
    | 0, 2, _, _ => cases hi; cases hj; exact absurd hx (n3 g hy).2.2.1
    | 2, 0, _, _ => cases hi; cases hj; exact absurd hy (n3 g hx).2.2.1
    | 1, 2, _, _ => cases hi; cases hj; exact absurd hx (n3 g hy).2.2.2
    | 2, 1, _, _ => cases hi; cases hj; exact absurd hy (n3 g hx).2.2.2
    | 0, 3, _, _ => cases hi; cases hj; injection hy with hy; exact absurd hy.symm (n1 g hx).2
    | 3, 0, _, _ => cases hi; cases hj; injection hx with hx; exact absurd hx.symm (n1 g hy).2
    | 1, 3, _, _ => cases hi; cases hj; injection hy with hy; exact absurd hy.symm (n2 g hx).2.1
    | 3, 1, _, _ => cases hi; cases hj; injection hx with hx; exact absurd hx.symm (n2 g hy).2.1
    | 2, 3, _, _ => cases hi; cases hj; injection hy with hy; exact absurd hy.symm (n3 g hx).2.1
    | 3, 2, _, _ => cases hi; cases hj; injection hx with hx; exact absurd hx.symm (n3 g hy).2.1
  · rw [v1, v2, v3] at hB
    exact hB
  · intro j x g hj hx
    have hj4 : j < 4 := (List.getElem?_eq_some_iff.1 hj).1
    match j, hj4 with
    | 0, _ => cases hj; obtain ⟨X, e1, e2⟩ := r1 g hx; exact ⟨X, e1, e2, fun h => by omega⟩
    | 1, _ => cases hj; obtain ⟨X, e1, e2⟩ := r2 g hx; exact ⟨X, e1, e2, fun h => by omega⟩
    | 2, _ => cases hj; obtain ⟨X, e1, e2⟩ := r3 g hx; exact ⟨X, e1, e2, fun h => by omega⟩
    | 3, _ => cases hj; injection hx with hx; subst hx; exact ⟨Y, h4, hY, fun h => by omega⟩
  · intro x hx g hg
    simp only [List.mem_cons, List.not_mem_nil, or_false] at hx
    rcases hx with rfl | rfl | rfl | rfl
    · exact ⟨(n1 g hg).1, bt g (Or.inl hg)⟩
    · exact ⟨(n2 g hg).1, bt g (Or.inr (Or.inl hg))⟩
    · exact ⟨(n3 g hg).1, bt g (Or.inr (Or.inr (Or.inl hg)))⟩
    · have h : some gi = some g := hg
      injection h with h
      exact ⟨h ▸ hgi, bt g (Or.inr (Or.inr (Or.inr (by rw [h]))))⟩
set_option maxRecDepth 100000 in
set_option maxHeartbeats 16000000 in
theorem law_keeps (p : Option Addr) (c : Nat) (d : T) (kd a b : Int) (by8 : UInt8) (ps : Option Addr) (ls cs : Nat) (w : World) (hp : In8 w p d) (hc : d.length ≤ c) (hd : d.length ≤ 140737488351232) :
    Calls Try.prog 6 #[.slice p d.length c, .agg #[.int .i64 kd, .int .i64 a, .int .i64 b, .int .u8 (by8.toNat : Int), .slice ps ls cs]] w fun e w' => e = .returned (.bool true) ∧ Below w.heap.size w w' := by
  have HP := Lib.hid hp
  clear hp
  go_enter Try.func6, Try.ntmps6
  go_wp2_with fail
  have hbw0 := (Below.refl w.heap.size w).alloc (Nat.le_refl _) (.cells #[.int .i64 kd, .int .i64 a, .int .i64 b, .int .u8 (by8.toNat : Int), .slice ps ls cs] 37)
  have hB0 : Blk (w.alloc (.cells #[.int .i64 kd, .int .i64 a, .int .i64 b, .int .u8 (by8.toNat : Int), .slice ps ls cs] 37)) w.heap.size 37 [.int .i64 kd, .int .i64 a, .int .i64 b, .int .u8 (by8.toNat : Int), .slice ps ls cs] := blk_new w _ _ _ rfl
  obtain ⟨w0, hw0⟩ : ∃ w0, w.alloc (.cells #[.int .i64 kd, .int .i64 a, .int .i64 b, .int .u8 (by8.toNat : Int), .slice ps ls cs] 37) = w0 := ⟨_, rfl⟩
  rw [hw0] at hbw0 hB0 ⊢
  have HBW0 := Lib.hid hbw0
  have HB0 := Lib.hid hB0
  have hbs := hB0.lt
  have HNEW := Lib.hid (St.new w0 w0 (Below.refl _ _) 2 (by decide) (by decide))
  clear hbw0 hB0 hw0
  refine HNEW.out.mono ?_
  rintro e w1 ⟨g, rfl, h1⟩
  have HK1 := Lib.hid (KS.of_st h1 (X := fun k => k = w.heap.size) (fun k e => by rw [e]; exact hbs))
  clear h1
  go_upto_if 26 with (fail)
  go_cut [0] from 27 to 28 (fun s0 wx => (∃ (P0 : Option Addr) (n0 : Nat), s0 = .slice P0 n0 c ∧ Hid (In8 w P0 (d.take 65544) ∧ (d.take 65544).length = n0)) ∧ wx = w1)
  case first =>
    by_cases hlong : 65544 < d.length
    · obtain ⟨b0, o0, rfl, _⟩ := HP.out.at (by omega)
      have HR : Hid (In8 w (some ⟨b0, o0, none⟩) (d.take 65544) ∧ (d.take 65544).length = 65544) := ⟨in8_take HP.out 65544, by rw [List.length_take]; omega⟩
      have i0 : (d.length : Int) > 65544 := by omega
      have i1 : (65544 : Int) ≤ c := by omega
      go_wp2_with fail
      go_meet
      case rel => exact ⟨⟨_, _, rfl, HR⟩, rfl⟩
    · have HR : Hid (In8 w p (d.take 65544) ∧ (d.take 65544).length = d.length) := ⟨in8_take HP.out 65544, by rw [List.length_take]; omega⟩
      have i0 : ¬ ((d.length : Int) > 65544) := by omega
      go_wp2_with fail
      go_meet
      case rel => exact ⟨⟨_, _, rfl, HR⟩, rfl⟩
  case rest =>
    obtain ⟨⟨P0, n0, rfl, HR⟩, rfl⟩ := hcut
    have HDL : Hid ((d.take 65544).length ≤ 65544) := by show _ ≤ _; rw [List.length_take]; omega
    obtain ⟨D, hD⟩ : ∃ D, d.take 65544 = D := ⟨_, rfl⟩
    rw [hD] at HR HDL
    have HLN := Lib.hid HR.out.2
    have hn0 : n0 ≤ 65544 := by rw [← HLN.out]; exact HDL.out
    have HROOM : Hid (∀ wx, Below w.heap.size w wx → Calls Try.prog 21 #[.slice P0 n0 c] wx fun e w' => e = .returned (.slice (some ⟨wx.heap.size, 0, none⟩) n0 (n0 + 3)) ∧ Blk w' wx.heap.size 5 (byteCells D ++ seven 3) ∧ Below wx.heap.size wx w') := by
      intro wx hb
      have h := room_c P0 c D wx (HR.out.1.below hb) (by rw [HLN.out]; omega)
      rw [HLN.out] at h
      exact h
    have HKEPT : Hid (∀ (wx : World) (g : Nat), Below w.heap.size w wx → Blk wx g 5 (byteCells D ++ seven 3) → Calls Try.prog 22 #[.slice (some ⟨g, 0, none⟩) n0 (n0 + 3), .slice P0 n0 c] wx fun e w' => e = .returned (.bool true) ∧ Below wx.heap.size wx w') := by
      intro wx g hb hB
      have h := kept_c g P0 c D wx hB (HR.out.1.below hb) (by rw [HLN.out]; omega)
      rw [HLN.out] at h
      exact h.mono fun e w' ⟨e1, n, e2⟩ => ⟨e1, by rw [e2]; exact below_drewN (Below.refl _ _) n⟩
    have HSAME : Hid (∀ (wx : World) (q : Option Addr) (cq : Nat), Below w.heap.size w wx → In8 wx q D → Calls Try.prog 25 #[.slice q n0 cq, .slice P0 n0 c] wx fun e w' => e = .returned (.bool true) ∧ Below wx.heap.size wx w') := by
      intro wx q cq hb hq
      have h := rsame_c q P0 cq c D D wx hq (HR.out.1.below hb) (by rw [HLN.out]; omega)
      rw [HLN.out] at h
      exact h.mono fun e w' ⟨e1, n, e2⟩ => ⟨by rw [e1, decide_eq_true rfl], by rw [e2]; exact below_drewN (Below.refl _ _) n⟩
    clear hD HP hc hd
    have HC := Lib.hid (HROOM.out wc (bnext HBW0.out HK1.out.below))
    go_wp2_with fail
    refine HC.out.mono ?_
    rintro e w2 ⟨rfl, hB2, hb2⟩
    have HK2 := Lib.hid (HK1.out.more hb2 (Y := fun k => k = w.heap.size ∨ k = wc.heap.size) (fun k e => e.imp id fun e => ⟨by omega, by have := hB2.lt; omega⟩))
    have hsend := HK2.out.run (s2 := kp1 D) (Q := fun _ e _ => e = .returned (err 0)) (kp1_wf HDL.out) (fun R hR => by
      have h := send_c hR HK2.out.wf 0 1 (by decide) (by decide) (some ⟨wc.heap.size, 0, none⟩) (D.length + 3) D (in8_blk hB2) (fun e => by cases e) (by have := HDL.out; omega)
      rw [keep_send HDL.out] at h
      exact h)
    rw [HLN.out] at hsend
    have HC := Lib.hid hsend
    have HB2 := Lib.hid hB2
    have HS1 : Hid (w0.heap.size ≤ wc.heap.size) := HK1.out.below.size
    clear hb2 hB2 hsend
    go_wp2_with fail
    refine HC.out.mono ?_
    rintro e w3 ⟨⟨_, rfl, _⟩, hk3, ht3⟩
    have HB3 := Lib.hid (blk_turn HB2.out ht3 (fun h => h (Or.inr rfl)))
    have HK3 := Lib.hid hk3
    have htw := hk3.run (s2 := kp2 D) (Q := fun _ e _ => e = .returned (err 0)) ((kp1_wf HDL.out).twice 0) (fun R hR => twice_c hR (kp1_wf HDL.out) 0 (by decide))
    have HC := Lib.hid htw
    clear hk3 ht3 htw
    go_wp2_with fail
    refine HC.out.mono ?_
    rintro e w4 ⟨⟨_, rfl, _⟩, hk4, ht4⟩
    have HB4 := Lib.hid (blk_turn HB3.out ht4 (fun h => h (Or.inr rfl)))
    have HK4 := Lib.hid hk4
    have HC := Lib.hid (HKEPT.out w4 wc.heap.size (bnext HBW0.out hk4.below) HB4.out)
    clear hk4 ht4
    go_wp2_with fail
    refine HC.out.mono ?_
    rintro e w5 ⟨rfl, hb5⟩
    have HB5 := Lib.hid (HB4.out.below hb5)
    have HK5 := Lib.hid (HK4.out.more hb5 (Y := fun k => k = w.heap.size ∨ k = wc.heap.size) (fun k e => Or.inl e))
    clear hb5
    go_wp2_with fail
    go_loopg [8] n0 (fun gk s8 wx => ∃ k : Nat, k + gk = n0 ∧ s8 = .int .i64 (k : Int) ∧ Hid (InR w0 wx g D w.heap.size wc.heap.size n0))
    case atStart => exact ⟨0, by omega, rfl, ⟨_, HB5.out, by rw [List.length_append, byteCells_len, HLN.out]; rfl, inr_start D HLN.out, HK5.out⟩⟩
    case round =>
      obtain ⟨k, hkg, rfl, HX⟩ := hrel
      obtain ⟨Y, hY, hYl, hYm, hks⟩ := HX.out
      rcases gk with _ | gk
      · obtain rfl : n0 = k := by omega
        have HKS := Lib.hid hks
        obtain ⟨R, hR, _⟩ := hks.st
        have HC := Lib.hid (at_c hR hks.wf 0 (by decide))
        rw [keep_tell] at HC
        have HY := Lib.hid hY
        have HYL := Lib.hid hYl
        clear hY hYl hYm hks hR
        go_wp2_with fail
        refine HC.out.mono ?_
        rintro e w6 ⟨v1, rfl, hv1, hb6⟩
        obtain ⟨p1, c1, rfl⟩ := own_slice hv1
        have hb7 := bnext hb6 ((Below.refl w6.heap.size w6).alloc (Nat.le_refl _) (.cells #[.int .i64 0, .int .i64 1, .slice p1 D.length c1] 44))
        have HK7 := Lib.hid (HKS.out.more hb7 (Y := fun k => (k = w.heap.size ∨ k = wc.heap.size) ∨ (Value.slice p1 D.length c1).ownBlock = some k ∨ k = w6.heap.size) (fun k e => e.imp id fun e => e.elim (fun e => ⟨(hv1.lt k e).1, by have := (hv1.lt k e).2; simp; omega⟩) fun e => ⟨by have := hb6.size; omega, by simp; omega⟩))
        have HV1 := Lib.hid (own_below hv1 ((Below.refl w6.heap.size w6).alloc (Nat.le_refl _) (.cells #[.int .i64 0, .int .i64 1, .slice p1 D.length c1] 44)))
        have HPX : Hid (Blk (w6.alloc (.cells #[.int .i64 0, .int .i64 1, .slice p1 D.length c1] 44)) w6.heap.size 44 [.int .i64 0, .int .i64 1, .slice p1 D.length c1]) := blk_new w6 _ _ _ rfl
        have HY7 := Lib.hid (HY.out.below hb7)
        obtain ⟨nsp, q, hsp⟩ := keep_spoil D
        have hspr := HK7.out.run (s2 := kp3 D q) (Q := fun _ e _ => e = .returned (err nsp)) (by have h := HK7.out.wf.spoil 1 0 255; rw [hsp] at h; exact h) (fun R hR => by
          have h := spoil_c hR HK7.out.wf 1 0 255 (by decide) (by decide)
          rw [hsp] at h
          exact h)
        have HC := Lib.hid hspr
        clear hv1 hb6 hb7 hspr hsp
        dsimp only
        go_wp2_with fail
        refine HC.out.mono ?_
        rintro e w8 ⟨⟨_, rfl, _⟩, hk8, ht8⟩
        have HV8 := Lib.hid (own_turn HV1.out ht8 (fun b hb h => h (Or.inr (Or.inl hb))))
        have HPX8 := Lib.hid (blk_turn HPX.out ht8 (fun h => h (Or.inr (Or.inr rfl))))
        have HY8 := Lib.hid (blk_turn HY7.out ht8 (fun h => h (Or.inl (Or.inr rfl))))
        have HK8 := Lib.hid hk8
        have htk := hk8.run (s2 := kp4 q) (Q := fun R e w2 => ∃ v, e = .returned (.tuple #[.agg #[.int .i64 0, .int .i64 1, v], err 0]) ∧ Told w8 w2 R ⟨0, 1, D⟩ v) (hk8.wf.take 0) (fun R hR => (take_c hR hk8.wf 0 (by decide)).mono fun _ _ ⟨v, e1, e2, e3⟩ => ⟨⟨v, e1, e2⟩, e3⟩)
        have HC := Lib.hid htk
        clear hk8 ht8 htk
        go_wp2_with fail
        refine HC.out.mono ?_
        rintro e w9 ⟨⟨R9, ⟨v2, rfl, hv2, hf2⟩, hxr, hr0⟩, hk9, ht9⟩
        dsimp only at hv2
        obtain ⟨p2, c2, rfl⟩ := own_slice hv2
        have hn2 : ∀ b, (Value.slice p2 D.length c2).ownBlock = some b → w0.heap.size ≤ b ∧ b ≠ wc.heap.size ∧ (Value.slice p1 D.length c1).ownBlock ≠ some b := by
          intro b hb
          rcases hf2 b hb with h | h
          · exact ⟨hr0 b h, fun e => hxr b (Or.inl (Or.inr e)) h, fun e => hxr b (Or.inr (Or.inl e)) h⟩
          · exact ⟨Nat.le_trans HK8.out.below.size h, fun e => by have := HK8.out.ext b (Or.inl (Or.inr e)); omega, fun e => by have := HK8.out.ext b (Or.inr (Or.inl e)); omega⟩
        have hb10 := (Below.refl w9.heap.size w9).alloc (Nat.le_refl _) (.cells #[.int .i64 0, .int .i64 1, .slice p2 D.length c2] 44)
        have HN2 := Lib.hid hn2
        have HV10 := Lib.hid (own_below (own_turn HV8.out ht9 (fun b hb h => h (Or.inr (Or.inl hb)))) hb10)
        have HPX10 := Lib.hid ((blk_turn HPX8.out ht9 (fun h => h (Or.inr (Or.inr rfl)))).below hb10)
        have HY10 := Lib.hid ((blk_turn HY8.out ht9 (fun h => h (Or.inl (Or.inr rfl)))).below hb10)
        have HW10 := Lib.hid (own_below hv2 hb10)
        have HPY10 : Hid (Blk (w9.alloc (.cells #[.int .i64 0, .int .i64 1, .slice p2 D.length c2] 44)) w9.heap.size 44 [.int .i64 0, .int .i64 1, .slice p2 D.length c2]) := blk_new w9 _ _ _ rfl
        have HK10 := Lib.hid (hk9.more hb10 (Y := fun k => (k = w.heap.size ∨ k = wc.heap.size) ∨ (Value.slice p1 D.length c1).ownBlock = some k ∨ k = w6.heap.size) (fun k e => Or.inl e))
        obtain ⟨R10, hR10, _⟩ := HK10.out.st
        have HC := Lib.hid (at_c hR10 HK10.out.wf 0 (by decide))
        rw [keep_tell2] at HC
        clear hv2 hf2 hxr hr0 hk9 ht9 hn2 hb10 hR10
        go_wp2_with fail
        refine HC.out.mono ?_
        rintro e w11 ⟨v3, rfl, hv3, hb11⟩
        obtain ⟨p3, c3, rfl⟩ := own_slice hv3
        have hb12 := bnext hb11 ((Below.refl w11.heap.size w11).alloc (Nat.le_refl _) (.cells #[.int .i64 (q.a : Nat), .int .i64 (q.b : Nat), .slice p3 q.d.length c3] 44))
        have HV := Lib.hid (own_below HV10.out hb12)
        have HW := Lib.hid (own_below HW10.out hb12)
        have HZ := Lib.hid (own_below hv3 ((Below.refl w11.heap.size w11).alloc (Nat.le_refl _) (.cells #[.int .i64 (q.a : Nat), .int .i64 (q.b : Nat), .slice p3 q.d.length c3] 44)))
        have HYY := Lib.hid (HY10.out.below hb12)
        have HPX := Lib.hid (HPX10.out.below hb12)
        have HPY := Lib.hid (HPY10.out.below hb12)
        have HPZ : Hid (Blk (w11.alloc (.cells #[.int .i64 (q.a : Nat), .int .i64 (q.b : Nat), .slice p3 q.d.length c3] 44)) w11.heap.size 44 [.int .i64 (q.a : Nat), .int .i64 (q.b : Nat), .slice p3 q.d.length c3]) := blk_new w11 _ _ _ rfl
        have HB12 := Lib.hid (bnext HK10.out.below hb12)
        have hn3 : ∀ b, (Value.slice p3 q.d.length c3).ownBlock = some b → w0.heap.size ≤ b ∧ b ≠ wc.heap.size ∧ (Value.slice p1 D.length c1).ownBlock ≠ some b ∧ (Value.slice p2 D.length c2).ownBlock ≠ some b := by
          intro b hb
          have h := (hv3.lt b hb).1
          exact ⟨Nat.le_trans HK10.out.below.size h, fun e => by have := HK10.out.ext b (Or.inl (Or.inr e)); omega, fun e => by have := (HV10.out.lt b e).2; omega, fun e => by have := (HW10.out.lt b e).2; omega⟩
        have hn1 : ∀ b, (Value.slice p1 D.length c1).ownBlock = some b → w0.heap.size ≤ b ∧ b ≠ wc.heap.size := by
          intro b hb
          have h := (HV1.out.lt b hb).1
          exact ⟨Nat.le_trans HKS.out.below.size h, fun e => by have := HKS.out.ext b (Or.inr e); omega⟩
        have HN1 := Lib.hid hn1
        have HN3 := Lib.hid hn3
        obtain ⟨w12, hw12⟩ : ∃ w12, w11.alloc (.cells #[.int .i64 (q.a : Nat), .int .i64 (q.b : Nat), .slice p3 q.d.length c3] 44) = w12 := ⟨_, rfl⟩
        rw [hw12] at HV HW HZ HYY HPX HPY HPZ HB12
        have e1 := HPX.out.cell 2
        have e2 := HPY.out.cell 2
        have HS1' := Lib.hid (HSAME.out w12 p1 c1 (bnext HBW0.out HB12.out) (by obtain ⟨pp, cc, h4, h5⟩ := own_in8' HV.out; injection h4 with h4; rw [h4]; exact h5))
        clear hv3 hb11 hb12 hn3 hn1 HC HKS HV1 HV8 HV10 HPX8 HPX10 HY7 HY8 HY10 HY HW10 HPY10 HK7 HK8 HK10
        rw [HLN.out] at e1 e2
        go_wp2_with fail
        clear hw12
        refine HS1'.out.mono ?_
        rintro e w13 ⟨rfl, hb13⟩
        have HB13 := Lib.hid (bnext HB12.out hb13)
        have HV13 := Lib.hid (own_below HV.out hb13)
        have HW13 := Lib.hid (own_below HW.out hb13)
        have HZ13 := Lib.hid (own_below HZ.out hb13)
        have HY13 := Lib.hid (HYY.out.below hb13)
        have HPX13 := Lib.hid (HPX.out.below hb13)
        have HPY13 := Lib.hid (HPY.out.below hb13)
        have HPZ13 := Lib.hid (HPZ.out.below hb13)
        have e3 := HPY13.out.cell 2
        rw [HLN.out] at e3
        have HS2' := Lib.hid (HSAME.out w13 p2 c2 (bnext HBW0.out HB13.out) (by obtain ⟨pp, cc, h4, h5⟩ := own_in8' HW13.out; injection h4 with h4; rw [h4]; exact h5))
        clear hb13 e1 e2
        go_wp2_with fail
        refine HS2'.out.mono ?_
        rintro e w14 ⟨rfl, hb14⟩
        have HB14 := Lib.hid (bnext HB13.out hb14)
        have hb15 := bnext hb14 ((Below.refl w14.heap.size w14).alloc (Nat.le_refl _) (.cells #[.slice p1 n0 c1, .slice p2 n0 c2, .slice p3 q.d.length c3, .slice (some ⟨wc.heap.size, 0, none⟩) n0 (n0 + 3)] 35))
        have e4 := (HPX13.out.below hb14).cell 2
        have e5 := (HPY13.out.below hb14).cell 2
        have e6 := (HPZ13.out.below hb14).cell 2
        rw [HLN.out] at e4 e5
        have hap := keeps_apart (w := w14.alloc (.cells #[.slice p1 n0 c1, .slice p2 n0 c2, .slice p3 q.d.length c3, .slice (some ⟨wc.heap.size, 0, none⟩) n0 (n0 + 3)] 35)) HLN.out w14.heap.size (blk_new w14 _ _ _ rfl) w0.heap.size (own_below HV13.out hb15) (own_below HW13.out hb15) (own_below HZ13.out hb15) (HY13.out.below hb15) HYL.out HS1.out hn0 HN1.out HN2.out HN3.out
        have HAP := Lib.hid hap
        have HB15 := Lib.hid (bnext HB14.out ((Below.refl w14.heap.size w14).alloc (Nat.le_refl _) (.cells #[.slice p1 n0 c1, .slice p2 n0 c2, .slice p3 q.d.length c3, .slice (some ⟨wc.heap.size, 0, none⟩) n0 (n0 + 3)] 35)))
        have HHE := Lib.hid (fun W => heal_nil W)
        have HAT := Lib.hid (fun W => at_nil W a)
        have HTK := Lib.hid (fun W => take_nil W a)
        have S1 := Lib.hid (fun W => send_nil W a b (.slice P0 n0 c))
        have S2 := Lib.hid (fun W => drop_nil W a)
        have S3 := Lib.hid (fun W => twice_nil W a)
        have S4 := Lib.hid (fun W => spoil_nil W a b (.int .u8 1))
        have S5 := Lib.hid (fun W => shut_nil W a b)
        have S6 := Lib.hid (fun W => join_nil W a b)
        have S7 := Lib.hid (fun W => count_nil W)
        have S8 := Lib.hid (fun W => next_nil W)
        have S9 := Lib.hid (fun W => open_nil W 0 0)
        have HKN := Lib.hid (fun W => known_c W W (Below.refl _ _))
        clear hap hb14 hb15
        go_wp2_with fail
        refine HAP.out.mono ?_
        rintro e w16 ⟨rfl, hb16⟩
        have HB16 := Lib.hid (HB15.out.trans hb16)
        clear hb16 e3 e4 e5 e6
        go_wp2_with fail
        refine (HHE.out w16).mono ?_
        rintro e w17 ⟨rfl, rfl⟩
        have k1 := (HB0.out.below HB16.out).cell 1
        go_wp2_with fail
        refine (HAT.out w16).mono ?_
        rintro e w18 ⟨v5, rfl, hv5, hb18⟩
        obtain ⟨p5, c5, rfl⟩ := own_slice hv5
        dsimp only [zeroPk] at hv5 ⊢
        have hb19 := bnext (bnext HB16.out hb18) ((Below.refl w18.heap.size w18).alloc (Nat.le_refl _) (.cells #[.int .i64 0, .int .i64 0, .slice p5 0 c5] 44))
        have k1 := (HB0.out.below hb19).cell 1
        have HB19 := Lib.hid hb19
        clear hv5 hb18 hb19
        go_wp2_with fail
        refine (HTK.out _).mono ?_
        rintro e w20 ⟨v6, rfl, hv6, hb20⟩
        obtain ⟨p6, c6, rfl⟩ := own_slice hv6
        dsimp only [zeroPk] at hv6 ⊢
        have hb21 := bnext (bnext HB19.out hb20) ((Below.refl w20.heap.size w20).alloc (Nat.le_refl _) (.cells #[.int .i64 0, .int .i64 0, .slice p6 0 c6] 44))
        have HB21 := Lib.hid hb21
        clear hv6 hb20 hb21
        go_wp2_with fail
        refine (HKN.out _).mono ?_
        rintro e w22 ⟨rfl, hb22⟩
        have hb23 := bnext HB21.out hb22
        have k1 := (HB0.out.below hb23).cell 1
        have k2 := (HB0.out.below hb23).cell 2
        have HB23 := Lib.hid (bnext HBW0.out hb23)
        clear hb22 hb23
        go_wp2_with (first
          | (go_at_call 12; (with_reducible refine (S1.out _).mono ?_); rintro e w' ⟨rfl, rfl⟩)
          | (go_at_call 20; (with_reducible refine (S2.out _).mono ?_); rintro e w' ⟨rfl, rfl⟩)
          | (go_at_call 19; (with_reducible refine (S3.out _).mono ?_); rintro e w' ⟨rfl, rfl⟩)
          | (go_at_call 24; (with_reducible refine (S4.out _).mono ?_); rintro e w' ⟨rfl, rfl⟩)
          | (go_at_call 11; (with_reducible refine (S5.out _).mono ?_); rintro e w' ⟨rfl, rfl⟩)
          | (go_at_call 27; (with_reducible refine (S6.out _).mono ?_); rintro e w' ⟨rfl, rfl⟩)
          | (go_at_call 17; (with_reducible refine (S7.out _).mono ?_); rintro e w' ⟨rfl, rfl⟩)
          | (go_at_call 15; (with_reducible refine (S8.out _).mono ?_); rintro e w' ⟨rfl, rfl⟩)
          | (go_at_call 13; (with_reducible refine (S9.out _).mono ?_); rintro e w' ⟨rfl, rfl⟩))
        go_ret
        exact ⟨rfl, HB23.out⟩
      · have hkI : (k : Int) < n0 := by omega
        have hk3 : k < n0 + 3 := by omega
        obtain ⟨m, hm⟩ := hYm k hk3
        have c0 := hY.cell k
        rw [hm] at c0
        have f0 := hY.frozen k
        have HST : Hid (∀ v : Int, InR w0 (wr.setCell ⟨wc.heap.size, k, none⟩ (.int .u8 v)) g D w.heap.size wc.heap.size n0) := fun v => ⟨_, hY.set k _, by rw [List.length_set]; exact hYl, inr_set hYm hYl k v, hks.set (Or.inr rfl) HS1.out k _⟩
        have hlt := hY.lt
        clear hY hYl hYm hks hm
        go_wp2_with fail
        go_roundg gk
        case measure => omega
        case rel => exact ⟨k + 1, by omega, by go_num, HST.out _⟩
end Go.Proofs.Ytdjgafemmihlgaa.lan
