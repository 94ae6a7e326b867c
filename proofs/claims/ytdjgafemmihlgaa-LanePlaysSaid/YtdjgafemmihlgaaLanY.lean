/- The reference's Spoil. -/
import Derived.Test.YtdjgafemmihlgaaLanX
import Derived.BigRegion
namespace Go.Proofs.Ytdjgafemmihlgaa.lan
open Go.RowKit
open Go.Proofs.Ytdjgafemmihlgaa.oct Go.Proofs.Ytdjgafemmihlgaa.ref Go.Proofs.Ytdjgafemmihlgaa.rows Go.Proofs.Ytdjgafemmihlgaa.rowg Go.Proofs.Ytdjgafemmihlgaa.trn
open Go.Lib (byteCells)

theorem set_three (A B : List Value) (p q r x y z : Value) : (((A ++ p :: q :: r :: B).set A.length x).set (A.length + 1) y).set (A.length + 2) z = A ++ x :: y :: z :: B := by
  rw [set_at]
  have h1 : A ++ x :: q :: r :: B = (A ++ [x]) ++ q :: r :: B := by simp
  rw [h1, show A.length + 1 = (A ++ [x]).length by simp, set_at]
  have h2 : (A ++ [x]) ++ y :: r :: B = (A ++ [x, y]) ++ r :: B := by simp
  rw [h2, show A.length + 2 = (A ++ [x, y]).length by simp, set_at]
  simp
theorem cells_set3 (qs : List Qk) (k : Nat) (hk : k < qs.length) (y : Qk) : (((cells qenc qs).set (k * 3) (.int .i64 (y.a : Nat))).set (k * 3 + 1) (.int .i64 (y.b : Nat))).set (k * 3 + 2) y.v = cells qenc (qs.set k y) := by
  have hl : (cells qenc (qs.take k)).length = k * 3 := by rw [cells_len qenc_len, List.length_take, Nat.min_eq_left (by omega)]
  have h1 : qs = qs.take k ++ qs[k] :: qs.drop (k + 1) := by rw [List.getElem_cons_drop, List.take_append_drop]
  have h2 : qs.set k y = qs.take k ++ y :: qs.drop (k + 1) := List.set_eq_take_append_cons_drop .. |>.trans (by rw [if_pos hk])
  have h3 : ∀ z : Qk, cells qenc (qs.take k ++ z :: qs.drop (k + 1)) = cells qenc (qs.take k) ++ (.int .i64 (z.a : Nat)) :: (.int .i64 (z.b : Nat)) :: z.v :: cells qenc (qs.drop (k + 1)) := fun z => by rw [cells_append]; rfl
  have h4 : cells qenc qs = cells qenc (qs.take k) ++ (.int .i64 ((qs[k]).a : Nat)) :: (.int .i64 ((qs[k]).b : Nat)) :: (qs[k]).v :: cells qenc (qs.drop (k + 1)) := by
    rw [← h3, ← h1]
  rw [h2, h3, h4, ← hl, set_three]
/-- a packet takes another one's place -/
theorem RM.swap {w w5 : World} {R : Nat → Prop} {g n k b c : Nat} {qs : List Qk} {f : Nat → Nat → Bool} (h : RM w R g (.slice (some ⟨b, 0, none⟩) qs.length c) qs n f) (hb : Below w.heap.size w w5) (hk : k < qs.length) (y : Qk) (hy : w5.ownsRow w.heap.size 5 1 y.v y.d.length (byteCells y.d)) :
    ∃ R', RM (((w5.setCell ⟨b, k * 3, none⟩ (.int .i64 (y.a : Nat))).setCell ⟨b, k * 3 + 1, none⟩ (.int .i64 (y.b : Nat))).setCell ⟨b, k * 3 + 2, none⟩ y.v) R' g (.slice (some ⟨b, 0, none⟩) qs.length c) (qs.set k y) n f ∧ Turn R w (((w5.setCell ⟨b, k * 3, none⟩ (.int .i64 (y.a : Nat))).setCell ⟨b, k * 3 + 1, none⟩ (.int .i64 (y.b : Nat))).setCell ⟨b, k * 3 + 2, none⟩ y.v) ∧ Grown R R' w := by
  obtain ⟨b2, c2, cur, hv, hB, hnc, hcm, hcl, hct⟩ := own_cur h.way (by omega)
  injection hv with hv _ hc2
  injection hv with hv
  injection hv with hv
  subst hv
  subst hc2
  have t2 : Turn (fun i => i = b) w5 (((w5.setCell ⟨b, k * 3, none⟩ (.int .i64 (y.a : Nat))).setCell ⟨b, k * 3 + 1, none⟩ (.int .i64 (y.b : Nat))).setCell ⟨b, k * 3 + 2, none⟩ y.v) :=
    ((Turn.set (S := fun i => i = b) _ _ _ _ rfl).next (Turn.set (S := fun i => i = b) _ _ _ _ rfl)).next (Turn.set (S := fun i => i = b) _ _ _ _ rfl)
  have ht := (Turn.of_below (S := fun i => i = b) hb).next t2
  have hbR := h.way.foot b rfl
  have hblt := hB.lt
  have hgb : g ≠ b := fun e => own_blk h.way.own h.blk (by decide) rfl e.symm
  have hB3 := ((((hB.below hb).set (k * 3) (.int .i64 (y.a : Nat))).set (k * 3 + 1) (.int .i64 (y.b : Nat))).set (k * 3 + 2) y.v)
  refine ⟨fun i => R i ∨ (w.heap.size ≤ i ∧ i < (((w5.setCell ⟨b, k * 3, none⟩ (.int .i64 (y.a : Nat))).setCell ⟨b, k * 3 + 1, none⟩ (.int .i64 (y.b : Nat))).setCell ⟨b, k * 3 + 2, none⟩ y.v).heap.size), ⟨Or.inl h.mem, ?_, blk_turn h.blk ht hgb, ⟨?_, fun b' e => Or.inl (h.way.foot b' e), fun x hx => ?_⟩⟩, ht.mono fun i _ e => e ▸ hbR, fun i hi => hi.imp id fun e => e.1⟩
  · rintro i (hi | hi)
    · exact Nat.lt_of_lt_of_le (h.lt i hi) ht.size
    · exact hi.2
  · rw [List.length_set]
    refine ⟨by rw [cells_len qenc_len, List.length_set], Or.inr ⟨b, c, _, rfl, Nat.zero_le _, hB3, hnc, hcm, ?_, ?_⟩⟩
    · simp
      rw [hcl]
    · rw [show ((((cur.set (k * 3) (.int .i64 (y.a : Nat))).set (k * 3 + 1) (.int .i64 (y.b : Nat))).set (k * 3 + 2) y.v).toArray).toList = ((cur.set (k * 3) (.int .i64 (y.a : Nat))).set (k * 3 + 1) (.int .i64 (y.b : Nat))).set (k * 3 + 2) y.v by simp, List.take_set, List.take_set, List.take_set, hct]
      exact cells_set3 qs k hk y
  · rcases List.mem_or_eq_of_mem_set hx with hx | rfl
    · have h3 := h.way.each x hx
      exact ⟨own_turn h3.own ht fun b' e e2 => own_apart h3.own h.way.own (by decide) e (by rw [e2]; rfl), fun b' e => Or.inl (h3.foot b' e)⟩
    · refine ⟨own_turn (own_base hy (Nat.zero_le _)) t2 fun b' e e2 => by have := (hy.lt b' e).1; omega, fun b' e => Or.inr ⟨(hy.lt b' e).1, ?_⟩⟩
      exact Nat.lt_of_lt_of_le (hy.lt b' e).2 t2.size
/-- a byte of a row of the call's own is turned -/
theorem own_setb {w : World} {B j cap : Nat} {b : Nat} {l : T} (h : w.ownsRow B 5 1 (.slice (some ⟨b, 0, none⟩) l.length cap) l.length (byteCells l)) (c : UInt8) : (w.setCell ⟨b, j, none⟩ (.int .u8 (c.toNat : Int))).ownsRow B 5 1 (.slice (some ⟨b, 0, none⟩) l.length cap) l.length (byteCells (l.set j c)) := by
  rcases h.2 with ⟨h1, _⟩ | ⟨g2, cap2, cur, h1, h2, h3, h4, h5, h6, h7⟩
  · injection h1 with h1; cases h1
  · injection h1 with h1 _ h1c
    injection h1 with h1
    injection h1 with h1
    subst h1
    subst h1c
    refine ⟨by rw [byteCells_len, List.length_set, Nat.mul_one], Or.inr ⟨b, cap, cur.set! j (.int .u8 (c.toNat : Int)), rfl, h2, ?_, h4, h5, by simpa using h6, ?_⟩⟩
    · simp [World.setCell, Array.getElem?_modify, h3]
    · rw [show (cur.set! j (.int .u8 (c.toNat : Int))).toList = cur.toList.set j (.int .u8 (c.toNat : Int)) by simp, List.take_set, h7]
      unfold byteCells
      rw [List.map_set]
theorem RTo.drew {w w1 : World} {R : Nat → Prop} {g : Nat} {s : LS} (h : RTo w w1 R g s) : RTo w w1.drew R g s := by
  obtain ⟨R', h1, h2, h3⟩ := h
  exact ⟨R', h1.below (Below.refl w1.heap.size w1).drew, h2.drew, h3⟩
set_option maxRecDepth 100000 in
set_option maxHeartbeats 8000000 in
theorem rspoil_c {w : World} {R : Nat → Prop} {g : Nat} {s : LS} (h : RA w R g s) (hw : Wf s) (k j : Int) (cc : UInt8) (hk : I64 k) (hj : I64 j) :
    Calls Try.prog 33 #[ptr g, .int .i64 k, .int .i64 j, .int .u8 (cc.toNat : Int)] w fun e w' => e = .returned (err (spoilP s k j cc).1) ∧ RTo w w' R g (spoilP s k j cc).2 := by
  have HC := Lib.hid (rat_c h hw k hk)
  have HH := Lib.hid h
  have a1 := hj.1
  have a2 := hj.2
  unfold spoilP
  unfold tellP at HC
  cases ha : atP s k with
  | none =>
    rw [ha] at HC
    dsimp only [zeroPk] at HC ⊢
    clear ha hw h
    go_enter Try.func33, Try.ntmps33
    go_wp2_with fail
    refine HC.out.mono ?_
    rintro e w1 ⟨p, c, rfl, _, _, _, hb⟩
    have HB := Lib.hid (hb.alloc hb.size (.cells #[.int .i64 0, .int .i64 0, .slice p 0 c] 44))
    clear hb
    dsimp only
    go_wp2_with fail
    go_ret
    exact ⟨rfl, RTo.same HH.out HB.out⟩
  | some i =>
    rw [ha] at HC
    dsimp only at HC ⊢
    obtain ⟨_, rfl, hi⟩ := atP_some ha
    have hx := hw.getD hi
    obtain ⟨x, hxe⟩ : ∃ x, s.ps.getD i zeroPk = x := ⟨_, rfl⟩
    have hpk := h.pk hi
    rw [hxe] at HC hx hpk ⊢
    have hx3 := hx.2.2
    by_cases h0 : 0 ≤ j ∧ j < x.d.length
    · rw [if_pos h0]
      obtain ⟨jn, rfl⟩ : ∃ y : Nat, j = y := ⟨j.toNat, by omega⟩
      rw [Int.toNat_natCast]
      have hj2 : jn < x.d.length := by omega
      obtain ⟨vw, qs, hM, hqs⟩ := h
      have hl := map_len hqs
      obtain ⟨b, cw, cur, rfl, hBr, hnc, _, hcl, _⟩ := own_cur hM.way (by omega)
      have hiq : i < qs.length := by omega
      have c1 : w.cell? ⟨g, 1, none⟩ = some (.slice (some ⟨b, 0, none⟩) qs.length cw) := hM.blk.cell 1
      have hglt := hM.blk.lt
      have hblt := hBr.lt
      have hrow : ∀ t, t < 3 → ∃ u, w.cell? ⟨b, i * 3 + t, none⟩ = some u ∧ w.frozen? ⟨b, i * 3 + t, none⟩ = false := fun t ht => ⟨cur[i * 3 + t]'(by rw [hcl]; omega), by rw [hBr.cell, List.getElem?_eq_getElem (by rw [hcl]; omega)], hBr.frozen _⟩
      obtain ⟨u0, r0, s0⟩ := hrow 0 (by decide)
      obtain ⟨u1, r1, s1⟩ := hrow 1 (by decide)
      obtain ⟨u2, r2, s2⟩ := hrow 2 (by decide)
      rw [Nat.add_zero] at r0 s0
      have hiI : (i : Int) < qs.length := by omega
      have hi0 : (0 : Int) ≤ i := by omega
      have j2 : (jn : Int) < x.d.length := by omega
      have j3 : (0 : Int) ≤ jn := by omega
      have j4 : ¬ ((jn : Int) < 0) := by omega
      have j5 : ¬ ((x.d.length : Int) ≤ jn) := by omega
      have HFIN : Hid (∀ (w5 : World) (y : Qk), Below w.heap.size w w5 → w5.ownsRow w.heap.size 5 1 y.v y.d.length (byteCells y.d) → y.f = spoil x jn cc → RTo w (((w5.setCell ⟨b, i * 3, none⟩ (.int .i64 (y.a : Nat))).setCell ⟨b, i * 3 + 1, none⟩ (.int .i64 (y.b : Nat))).setCell ⟨b, i * 3 + 2, none⟩ y.v) R g { s with ps := s.ps.set i (spoil x jn cc) }) := by
        intro w5 y e1 e2 e3
        obtain ⟨R', q1, q2, q3⟩ := hM.swap e1 hiq y e2
        exact ⟨R', ⟨_, _, q1, by rw [List.map_set, hqs, e3]⟩, q2, q3⟩
      clear ha hw hxe hx hpk h0 hM hqs hl hBr hrow hcl
      go_enter Try.func33, Try.ntmps33
      go_wp2_with fail
      refine HC.out.mono ?_
      rintro e w1 ⟨p, c, rfl, hp8, hpn, _, hb⟩
      dsimp only
      have h12 := (Below.refl w1.heap.size w1).alloc (Nat.le_refl _) (.cells #[.int .i64 (x.a : Nat), .int .i64 (x.b : Nat), .slice p x.d.length c] 44)
      have HB2 := Lib.hid (bnext hb h12)
      have HO := Lib.hid (rown_c (w1.alloc (.cells #[.int .i64 (x.a : Nat), .int .i64 (x.b : Nat), .slice p x.d.length c] 44)) ⟨x.a, x.b, p, c, x.d⟩ (hp8.below h12) hpn (by dsimp only; omega))
      unfold qenc NewQ at HO
      dsimp only [Qk.f] at HO
      clear hp8 hpn hb h12
      go_wp2_with fail
      refine HO.out.mono ?_
      rintro e w3 ⟨v, rfl, hv, hb3⟩
      obtain ⟨q, kc, rfl⟩ := own_slice hv
      have hv2 := (own_cells hv).2
      rcases hv2 with ⟨hv3, hv4⟩ | ⟨bv, cp, hv3, hv4, hv5, hv6, hv7⟩
      · omega
      · injection hv3 with hv3 _ hv8
        subst hv3
        subst hv8
        have hb23 := bnext HB2.out hb3
        have hb4 := bnext hb23 ((Below.refl w3.heap.size w3).alloc (Nat.le_refl _) (.cells #[.int .i64 (x.a : Nat), .int .i64 (x.b : Nat), .slice (some ⟨bv, 0, none⟩) x.d.length kc] 44))
        have hb34 : Below w3.heap.size w3 (w3.alloc (.cells #[.int .i64 (x.a : Nat), .int .i64 (x.b : Nat), .slice (some ⟨bv, 0, none⟩) x.d.length kc] 44)) := (Below.refl _ _).alloc (Nat.le_refl _) _
        have hq : Blk (w3.alloc (.cells #[.int .i64 (x.a : Nat), .int .i64 (x.b : Nat), .slice (some ⟨bv, 0, none⟩) x.d.length kc] 44)) w3.heap.size 44 [.int .i64 (x.a : Nat), .int .i64 (x.b : Nat), .slice (some ⟨bv, 0, none⟩) x.d.length kc] := blk_new w3 _ _ _ rfl
        obtain ⟨w4, hw4⟩ : ∃ w4, w3.alloc (.cells #[.int .i64 (x.a : Nat), .int .i64 (x.b : Nat), .slice (some ⟨bv, 0, none⟩) x.d.length kc] 44) = w4 := ⟨_, rfl⟩
        rw [hw4] at hb4 hb34 hq
        have hv10 : w4.ownsRow w.heap.size 5 1 (.slice (some ⟨bv, 0, none⟩) x.d.length kc) x.d.length (byteCells x.d) := own_base (own_below hv hb34) HB2.out.size
        have hbw : w.heap.size ≤ bv := Nat.le_trans HB2.out.size hv4
        obtain ⟨curv, hcv⟩ := own_obj hv10 rfl
        have q0 : w4.cell? ⟨bv, jn, none⟩ = some (.int .u8 ((x.d[jn]).toNat : Int)) := by
          rw [hb34.cell (p := ⟨bv, jn, none⟩) hv5, hv7 jn hj2]
          simp [byteCells, List.getElem?_eq_getElem hj2]
        have q1 : w4.frozen? ⟨bv, jn, none⟩ = false := by simp [World.frozen?, hcv]
        have hbv4 : bv < w4.heap.size := Nat.lt_of_lt_of_le hv5 hb34.size
        have d1 := (hb4.cell (p := ⟨g, 1, none⟩) hglt).trans c1
        have R0 := (hb4.cell (p := ⟨b, i * 3, none⟩) hblt).trans r0
        have R1 := (hb4.cell (p := ⟨b, i * 3 + 1, none⟩) hblt).trans r1
        have R2 := (hb4.cell (p := ⟨b, i * 3 + 2, none⟩) hblt).trans r2
        have S0 := (hb4.frozen (p := ⟨b, i * 3, none⟩) hblt).trans s0
        have S1 := (hb4.frozen (p := ⟨b, i * 3 + 1, none⟩) hblt).trans s1
        have S2 := (hb4.frozen (p := ⟨b, i * 3 + 2, none⟩) hblt).trans s2
        have x0 := hq.cell 0
        have x1 := hq.cell 1
        have x2 := hq.cell 2
        have hqlt := hq.lt
        have hb3s : w.heap.size ≤ w3.heap.size := hb23.size
        have HB4 := Lib.hid hb4
        have HV10 := Lib.hid hv10
        have n1 : b ≠ bv := by omega
        have n2 : bv ≠ b := by omega
        have n3 : g ≠ bv := by omega
        have n4 : bv ≠ g := by omega
        have n5 : bv ≠ w3.heap.size := by omega
        have n6 : w3.heap.size ≠ bv := by omega
        have n7 : b ≠ w3.heap.size := by omega
        have n8 : w3.heap.size ≠ b := by omega
        have hg4 : g < w4.heap.size := by omega
        have hb4l : b < w4.heap.size := by omega
        have HX : Hid (bits .xor .u8 ((x.d[jn]).toNat : Int) (cc.toNat : Int) = ((x.d.getD jn 0 ^^^ cc).toNat : Int)) := by
          show _ = _
          rw [xor_u8, List.getD_eq_getElem?_getD, List.getElem?_eq_getElem hj2]
          rfl
        have HEND : Hid (RTo w (((((w4.setCell ⟨bv, jn, none⟩ (.int .u8 ((x.d.getD jn 0 ^^^ cc).toNat : Int)))).setCell ⟨b, i * 3, none⟩ (.int .i64 (x.a : Nat))).setCell ⟨b, i * 3 + 1, none⟩ (.int .i64 (x.b : Nat))).setCell ⟨b, i * 3 + 2, none⟩ (.slice (some ⟨bv, 0, none⟩) x.d.length kc)) R g { s with ps := s.ps.set i (spoil x jn cc) }) := by
          have h := HFIN.out (w4.setCell ⟨bv, jn, none⟩ (.int .u8 ((x.d.getD jn 0 ^^^ cc).toNat : Int))) ⟨x.a, x.b, some ⟨bv, 0, none⟩, kc, x.d.set jn (x.d.getD jn 0 ^^^ cc)⟩ (HB4.out.setCell (p := ⟨bv, jn, none⟩) hbw _) (by
            unfold Qk.v
            dsimp only
            rw [List.length_set]
            exact own_setb HV10.out _) rfl
          unfold Qk.v at h
          dsimp only at h
          rw [List.length_set] at h
          exact h
        clear hb23 hb4 hb34 hq hv10 hcv hv hv4 hv5 hv7 hb3 r0 r1 r2 s0 s1 s2 c1
        go_wp2_with fail
        clear hw4
        go_region
        go_wp2_with fail
        go_region
        go_wp2_with fail
        go_ret
        refine ⟨rfl, ?_⟩
        rw [HX.out]
        first
        | exact HEND.out
        | exact HEND.out.drew
        | exact HEND.out.drew.drew
    · rw [if_neg h0]
      have hj0 : j < 0 ∨ (0 ≤ j ∧ (x.d.length : Int) ≤ j) := by omega
      clear ha hw h hx hxe hpk h0
      rcases hj0 with h1 | ⟨h1, h2⟩
      · go_enter Try.func33, Try.ntmps33
        go_wp2_with fail
        refine HC.out.mono ?_
        rintro e w1 ⟨p, c, rfl, _, _, _, hb⟩
        have HB := Lib.hid (hb.alloc hb.size (.cells #[.int .i64 (x.a : Nat), .int .i64 (x.b : Nat), .slice p x.d.length c] 44))
        clear hb
        dsimp only
        go_wp2_with fail
        go_ret
        exact ⟨rfl, RTo.same HH.out HB.out⟩
      · have h3 : ¬ (j < 0) := by omega
        go_enter Try.func33, Try.ntmps33
        go_wp2_with fail
        refine HC.out.mono ?_
        rintro e w1 ⟨p, c, rfl, _, _, _, hb⟩
        have HB := Lib.hid (hb.alloc hb.size (.cells #[.int .i64 (x.a : Nat), .int .i64 (x.b : Nat), .slice p x.d.length c] 44))
        clear hb
        dsimp only
        go_wp2_with fail
        go_ret
        exact ⟨rfl, RTo.same HH.out HB.out⟩
end Go.Proofs.Ytdjgafemmihlgaa.lan
