/- The reference's Twice, Link, Heal, Drop. -/
import Derived.Test.YtdjgafemmihlgaaLanT
namespace Go.Proofs.Ytdjgafemmihlgaa.lan
open Go.RowKit
open Go.Proofs.Ytdjgafemmihlgaa.oct Go.Proofs.Ytdjgafemmihlgaa.ref Go.Proofs.Ytdjgafemmihlgaa.rows Go.Proofs.Ytdjgafemmihlgaa.rowg Go.Proofs.Ytdjgafemmihlgaa.trn
open Go.Lib (byteCells)

theorem sendP_add {s : LS} {x : Pk} (h : x.a < s.n ∧ x.b < s.n ∧ x.d.length ≤ 65544) : sendP s x.a x.b x.d = addP s x := by
  unfold sendP addP
  rw [if_neg (by rw [inN_iff.2 ⟨by omega, by omega⟩, inN_iff.2 ⟨by omega, by omega⟩]; rintro (h | h) <;> cases h), if_neg (by omega), Int.toNat_natCast, Int.toNat_natCast]
set_option maxRecDepth 100000 in
set_option maxHeartbeats 4000000 in
theorem rtwice_c {w : World} {R : Nat → Prop} {g : Nat} {s : LS} (h : RA w R g s) (hw : Wf s) (k : Int) (hk : I64 k) :
    Calls Try.prog 32 #[ptr g, .int .i64 k] w fun e w' => e = .returned (err (twiceP s k).1) ∧ RTo w w' R g (twiceP s k).2 := by
  have HC := Lib.hid (rat_c h hw k hk)
  have HH := Lib.hid h
  unfold twiceP
  unfold tellP at HC
  cases ha : atP s k with
  | none =>
    rw [ha] at HC
    dsimp only [zeroPk] at HC ⊢
    clear ha hw h
    go_enter Try.func32, Try.ntmps32
    go_wp2_with fail
    refine HC.out.mono ?_
    rintro e w1 ⟨p, c, rfl, _, _, _, hb⟩
    have HB := Lib.hid (hb.alloc hb.size (.cells #[.int .i64 0, .int .i64 0, .slice p 0 c] 44))
    clear hb
    dsimp only
    go_wp2_with fail
    go_ret
    exact ⟨rfl, RTo.same HH.out HB.out⟩
  | some i =>
    rw [ha] at HC
    dsimp only at HC ⊢
    obtain ⟨_, rfl, hi⟩ := atP_some ha
    have hx := hw.getD hi
    have HW := Lib.hid hw
    rw [← sendP_add hx]
    obtain ⟨x, hxe⟩ : ∃ x, s.ps.getD i zeroPk = x := ⟨_, rfl⟩
    rw [hxe] at HC hx ⊢
    obtain ⟨hx1, hx2, hx3⟩ := hx
    have hn32 := hw.hi
    clear ha hw h hxe
    go_enter Try.func32, Try.ntmps32
    go_wp2_with fail
    refine HC.out.mono ?_
    rintro e w1 ⟨p, c, rfl, hp, hn, _, hb⟩
    have hb2 := (Below.refl w1.heap.size w1).alloc (Nat.le_refl _) (.cells #[.int .i64 (x.a : Nat), .int .i64 (x.b : Nat), .slice p x.d.length c] 44)
    have HB := Lib.hid (bnext hb hb2)
    have HS := Lib.hid (rsend_c (HH.out.below HB.out) HW.out (x.a : Nat) (x.b : Nat) ⟨by omega, by omega⟩ ⟨by omega, by omega⟩ p c x.d (hp.below hb2) hn (by omega))
    obtain ⟨r, hr⟩ : ∃ r, sendP s (x.a : Nat) (x.b : Nat) x.d = r := ⟨_, rfl⟩
    rw [hr] at HS
    have HR := Lib.hid hr
    clear hb hb2 hp hn hr
    dsimp only
    go_wp2_with fail
    refine HS.out.mono ?_
    rintro e w3 ⟨rfl, ht⟩
    have HT := Lib.hid (ht.next HB.out)
    clear ht
    go_wp2_with fail
    go_ret
    rw [HR.out]
    exact ⟨rfl, HT.out⟩
theorem linkP_code {s : LS} {a b : Int} {v : Bool} (h1 : inN s.n a = true) (h2 : inN s.n b = true) (h : a ≠ b) : linkP s a b v = (0, { s with sh := linkS s.sh a.toNat b.toNat v, cn := s.cn + 1 }) := by
  unfold linkP
  rw [if_neg]
  rw [h1, h2]
  rintro (h4 | h4 | h4)
  · cases h4
  · cases h4
  · exact h h4
set_option maxRecDepth 100000 in
set_option maxHeartbeats 4000000 in
theorem rlink_c {w : World} {R : Nat → Prop} {g : Nat} {s : LS} (h : RA w R g s) (hw : Wf s) (a b : Int) (v : Bool) (ha : I64 a) (hb : I64 b) :
    Calls Try.prog 34 #[ptr g, .int .i64 a, .int .i64 b, .bool v] w fun e w' => e = .returned (err (linkP s a b v).1) ∧ RTo w w' R g (linkP s a b v).2 := by
  have HA := Lib.hid (rnode_c h hw a ha)
  have HB := Lib.hid (rnode_c h hw b hb)
  have HH := Lib.hid h
  have b1 := hw.hi
  have a1 := ha.1
  have a2 := ha.2
  have a3 := hb.1
  have a4 := hb.2
  cases h1 : inN s.n a with
  | false =>
    have HE : Hid (linkP s a b v = (6, s)) := by show _ = _; unfold linkP; rw [if_pos (Or.inl h1)]
    rw [HE.out]
    rw [h1] at HA
    clear h1 ha hb hw h
    go_enter Try.func34, Try.ntmps34
    go_wp2_with fail
    refine HA.out.mono ?_
    rintro e w1 ⟨rfl, rfl⟩
    go_wp2_with fail
    go_ret
    exact ⟨rfl, RTo.refl HH.out⟩
  | true =>
    rw [h1] at HA
    cases h2 : inN s.n b with
    | false =>
      have HE : Hid (linkP s a b v = (6, s)) := by show _ = _; unfold linkP; rw [if_pos (Or.inr (Or.inl h2))]
      rw [HE.out]
      rw [h2] at HB
      clear h1 h2 ha hb hw h
      go_enter Try.func34, Try.ntmps34
      go_wp2_with fail
      refine HA.out.mono ?_
      rintro e w1 ⟨rfl, rfl⟩
      go_wp2_with fail
      refine HB.out.mono ?_
      rintro e w1 ⟨rfl, rfl⟩
      go_wp2_with fail
      go_ret
      exact ⟨rfl, RTo.refl HH.out⟩
    | true =>
      rw [h2] at HB
      by_cases hne : a = b
      · have HE : Hid (linkP s a b v = (6, s)) := by show _ = _; unfold linkP; rw [if_pos (Or.inr (Or.inr hne))]
        rw [HE.out]
        have i0 : (a == b) = true := by rw [beq_iff_eq]; exact hne
        clear h1 h2 ha hb hw h hne
        go_enter Try.func34, Try.ntmps34
        go_wp2_with fail
        refine HA.out.mono ?_
        rintro e w1 ⟨rfl, rfl⟩
        go_wp2_with fail
        refine HB.out.mono ?_
        rintro e w1 ⟨rfl, rfl⟩
        go_wp2_with fail
        go_ret
        exact ⟨rfl, RTo.refl HH.out⟩
      · have HE := Lib.hid (linkP_code (v := v) h1 h2 hne)
        rw [HE.out]
        have hA := inN_iff.1 h1
        have hB := inN_iff.1 h2
        obtain ⟨x, rfl⟩ : ∃ x : Nat, a = x := ⟨a.toNat, by omega⟩
        obtain ⟨y, rfl⟩ : ∃ y : Nat, b = y := ⟨b.toNat, by omega⟩
        rw [Int.toNat_natCast, Int.toNat_natCast]
        have i0 : ((x : Int) == (y : Int)) = false := by rw [beq_eq_false_iff_ne]; exact hne
        have hx : x < 32 := by omega
        have hy : y < 32 := by omega
        have hxI : (x : Int) < 32 := by omega
        have hyI : (y : Int) < 32 := by omega
        obtain ⟨vw, qs, hM, hqs⟩ := h
        have hB1 := hM.blk
        have c1 := (hB1.cell (2 + x * 32 + y)).trans (rcells_at _ _ _ hx hy)
        have f1 := hB1.frozen (2 + x * 32 + y)
        have hB2 := hB1.set (2 + x * 32 + y) (.bool v)
        rw [rcells_set _ _ _ hy] at hB2
        have c2 := (hB2.cell (2 + y * 32 + x)).trans (rcells_at _ _ _ hy hx)
        have f2 := hB2.frozen (2 + y * 32 + x)
        have hB3 := hB2.set (2 + y * 32 + x) (.bool v)
        rw [rcells_set _ _ _ hx, upd_link] at hB3
        have ht : Turn (fun k => k = g) w ((w.setCell ⟨g, 2 + x * 32 + y, none⟩ (.bool v)).setCell ⟨g, 2 + y * 32 + x, none⟩ (.bool v)) := (Turn.set (S := fun k => k = g) _ _ _ _ rfl).next (Turn.set (S := fun k => k = g) _ _ _ _ rfl)
        have HT : Hid (RTo w ((w.setCell ⟨g, 2 + x * 32 + y, none⟩ (.bool v)).setCell ⟨g, 2 + y * 32 + x, none⟩ (.bool v)) R g { s with sh := linkS s.sh x y v, cn := s.cn + 1 }) := by
          refine ⟨R, ⟨vw, qs, ⟨hM.mem, fun k hk => Nat.lt_of_lt_of_le (hM.lt k hk) ht.size, hB3, ⟨own_turn hM.way.own ht fun b hb e => own_blk hM.way.own hM.blk (by decide) hb e, hM.way.foot, fun z hz => ?_⟩⟩, hqs⟩, ht.mono fun k _ e => e ▸ hM.mem, Grown.refl R w⟩
          have h3 := hM.way.each z hz
          exact ⟨own_turn h3.own ht fun b hb e => own_blk h3.own hM.blk (by decide) hb e, h3.foot⟩
        have hlt := hB1.lt
        clear h1 h2 ha hb hw hne hA hB hM hqs hB1 hB2 hB3 ht
        go_enter Try.func34, Try.ntmps34
        go_wp2_with fail
        refine HA.out.mono ?_
        rintro e w1 ⟨rfl, rfl⟩
        go_wp2_with fail
        refine HB.out.mono ?_
        rintro e w1 ⟨rfl, rfl⟩
        go_wp2_with fail
        go_ret
        exact ⟨rfl, HT.out⟩
end Go.Proofs.Ytdjgafemmihlgaa.lan
