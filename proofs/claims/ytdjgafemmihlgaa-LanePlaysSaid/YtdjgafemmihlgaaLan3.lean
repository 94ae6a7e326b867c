/- The developers' isNode, missing, unlinked, between, Count, bytes.Clone, copied. -/
import Derived.Test.YtdjgafemmihlgaaLan2
namespace Go.Proofs.Ytdjgafemmihlgaa.lan
open Go.RowKit
open Go.Proofs.Ytdjgafemmihlgaa.oct Go.Proofs.Ytdjgafemmihlgaa.ref Go.Proofs.Ytdjgafemmihlgaa.rows Go.Proofs.Ytdjgafemmihlgaa.rowg Go.Proofs.Ytdjgafemmihlgaa.trn
open Go.Lib (byteCells)

abbrev ptr (g : Nat) : Value := .pointer (some ⟨g, 0, none⟩)
abbrev err (n : Nat) : Value := .int .i64 (n : Nat)
def missP (s : LS) (k : Int) : Nat := if 0 ≤ k ∧ k < s.ps.length then 0 else 6
theorem LA.cells {w : World} {R : Nat → Prop} {g : Nat} {s : LS} (h : LA w R g s) : ∃ p c m, w.cell? ⟨g, 0, none⟩ = some (.int .i64 (s.n : Nat)) ∧ w.cell? ⟨g, 1, none⟩ = some (.slice p s.ps.length c) ∧ w.cell? ⟨g, 2, none⟩ = some (.map (some m)) := by
  obtain ⟨v, qs, m, cnt, D, h1, h2, _⟩ := h
  obtain ⟨p, c, rfl, _⟩ := h1.way.at
  rw [map_len h2] at h1
  exact ⟨p, c, m, h1.blk.cell 0, h1.blk.cell 1, h1.blk.cell 2⟩
set_option maxHeartbeats 1000000 in
theorem isnode_c {w : World} {R : Nat → Prop} {g : Nat} {s : LS} (h : LA w R g s) (hw : Wf s) (x : Int) (hx : I64 x) :
    Calls Try.prog 40 #[ptr g, .int .i64 x] w fun e w' => e = .returned (.bool (inN s.n x)) ∧ w = w' := by
  obtain ⟨p, c, m, c0, _, _⟩ := h.cells
  have b1 := hw.hi
  have a1 := hx.1
  have a2 := hx.2
  obtain ⟨n, hn⟩ : ∃ n, s.n = n := ⟨_, rfl⟩
  rw [hn] at c0 b1 ⊢
  clear h hw hn hx
  unfold inN
  by_cases h0 : 0 ≤ x
  · rw [decide_eq_true h0]
    go_enter Try.func40, Try.ntmps40
    go_wp2_with fail
    go_ret
    exact ⟨by simp, rfl⟩
  · rw [decide_eq_false h0]
    go_enter Try.func40, Try.ntmps40
    go_wp2_with fail
    go_ret
    exact ⟨by simp, rfl⟩
set_option maxHeartbeats 1000000 in
theorem missing_c {w : World} {R : Nat → Prop} {g : Nat} {s : LS} (h : LA w R g s) (hw : Wf s) (k : Int) (hk : I64 k) :
    Calls Try.prog 42 #[ptr g, .int .i64 k] w fun e w' => e = .returned (err (missP s k)) ∧ w = w' := by
  obtain ⟨p, c, m, _, c1, _⟩ := h.cells
  have b1 := hw.few
  have a1 := hk.1
  have a2 := hk.2
  unfold missP
  obtain ⟨n, hn⟩ : ∃ n, s.ps.length = n := ⟨_, rfl⟩
  rw [hn] at c1 b1 ⊢
  clear h hw hn hk
  by_cases h0 : k < 0
  · rw [if_neg (by omega)]
    go_enter Try.func42, Try.ntmps42
    go_wp2_with fail
    go_ret
    exact ⟨rfl, rfl⟩
  · by_cases h1 : k < n
    · rw [if_pos ⟨by omega, h1⟩]
      have h2 : ¬ ((n : Int) ≤ k) := by omega
      have h3 : 0 ≤ k := by omega
      go_enter Try.func42, Try.ntmps42
      go_wp2_with fail
      go_ret
      exact ⟨rfl, rfl⟩
    · rw [if_neg (by omega)]
      have h2 : (n : Int) ≤ k := by omega
      have h3 : 0 ≤ k := by omega
      go_enter Try.func42, Try.ntmps42
      go_wp2_with fail
      go_ret
      exact ⟨rfl, rfl⟩
theorem missing_nil (w : World) (k : Int) : Calls Try.prog 42 #[.pointer none, .int .i64 k] w fun e w' => e = .returned (err 12) ∧ w = w' := by
  go_enter Try.func42, Try.ntmps42
  go_wp2_with fail
  go_ret
  exact ⟨rfl, rfl⟩
theorem unlinked_nil (w : World) (a b : Int) : Calls Try.prog 38 #[.pointer none, .int .i64 a, .int .i64 b] w fun e w' => e = .returned (err 12) ∧ w = w' := by
  go_enter Try.func38, Try.ntmps38
  go_wp2_with fail
  go_ret
  exact ⟨rfl, rfl⟩
def offP (s : LS) (a b : Int) : Nat := if inN s.n a = false ∨ inN s.n b = false ∨ a = b then 6 else 0
set_option maxHeartbeats 1000000 in
theorem unlinked_c {w : World} {R : Nat → Prop} {g : Nat} {s : LS} (h : LA w R g s) (hw : Wf s) (a b : Int) (ha : I64 a) (hb : I64 b) :
    Calls Try.prog 38 #[ptr g, .int .i64 a, .int .i64 b] w fun e w' => e = .returned (err (offP s a b)) ∧ w = w' := by
  have HA := Lib.hid (isnode_c h hw a ha)
  have HB := Lib.hid (isnode_c h hw b hb)
  clear h hw
  unfold offP
  have a1 := ha.1
  have a2 := ha.2
  have a3 := hb.1
  have a4 := hb.2
  cases h1 : inN s.n a with
  | false =>
    rw [if_pos (Or.inl rfl)]
    rw [h1] at HA
    clear h1 ha hb
    go_enter Try.func38, Try.ntmps38
    go_wp2_with fail
    refine HA.out.mono ?_
    rintro e w1 ⟨rfl, rfl⟩
    go_wp2_with fail
    go_ret
    exact ⟨rfl, rfl⟩
  | true =>
    rw [h1] at HA
    cases h2 : inN s.n b with
    | false =>
      rw [if_pos (Or.inr (Or.inl rfl))]
      rw [h2] at HB
      clear h1 h2 ha hb
      go_enter Try.func38, Try.ntmps38
      go_wp2_with fail
      refine HA.out.mono ?_
      rintro e w1 ⟨rfl, rfl⟩
      go_wp2_with fail
      refine HB.out.mono ?_
      rintro e w1 ⟨rfl, rfl⟩
      go_wp2_with fail
      go_ret
      exact ⟨rfl, rfl⟩
    | true =>
      rw [h2] at HB
      clear h1 h2 ha hb
      by_cases h3 : a = b
      · rw [if_pos (Or.inr (Or.inr h3))]
        have i0 : (a == b) = true := by rw [beq_iff_eq]; exact h3
        clear h3
        go_enter Try.func38, Try.ntmps38
        go_wp2_with fail
        refine HA.out.mono ?_
        rintro e w1 ⟨rfl, rfl⟩
        go_wp2_with fail
        refine HB.out.mono ?_
        rintro e w1 ⟨rfl, rfl⟩
        go_wp2_with fail
        go_ret
        exact ⟨rfl, rfl⟩
      · rw [if_neg (by rintro (h4 | h4 | h4); cases h4; cases h4; exact h3 h4)]
        have i0 : (a == b) = false := by rw [beq_eq_false_iff_ne]; exact h3
        clear h3
        go_enter Try.func38, Try.ntmps38
        go_wp2_with fail
        refine HA.out.mono ?_
        rintro e w1 ⟨rfl, rfl⟩
        go_wp2_with fail
        refine HB.out.mono ?_
        rintro e w1 ⟨rfl, rfl⟩
        go_wp2_with fail
        go_ret
        exact ⟨rfl, rfl⟩
theorem count_c {w : World} {R : Nat → Prop} {g : Nat} {s : LS} (h : LA w R g s) :
    Calls Try.prog 17 #[ptr g] w fun e w' => e = .returned (err s.ps.length) ∧ w = w' := by
  obtain ⟨p, c, m, _, c1, _⟩ := h.cells
  clear h
  go_enter Try.func17, Try.ntmps17
  go_wp2_with fail
  go_ret
  exact ⟨rfl, rfl⟩
theorem count_nil (w : World) : Calls Try.prog 17 #[.pointer none] w fun e w' => e = .returned (err 0) ∧ w = w' := by
  go_enter Try.func17, Try.ntmps17
  go_wp2_with fail
  go_ret
  exact ⟨rfl, rfl⟩
theorem infoLink : (Try.prog.info? 71).map (·.size) = some 2 := by kernel_rfl
theorem infoPk : (Try.prog.info? 44).map (·.size) = some 3 := by kernel_rfl
set_option maxHeartbeats 1000000 in
theorem between_c (w : World) (a b : Nat) :
    Calls Try.prog 39 #[.int .i64 (a : Nat), .int .i64 (b : Nat)] w fun e w' => e = .returned (lkv a b) ∧ Below w.heap.size w w' := by
  obtain ⟨x, hx⟩ : ∃ x, min a b = x := ⟨_, rfl⟩
  obtain ⟨y, hy⟩ : ∃ y, max a b = y := ⟨_, rfl⟩
  unfold lkv
  rw [hx, hy]
  rcases Nat.lt_trichotomy a b with h | rfl | h
  · obtain rfl : a = x := by omega
    obtain rfl : b = y := by omega
    have h' : ¬ b < a := by omega
    clear hx hy
    go_enter Try.func39, Try.ntmps39
    go_wp2_with fail
    refine bodyPost_ret (results_blk Try.results39 _ _ w.heap.size 71 [.int .i64 (a : Nat), .int .i64 (b : Nat)] _ rfl (blk_new w _ _ _ rfl) Try.underlying71 rfl infoLink) rfl ?_
    exact ⟨rfl, (Below.refl _ _).alloc (Nat.le_refl _) _⟩
  · obtain rfl : a = x := by omega
    obtain rfl : a = y := by omega
    have h' : ¬ a < a := by omega
    clear hx hy
    go_enter Try.func39, Try.ntmps39
    go_wp2_with fail
    refine bodyPost_ret (results_blk Try.results39 _ _ w.heap.size 71 [.int .i64 (a : Nat), .int .i64 (a : Nat)] _ rfl (blk_new w _ _ _ rfl) Try.underlying71 rfl infoLink) rfl ?_
    exact ⟨rfl, (Below.refl _ _).alloc (Nat.le_refl _) _⟩
  · obtain rfl : b = x := by omega
    obtain rfl : a = y := by omega
    have h' : ¬ a < b := by omega
    clear hx hy
    go_enter Try.func39, Try.ntmps39
    go_wp2_with fail
    refine bodyPost_ret (results_blk Try.results39 _ _ w.heap.size 71 [.int .i64 (b : Nat), .int .i64 (a : Nat)] _ rfl (blk_new w _ _ _ rfl) Try.underlying71 rfl infoLink) rfl ?_
    exact ⟨rfl, (Below.refl _ _).alloc (Nat.le_refl _) _⟩
theorem own_slice {w : World} {B e k n : Nat} {v : Value} {xs : List Value} (h : w.ownsRow B e k v n xs) : ∃ p c, v = .slice p n c := by
  rcases h.2 with ⟨h1, h2⟩ | ⟨g, cap, cur, h1, _⟩
  · exact ⟨none, 0, by rw [h1, h2]⟩
  · exact ⟨_, _, h1⟩
theorem own_base {w : World} {B B2 e k n : Nat} {v : Value} {xs : List Value} (h : w.ownsRow B e k v n xs) (hb : B2 ≤ B) : w.ownsRow B2 e k v n xs := by
  refine ⟨h.1, ?_⟩
  rcases h.2 with h2 | ⟨g, cap, cur, h1, h2, h3⟩
  · exact Or.inl h2
  · exact Or.inr ⟨g, cap, cur, h1, Nat.le_trans hb h2, h3⟩
/-- new bytes -/
def NewB (w w' : World) (d : T) (v : Value) : Prop := w'.ownsRow w.heap.size 5 1 v d.length (byteCells d) ∧ Below w.heap.size w w'
set_option maxHeartbeats 4000000 in
theorem clone_c (w : World) (p : Option Addr) (c : Nat) (d : T) (hp : In8 w p d) (hn : p = none → c = 0) (hd : d.length ≤ 140737488355328) :
    Calls Try.prog 48 #[.slice p d.length c] w fun e w' => ∃ v, e = .returned v ∧ NewB w w' d v := by
  rcases p with _ | ad
  · obtain rfl := in8_nil hp
    obtain rfl := hn rfl
    have heq : ∀ w : World, (binOp .eql 35 (.slice none 0 0) (.slice none 0 0)).run Try.prog w = .ok (.bool true) w := fun w => by kernel_rfl
    clear hp hn
    go_enter Try.func48, Try.ntmps48
    go_wp2_with fail
    go_ret
    exact ⟨_, rfl, ⟨by simp [byteCells], Or.inl ⟨rfl, rfl⟩⟩, Below.refl _ _⟩
  · have H8 := Lib.hid hp
    have heq : ∀ w : World, (binOp .eql 35 (.slice (some ad) d.length c) (.slice none 0 0)).run Try.prog w = .ok (.bool false) w := fun w => Lib.run_eql_slice_nil w 35 5 _ _ _ 0 0 Try.underlying35
    have hb0 : Below w.heap.size w (w.alloc (.cells #[] 5)) := (Below.refl _ w).alloc (Nat.le_refl _) _
    have HB0 := Lib.hid hb0
    clear hp hb0 hn
    go_enter Try.func48, Try.ntmps48
    go_wp2_with (at_builtin; refine wpList_append_in8 rfl (.tmp 5) (.tmp 6) rfl w.heap.size _ 0 [] rfl (own_nil w) (some ad) d.length c d rfl (H8.out.below HB0.out) rfl (fun h => by cases h) (by omega) HB0.out.size ?_; intro v1 w1 hown hbb; have hb1 := hbb w HB0.out (Nat.le_refl _); have HO := Lib.hid hown; have HB := Lib.hid hb1; clear hown hbb hb1)
    go_ret
    refine ⟨_, rfl, ?_, HB.out⟩
    have h := HO.out
    rw [Nat.zero_add, List.nil_append] at h
    exact h
/-- a copy of a packet -/
def NewQ (w w' : World) (x : Pk) (e : Ending) : Prop := ∃ v, e = .returned (.agg #[.int .i64 (x.a : Nat), .int .i64 (x.b : Nat), v]) ∧ NewB w w' x.d v
set_option maxRecDepth 100000 in
set_option maxHeartbeats 4000000 in
theorem copied_c (w : World) (x : Qk) (hp : In8 w x.p x.d) (hn : x.p = none → x.c = 0) (hd : x.d.length ≤ 140737488355328) :
    Calls Try.prog 45 #[.agg (qenc x).toArray] w fun e w' => NewQ w w' x.f e := by
  obtain ⟨a, b, p, c, d⟩ := x
  dsimp only at hp hn hd
  have HP := Lib.hid hp
  have HN := Lib.hid hn
  unfold qenc
  dsimp only
  clear hp hn
  have hB1 : Blk ((w.alloc (.cells #[.int .i64 (a : Nat), .int .i64 (b : Nat), .slice p d.length c] 44)).alloc (.cells #[.int .i64 0, .int .i64 0, .slice none 0 0] 44)) w.heap.size 44 [.int .i64 (a : Nat), .int .i64 (b : Nat), .slice p d.length c] := blk_old (blk_new w _ _ _ rfl) _
  have hB2 := blk_new (w.alloc (.cells #[.int .i64 (a : Nat), .int .i64 (b : Nat), .slice p d.length c] 44)) #[.int .i64 0, .int .i64 0, .slice none 0 0] 44 [.int .i64 0, .int .i64 0, .slice none 0 0] rfl
  rw [show (w.alloc (.cells #[.int .i64 (a : Nat), .int .i64 (b : Nat), .slice p d.length c] 44)).heap.size = w.heap.size + 1 by simp] at hB2
  have hbl := ((Below.refl w.heap.size w).alloc (Nat.le_refl _) (.cells #[.int .i64 (a : Nat), .int .i64 (b : Nat), .slice p d.length c] 44))
  have hbl2 := hbl.alloc hbl.size (.cells #[.int .i64 0, .int .i64 0, .slice none 0 0] 44)
  have HC := Lib.hid (clone_c ((w.alloc (.cells #[.int .i64 (a : Nat), .int .i64 (b : Nat), .slice p d.length c] 44)).alloc (.cells #[.int .i64 0, .int .i64 0, .slice none 0 0] 44)) p c d (HP.out.below hbl2) HN.out hd)
  have HS : Hid (((w.alloc (.cells #[.int .i64 (a : Nat), .int .i64 (b : Nat), .slice p d.length c] 44)).alloc (.cells #[.int .i64 0, .int .i64 0, .slice none 0 0] 44)).heap.size = w.heap.size + 2) := by show _ = _; simp
  have HB1 := Lib.hid hB1
  have HB2 := Lib.hid hB2
  have HBL := Lib.hid hbl2
  clear hB1 hB2 hbl hbl2
  go_enter Try.func45, Try.ntmps45
  go_wp2_with fail
  refine HC.out.mono ?_
  rintro e w2 ⟨v, rfl, hv⟩
  unfold NewB at hv
  rw [HS.out] at hv
  obtain ⟨hv, hb2⟩ := hv
  have hb2' : Below ((w.alloc (.cells #[.int .i64 (a : Nat), .int .i64 (b : Nat), .slice p d.length c] 44)).alloc (.cells #[.int .i64 0, .int .i64 0, .slice none 0 0] 44)).heap.size ((w.alloc (.cells #[.int .i64 (a : Nat), .int .i64 (b : Nat), .slice p d.length c] 44)).alloc (.cells #[.int .i64 0, .int .i64 0, .slice none 0 0] 44)) w2 := by rw [HS.out]; exact hb2
  have hB1 := HB1.out.below hb2'
  have hB2 := HB2.out.below hb2'
  have hbw := bnext HBL.out hb2'
  obtain ⟨q, k, rfl⟩ := own_slice hv
  have HV := Lib.hid hv
  have HW := Lib.hid hbw
  have H1 := Lib.hid hB1
  have H2 := Lib.hid hB2
  have c0 := hB1.cell 0
  have c1 := hB1.cell 1
  have c2 := hB1.cell 2
  have f2 := hB1.frozen 2
  have g0 := hB2.frozen 0
  have g1 := hB2.frozen 1
  have g2 := hB2.frozen 2
  have d0 := hB2.cell 0
  have d1 := hB2.cell 1
  have d2 := hB2.cell 2
  have l1 := hB1.lt
  have l2 := hB2.lt
  clear hv hb2 hb2' hB1 hB2 hbw
  go_wp2_with fail
  refine bodyPost_ret (results_blk Try.results45 _ _ (w.heap.size + 1) 44 [.int .i64 (a : Nat), .int .i64 (b : Nat), .slice q d.length k] _ rfl ((((H2.out.set_other (by omega) 2 _).set 0 _).set 1 _).set 2 _) Try.underlying44 rfl infoPk) rfl ?_
  have ht : Turn (fun i => i < w.heap.size + 2) w2 ((((w2.setCell ⟨w.heap.size, 2, none⟩ (.slice q d.length k)).setCell ⟨w.heap.size + 1, 0, none⟩ (.int .i64 (a : Nat))).setCell ⟨w.heap.size + 1, 1, none⟩ (.int .i64 (b : Nat))).setCell ⟨w.heap.size + 1, 2, none⟩ (.slice q d.length k)) :=
    (((Turn.set _ _ _ _ (by omega)).next (Turn.set _ _ _ _ (by omega))).next (Turn.set _ _ _ _ (by omega))).next (Turn.set _ _ _ _ (by omega))
  refine ⟨_, rfl, own_base (own_turn HV.out ht fun i hi => ?_) (show w.heap.size ≤ w.heap.size + 2 by omega), ?_⟩
  · have := (HV.out.lt i hi).1
    omega
  · exact (((HW.out.setCell (p := ⟨w.heap.size, 2, none⟩) (Nat.le_refl _) _).setCell (p := ⟨w.heap.size + 1, 0, none⟩) (Nat.le_succ _) _).setCell (p := ⟨w.heap.size + 1, 1, none⟩) (Nat.le_succ _) _).setCell (p := ⟨w.heap.size + 1, 2, none⟩) (Nat.le_succ _) _
end Go.Proofs.Ytdjgafemmihlgaa.lan
