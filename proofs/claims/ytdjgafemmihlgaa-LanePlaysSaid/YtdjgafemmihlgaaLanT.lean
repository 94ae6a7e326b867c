/- The reference's At, Send, Twice, Link, Heal. -/
import Derived.Test.YtdjgafemmihlgaaLanS
namespace Go.Proofs.Ytdjgafemmihlgaa.lan
open Go.RowKit
open Go.Proofs.Ytdjgafemmihlgaa.oct Go.Proofs.Ytdjgafemmihlgaa.ref Go.Proofs.Ytdjgafemmihlgaa.rows Go.Proofs.Ytdjgafemmihlgaa.rowg Go.Proofs.Ytdjgafemmihlgaa.trn
open Go.Lib (byteCells)

/-- a packet more -/
theorem RM.added {w w1 w2 : World} {R : Nat → Prop} {g n : Nat} {v v2 : Value} {qs : List Qk} {f : Nat → Nat → Bool} (h : RM w R g v qs n f) (hb : Below w.heap.size w w1) (y : Qk)
    (hnv : w1.ownsRow w.heap.size 5 1 y.v y.d.length (byteCells y.d)) (o : Obj) (hg : (w1.alloc o).grownBy w2 v.ownBlock) (how : w2.ownsRow 0 44 3 v2 (qs.length + 1) (cells qenc qs ++ qenc y)) (hv2 : ∀ b, v2.ownBlock = some b → v.ownBlock = some b ∨ w.heap.size ≤ b) :
    ∃ R', RM (w2.setCell ⟨g, 1, none⟩ v2) R' g v2 (qs ++ [y]) n f ∧ Turn R w (w2.setCell ⟨g, 1, none⟩ v2) ∧ Grown R R' w := by
  have t1 : Turn (fun k => v.ownBlock = some k ∨ k = g) w w1 := Turn.of_below hb
  have t2 : Turn (fun k => v.ownBlock = some k ∨ k = g) w1 (w1.alloc o) := Turn.alloc _ _ _
  have t3 : Turn (fun k => v.ownBlock = some k ∨ k = g) (w1.alloc o) w2 := Turn.of_row hg fun b e => Or.inl e
  have t4 : Turn (fun k => v.ownBlock = some k ∨ k = g) w2 (w2.setCell ⟨g, 1, none⟩ v2) := Turn.set _ _ _ _ (Or.inr rfl)
  have ht := ((t1.next t2).next t3).next t4
  have hgv : v.ownBlock ≠ some g := fun e => own_blk h.way.own h.blk (by decide) e rfl
  have hB2 : Blk w2 g 33 (rcells n v f) :=
    blk_turn (S := fun k => v.ownBlock = some k) h.blk (((Turn.of_below hb).next (Turn.alloc _ _ _)).next (Turn.of_row hg fun b e => e)) hgv
  have hvlt : ∀ b, v.ownBlock = some b → b < w.heap.size := fun b e => (h.way.own.lt b e).2
  have hcells : cells qenc qs ++ qenc y = cells qenc (qs ++ [y]) := by rw [cells_append, cells_one]
  have hlt3 : ∀ k, R k → k < (w2.setCell ⟨g, 1, none⟩ v2).heap.size := fun k hk => Nat.lt_of_lt_of_le (h.lt k hk) ht.size
  refine ⟨fun k => R k ∨ (w.heap.size ≤ k ∧ k < (w2.setCell ⟨g, 1, none⟩ v2).heap.size), ⟨Or.inl h.mem, ?_, ?_, ⟨?_, ?_, ?_⟩⟩, ?_, ?_⟩
  · rintro k (hk | hk)
    · exact hlt3 k hk
    · exact hk.2
  · rw [← rcells_set1 n v v2 f]; exact hB2.set 1 v2
  · rw [← hcells, List.length_append, List.length_singleton]
    exact own_turn how (Turn.set (S := fun k => k = g) _ _ _ _ rfl) fun b e he => own_blk how hB2 (by decide) e he
  · intro b e
    rcases hv2 b e with h1 | h1
    · exact Or.inl (h.way.foot b h1)
    · refine Or.inr ⟨h1, ?_⟩
      have := (how.lt b e).2
      simpa using this
  · intro x hx
    rw [List.mem_append, List.mem_singleton] at hx
    rcases hx with hx | rfl
    · have h1 := h.way.each x hx
      refine ⟨own_turn h1.own ht fun b e => ?_, fun b e => Or.inl (h1.foot b e)⟩
      rintro (h2 | h2)
      · exact own_apart h1.own h.way.own (by decide) e h2
      · exact own_blk h1.own h.blk (by decide) e h2
    · have ht2 := (t2.next t3).next t4
      refine ⟨own_turn (own_base hnv (Nat.zero_le _)) ht2 fun b e => ?_, fun b e => Or.inr ⟨(hnv.lt b e).1, Nat.lt_of_lt_of_le (hnv.lt b e).2 ht2.size⟩⟩
      have h3 := (hnv.lt b e).1
      rintro (h2 | h2)
      · have := hvlt b h2; omega
      · have := h.lt g h.mem; omega
  · exact ht.mono fun k _ hk => hk.elim (h.way.foot k) (fun e => e ▸ h.mem)
  · exact fun k hk => hk.imp id fun e => e.1
/-- a packet that the reference tells: its bytes can be read -/
def RTook (w w2 : World) (R : Nat → Prop) (g : Nat) (x : Pk) (n : Nat) (e : Ending) : Prop := ∃ p c, e = .returned (.tuple #[.agg #[.int .i64 (x.a : Nat), .int .i64 (x.b : Nat), .slice p x.d.length c], err n]) ∧ In8 w2 p x.d ∧ (p = none → c = 0) ∧ (∀ b o z, p = some ⟨b, o, z⟩ → R b ∧ b ≠ g) ∧ Below w.heap.size w w2
set_option maxRecDepth 100000 in
set_option maxHeartbeats 4000000 in
theorem rat_c {w : World} {R : Nat → Prop} {g : Nat} {s : LS} (h : RA w R g s) (hw : Wf s) (k : Int) (hk : I64 k) :
    Calls Try.prog 37 #[ptr g, .int .i64 k] w fun e w' => RTook w w' R g (tellP s k).1 (tellP s k).2 e := by
  have hb0 := (Below.refl w.heap.size w).alloc (Nat.le_refl _) (.cells #[.int .i64 0, .int .i64 0, .slice none 0 0] 44)
  have hB0 := blk_new w #[.int .i64 0, .int .i64 0, .slice none 0 0] 44 [.int .i64 0, .int .i64 0, .slice none 0 0] rfl
  have HB0 := Lib.hid hB0
  have HBL := Lib.hid hb0
  have a1 := hk.1
  have a2 := hk.2
  have b2 := hw.few
  unfold tellP
  cases ha : atP s k with
  | none =>
    dsimp only
    have hn := atP_none ha
    obtain ⟨p, c, _, c1, _⟩ := h.cells
    have hg : g < w.heap.size := by obtain ⟨_, _, h1, _⟩ := h; exact h1.blk.lt
    have hg0 : g ≠ w.heap.size := Nat.ne_of_lt hg
    have hg1 : w.heap.size ≠ g := Nat.ne_of_gt hg
    have HZ : Hid (RTook w (w.alloc (.cells #[.int .i64 0, .int .i64 0, .slice none 0 0] 44)) R g zeroPk 6 (.returned (.tuple #[.agg #[.int .i64 0, .int .i64 0, .slice none 0 0], err 6]))) := ⟨none, 0, rfl, (fun h => absurd h (by simp [zeroPk])), fun _ => rfl, (fun b o z e => by cases e), hb0⟩
    rcases (show k < 0 ∨ (0 ≤ k ∧ (s.ps.length : Int) ≤ k) by omega) with h1 | ⟨h1, h2⟩
    · clear ha hw h hb0 hB0 hn
      go_enter Try.func37, Try.ntmps37
      go_wp2_with fail
      refine bodyPost_ret (results_rowtmp Try.results37 _ _ w.heap.size 44 [.int .i64 0, .int .i64 0, .slice none 0 0] _ rfl rfl (blk_new w _ _ _ rfl) Try.underlying44 rfl infoPk) rfl ?_
      exact HZ.out
    · have h3 : ¬ (k < 0) := by omega
      clear ha hw h hb0 hB0 hn
      go_enter Try.func37, Try.ntmps37
      go_wp2_with fail
      refine bodyPost_ret (results_rowtmp Try.results37 _ _ w.heap.size 44 [.int .i64 0, .int .i64 0, .slice none 0 0] _ rfl rfl (blk_new w _ _ _ rfl) Try.underlying44 rfl infoPk) rfl ?_
      exact HZ.out
  | some i =>
    dsimp only
    obtain ⟨_, rfl, hi⟩ := atP_some ha
    obtain ⟨b, c, x, c1, hlc, hxf, hqo, d0, d1, d2, hb, hg⟩ := h.pk hi
    rw [hxf]
    have i1 : (0 : Int) ≤ i := by omega
    have i2 : (i : Int) < s.ps.length := by omega
    have i3 : ¬ ((i : Int) < 0) := by omega
    have i4 : ¬ ((s.ps.length : Int) ≤ i) := by omega
    have hg0 : g ≠ w.heap.size := Nat.ne_of_lt hg
    have hg1 : w.heap.size ≠ g := Nat.ne_of_gt hg
    have hb1 : b ≠ w.heap.size := Nat.ne_of_lt hb
    have hb2 : w.heap.size ≠ b := Nat.ne_of_gt hb
    have ht : Turn (fun i => i = w.heap.size) (w.alloc (.cells #[.int .i64 0, .int .i64 0, .slice none 0 0] 44)) (w.alloc (.cells #[.int .i64 (x.a : Nat), .int .i64 (x.b : Nat), .slice x.p x.d.length x.c] 44)) := ⟨rfl, rfl, rfl, by simp, fun k hk hn => by rw [World.alloc, World.alloc]; simp at hk ⊢; rw [Array.getElem?_push_lt (by omega), Array.getElem?_push_lt (by omega)]⟩
    have hb9 := (Below.refl w.heap.size w).alloc (Nat.le_refl _) (.cells #[.int .i64 (x.a : Nat), .int .i64 (x.b : Nat), .slice x.p x.d.length x.c] 44)
    have HZ : Hid (RTook w (w.alloc (.cells #[.int .i64 (x.a : Nat), .int .i64 (x.b : Nat), .slice x.p x.d.length x.c] 44)) R g x.f 0 (.returned (.tuple #[.agg #[.int .i64 (x.a : Nat), .int .i64 (x.b : Nat), .slice x.p x.d.length x.c], err 0]))) :=
      ⟨x.p, x.c, rfl, hqo.in8.below hb9, hqo.room.2, (fun b o z e => ⟨hqo.foot b (by unfold Qk.v; rw [e]; rfl), by obtain ⟨_, _, h1, _⟩ := h; exact own_blk hqo.own h1.blk (by decide) (by unfold Qk.v; rw [e]; rfl)⟩), hb9⟩
    clear ha hxf hqo hw h hB0 hb0 ht hb9
    go_enter Try.func37, Try.ntmps37
    go_wp2_with fail
    refine bodyPost_ret (results_rowtmp Try.results37 _ _ w.heap.size 44 [.int .i64 (x.a : Nat), .int .i64 (x.b : Nat), .slice x.p x.d.length x.c] _ rfl rfl (blk_new w _ _ _ rfl) Try.underlying44 rfl infoPk) rfl ?_
    exact HZ.out
set_option maxRecDepth 100000 in
set_option maxHeartbeats 8000000 in
theorem rsend_c {w : World} {R : Nat → Prop} {g : Nat} {s : LS} (h : RA w R g s) (hw : Wf s) (a b : Int) (ha : I64 a) (hb : I64 b) (p : Option Addr) (c : Nat) (d : T) (hp : In8 w p d) (hn : p = none → c = 0) (hd : d.length ≤ 140737488355328) :
    Calls Try.prog 28 #[ptr g, .int .i64 a, .int .i64 b, .slice p d.length c] w fun e w' => e = .returned (err (sendP s a b d).1) ∧ RTo w w' R g (sendP s a b d).2 := by
  have HA := Lib.hid (rnode_c h hw a ha)
  have HB := Lib.hid (rnode_c h hw b hb)
  have HH := Lib.hid h
  have b2 := hw.few
  obtain ⟨v, qs, hM, hqs⟩ := h
  have hl := map_len hqs
  obtain ⟨pw, cw, rfl, hlc, hpc, _⟩ := hM.way.at
  have hglt := hM.blk.lt
  have c1 : w.cell? ⟨g, 1, none⟩ = some (.slice pw qs.length cw) := hM.blk.cell 1
  unfold sendP
  have a1 := ha.1
  have a2 := ha.2
  have a3 := hb.1
  have a4 := hb.2
  cases h1 : inN s.n a with
  | false =>
    rw [if_pos (Or.inl rfl)]
    rw [h1] at HA
    clear h1 ha hb hM hqs hl hw hp hn
    go_enter Try.func28, Try.ntmps28
    go_wp2_with fail
    refine HA.out.mono ?_
    rintro e w1 ⟨rfl, rfl⟩
    go_wp2_with fail
    go_ret
    exact ⟨rfl, RTo.refl HH.out⟩
  | true =>
    rw [h1] at HA
    cases h2 : inN s.n b with
    | false =>
      rw [if_pos (Or.inr rfl)]
      rw [h2] at HB
      clear h1 h2 ha hb hM hqs hl hw hp hn
      go_enter Try.func28, Try.ntmps28
      go_wp2_with fail
      refine HA.out.mono ?_
      rintro e w1 ⟨rfl, rfl⟩
      go_wp2_with fail
      refine HB.out.mono ?_
      rintro e w1 ⟨rfl, rfl⟩
      go_wp2_with fail
      go_ret
      exact ⟨rfl, RTo.refl HH.out⟩
    | true =>
      rw [h2] at HB
      have hA := inN_iff.1 h1
      have hB := inN_iff.1 h2
      rw [if_neg (by rintro (h4 | h4) <;> cases h4)]
      obtain ⟨x, rfl⟩ : ∃ x : Nat, a = x := ⟨a.toNat, by omega⟩
      obtain ⟨y, rfl⟩ : ∃ y : Nat, b = y := ⟨b.toNat, by omega⟩
      rw [Int.toNat_natCast, Int.toNat_natCast]
      clear h1 h2 ha hb hA hB
      by_cases h3 : 65544 < d.length
      · rw [if_pos h3]
        have i0 : (d.length : Int) > 65544 := by omega
        clear h3 hM hqs hl hw hp hn
        go_enter Try.func28, Try.ntmps28
        go_wp2_with fail
        refine HA.out.mono ?_
        rintro e w1 ⟨rfl, rfl⟩
        go_wp2_with fail
        refine HB.out.mono ?_
        rintro e w1 ⟨rfl, rfl⟩
        go_wp2_with fail
        go_ret
        exact ⟨rfl, RTo.refl HH.out⟩
      · rw [if_neg h3]
        have i0 : ¬ ((d.length : Int) > 65544) := by omega
        by_cases h0 : 4096 ≤ s.ps.length
        · rw [if_pos h0]
          have i1 : (qs.length : Int) ≥ 4096 := by omega
          clear h3 h0 hM hqs hl hw hp hn
          go_enter Try.func28, Try.ntmps28
          go_wp2_with fail
          refine HA.out.mono ?_
          rintro e w1 ⟨rfl, rfl⟩
          go_wp2_with fail
          refine HB.out.mono ?_
          rintro e w1 ⟨rfl, rfl⟩
          go_wp2_with fail
          go_ret
          exact ⟨rfl, RTo.refl HH.out⟩
        · rw [if_neg h0]
          have i1 : ¬ ((qs.length : Int) ≥ 4096) := by omega
          have hq : qs.length < 4096 := by omega
          have HC := Lib.hid (fun W (hb : Below w.heap.size w W) => rown_c W ⟨x, y, p, c, d⟩ (hp.below hb) hn hd)
          unfold qenc NewQ at HC
          dsimp only [Qk.f] at HC ⊢
          have HOW : Hid (∀ w1, Below w.heap.size w w1 → w1.ownsRow 0 44 3 (.slice pw qs.length cw) qs.length (cells qenc qs)) := fun w1 hb => own_turn (S := fun _ => False) hM.way.own (Turn.of_below hb) fun _ _ => id
          have HB1 : Hid (∀ w1, Below w.heap.size w w1 → Blk w1 g 33 (rcells s.n (.slice pw qs.length cw) s.sh)) := fun w1 hb => hM.blk.below hb
          have HNG : Hid ((Value.slice pw qs.length cw).ownBlock ≠ some g) := fun e => own_blk hM.way.own hM.blk (by decide) e rfl
          obtain ⟨j0, hj, hy0, hy1, hy2⟩ := info_parts infoPks
          have HFIN : Hid (∀ (w1 w2 : World) (z : Qk) (v2 : Value) (o : Obj), Below w.heap.size w w1 → w1.ownsRow w.heap.size 5 1 z.v z.d.length (byteCells z.d) → (w1.alloc o).grownBy w2 (Value.slice pw qs.length cw).ownBlock → w2.ownsRow 0 44 3 v2 (qs.length + 1) (cells qenc qs ++ qenc z) → (∀ b, v2.ownBlock = some b → (Value.slice pw qs.length cw).ownBlock = some b ∨ w.heap.size ≤ b) → z.f = ⟨x, y, d⟩ → RTo w (w2.setCell ⟨g, 1, none⟩ v2) R g { s with ps := s.ps ++ [⟨x, y, d⟩] }) := by
            intro w1 w2 z v2 o e1 e2 e3 e4 e5 e6
            obtain ⟨R', r1, r2, r3⟩ := hM.added e1 z e2 o e3 e4 e5
            exact ⟨R', ⟨v2, qs ++ [z], r1, by rw [List.map_append, hqs, List.map_cons, List.map_nil, e6]⟩, r2, r3⟩
          have hb0 : Below w.heap.size w w.drew := (Below.refl _ _).drew
          have HB0 := Lib.hid hb0
          clear hM hqs hw hp hn hl b2 h0 h3 HH hb0
          go_enter Try.func28, Try.ntmps28
          go_wp2_with fail
          refine HA.out.mono ?_
          rintro e w1 ⟨rfl, rfl⟩
          go_wp2_with fail
          refine HB.out.mono ?_
          rintro e w1 ⟨rfl, rfl⟩
          go_wp2_with fail
          go_region_law (first
            | (refine step_append_lies _ rfl (.tmp 35) (.tmp 41) 29 rfl 0 44 j0 (.agg #[.int .i64 0, .int .i64 0, .slice none 0 0]) 3 40 Try.underlying29 hj hy0 hy1 hy2 rfl (by decide) _ _ _ rfl (HOW1.out.alloc _) ⟨w1.heap.size, 0, none⟩ 1 1 (qenc ⟨x, y, q, k, d⟩) rfl rfl (q_new w1 ⟨x, y, q, k, d⟩ _ rfl) (qenc_one _) (by decide) (by unfold maxLen; omega) (by omega) (Nat.zero_le _) _ rfl ?_; intro g2 cap w2 how hgr hg2 _; have HHOW := Lib.hid how; have HGR : Hid ((w1.alloc (.cells #[.int .i64 (x : Nat), .int .i64 (y : Nat), .slice q d.length k] 44)).grownBy w2 (Value.slice pw qs.length cw).ownBlock) := hgr; have HG2 : Hid ((Value.slice pw qs.length cw).ownBlock = some g2 ∨ w.heap.size ≤ g2) := Or.imp id (fun e => by have hsz := HBW.out.size; simp at e; omega) hg2; have hb2 : Blk w2 g 33 _ := (hgr.block g (by simp; omega) (fun e => HNG.out e.symm)).trans (blk_old HBK.out _); have d1 : w2.cell? ⟨g, 1, none⟩ = some (.slice pw qs.length cw) := hb2.cell 1; have e1 := hb2.frozen 1; have hl2 := hb2.lt; clear how hgr hg2 hb2)
            | (go_simp; go_at_call 47; (with_reducible refine (HC.out _ ?_).mono ?_); exact HB0.out; rintro e w1 ⟨nv, rfl, hnv⟩; obtain ⟨q, k, rfl⟩ := own_slice hnv.1; have hbw := HB0.out.trans hnv.2; have HBW := Lib.hid hbw; have HNV : Hid (w1.ownsRow w.heap.size 5 1 (.slice q d.length k) d.length (byteCells d)) := hnv.1; have HOW1 := Lib.hid (HOW.out w1 hbw); have HBK := Lib.hid (HB1.out w1 hbw); have hgl1 : g < w1.heap.size := Nat.lt_of_lt_of_le hglt hbw.size; have hg3 : g ≠ w1.heap.size := Nat.ne_of_lt hgl1; have hg4 : w1.heap.size ≠ g := Nat.ne_of_gt hgl1; have cw1 : w1.cell? ⟨g, 1, none⟩ = some (.slice pw qs.length cw) := HBK.out.cell 1; clear hnv hbw))
          all_goals
            go_wp2_with fail
            go_ret
            exact ⟨rfl, HFIN.out w1 w2 ⟨x, y, q, k, d⟩ _ _ HBW.out HNV.out HGR.out HHOW.out (fun b e => by injection e with e; rw [← e]; exact HG2.out) rfl⟩
end Go.Proofs.Ytdjgafemmihlgaa.lan
