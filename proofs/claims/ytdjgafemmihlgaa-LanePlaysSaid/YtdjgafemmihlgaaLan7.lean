/- The developers' add, Send, Twice, At. -/
import Derived.Test.YtdjgafemmihlgaaLan6
import Derived.Deep.RegionLaw
namespace Go.Proofs.Ytdjgafemmihlgaa.lan
open Go.RowKit
open Go.Proofs.Ytdjgafemmihlgaa.oct Go.Proofs.Ytdjgafemmihlgaa.ref Go.Proofs.Ytdjgafemmihlgaa.rows Go.Proofs.Ytdjgafemmihlgaa.rowg Go.Proofs.Ytdjgafemmihlgaa.trn
open Go.Lib (byteCells)

/-- what stands at an own row's block -/
theorem own_obj {w : World} {B e z n b : Nat} {v : Value} {xs : List Value} (h : w.ownsRow B e z v n xs) (hb : v.ownBlock = some b) : ∃ cur, w.heap[b]? = some (.cells cur e (0, 0)) := by
  rcases h.2 with ⟨h1, _⟩ | ⟨g, cap, cur, h1, _, hg, _⟩
  · rw [h1] at hb; cases hb
  · rw [h1] at hb
    injection hb with hb
    subst hb
    exact ⟨cur, hg⟩
theorem own_apart {w : World} {B B2 e e2 z z2 n n2 b : Nat} {v v2 : Value} {xs xs2 : List Value} (h : w.ownsRow B e z v n xs) (h2 : w.ownsRow B2 e2 z2 v2 n2 xs2) (hne : e ≠ e2) (hb : v.ownBlock = some b) : v2.ownBlock ≠ some b := fun hb2 => by
  obtain ⟨c1, g1⟩ := own_obj h hb
  obtain ⟨c2, g2⟩ := own_obj h2 hb2
  rw [g1] at g2
  injection g2 with g2
  injection g2 with _ g2
  exact hne g2
theorem own_blk {w : World} {B e e2 z n b g : Nat} {v : Value} {xs X : List Value} (h : w.ownsRow B e z v n xs) (h2 : Blk w g e2 X) (hne : e ≠ e2) (hb : v.ownBlock = some b) : b ≠ g := fun he => by
  obtain ⟨c1, g1⟩ := own_obj h hb
  subst he
  rw [show w.heap[b]? = _ from h2] at g1
  injection g1 with g1
  injection g1 with _ g1
  exact hne g1.symm
theorem map_blk {w : World} {P : Program} {k : TypeId} {m cnt g e : Nat} {D : DataW Unit} {X : List Value} (h : w.ownsMap P k unitElem m cnt D) (h2 : Blk w g e X) : m ≠ g := fun he => by
  obtain ⟨es, clock, hh, _⟩ := h
  subst he
  rw [show w.heap[m]? = _ from h2] at hh
  injection hh with hh
  cases hh
theorem map_own {w : World} {P : Program} {k : TypeId} {B m cnt e z n b : Nat} {D : DataW Unit} {v : Value} {xs : List Value} (h : w.ownsMap P k unitElem m cnt D) (h2 : w.ownsRow B e z v n xs) (hb : v.ownBlock = some b) : m ≠ b := fun he => by
  obtain ⟨es, clock, hh, _⟩ := h
  obtain ⟨c1, g1⟩ := own_obj h2 hb
  subst he
  rw [hh] at g1
  injection g1 with g1
  cases g1
/-- a packet more -/
theorem LM.added {w w1 w2 : World} {R : Nat → Prop} {g m cnt n : Nat} {v v2 : Value} {qs : List Qk} {D : DataW Unit} (h : LM w R g v qs m cnt D n) (hb : Below w.heap.size w w1) (y : Qk)
    (hnv : w1.ownsRow w.heap.size 5 1 y.v y.d.length (byteCells y.d)) (o : Obj) (hg : (w1.alloc o).grownBy w2 v.ownBlock) (how : w2.ownsRow 0 44 3 v2 (qs.length + 1) (cells qenc qs ++ qenc y)) (hv2 : ∀ b, v2.ownBlock = some b → v.ownBlock = some b ∨ w.heap.size ≤ b) :
    ∃ R', LM (w2.setCell ⟨g, 1, none⟩ v2) R' g v2 (qs ++ [y]) m cnt D n ∧ Turn R w (w2.setCell ⟨g, 1, none⟩ v2) ∧ Grown R R' w := by
  have t1 : Turn (fun k => v.ownBlock = some k ∨ k = g) w w1 := Turn.of_below hb
  have t2 : Turn (fun k => v.ownBlock = some k ∨ k = g) w1 (w1.alloc o) := Turn.alloc _ _ _
  have t3 : Turn (fun k => v.ownBlock = some k ∨ k = g) (w1.alloc o) w2 := Turn.of_row hg fun b e => Or.inl e
  have t4 : Turn (fun k => v.ownBlock = some k ∨ k = g) w2 (w2.setCell ⟨g, 1, none⟩ v2) := Turn.set _ _ _ _ (Or.inr rfl)
  have ht := ((t1.next t2).next t3).next t4
  have hgv : v.ownBlock ≠ some g := fun e => own_blk h.way.own h.blk (by decide) e rfl
  have hB2 : Blk w2 g 62 [.int .i64 (n : Nat), v, .map (some m)] :=
    blk_turn (S := fun k => v.ownBlock = some k) h.blk (((Turn.of_below hb).next (Turn.alloc _ _ _)).next (Turn.of_row hg fun b e => e)) hgv
  have hvlt : ∀ b, v.ownBlock = some b → b < w.heap.size := fun b e => (h.way.own.lt b e).2
  have hcells : cells qenc qs ++ qenc y = cells qenc (qs ++ [y]) := by rw [cells_append, cells_one]
  have hlt3 : ∀ k, R k → k < (w2.setCell ⟨g, 1, none⟩ v2).heap.size := fun k hk => Nat.lt_of_lt_of_le (h.lt k hk) ht.size
  refine ⟨fun k => R k ∨ (w.heap.size ≤ k ∧ k < (w2.setCell ⟨g, 1, none⟩ v2).heap.size), ⟨Or.inl h.mem, ?_, ?_, ⟨?_, ?_, ?_⟩, ?_, ?_, Or.inl h.mmem⟩, ?_, ?_⟩
  · rintro k (hk | hk)
    · exact hlt3 k hk
    · exact hk.2
  · exact hB2.set 1 v2
  · rw [← hcells, List.length_append, List.length_singleton]
    exact own_turn how (Turn.set (S := fun k => k = g) _ _ _ _ rfl) fun b e he => own_blk how hB2 (by decide) e he
  · intro b e
    rcases hv2 b e with h1 | h1
    · exact Or.inl (h.way.foot b h1)
    · refine Or.inr ⟨h1, ?_⟩
      have := (how.lt b e).2
      simpa using this
  · intro x hx
    rw [List.mem_append, List.mem_singleton] at hx
    rcases hx with hx | rfl
    · have h1 := h.way.each x hx
      refine ⟨own_turn h1.own ht fun b e => ?_, fun b e => Or.inl (h1.foot b e)⟩
      rintro (h2 | h2)
      · exact own_apart h1.own h.way.own (by decide) e h2
      · exact own_blk h1.own h.blk (by decide) e h2
    · have ht2 := (t2.next t3).next t4
      refine ⟨own_turn (own_base hnv (Nat.zero_le _)) ht2 fun b e => ?_, fun b e => Or.inr ⟨(hnv.lt b e).1, Nat.lt_of_lt_of_le (hnv.lt b e).2 ht2.size⟩⟩
      have h3 := (hnv.lt b e).1
      rintro (h2 | h2)
      · have := hvlt b h2; omega
      · have := h.lt g h.mem; omega
  · rw [List.pairwise_append]
    refine ⟨h.apart, List.pairwise_singleton _ _, fun x hx z hz => ?_⟩
    rw [List.mem_singleton] at hz
    subst hz
    intro b e1 e2
    have h1 := ((h.way.each x hx).own.lt b e1).2
    have h2 := (hnv.lt b e2).1
    omega
  · refine map_turn h.map ht ?_
    rintro (h2 | h2)
    · exact map_own h.map h.way.own h2 rfl
    · exact map_blk h.map h.blk h2
  · exact ht.mono fun k _ hk => hk.elim (h.way.foot k) (fun e => e ▸ h.mem)
  · exact fun k hk => hk.imp id fun e => e.1
theorem infoPks : (Try.prog.info? 44).map (fun i => (i.zero, i.size, i.bytes)) = some (some (.agg #[.int .i64 0, .int .i64 0, .slice none 0 0]), 3, 40) := by kernel_rfl
theorem q_new (W : World) (y : Qk) (g : Nat) (hg : g = W.heap.size) : ∀ j u, (qenc y)[j]? = some u → (W.alloc (.cells #[.int .i64 (y.a : Nat), .int .i64 (y.b : Nat), y.v] 44)).cell? ((⟨g, 0, none⟩ : Addr).add j) = some u :=
  new_cellsG W g 44 hg (qenc y)
set_option maxRecDepth 100000 in
set_option maxHeartbeats 8000000 in
theorem add_c {w : World} {R : Nat → Prop} {g : Nat} {s : LS} (h : LA w R g s) (hw : Wf s) (x : Qk) (hp : In8 w x.p x.d) (hn : x.p = none → x.c = 0) (hd : x.d.length ≤ 65544) :
    Calls Try.prog 41 #[ptr g, .agg (qenc x).toArray] w fun e w' => e = .returned (err (addP s x.f).1) ∧ To w w' R g (addP s x.f).2 := by
  have b2 := hw.few
  obtain ⟨v, qs, m, cnt, D, hM, hqs, hcnt, hsh⟩ := h
  have hl := map_len hqs
  obtain ⟨p, c, rfl, hlc, hpc, _⟩ := hM.way.at
  have hglt := hM.blk.lt
  have c1 : w.cell? ⟨g, 1, none⟩ = some (.slice p qs.length c) := hM.blk.cell 1
  have f1 := hM.blk.frozen 1
  have HM := Lib.hid hM
  have HLA : Hid (LA w R g s) := ⟨_, qs, m, cnt, D, hM, hqs, hcnt, hsh⟩
  have HQ := Lib.hid hqs
  have HS := Lib.hid hsh
  unfold addP
  unfold qenc
  by_cases h0 : 4096 ≤ s.ps.length
  · rw [if_pos h0]
    have i0 : (qs.length : Int) ≥ 4096 := by omega
    have hb0 := (Below.refl w.heap.size w).alloc (Nat.le_refl _) (.cells #[.int .i64 (x.a : Nat), .int .i64 (x.b : Nat), .slice x.p x.d.length x.c] 44)
    have HB := Lib.hid hb0
    clear hM hqs hsh hw hp hb0
    go_enter Try.func41, Try.ntmps41
    go_wp2_with fail
    go_ret
    exact ⟨rfl, To.same HLA.out HB.out⟩
  · rw [if_neg h0]
    have i0 : ¬ ((qs.length : Int) ≥ 4096) := by omega
    have hq : qs.length < 4096 := by omega
    have hb0 := (Below.refl w.heap.size w).alloc (Nat.le_refl _) (.cells #[.int .i64 (x.a : Nat), .int .i64 (x.b : Nat), .slice x.p x.d.length x.c] 44)
    have HB := Lib.hid hb0
    have HC := Lib.hid (fun W (hb : Below w.heap.size w W) => copied_c W x (hp.below hb) hn (by omega))
    unfold qenc at HC
    unfold NewQ at HC
    dsimp only [Qk.f] at HC ⊢
    have HOW : Hid (∀ w1, Below w.heap.size w w1 → w1.ownsRow 0 44 3 (.slice p qs.length c) qs.length (cells qenc qs)) := fun w1 hb => own_turn (S := fun _ => False) hM.way.own (Turn.of_below hb) fun _ _ => id
    have HB1 : Hid (∀ w1, Below w.heap.size w w1 → Blk w1 g 62 [.int .i64 (s.n : Nat), .slice p qs.length c, .map (some m)]) := fun w1 hb => hM.blk.below hb
    have HNG : Hid ((Value.slice p qs.length c).ownBlock ≠ some g) := fun e => own_blk hM.way.own hM.blk (by decide) e rfl
    obtain ⟨j0, hj, hy0, hy1, hy2⟩ := info_parts infoPks
    have hg0 : g ≠ w.heap.size := Nat.ne_of_lt hglt
    have hg1 : w.heap.size ≠ g := Nat.ne_of_gt hglt
    have HL := Lib.hid hl
    have HFIN : Hid (∀ (w1 w2 : World) (y : Qk) (v2 : Value) (o : Obj), Below w.heap.size w w1 → w1.ownsRow w.heap.size 5 1 y.v y.d.length (byteCells y.d) → (w1.alloc o).grownBy w2 (Value.slice p qs.length c).ownBlock → w2.ownsRow 0 44 3 v2 (qs.length + 1) (cells qenc qs ++ qenc y) → (∀ b, v2.ownBlock = some b → (Value.slice p qs.length c).ownBlock = some b ∨ w.heap.size ≤ b) → y.f = ⟨x.a, x.b, x.d⟩ → To w (w2.setCell ⟨g, 1, none⟩ v2) R g { s with ps := s.ps ++ [⟨x.a, x.b, x.d⟩] }) := by
      intro w1 w2 y v2 o e1 e2 e3 e4 e5 e6
      obtain ⟨R', r1, r2, r3⟩ := hM.added e1 y e2 o e3 e4 e5
      exact ⟨R', ⟨v2, qs ++ [y], m, cnt, D, r1, by rw [List.map_append, hqs, List.map_cons, List.map_nil, e6], hcnt, hsh⟩, r2, r3⟩
    clear hM hqs hsh hw hp hb0 hn hl b2 h0 HM HQ HS HLA hcnt
    go_enter Try.func41, Try.ntmps41
    go_wp2_with fail
    go_region_law (first
      | (refine step_append_lies _ rfl (.tmp 15) (.tmp 18) 29 rfl 0 44 j0 (.agg #[.int .i64 0, .int .i64 0, .slice none 0 0]) 3 40 Try.underlying29 hj hy0 hy1 hy2 rfl (by decide) _ _ _ rfl (HOW1.out.alloc _) ⟨w1.heap.size, 0, none⟩ 1 1 (qenc ⟨x.a, x.b, q, k, x.d⟩) rfl rfl (q_new w1 ⟨x.a, x.b, q, k, x.d⟩ _ rfl) (qenc_one _) (by decide) (by unfold maxLen; omega) (by omega) (Nat.zero_le _) _ rfl ?_; intro g2 cap w2 how hgr hg2 _; have HHOW := Lib.hid how; have HGR : Hid ((w1.alloc (.cells #[.int .i64 (x.a : Nat), .int .i64 (x.b : Nat), .slice q x.d.length k] 44)).grownBy w2 (Value.slice p qs.length c).ownBlock) := hgr; have HG2 : Hid ((Value.slice p qs.length c).ownBlock = some g2 ∨ w.heap.size ≤ g2) := Or.imp id (fun e => by have hsz := HBW.out.size; simp at e; omega) hg2; have hb2 : Blk w2 g 62 _ := (hgr.block g (by simp; omega) (fun e => HNG.out e.symm)).trans (blk_old HBK.out _); have d1 := hb2.cell 1; have e1 := hb2.frozen 1; have hl2 := hb2.lt; clear how hgr hg2 hb2)
      | (go_simp; go_at_call 45; (with_reducible refine (HC.out _ ?_).mono ?_); exact HB.out.drew; rintro e w1 ⟨nv, rfl, hnv⟩; obtain ⟨q, k, rfl⟩ := own_slice hnv.1; have hbw := HB.out.drew.trans (hnv.2.mono HB.out.size); have HBW := Lib.hid hbw; have HNV : Hid (w1.ownsRow w.heap.size 5 1 (.slice q x.d.length k) x.d.length (byteCells x.d)) := own_base hnv.1 HB.out.size; have HOW1 := Lib.hid (HOW.out w1 hbw); have HBK := Lib.hid (HB1.out w1 hbw); have hgl1 : g < w1.heap.size := Nat.lt_of_lt_of_le hglt hbw.size; have hg3 : g ≠ w1.heap.size := Nat.ne_of_lt hgl1; have hg4 : w1.heap.size ≠ g := Nat.ne_of_gt hgl1; have cw1 := HBK.out.cell 1; clear hnv hbw))
    all_goals
      go_wp2_with fail
      go_ret
      exact ⟨rfl, HFIN.out w1 w2 ⟨x.a, x.b, q, k, x.d⟩ _ _ HBW.out HNV.out HGR.out HHOW.out (fun b e => by injection e with e; rw [← e]; exact HG2.out) rfl⟩
set_option maxRecDepth 100000 in
set_option maxHeartbeats 4000000 in
theorem send_c {w : World} {R : Nat → Prop} {g : Nat} {s : LS} (h : LA w R g s) (hw : Wf s) (a b : Int) (ha : I64 a) (hb : I64 b) (p : Option Addr) (c : Nat) (d : T) (hp : In8 w p d) (hn : p = none → c = 0) (hd : d.length ≤ 140737488355328) :
    Calls Try.prog 12 #[ptr g, .int .i64 a, .int .i64 b, .slice p d.length c] w fun e w' => e = .returned (err (sendP s a b d).1) ∧ To w w' R g (sendP s a b d).2 := by
  have HA := Lib.hid (isnode_c h hw a ha)
  have HB := Lib.hid (isnode_c h hw b hb)
  have HH := Lib.hid h
  have HW := Lib.hid hw
  have HP := Lib.hid hp
  have HN := Lib.hid hn
  unfold sendP
  have a1 := ha.1
  have a2 := ha.2
  have a3 := hb.1
  have a4 := hb.2
  clear h hw hp hn
  cases h1 : inN s.n a with
  | false =>
    rw [if_pos (Or.inl rfl)]
    rw [h1] at HA
    clear h1 ha hb
    go_enter Try.func12, Try.ntmps12
    go_wp2_with fail
    refine HA.out.mono ?_
    rintro e w1 ⟨rfl, rfl⟩
    go_wp2_with fail
    go_ret
    exact ⟨rfl, To.refl HH.out⟩
  | true =>
    rw [h1] at HA
    cases h2 : inN s.n b with
    | false =>
      rw [if_pos (Or.inr rfl)]
      rw [h2] at HB
      clear h1 h2 ha hb
      go_enter Try.func12, Try.ntmps12
      go_wp2_with fail
      refine HA.out.mono ?_
      rintro e w1 ⟨rfl, rfl⟩
      go_wp2_with fail
      refine HB.out.mono ?_
      rintro e w1 ⟨rfl, rfl⟩
      go_wp2_with fail
      go_ret
      exact ⟨rfl, To.refl HH.out⟩
    | true =>
      rw [h2] at HB
      have hA := inN_iff.1 h1
      have hB := inN_iff.1 h2
      rw [if_neg (by rintro (h4 | h4) <;> cases h4)]
      obtain ⟨x, rfl⟩ : ∃ x : Nat, a = x := ⟨a.toNat, by omega⟩
      obtain ⟨y, rfl⟩ : ∃ y : Nat, b = y := ⟨b.toNat, by omega⟩
      rw [Int.toNat_natCast, Int.toNat_natCast]
      clear h1 h2 ha hb hA hB
      by_cases h3 : 65544 < d.length
      · rw [if_pos h3]
        have i0 : (d.length : Int) > 65544 := by omega
        clear h3
        go_enter Try.func12, Try.ntmps12
        go_wp2_with fail
        refine HA.out.mono ?_
        rintro e w1 ⟨rfl, rfl⟩
        go_wp2_with fail
        refine HB.out.mono ?_
        rintro e w1 ⟨rfl, rfl⟩
        go_wp2_with fail
        go_ret
        exact ⟨rfl, To.refl HH.out⟩
      · rw [if_neg h3]
        have i0 : ¬ ((d.length : Int) > 65544) := by omega
        have HC := Lib.hid (add_c HH.out HW.out ⟨x, y, p, c, d⟩ HP.out HN.out (show d.length ≤ 65544 by omega))
        unfold qenc addP Qk.f at HC
        dsimp only at HC
        clear h3
        obtain ⟨r, hr⟩ : ∃ r, (if 4096 ≤ s.ps.length then (8, s) else (0, { s with ps := s.ps ++ [⟨x, y, d⟩] }) : Nat × LS) = r := ⟨_, rfl⟩
        rw [hr] at HC ⊢
        clear hr
        go_enter Try.func12, Try.ntmps12
        go_wp2_with fail
        refine HA.out.mono ?_
        rintro e w1 ⟨rfl, rfl⟩
        go_wp2_with fail
        refine HB.out.mono ?_
        rintro e w1 ⟨rfl, rfl⟩
        go_wp2_with fail
        refine HC.out.mono ?_
        rintro e w1 ⟨rfl, ht⟩
        have HT := Lib.hid ht
        clear ht
        go_wp2_with fail
        go_ret
        exact ⟨rfl, HT.out⟩
theorem send_nil (w : World) (a b : Int) (v : Value) : Calls Try.prog 12 #[.pointer none, .int .i64 a, .int .i64 b, v] w fun e w' => e = .returned (err 12) ∧ w = w' := by
  go_enter Try.func12, Try.ntmps12
  go_wp2_with fail
  go_ret
  exact ⟨rfl, rfl⟩
end Go.Proofs.Ytdjgafemmihlgaa.lan
