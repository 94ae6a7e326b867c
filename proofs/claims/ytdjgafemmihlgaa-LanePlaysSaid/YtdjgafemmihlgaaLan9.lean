/- The developers' remove, Drop, Take. -/
import Derived.Test.YtdjgafemmihlgaaLan8
import Derived.Test.YtdjgafemmihlgaaCopyG
namespace Go.Proofs.Ytdjgafemmihlgaa.lan
open Go.RowKit
open Go.Proofs.Ytdjgafemmihlgaa.oct Go.Proofs.Ytdjgafemmihlgaa.ref Go.Proofs.Ytdjgafemmihlgaa.rows Go.Proofs.Ytdjgafemmihlgaa.rowg Go.Proofs.Ytdjgafemmihlgaa.trn
open Go.Lib (byteCells)

theorem cells_take (qs : List Qk) (k : Nat) (hk : k ≤ qs.length) : cells qenc (qs.take k) = (cells qenc qs).take (k * 3) := by
  have h : cells qenc qs = cells qenc (qs.take k) ++ cells qenc (qs.drop k) := by rw [← cells_append, List.take_append_drop]
  have hl : (cells qenc (qs.take k)).length = k * 3 := by rw [cells_len qenc_len, List.length_take, Nat.min_eq_left hk]
  rw [h, ← hl, List.take_left]
theorem cells_drop (qs : List Qk) (k : Nat) (hk : k ≤ qs.length) : cells qenc (qs.drop k) = (cells qenc qs).drop (k * 3) := by
  have h : cells qenc qs = cells qenc (qs.take k) ++ cells qenc (qs.drop k) := by rw [← cells_append, List.take_append_drop]
  have hl : (cells qenc (qs.take k)).length = k * 3 := by rw [cells_len qenc_len, List.length_take, Nat.min_eq_left hk]
  rw [h, ← hl, List.drop_left]
theorem cells_erase (qs : List Qk) (k : Nat) (hk : k < qs.length) : cells qenc (qs.eraseIdx k) = (cells qenc qs).take (k * 3) ++ (cells qenc qs).drop ((k + 1) * 3) := by
  rw [List.eraseIdx_eq_take_drop_succ, cells_append, cells_take qs k (by omega), cells_drop qs (k + 1) (by omega)]
theorem LM.gone {w w4 : World} {R : Nat → Prop} {g m cnt n : Nat} {v v2 : Value} {qs : List Qk} {D : DataW Unit} (h : LM w R g v qs m cnt D n) (i : Nat) (ht : Turn (fun k => v.ownBlock = some k ∨ k = g) w w4) (hB : Blk w4 g 62 [.int .i64 (n : Nat), v2, .map (some m)])
    (how : w4.ownsRow 0 44 3 v2 (qs.eraseIdx i).length (cells qenc (qs.eraseIdx i))) (hv : v2.ownBlock = v.ownBlock) : LM w4 R g v2 (qs.eraseIdx i) m cnt D n ∧ Turn R w w4 := by
  refine ⟨⟨h.mem, fun k hk => Nat.lt_of_lt_of_le (h.lt k hk) ht.size, hB, ⟨how, fun b e => h.way.foot b (hv ▸ e), fun x hx => ?_⟩, h.apart.sublist (List.eraseIdx_sublist qs i), ?_, h.mmem⟩, ?_⟩
  · have h1 := h.way.each x ((List.eraseIdx_sublist qs i).subset hx)
    refine ⟨own_turn h1.own ht fun b e => ?_, h1.foot⟩
    rintro (h2 | h2)
    · exact own_apart h1.own h.way.own (by decide) e h2
    · exact own_blk h1.own h.blk (by decide) e h2
  · refine map_turn h.map ht ?_
    rintro (h2 | h2)
    · exact map_own h.map h.way.own h2 rfl
    · exact map_blk h.map h.blk h2
  · exact ht.mono fun k _ hk => hk.elim (h.way.foot k) (fun e => e ▸ h.mem)
theorem setRow_turn (w : World) (b : Nat) (X : Array Value) : Turn (fun k => k = b) w (w.setRow b X) := ⟨rfl, rfl, rfl, by simp, fun k _ hn => setRow_other _ _ _ _ hn⟩
/-- the row behind the copy and behind the place that is cleared -/
theorem gone_row {cur : List Value} {qs : List Qk} {i N : Nat} (hN : qs.length = N) (hi : i < N) (h : cur.take (N * 3) = cells qenc qs) (hc : N * 3 ≤ cur.length) :
    (cur.take (i * 3) ++ (cells qenc qs).drop ((i + 1) * 3) ++ cur.drop (i * 3 + ((cells qenc qs).drop ((i + 1) * 3)).length)).take ((N - 1) * 3) = cells qenc (qs.eraseIdx i) ∧ (cur.take (i * 3) ++ (cells qenc qs).drop ((i + 1) * 3) ++ cur.drop (i * 3 + ((cells qenc qs).drop ((i + 1) * 3)).length)).length = cur.length := by
  have hL : (cells qenc qs).length = N * 3 := by rw [cells_len qenc_len, hN]
  have hd : ((cells qenc qs).drop ((i + 1) * 3)).length = (N - 1 - i) * 3 := by rw [List.length_drop, hL]; omega
  have ht : cur.take (i * 3) = (cells qenc qs).take (i * 3) := by rw [← h, List.take_take, Nat.min_eq_left (by omega)]
  constructor
  · rw [cells_erase qs i (by omega), ht]
    refine List.take_left' ?_
    rw [List.length_append, List.length_take, hd, hL]
    omega
  · simp only [List.length_append, List.length_take, List.length_drop, hL]
    omega
theorem own_cur {w : World} {R : Nat → Prop} {v : Value} {qs : List Qk} (h : WayM w R v qs) (h0 : 0 < qs.length) : ∃ b c cur, v = .slice (some ⟨b, 0, none⟩) qs.length c ∧ Blk w b 44 cur ∧ qs.length ≤ c ∧ c ≤ maxLen ∧ cur.length = c * 3 ∧ cur.take (qs.length * 3) = cells qenc qs := by
  rcases h.own.2 with ⟨h1, h2⟩ | ⟨g, cap, cur, h1, _, hg, hn, hm, hs, ht⟩
  · have := cells_len qenc_len qs
    rw [h2] at this
    simp at this
    omega
  · exact ⟨g, cap, cur.toList, h1, hg, hn, hm, by simpa using hs, ht⟩
set_option maxRecDepth 100000 in
set_option maxHeartbeats 8000000 in
theorem remove_c {w : World} {R : Nat → Prop} {g : Nat} {s : LS} (h : LA w R g s) (hw : Wf s) (i : Nat) (hi : i < s.ps.length) :
    Calls Try.prog 44 #[ptr g, .int .i64 (i : Nat)] w fun e w' => e = .returned (.tuple #[]) ∧ To w w' R g (gone s i) ∧ ∀ (v : Value) (d : T), w.ownsRow 0 5 1 v d.length (byteCells d) → w'.ownsRow 0 5 1 v d.length (byteCells d) := by
  have b2 := hw.few
  obtain ⟨v, qs, m, cnt, D, hM, hqs, hcnt, hsh⟩ := h
  have hl := map_len hqs
  obtain ⟨b, c, cur, rfl, hB, hnc, hcm, hcl, hct⟩ := own_cur hM.way (by omega)
  have hglt := hM.blk.lt
  have hblt := hB.lt
  have hbg : b ≠ g := own_blk hM.way.own hM.blk (by decide) rfl
  obtain ⟨N, hN⟩ : ∃ N, qs.length = N := ⟨_, rfl⟩
  have c1 : w.cell? ⟨g, 1, none⟩ = some (.slice (some ⟨b, 0, none⟩) N c) := by rw [← hN]; exact hM.blk.cell 1
  have f1 := hM.blk.frozen 1
  have hiN : i < N := by omega
  have hN4 : N ≤ 4096 := by omega
  rw [hN] at hnc hct
  have hgr := gone_row hN hiN hct (by omega)
  have hL : (cells qenc qs).length = N * 3 := by rw [cells_len qenc_len, hN]
  have hsz : (Try.prog.info? 44).map (·.size) = some 3 := infoPk
  have hs1 : ∀ w', (Instr.sliceAt 29 (.slice (some ⟨b, 0, none⟩) N c) (some (.int .i64 (i : Nat))) none none).run Try.prog w' = .ok (.slice (some ⟨b, i * 3, none⟩) (N - i) (c - i)) w' := fun w' => by
    have := run_cutG (P := Try.prog) w' 29 44 N c b 0 i 3 i rfl Try.underlying29 hsz (by omega)
    rw [this]
    unfold cutG
    rw [if_neg (by omega), Nat.zero_add]
  obtain ⟨o2, ho2, ho2c⟩ : ∃ o2, cutG b 0 c (i + 1) 3 = some ⟨b, o2, none⟩ ∧ (i + 1 < N → o2 = (i + 1) * 3) := by
    unfold cutG
    split
    · exact ⟨0, rfl, fun h => by omega⟩
    · exact ⟨(i + 1) * 3, by rw [Nat.zero_add], fun _ => rfl⟩
  have hs2 : ∀ w', (Instr.sliceAt 29 (.slice (some ⟨b, 0, none⟩) N c) (some (.int .i64 ((i : Int) + 1))) none none).run Try.prog w' = .ok (.slice (some ⟨b, o2, none⟩) (N - (i + 1)) (c - (i + 1))) w' := fun w' => by
    have := run_cutG (P := Try.prog) w' 29 44 N c b 0 (i + 1) 3 ((i : Int) + 1) (by omega) Try.underlying29 hsz (by omega)
    rw [this, ho2]
  have hmin : Nat.min (N - (i + 1)) (N - i) = N - (i + 1) := Nat.min_eq_left (by omega)
  have hcp : ∀ ty, (Builtin.copy_ #[29, 29] ty #[.slice (some ⟨b, i * 3, none⟩) (N - i) (c - i), .slice (some ⟨b, o2, none⟩) (N - (i + 1)) (c - (i + 1))]).run Try.prog w.drew = .ok (.int .i64 ((N - (i + 1) : Nat) : Int)) (w.drew.setRow b (cur.take (i * 3) ++ (cells qenc qs).drop ((i + 1) * 3) ++ cur.drop (i * 3 + ((cells qenc qs).drop ((i + 1) * 3)).length)).toArray) := fun ty => by
    have := run_copyG (P := Try.prog) w.drew 29 29 ty 44 b (i * 3) (N - i) (c - i) 3 ⟨b, o2, none⟩ (N - (i + 1)) (c - (i + 1)) cur.toArray 44 ((cells qenc qs).drop ((i + 1) * 3)) Try.underlying29 hsz hB (by rw [hmin, List.length_drop, hL]; omega) (fun j u hj => by
      have hj2 := (List.getElem?_eq_some_iff.1 hj).1
      rw [List.length_drop, hL] at hj2
      have ho := ho2c (by omega)
      subst ho
      rw [add_none]
      have h1 : w.cell? ⟨b, (i + 1) * 3 + j, none⟩ = cur[(i + 1) * 3 + j]? := hB.cell _
      rw [show w.drew.cell? ⟨b, (i + 1) * 3 + j, none⟩ = w.cell? ⟨b, (i + 1) * 3 + j, none⟩ from rfl, h1]
      rw [← hct, List.getElem?_drop, List.getElem?_take, if_pos (by omega)] at hj
      exact hj) (by rw [List.length_drop, hL]; simp; omega) (fun u hu => by
      obtain ⟨y, hy⟩ := cells_mem (List.drop_subset _ _ hu)
      exact qenc_one y u hy)
    rw [this, hmin]
    simp [goInt]
  obtain ⟨w2, hw2⟩ : ∃ w2, w.drew.setRow b (cur.take (i * 3) ++ (cells qenc qs).drop ((i + 1) * 3) ++ cur.drop (i * 3 + ((cells qenc qs).drop ((i + 1) * 3)).length)).toArray = w2 := ⟨_, rfl⟩
  obtain ⟨cur1, hcur1⟩ : ∃ cur1, cur.take (i * 3) ++ (cells qenc qs).drop ((i + 1) * 3) ++ cur.drop (i * 3 + ((cells qenc qs).drop ((i + 1) * 3)).length) = cur1 := ⟨_, rfl⟩
  have hB2 : Blk w2 b 44 cur1 := by rw [← hw2, ← hcur1]; exact setRow_heap _ _ _ _ _ _ hB
  have ht2 : Turn (fun k => k = b) w w2 := by rw [← hw2]; exact (Turn.refl _ w).drew.next (setRow_turn _ _ _)
  rw [hcur1] at hgr
  rw [hw2] at hcp
  have c2 : w2.cell? ⟨g, 1, none⟩ = some (.slice (some ⟨b, 0, none⟩) N c) := (cell_turn ht2 hglt (fun e => hbg e.symm)).trans c1
  clear hw2 hcur1
  go_enter Try.func44, Try.ntmps44
  go_wp2_with fail
  go_region
  have HL1 : Hid (∀ j, j < 3 → ∃ u, cur1[(N - 1) * 3 + j]? = some u) := fun j hj => ⟨_, List.getElem?_eq_getElem (by rw [hgr.2, hcl]; omega)⟩
  obtain ⟨M, rfl⟩ : ∃ M, N = M + 1 := ⟨N - 1, by omega⟩
  rw [Nat.add_sub_cancel] at HL1 hgr
  obtain ⟨u0, hu0⟩ := HL1.out 0 (by decide)
  obtain ⟨u1, hu1⟩ := HL1.out 1 (by decide)
  obtain ⟨u2, hu2⟩ := HL1.out 2 (by decide)
  have e0 : w2.cell? ⟨b, M * 3, none⟩ = some u0 := (hB2.cell _).trans hu0
  have e1 : w2.cell? ⟨b, M * 3 + 1, none⟩ = some u1 := (hB2.cell _).trans hu1
  have e2 : w2.cell? ⟨b, M * 3 + 2, none⟩ = some u2 := (hB2.cell _).trans hu2
  have g0 : w2.frozen? ⟨b, M * 3, none⟩ = false := hB2.frozen _
  have g1 : w2.frozen? ⟨b, M * 3 + 1, none⟩ = false := hB2.frozen _
  have g2 : w2.frozen? ⟨b, M * 3 + 2, none⟩ = false := hB2.frozen _
  have f2 : w2.frozen? ⟨g, 1, none⟩ = false := (blk_turn hM.blk ht2 (fun e => hbg e.symm)).frozen 1
  have hgb : g ≠ b := fun e => hbg e.symm
  have l2 := hB2.lt
  have l3 : g < w2.heap.size := Nat.lt_of_lt_of_le hglt ht2.size
  have i3 : (0 : Int) ≤ M := by omega
  have HM := Lib.hid hM
  have HQ := Lib.hid hqs
  have HS := Lib.hid hsh
  have HGR := Lib.hid hgr
  have HB2 := Lib.hid hB2
  have HT2 := Lib.hid ht2
  have HN := Lib.hid hN
  have HCL := Lib.hid hcl
  clear hu0 hu1 hu2 hcp hs1 hs2 hM hqs hsh hgr hB2 ht2 hN hct hL hsz hmin hcl hw hl
  go_wp2_with fail
  go_end0
  have hbS : (Value.slice (some ⟨b, 0, none⟩) qs.length c).ownBlock = some b := rfl
  have t3 : Turn (fun k => k = b) w (((w2.setCell ⟨b, M * 3, none⟩ (.int .i64 0)).setCell ⟨b, M * 3 + 1, none⟩ (.int .i64 0)).setCell ⟨b, M * 3 + 2, none⟩ (.slice none 0 0)) :=
    ((HT2.out.next (Turn.set _ _ _ _ rfl)).next (Turn.set _ _ _ _ rfl)).next (Turn.set _ _ _ _ rfl)
  have t4 : Turn (fun k => (Value.slice (some ⟨b, 0, none⟩) qs.length c).ownBlock = some k ∨ k = g) w ((((w2.setCell ⟨b, M * 3, none⟩ (.int .i64 0)).setCell ⟨b, M * 3 + 1, none⟩ (.int .i64 0)).setCell ⟨b, M * 3 + 2, none⟩ (.slice none 0 0)).setCell ⟨g, 1, none⟩ (.slice (some ⟨b, 0, none⟩) M c)) :=
    (t3.mono fun k _ e => Or.inl (by rw [hbS, e])).next (Turn.set _ _ _ _ (Or.inr rfl))
  have hel : (qs.eraseIdx i).length = M := by rw [List.length_eraseIdx_of_lt (by rw [HN.out]; exact hiN), HN.out, Nat.add_sub_cancel]
  have hBg := (blk_turn HM.out.blk t3 hgb).set 1 (.slice (some ⟨b, 0, none⟩) M c)
  have hBb := (((HB2.out.set (M * 3) (.int .i64 0)).set (M * 3 + 1) (.int .i64 0)).set (M * 3 + 2) (.slice none 0 0)).set_other hgb 1 (.slice (some ⟨b, 0, none⟩) M c)
  obtain ⟨r1, r2⟩ := HM.out.gone i t4 hBg (by
    rw [hel]
    refine ⟨by rw [cells_len qenc_len, hel], Or.inr ⟨b, c, _, rfl, Nat.zero_le _, hBb, by omega, hcm, ?_, ?_⟩⟩
    · simp
      rw [HGR.out.2, HCL.out]
    · rw [show ((((cur1.set (M * 3) (.int .i64 0)).set (M * 3 + 1) (.int .i64 0)).set (M * 3 + 2) (.slice none 0 0)).toArray).toList = ((cur1.set (M * 3) (.int .i64 0)).set (M * 3 + 1) (.int .i64 0)).set (M * 3 + 2) (.slice none 0 0) by simp, List.take_set_of_le (by omega), List.take_set_of_le (by omega), List.take_set_of_le (by omega)]
      exact HGR.out.1) rfl
  refine ⟨rfl, ⟨R, ⟨_, _, m, cnt, D, r1, ?_, hcnt, HS.out⟩, r2, Grown.refl R w⟩, fun v d hv => own_turn hv t4 fun k hk => ?_⟩
  · unfold lan.gone
    dsimp only
    rw [← HQ.out, List.eraseIdx_eq_take_drop_succ, List.eraseIdx_eq_take_drop_succ, List.map_append, List.map_take, List.map_drop]
  · rintro (h2 | h2)
    · exact own_apart hv HM.out.way.own (by decide) hk h2
    · exact own_blk hv HM.out.blk (by decide) hk h2
set_option maxRecDepth 100000 in
set_option maxHeartbeats 4000000 in
theorem drop_c {w : World} {R : Nat → Prop} {g : Nat} {s : LS} (h : LA w R g s) (hw : Wf s) (k : Int) (hk : I64 k) :
    Calls Try.prog 20 #[ptr g, .int .i64 k] w fun e w' => e = .returned (err (dropP s k).1) ∧ To w w' R g (dropP s k).2 := by
  have HM := Lib.hid (missing_c h hw k hk)
  have HH := Lib.hid h
  unfold dropP
  cases ha : atP s k with
  | none =>
    rw [missP_none ha] at HM
    dsimp only
    clear ha hw h
    go_enter Try.func20, Try.ntmps20
    go_wp2_with fail
    refine HM.out.mono ?_
    rintro e w1 ⟨rfl, rfl⟩
    go_wp2_with fail
    go_ret
    exact ⟨rfl, To.refl HH.out⟩
  | some i =>
    rw [missP_some ha] at HM
    dsimp only
    obtain ⟨_, rfl, hi⟩ := atP_some ha
    have HC := Lib.hid (remove_c h hw i hi)
    clear ha hw h
    go_enter Try.func20, Try.ntmps20
    go_wp2_with fail
    refine HM.out.mono ?_
    rintro e w1 ⟨rfl, rfl⟩
    go_wp2_with fail
    refine HC.out.mono ?_
    rintro e w1 ⟨rfl, ht, _⟩
    have HT := Lib.hid ht
    clear ht
    go_wp2_with fail
    go_ret
    exact ⟨rfl, HT.out⟩
/-- a packet that is told: its bytes lie in a block of R, or in a new one -/
def Told (w w' : World) (R : Nat → Prop) (x : Pk) (v : Value) : Prop := w'.ownsRow 0 5 1 v x.d.length (byteCells x.d) ∧ ∀ b, v.ownBlock = some b → R b ∨ w.heap.size ≤ b
/-- what Take comes to -/
def TakeA (w w' : World) (R : Nat → Prop) (g : Nat) (q : Pk × Nat × LS) (e : Ending) : Prop := ∃ v, e = .returned (.tuple #[.agg #[.int .i64 (q.1.a : Nat), .int .i64 (q.1.b : Nat), v], err q.2.1]) ∧ Told w w' R q.1 v ∧ To w w' R g q.2.2
theorem To.next {w w1 w2 : World} {R : Nat → Prop} {g : Nat} {s : LS} (hb : Below w.heap.size w w1) (h : To w1 w2 R g s) : To w w2 R g s := by
  obtain ⟨R', h1, h2, h3⟩ := h
  exact ⟨R', h1, (Turn.of_below hb).next h2, fun k hk => (h3 k hk).imp id fun e => Nat.le_trans hb.size e⟩
theorem take_zero {w w' : World} {R : Nat → Prop} {g : Nat} {s : LS} (h : LA w R g s) (n : Nat) (hb : Below w.heap.size w w') : TakeA w w' R g (zeroPk, n, s) (.returned (.tuple #[.agg #[.int .i64 0, .int .i64 0, .slice none 0 0], err n])) :=
  ⟨_, rfl, ⟨World.ownsRow_nil _ _ _ _, fun b e => by cases e⟩, To.same h hb⟩
set_option maxRecDepth 100000 in
set_option maxHeartbeats 4000000 in
theorem take_nil (w : World) (k : Int) : Calls Try.prog 14 #[.pointer none, .int .i64 k] w fun e w' => TellA w w' zeroPk 12 e := by
  have HU := Lib.hid (fun w => missing_nil w k)
  have HZ := Lib.hid (zero_tell w 12)
  go_enter Try.func14, Try.ntmps14
  go_wp2_with fail
  refine (HU.out _).mono ?_
  rintro e w1 ⟨rfl, rfl⟩
  go_wp2_with fail
  refine bodyPost_ret (results_rowtmp Try.results14 _ _ w.heap.size 44 [.int .i64 0, .int .i64 0, .slice none 0 0] _ rfl rfl (blk_new w _ _ _ rfl) Try.underlying44 rfl infoPk) rfl ?_
  exact HZ.out
set_option maxRecDepth 100000 in
set_option maxHeartbeats 4000000 in
theorem take_c {w : World} {R : Nat → Prop} {g : Nat} {s : LS} (h : LA w R g s) (hw : Wf s) (k : Int) (hk : I64 k) :
    Calls Try.prog 14 #[ptr g, .int .i64 k] w fun e w' => TakeA w w' R g (takeP s k) e := by
  have hb0 := (Below.refl w.heap.size w).alloc (Nat.le_refl _) (.cells #[.int .i64 0, .int .i64 0, .slice none 0 0] 44)
  have HM := Lib.hid (missing_c (h.below hb0) hw k hk)
  have hB0 := blk_new w #[.int .i64 0, .int .i64 0, .slice none 0 0] 44 [.int .i64 0, .int .i64 0, .slice none 0 0] rfl
  have HB0 := Lib.hid hB0
  have HBL := Lib.hid hb0
  have HH := Lib.hid h
  have HLT := Lib.hid h.lt
  unfold takeP
  cases ha : atP s k with
  | none =>
    rw [missP_none ha] at HM
    dsimp only
    clear ha hw h hb0 hB0
    go_enter Try.func14, Try.ntmps14
    go_wp2_with fail
    refine HM.out.mono ?_
    rintro e w1 ⟨rfl, rfl⟩
    go_wp2_with fail
    refine bodyPost_ret (results_rowtmp Try.results14 _ _ w.heap.size 44 [.int .i64 0, .int .i64 0, .slice none 0 0] _ rfl rfl (blk_new w _ _ _ rfl) Try.underlying44 rfl infoPk) rfl ?_
    exact take_zero HH.out 6 HBL.out
  | some i =>
    rw [missP_some ha] at HM
    dsimp only
    obtain ⟨_, rfl, hi⟩ := atP_some ha
    have HC := Lib.hid (comes_c (h.below hb0) hw i hi)
    cases hf : freeP s (s.ps.getD i zeroPk) with
    | false =>
      rw [hf] at HC
      rw [if_neg (by simp)]
      clear ha hw h hf hb0 hB0
      go_enter Try.func14, Try.ntmps14
      go_wp2_with fail
      refine HM.out.mono ?_
      rintro e w1 ⟨rfl, rfl⟩
      go_wp2_with fail
      refine HC.out.mono ?_
      rintro e w2 ⟨rfl, hb2⟩
      have hB2 := HB0.out.below hb2
      have HB2 := Lib.hid hB2
      have HW := Lib.hid (bnext HBL.out hb2)
      have e0 := hB2.cell 0
      have e1 := hB2.cell 1
      have e2 := hB2.cell 2
      have f0 := hB2.frozen 0
      have f1 := hB2.frozen 1
      have f2 := hB2.frozen 2
      have l2 := hB2.lt
      clear hb2 hB2
      go_wp2_with fail
      refine bodyPost_ret (results_rowtmp Try.results14 _ _ w.heap.size 44 [.int .i64 0, .int .i64 0, .slice none 0 0] _ rfl rfl (((HB2.out.set 0 _).set 1 _).set 2 _) Try.underlying44 rfl infoPk) rfl ?_
      exact take_zero HH.out 9 (((HW.out.setCell (p := ⟨w.heap.size, 0, none⟩) (Nat.le_refl _) _).setCell (p := ⟨w.heap.size, 1, none⟩) (Nat.le_refl _) _).setCell (p := ⟨w.heap.size, 2, none⟩) (Nat.le_refl _) _)
    | true =>
      rw [hf] at HC
      rw [if_pos rfl]
      clear hf ha
      have HWF := Lib.hid hw
      clear hw h hb0 hB0
      go_enter Try.func14, Try.ntmps14
      go_wp2_with fail
      refine HM.out.mono ?_
      rintro e w1 ⟨rfl, rfl⟩
      go_wp2_with fail
      refine HC.out.mono ?_
      rintro e w2 ⟨rfl, hb2⟩
      have hbw := bnext HBL.out hb2
      obtain ⟨b, c, x, c1, hlc, hxf, hqo, d0, d1, d2, hb, hg⟩ := (HH.out.below hbw).pk hi
      have i1 : (0 : Int) ≤ i := by omega
      have i2 : (i : Int) < s.ps.length := by omega
      have HXF := Lib.hid hxf
      have HQO := Lib.hid hqo
      have hB2 := HB0.out.below hb2
      have HB2 := Lib.hid hB2
      have HW := Lib.hid hbw
      have l2 := hB2.lt
      clear hb2 hB2 hbw hxf hqo
      have hb3 := (Below.refl w2.heap.size w2).alloc (Nat.le_refl _) (.cells #[.int .i64 (x.a : Nat), .int .i64 (x.b : Nat), .slice x.p x.d.length x.c] 44)
      have HR := Lib.hid (remove_c ((HH.out.below HW.out).below hb3) HWF.out i hi)
      have HFIN : Hid (∀ w4, To (w2.alloc (.cells #[.int .i64 (x.a : Nat), .int .i64 (x.b : Nat), .slice x.p x.d.length x.c] 44)) w4 R g (gone s i) → (∀ (v : Value) (d : T), (w2.alloc (.cells #[.int .i64 (x.a : Nat), .int .i64 (x.b : Nat), .slice x.p x.d.length x.c] 44)).ownsRow 0 5 1 v d.length (byteCells d) → w4.ownsRow 0 5 1 v d.length (byteCells d)) →
          Blk w4 w2.heap.size 44 [.int .i64 (x.a : Nat), .int .i64 (x.b : Nat), .slice x.p x.d.length x.c] ∧ Blk w4 w.heap.size 44 [.int .i64 0, .int .i64 0, .slice none 0 0] ∧
          TakeA w (((w4.setCell ⟨w.heap.size, 0, none⟩ (.int .i64 (x.a : Nat))).setCell ⟨w.heap.size, 1, none⟩ (.int .i64 (x.b : Nat))).setCell ⟨w.heap.size, 2, none⟩ (.slice x.p x.d.length x.c)) R g (x.f, 0, gone s i) (.returned (.tuple #[.agg #[.int .i64 (x.a : Nat), .int .i64 (x.b : Nat), .slice x.p x.d.length x.c], err 0]))) := by
        rintro w4 ⟨R', h1, h2, h3⟩ hk
        have hnr : ∀ k, w.heap.size ≤ k → ¬ R k := fun k hk hr => by have := HLT.out k hr; omega
        have hs3 : (w2.alloc (.cells #[.int .i64 (x.a : Nat), .int .i64 (x.b : Nat), .slice x.p x.d.length x.c] 44)).heap.size = w2.heap.size + 1 := by simp
        have hrb : ∀ k, R' k → k ≠ w.heap.size := fun k hk e => (h3 k hk).elim (fun hr => by have := HLT.out k hr; omega) (fun hr => by rw [hs3] at hr; omega)
        have ht : Turn (fun k => k = w.heap.size) w4 (((w4.setCell ⟨w.heap.size, 0, none⟩ (.int .i64 (x.a : Nat))).setCell ⟨w.heap.size, 1, none⟩ (.int .i64 (x.b : Nat))).setCell ⟨w.heap.size, 2, none⟩ (.slice x.p x.d.length x.c)) :=
          ((Turn.set (S := fun k => k = w.heap.size) _ _ _ _ rfl).next (Turn.set (S := fun k => k = w.heap.size) _ _ _ _ rfl)).next (Turn.set (S := fun k => k = w.heap.size) _ _ _ _ rfl)
        refine ⟨blk_turn (blk_new w2 _ _ _ rfl) h2 (hnr _ (by omega)), blk_turn (blk_old HB2.out _) h2 (hnr _ (Nat.le_refl _)), .slice x.p x.d.length x.c, rfl, ⟨?_, fun b e => Or.inl (HQO.out.foot b e)⟩, R', h1.turn ht hrb, ?_, ?_⟩
        · have h4 := hk x.v x.d (own_turn (S := fun _ => False) HQO.out.own (Turn.of_below hb3) fun _ _ => id)
          exact own_turn h4 ht fun b e e2 => hnr b (by omega) (HQO.out.foot b e)
        · have t1 : Turn (fun k => R k ∨ k = w.heap.size) w (w2.alloc (.cells #[.int .i64 (x.a : Nat), .int .i64 (x.b : Nat), .slice x.p x.d.length x.c] 44)) := Turn.of_below (bnext HW.out hb3)
          have t2 := t1.next (h2.mono fun k _ hk => Or.inl hk)
          have t3 := t2.next (ht.mono fun k _ hk => Or.inr hk)
          exact t3.mono fun k hk h => h.elim id fun e => by omega
        · exact fun k hk => (h3 k hk).imp id fun e => by rw [hs3] at e; omega
      clear hb3
      go_wp2_with fail
      refine HR.out.mono ?_
      rintro e w4 ⟨rfl, hto, hk⟩
      obtain ⟨p1, p2, p3⟩ := HFIN.out w4 hto hk
      have P2 := Lib.hid p2
      have P3 := Lib.hid p3
      have e0 := p1.cell 0
      have e1 := p1.cell 1
      have e2 := p1.cell 2
      have z0 := p2.cell 0
      have z1 := p2.cell 1
      have z2 := p2.cell 2
      have f0 := p2.frozen 0
      have f1 := p2.frozen 1
      have f2 := p2.frozen 2
      have m1 := p1.lt
      have m2 := p2.lt
      clear p1 p2 p3 hto hk c1 d0 d1 d2
      go_wp2_with fail
      refine bodyPost_ret (results_rowtmp Try.results14 _ _ w.heap.size 44 [.int .i64 (x.a : Nat), .int .i64 (x.b : Nat), .slice x.p x.d.length x.c] _ rfl rfl (((P2.out.set 0 _).set 1 _).set 2 _) Try.underlying44 rfl infoPk) rfl ?_
      rw [HXF.out]
      exact P3.out
end Go.Proofs.Ytdjgafemmihlgaa.lan
