/- Order of a ring, and of none. Condition: package variables (RT). -/
import Derived.Test.YtkababeeikhifaaDoorRiA
namespace Go.Proofs.YtkababeeikhifaaDoor.rng
open Go.RowKit
open Go.Proofs.YtkababeeikhifaaDoor.oct Go.Proofs.YtkababeeikhifaaDoor.ref Go.Proofs.YtkababeeikhifaaDoor.rows Go.Proofs.YtkababeeikhifaaDoor.rowg Go.Proofs.YtkababeeikhifaaDoor.trn
open Go.Proofs.YtkababeeikhifaaDoor.scp (tx senc senc_len InS ins_below ins_cell)
attribute [local go_sem] Oper.semAt_some

theorem infoIt : (Tryd.prog.info? 3).map (fun i => (i.zero, i.size, i.bytes)) = some (some (.int .i64 0), 1, 8) := by kernel_rfl
theorem src_int (w : World) (x : Nat) : ∀ j u, (cells ienc [x])[j]? = some u → (w.alloc (.cells #[.int .i64 (x : Int)] 3)).cell? ((⟨w.heap.size, 0, none⟩ : Addr).add j) = some u := by
  intro j u hj
  have hc := new_cellsG w w.heap.size 3 rfl [.int .i64 (x : Int)] j u (by simpa [cells, ienc] using hj)
  exact hc
/-- what has come so far, each once -/
structure Mid (w : World) (m : Nat) (pre : List Nat) (v : Value) (W : World) : Prop where
  box : Boxed W w.heap.size 38 v
  row : W.ownsRow m 3 1 v (dd pre).length (cells ienc (dd pre))
  bel : Below w.heap.size w W
  sz : m ≤ W.heap.size
theorem row_kept {W W' : World} {row : Option Nat} {n₀ e size k : Nat} {v : Value} {xs : List Value} (h : W.ownsRow n₀ e size v k xs) (hg : W.grownBy W' row) (hr : ∀ r, row = some r → ∃ o : Obj, W.heap[r]? = some o ∧ o.isCells = false) : W'.ownsRow n₀ e size v k xs := by
  refine h.kept hg ?_
  rcases h.2 with ⟨rfl, _⟩ | ⟨g, cap, cur, rfl, _, hgb, _⟩
  · exact .inl rfl
  · refine .inr fun e' => ?_
    obtain ⟨o, ho, hc⟩ := hr g (by simpa [Value.ownBlock] using e'.symm)
    rw [hgb] at ho; cases ho; cases hc
theorem mid_own (w : World) (m B : Nat) (hB : w.heap.size ≤ B) : OwnFrom B (fun (pre : List Nat) W => ∃ v, Mid w m pre v W) := by
  rintro s X Y row ⟨v, h⟩ hg hr
  exact ⟨v, boxed_kept h.box hg fun r e => (hr r e).2, row_kept h.row hg fun r e => (hr r e).2, ownFrom_below (Nat.le_refl _) hB s X Y row h.bel hg hr, Nat.le_trans h.sz hg.size⟩
theorem ddl (R : List Nat) (k : Nat) : (dd (R.take k)).length ≤ R.length := by
  have h : ∀ l : List Nat, (dd l).length ≤ l.length := fun l => snoc_ind (P := fun l => (dd l).length ≤ l.length) (by simp [dd]) (fun l x ih => by
    rw [dd_snoc, List.length_append]
    split
    · omega
    · rw [List.length_append]; simp; omega) l
  have := h (R.take k)
  rw [List.length_take] at this
  omega
theorem dd_le (l : List Nat) : (dd l).length ≤ l.length := by have := ddl l l.length; rwa [List.take_length] at this
set_option maxRecDepth 100000 in
set_option maxHeartbeats 4000000 in
theorem order_in (n : Nat) (hn : 5 ≤ n) {w : World} {F : Nat → Prop} {g np : Nat} {ms : List T} (h : Rg w F g np ms) (hT : RT w) (key : T) (hk : key.length ≤ 140737488354500) :
    CallsIn Fence.wide n Tryd.prog 19 #[.pointer (some ⟨g, 0, none⟩), tx key] w fun e w' => ∃ v, e = .returned v ∧ w'.ownsRow w.heap.size 3 1 v (ordR np ms (plc key)).length (cells ienc (ordR np ms (plc key))) ∧ Below w.heap.size w w' := by
  have h1 : 1 ≤ n := by omega
  obtain ⟨vn, vp, hR⟩ := h
  have hg := hR.good
  have hL1 : 1 ≤ ms.length * np := Nat.mul_le_mul hg.lo hR.n1
  have hL8 : ms.length * np ≤ 8 * 64 := Nat.mul_le_mul hg.hi hR.n64
  have hrl := rpts_len np ms
  obtain ⟨pb, C, rfl, hc, hin⟩ := own_in pnc_len (by decide) hrl hL1 hR.prow
  have c2 : w.cell? ⟨g, 2, none⟩ = some (.slice (some ⟨pb, 0, none⟩) (rpts np ms).length C) := by rw [hrl]; exact hR.blk.cell 2
  have hs := rpts_le np ms
  have hgl := hR.blk.lt
  have hpl : pb < w.heap.size := (hR.prow.lt pb rfl).2
  have HO : Hid (ordR np ms (plc key) = dd (behR (rpts np ms) (plc key))) := Lib.hid rfl
  obtain ⟨OR, hOR⟩ : ∃ OR, ordR np ms (plc key) = OR := ⟨_, rfl⟩
  rw [hOR] at HO ⊢
  clear hOR
  refine callsIn_of_wp_marks Tryd.func19 rfl trivial ?_ rfl
  simp only [Tryd.ntmps19, List.size_toArray, List.length_cons, List.length_nil, Nat.reduceAdd, Nat.reduceSub, Array.replicate_succ, Array.replicate_zero, List.push_toArray, List.append_toArray, List.nil_append, List.cons_append]
  gi_wp2_with (refine ⟨trivial, ?_⟩; gi_at_call 35; refine (behind_in (some ⟨g, 0, none⟩) key (n - 1) _).mono ?_; rintro e w' ⟨rfl, rfl⟩)
  obtain ⟨w0, hw0⟩ : ∃ w0, w0 = ((w.alloc (.cells #[.slice none 0 0] 38)).alloc (.cells #[.pointer (some ⟨g, 0, none⟩)] 24)).alloc (.cells #[tx key] 9) := ⟨_, rfl⟩
  have hs0 : w0.heap.size = w.heap.size + 3 := by rw [hw0]; simp
  have bb0 : Below w.heap.size w w0 := by
    rw [hw0]
    exact (((Below.refl _ w).alloc (Nat.le_refl _) _).alloc (by simp) _).alloc (by simp; omega) _
  have x4 : Boxed w0 w.heap.size 38 (.slice none 0 0) := by rw [hw0]; exact ((Boxed.new w _ _).alloc _).alloc _
  have x1 : Boxed w0 (w.heap.size + 1) 24 (.pointer (some ⟨g, 0, none⟩)) := by
    rw [hw0]
    have := (Boxed.new (w.alloc (.cells #[.slice none 0 0] 38)) 24 (.pointer (some ⟨g, 0, none⟩))).alloc (.cells #[tx key] 9)
    simpa using this
  have x2 : Boxed w0 (w.heap.size + 1 + 1) 9 (tx key) := by
    rw [hw0]
    have := Boxed.new ((w.alloc (.cells #[.slice none 0 0] 38)).alloc (.cells #[.pointer (some ⟨g, 0, none⟩)] 24)) 9 (tx key)
    simpa using this
  rw [← hw0]
  clear hw0
  have hIt : It w0.heap.size w.heap.size (w.heap.size + 1) g pb C (rpts np ms) w0 := ⟨x1.cell, (bb0.cell (p := ⟨g, 2, none⟩) hgl).trans c2, InG.below pnc_len (by decide) hin bb0, by omega, by omega, by omega⟩
  have hN : (rpts np ms).length ≤ 512 := by omega
  refine wpIn_rangeFunc_ownG rfl h1 (gf := 50) (lb := #[.pointer (some ⟨w.heap.size + 1, 0, none⟩), .pointer (some ⟨w.heap.size + 1 + 1, 0, none⟩)]) rfl trivial (enters_of Tryd.func50 (by kernel_rfl) rfl)
    (behind_stops (n - 1) (by omega) w0.heap.size w.heap.size (w.heap.size + 1) (w.heap.size + 1 + 1) g pb C (rpts np ms) key w0 hIt x2.cell (hT.below bb0) hs (by omega) hk) (fun h k => h.trans k) (fun W l o o' hl => KR.put W l o o' hl) (Below.refl _ _) (fun _ => rfl)
    (fun pre W => ∃ v, Mid w w0.heap.size pre v W)
    (fun _ _ _ => False)
    (mid_own w _ _ (by omega))
    (fun _ _ _ _ _ hs _ _ => hs)
    ⟨_, x4, World.ownsRow_nil _ _ _ _, bb0, Nat.le_refl _⟩
    (fun x => { tmps := #[.pointer (some ⟨g, 0, none⟩), tx key, undef, undef, .slice none 0 0, .pointer (some ⟨w.heap.size, 0, none⟩), .int .i64 (x : Int), .pointer (some ⟨g, 0, none⟩), tx key, .func (.func 50) #[] #[.pointer (some ⟨w.heap.size + 1, 0, none⟩), .pointer (some ⟨w.heap.size + 1 + 1, 0, none⟩)], .int .i64 (x : Int), undef, undef, undef, undef, undef, undef, undef, undef, undef], defers := [] }) ?assign ?body ?done ?stop
  case assign =>
    intro l x W K hK
    gi_wp2
    exact hK
  case body =>
    rintro l pre x W ⟨v, hM⟩ hlt
    have hdl := dd_le pre
    have hd5 : (dd pre).length ≤ 512 := by omega
    obtain ⟨p, c, rfl, _, _, hin2⟩ := own_g ienc_len (by decide) hM.row
    have c4 := hM.box.cell
    have f4 := hM.box.frozen
    have HC := Lib.hid (ihas_c p c (dd pre).length (dd pre) x W hin2 rfl (by omega))
    have HM := Lib.hid hM
    have hdep : 1 ≤ n - 1 - 1 := by omega
    have hms : w0.heap.size ≤ W.heap.size := hM.sz
    by_cases hx : x ∈ dd pre
    · rw [(memZ_iff _ _).2 hx] at HC
      have HE : Hid (dd (pre ++ [x]) = dd pre) := Lib.hid (by rw [dd_snoc, if_pos hx])
      clear hM hin2 hlt hx hdl
      gi_wp2_with (refine ⟨trivial, ?_⟩; gi_at_call 36; refine (CallsIn.inRound l (callsIn_wide.2 HC.out)).mono ?_; rintro e W1 ⟨rfl, rfl⟩)
      exact ⟨KeepsFrom.refl _ _, KR.refl _ _ _, _, HM.out.box, by rw [HE.out]; exact HM.out.row, HM.out.bel, HM.out.sz⟩
    · rw [memZ_no hx] at HC
      have HE : Hid (dd (pre ++ [x]) = dd pre ++ [x]) := Lib.hid (by rw [dd_snoc, if_neg hx])
      obtain ⟨j0, hj, hy0, hy1, hy2⟩ := info_parts infoIt
      clear hM hin2 hlt hx hdl
      gi_wp2_with (first
        | (refine ⟨trivial, ?_⟩; gi_at_call 36; refine (CallsIn.inRound l (callsIn_wide.2 HC.out)).mono ?_; rintro e W1 ⟨rfl, rfl⟩)
        | (gi_at_builtin; refine wpListIn_append_own _ rfl _ _ 38 rfl w0.heap.size 3 j0 (.int .i64 0) 1 8 Tryd.underlying38 hj hy0 hy1 hy2 rfl (by decide) _ _ _ rfl (HM.out.row.alloc _) _ 1 1 (cells ienc [x]) rfl rfl (src_int W x) (fun u hu => by obtain ⟨y, hy⟩ := cells_mem hu; exact ienc_one y u hy) (by unfold maxLen; omega) (by omega) (by simp; omega) ?_; intro v' w1 hown' hgrow _; obtain ⟨g', cap', rfl⟩ := ownsRow_succ hown'; have HW := Lib.hid hown'; have HG : Hid ((W.alloc (.cells #[.int .i64 (x : Int)] 3)).grownBy w1 (Value.slice p (dd pre).length c).ownBlock) := Lib.hid hgrow; have hb1 := (HM.out.box.alloc _).kept hgrow (HM.out.box.not_row (by decide) HM.out.row); have c5 := hb1.cell; have f5 := hb1.frozen; clear hown' hgrow hb1))
      have hw : w.heap.size ≤ w0.heap.size := by omega
      obtain ⟨z1, z2, _, z4, z5⟩ := HM.out.box.appended (by decide) (cln.own_base HM.out.row hw) HM.out.bel.size (Nat.le_refl _) (cln.own_base HW.out hw) HG.out
      have hkr : KR w0.heap.size w.heap.size W (w1.setCell ⟨w.heap.size, 0, none⟩ (.slice (some ⟨g', 0, none⟩) ((dd pre).length + 1) cap')) := fun k h1 h2 => by
        rw [Below.heap_setCell _ _ _ _ h2, HG.out.block k (by simp; omega) (fun e => by have := (HM.out.row.lt k e.symm).1; omega), Below.heap_alloc _ _ _ (by omega)]
      have hrw := HW.out.kept (grownBy_setCell' w1 w.heap.size (.slice (some ⟨g', 0, none⟩) ((dd pre).length + 1) cap')) (.inr (z1.not_row (by decide) HW.out).symm)
      have hsz := HG.out.size
      rw [World.size_alloc] at hsz
      refine ⟨z4.from _, hkr, _, z2, ?_, HM.out.bel.trans z5, by simp; omega⟩
      rw [HE.out, List.length_append, cells_append]
      exact hrw
  case done =>
    rintro D ys W hD hys ⟨v, hM⟩ hK
    obtain ⟨p, c, rfl, _, _, hin2⟩ := own_g ienc_len (by decide) hM.row
    have c4 := hM.box.cell
    have hE : dd ys = OR := by rw [HO.out, hys]
    have HBL := Lib.hid hM.bel
    have hrow := hM.row
    rw [hE] at hrow c4
    have HROW := Lib.hid hrow
    have hw : w.heap.size ≤ w0.heap.size := by omega
    clear hM hin2 hys hE hrow
    gi_wp2
    refine ⟨by simp, .inl ⟨_, _, rfl, run_takeDeferred hK, ?_⟩⟩
    exact ⟨_, results_tmp rfl _ _ _, _, rfl, ownsRow_putObj (cln.own_base HROW.out hw) _ hK rfl, HBL.out.trans (belowK_b (w := w) (Nat.le_refl _) _ D _ _ (by omega) hK rfl rfl)⟩
  case stop =>
    rintro D c pre W _ _ h _
    exact h.elim
theorem order_c {w : World} {F : Nat → Prop} {g np : Nat} {ms : List T} (h : Rg w F g np ms) (hT : RT w) (key : T) (hk : key.length ≤ 140737488354500) :
    Calls Tryd.prog 19 #[.pointer (some ⟨g, 0, none⟩), tx key] w fun e w' => ∃ v, e = .returned v ∧ w'.ownsRow w.heap.size 3 1 v (ordR np ms (plc key)).length (cells ienc (ordR np ms (plc key))) ∧ Below w.heap.size w w' := callsIn_wide.1 (order_in 5 (Nat.le_refl _) h hT key hk)
set_option maxRecDepth 100000 in
set_option maxHeartbeats 4000000 in
theorem order_nil_in (n : Nat) (hn : 5 ≤ n) (w : World) (key : T) :
    CallsIn Fence.wide n Tryd.prog 19 #[.pointer none, tx key] w fun e w' => e = .returned (.slice none 0 0) ∧ Below w.heap.size w w' := by
  have h1 : 1 ≤ n := by omega
  refine callsIn_of_wp_marks Tryd.func19 rfl trivial ?_ rfl
  simp only [Tryd.ntmps19, List.size_toArray, List.length_cons, List.length_nil, Nat.reduceAdd, Nat.reduceSub, Array.replicate_succ, Array.replicate_zero, List.push_toArray, List.append_toArray, List.nil_append, List.cons_append]
  gi_wp2_with (refine ⟨trivial, ?_⟩; gi_at_call 35; refine (behind_in none key (n - 1) _).mono ?_; rintro e w' ⟨rfl, rfl⟩)
  obtain ⟨w0, hw0⟩ : ∃ w0, w0 = ((w.alloc (.cells #[.slice none 0 0] 38)).alloc (.cells #[.pointer none] 24)).alloc (.cells #[tx key] 9) := ⟨_, rfl⟩
  have hs0 : w0.heap.size = w.heap.size + 3 := by rw [hw0]; simp
  have bb0 : Below w.heap.size w w0 := by
    rw [hw0]
    exact (((Below.refl _ w).alloc (Nat.le_refl _) _).alloc (by simp) _).alloc (by simp; omega) _
  have x4 : Boxed w0 w.heap.size 38 (.slice none 0 0) := by rw [hw0]; exact ((Boxed.new w _ _).alloc _).alloc _
  have x1 : Boxed w0 (w.heap.size + 1) 24 (.pointer none) := by
    rw [hw0]
    have := (Boxed.new (w.alloc (.cells #[.slice none 0 0] 38)) 24 (.pointer none)).alloc (.cells #[tx key] 9)
    simpa using this
  rw [← hw0]
  clear hw0
  refine wpIn_rangeFunc_ownG rfl h1 (gf := 50) (lb := #[.pointer (some ⟨w.heap.size + 1, 0, none⟩), .pointer (some ⟨w.heap.size + 1 + 1, 0, none⟩)]) rfl trivial (enters_of Tryd.func50 (by kernel_rfl) rfl)
    (nil_stops (n - 1) w0.heap.size w.heap.size (w.heap.size + 1) (w.heap.size + 1 + 1) w0 x1.cell) (fun h k => h.trans k) (fun W l o o' hl => KR.put W l o o' hl) (Below.refl _ _) (fun _ => rfl)
    (fun _ W => Boxed W w.heap.size 38 (.slice none 0 0) ∧ Below w.heap.size w W)
    (fun _ _ _ => False)
    (OwnFrom.and (Own.from (fun s X Y row hsx hg hr => boxed_kept hsx hg hr) _) (ownFrom_below (Nat.le_refl _) (by omega)))
    (fun _ _ _ _ _ hs _ _ => hs)
    ⟨x4, bb0⟩
    (fun x => { tmps := #[.pointer none, tx key, undef, undef, .slice none 0 0, .pointer (some ⟨w.heap.size, 0, none⟩), .int .i64 (x : Int), .pointer none, tx key, .func (.func 50) #[] #[.pointer (some ⟨w.heap.size + 1, 0, none⟩), .pointer (some ⟨w.heap.size + 1 + 1, 0, none⟩)], .int .i64 (x : Int), undef, undef, undef, undef, undef, undef, undef, undef, undef], defers := [] }) ?assign ?body ?done ?stop
  case assign =>
    intro l x W K hK
    gi_wp2
    exact hK
  case body =>
    rintro l pre x W _ hlt
    exact absurd hlt (Nat.not_lt_zero _)
  case done =>
    rintro D ys W hD _ ⟨hb, hB⟩ hK
    have c4 := hb.cell
    gi_wp2
    refine ⟨by simp, .inl ⟨_, _, rfl, run_takeDeferred hK, ?_⟩⟩
    exact ⟨_, results_tmp rfl _ _ _, rfl, hB.trans (belowK_b (w := w) (Nat.le_refl _) _ D _ _ (by omega) hK rfl rfl)⟩
  case stop =>
    rintro D c pre W _ _ h _
    exact h.elim
theorem order_nil (w : World) (key : T) : Calls Tryd.prog 19 #[.pointer none, tx key] w fun e w' => e = .returned (.slice none 0 0) ∧ Below w.heap.size w w' := callsIn_wide.1 (order_nil_in 5 (Nat.le_refl _) w key)
end Go.Proofs.YtkababeeikhifaaDoor.rng
