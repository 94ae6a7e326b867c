/- Owner of a ring, and of none. Condition: package variables (RT). -/
import Derived.Test.YtkababeeikhifaaDoorRi9
namespace Go.Proofs.YtkababeeikhifaaDoor.rng
open Go.RowKit
open Go.Proofs.YtkababeeikhifaaDoor.oct Go.Proofs.YtkababeeikhifaaDoor.ref Go.Proofs.YtkababeeikhifaaDoor.rows Go.Proofs.YtkababeeikhifaaDoor.rowg Go.Proofs.YtkababeeikhifaaDoor.trn
open Go.Proofs.YtkababeeikhifaaDoor.scp (tx senc senc_len InS ins_below ins_cell)
attribute [local go_sem] Oper.semAt_some

set_option maxHeartbeats 1000000 in
theorem behind_in (p : Option Addr) (key : T) (n : Nat) (w : World) :
    CallsIn Fence.wide n Tryd.prog 35 #[.pointer p, tx key] w fun e w' => e = .returned (.func (.func 50) #[] #[.pointer (some ⟨w.heap.size, 0, none⟩), .pointer (some ⟨w.heap.size + 1, 0, none⟩)]) ∧ w' = (w.alloc (.cells #[.pointer p] 24)).alloc (.cells #[tx key] 9) := by
  unfold tx
  refine callsIn_of_wp Tryd.func35 rfl trivial ?_ rfl
  simp only [Tryd.ntmps35, List.size_toArray, List.length_cons, List.length_nil, Nat.reduceAdd, Nat.reduceSub, Array.replicate_succ, Array.replicate_zero, List.push_toArray, List.append_toArray, List.nil_append, List.cons_append]
  gi_wp2
  go_ret
  exact ⟨rfl, rfl⟩
theorem behind_stops (n : Nat) (hn : 1 ≤ n) (m b B1 B2 g pb C : Nat) (l : List Pn) (key : T) (w : World) (hI : It m b B1 g pb C l w) (hB2 : w.cell? ⟨B2, 0, none⟩ = some (tx key)) (hT : RT w) (hs : aLe l) (hl : l.length ≤ 600) (hk : key.length ≤ 140737488354500) :
    SeqStopsK Fence.wide n Tryd.prog 50 #[.pointer (some ⟨B1, 0, none⟩), .pointer (some ⟨B2, 0, none⟩)] (fun x : Nat => #[.int .i64 (x : Int)]) (KR m b) (fun ys => ys = behR l (plc key)) (fun pre => pre <+: behR l (plc key)) l.length w := fun yl J Jx W hW hJ _ hY h0 =>
  behind1_in n hn yl m b B1 B2 g pb C l key J Jx W.heap.size hJ hY W (hI.below hW) ((hW.cell (p := ⟨B2, 0, none⟩) (cell_lt hB2)).trans hB2) (hT.below hW) hs hl hk h0
theorem behind1_nil (n yl B1 B2 : Nat) (J : List Nat → World → Prop) (W : World) (hB1 : W.cell? ⟨B1, 0, none⟩ = some (.pointer none)) (h0 : J [] W) :
    CallsIn Fence.wide n Tryd.prog 50 #[.func (.yield yl) #[] #[], .pointer (some ⟨B1, 0, none⟩), .pointer (some ⟨B2, 0, none⟩)] W fun e W' => (∃ v, e = .returned v) ∧ ∃ ys, ys = [] ∧ J ys W' := by
  have H0 := Lib.hid h0
  clear h0
  refine callsIn_of_wp Tryd.func50 rfl trivial ?_ rfl
  simp only [Tryd.ntmps50, List.size_toArray, List.length_cons, List.length_nil, Nat.reduceAdd, Nat.reduceSub, Array.replicate_succ, Array.replicate_zero, List.push_toArray, List.append_toArray, List.nil_append, List.cons_append]
  gi_wp2
  refine bodyPost_ret (results_none rfl _ _ _) rfl ?_
  exact ⟨⟨_, rfl⟩, [], rfl, H0.out⟩
theorem nil_stops (n m b B1 B2 : Nat) (w : World) (hB1 : w.cell? ⟨B1, 0, none⟩ = some (.pointer none)) :
    SeqStopsK Fence.wide n Tryd.prog 50 #[.pointer (some ⟨B1, 0, none⟩), .pointer (some ⟨B2, 0, none⟩)] (fun x : Nat => #[.int .i64 (x : Int)]) (KR m b) (fun ys => ys = []) (fun pre => pre = [] ∧ False) 0 w := fun yl J _ W hW _ _ _ h0 =>
  (behind1_nil n yl B1 B2 J W ((hW.cell (p := ⟨B1, 0, none⟩) (cell_lt hB1)).trans hB1) h0).mono fun _ _ ⟨h1, h2⟩ => ⟨h1, .inl h2⟩
theorem load_box {P : Program} {w : World} {b : Nat} {t : TypeId} {x : Value} (h : Boxed w b t x) (ha : (isAgg t).run P w = .ok false w) : (loadVar t ⟨b, 0, none⟩).run P w = .ok x w := by
  have hc := h.cell
  simp [loadVar, ha, go_sem, hc]
/-- a result that lies in a box -/
theorem results_box {P : Program} {fn : Func} {p : Tmp} {t1 : TypeId} (h : fn.results = #[.cell p t1]) (tmps : Array Value) (w : World) (b2 : Nat) (x : Value)
    (hp : tmps.getD p undef = .pointer (some ⟨b2, 0, none⟩)) (h2 : Boxed w b2 t1 x) (a1 : ∀ w, (isAgg t1).run P w = .ok false w) : (results fn tmps).run P w = .ok x w := by
  have hp' : tmps[p]?.getD undef = .pointer (some ⟨b2, 0, none⟩) := by simpa using hp
  have l1 := load_box h2 (a1 w)
  simp [results, h, hp', asAddr, l1]
theorem boxed_kept {W W' : World} {row : Option Nat} {B : Nat} {t : TypeId} {v : Value} (h : Boxed W B t v) (hg : W.grownBy W' row) (hr : ∀ r, row = some r → ∃ o : Obj, W.heap[r]? = some o ∧ o.isCells = false) : Boxed W' B t v := by
  refine h.kept hg (fun e => ?_)
  obtain ⟨o, ho, hc⟩ := hr B e.symm
  rw [show W.heap[B]? = _ from h] at ho; cases ho; cases hc
theorem boxed_put {w : World} {b D : Nat} {t : TypeId} {x : Value} (h : Boxed w b t x) {o : Obj} (o' : Obj) (hK : w.heap[D]? = some o) (ho : o.isCells = false) : Boxed (w.putObj D o') b t x :=
  boxed_kept h (grownBy_putObj' w D o') (fun r e => by cases e; exact ⟨o, hK, ho⟩)
set_option maxRecDepth 100000 in
set_option maxHeartbeats 4000000 in
theorem owner_in (n : Nat) (hn : 5 ≤ n) {w : World} {F : Nat → Prop} {g np : Nat} {ms : List T} (h : Rg w F g np ms) (hT : RT w) (key : T) (hk : key.length ≤ 140737488354500) :
    CallsIn Fence.wide n Tryd.prog 20 #[.pointer (some ⟨g, 0, none⟩), tx key] w fun e w' => e = .returned (.int .i64 (ownR np ms (plc key) : Nat)) ∧ Below w.heap.size w w' := by
  have h1 : 1 ≤ n := by omega
  obtain ⟨vn, vp, hR⟩ := h
  have hg := hR.good
  have hL1 : 1 ≤ ms.length * np := Nat.mul_le_mul hg.lo hR.n1
  have hL8 : ms.length * np ≤ 8 * 64 := Nat.mul_le_mul hg.hi hR.n64
  have hrl := rpts_len np ms
  obtain ⟨pb, C, rfl, hc, hin⟩ := own_in pnc_len (by decide) hrl hL1 hR.prow
  have c2 : w.cell? ⟨g, 2, none⟩ = some (.slice (some ⟨pb, 0, none⟩) (rpts np ms).length C) := by rw [hrl]; exact hR.blk.cell 2
  have hs := rpts_le np ms
  have hgl := hR.blk.lt
  have hpl : pb < w.heap.size := (hR.prow.lt pb rfl).2
  have HO : Hid (ownR np ms (plc key) = (behR (rpts np ms) (plc key)).headD 0) := Lib.hid rfl
  have hbl := behR_len (rpts np ms) (plc key) hs
  have HNE : Hid (behR (rpts np ms) (plc key) ≠ []) := Lib.hid fun e => by rw [e] at hbl; simp at hbl; omega
  refine callsIn_of_wp_marks Tryd.func20 rfl trivial ?_ rfl
  simp only [Tryd.ntmps20, List.size_toArray, List.length_cons, List.length_nil, Nat.reduceAdd, Nat.reduceSub, Array.replicate_succ, Array.replicate_zero, List.push_toArray, List.append_toArray, List.nil_append, List.cons_append]
  gi_wp2_with (refine ⟨trivial, ?_⟩; gi_at_call 35; refine (behind_in (some ⟨g, 0, none⟩) key (n - 1) _).mono ?_; rintro e w' ⟨rfl, rfl⟩)
  obtain ⟨w0, hw0⟩ : ∃ w0, w0 = ((w.alloc (.cells #[.int .i64 0] 3)).alloc (.cells #[.pointer (some ⟨g, 0, none⟩)] 24)).alloc (.cells #[tx key] 9) := ⟨_, rfl⟩
  have hs0 : w0.heap.size = w.heap.size + 3 := by rw [hw0]; simp
  have bb0 : Below w.heap.size w w0 := by
    rw [hw0]
    exact (((Below.refl _ w).alloc (Nat.le_refl _) _).alloc (by simp) _).alloc (by simp; omega) _
  have x4 : Boxed w0 w.heap.size 3 (.int .i64 0) := by rw [hw0]; exact ((Boxed.new w _ _).alloc _).alloc _
  have x1 : Boxed w0 (w.heap.size + 1) 24 (.pointer (some ⟨g, 0, none⟩)) := by
    rw [hw0]
    have := (Boxed.new (w.alloc (.cells #[.int .i64 0] 3)) 24 (.pointer (some ⟨g, 0, none⟩))).alloc (.cells #[tx key] 9)
    simpa using this
  have x2 : Boxed w0 (w.heap.size + 1 + 1) 9 (tx key) := by
    rw [hw0]
    have := Boxed.new ((w.alloc (.cells #[.int .i64 0] 3)).alloc (.cells #[.pointer (some ⟨g, 0, none⟩)] 24)) 9 (tx key)
    simpa using this
  rw [← hw0]
  clear hw0
  have hIt : It w0.heap.size w.heap.size (w.heap.size + 1) g pb C (rpts np ms) w0 := ⟨x1.cell, (bb0.cell (p := ⟨g, 2, none⟩) hgl).trans c2, InG.below pnc_len (by decide) hin bb0, by omega, by omega, by omega⟩
  refine wpIn_rangeFunc_ownG rfl h1 (gf := 50) (lb := #[.pointer (some ⟨w.heap.size + 1, 0, none⟩), .pointer (some ⟨w.heap.size + 1 + 1, 0, none⟩)]) rfl trivial (enters_of Tryd.func50 (by kernel_rfl) rfl)
    (behind_stops (n - 1) (by omega) w0.heap.size w.heap.size (w.heap.size + 1) (w.heap.size + 1 + 1) g pb C (rpts np ms) key w0 hIt x2.cell (hT.below bb0) hs (by omega) hk) (fun h k => h.trans k) (fun W l o o' hl => KR.put W l o o' hl) (Below.refl _ _) (fun _ => rfl)
    (fun pre W => (pre = [] ∧ Boxed W w.heap.size 3 (.int .i64 0)) ∧ Below w.heap.size w W)
    (fun c pre W => (c = .ret ∧ ∃ x : Nat, pre = [x] ∧ Boxed W w.heap.size 3 (.int .i64 (x : Int))) ∧ Below w.heap.size w W)
    (OwnFrom.and (Own.from (fun s X Y row hsx hg hr => ⟨hsx.1, boxed_kept hsx.2 hg hr⟩) _) (ownFrom_below (Nat.le_refl _) (by omega)))
    (fun c => OwnFrom.and (Own.from (fun s X Y row hsx hg hr => ⟨hsx.1, hsx.2.elim fun x hx => ⟨x, hx.1, boxed_kept hx.2 hg hr⟩⟩) _) (ownFrom_below (Nat.le_refl _) (by omega)))
    ⟨⟨rfl, x4⟩, bb0⟩
    (fun x => { tmps := #[.pointer (some ⟨g, 0, none⟩), tx key, undef, undef, .pointer (some ⟨w.heap.size, 0, none⟩), .int .i64 (x : Int), .pointer (some ⟨g, 0, none⟩), tx key, .func (.func 50) #[] #[.pointer (some ⟨w.heap.size + 1, 0, none⟩), .pointer (some ⟨w.heap.size + 1 + 1, 0, none⟩)], .int .i64 (x : Int), undef], defers := [] }) ?assign ?body ?done ?stop
  case assign =>
    intro l x W K hK
    gi_wp2
    exact hK
  case body =>
    rintro l pre x W ⟨⟨rfl, hb⟩, hB⟩ _
    have c4 := hb.cell
    have f4 := hb.frozen
    gi_wp2
    exact ⟨(KeepsOthers.setCell _ _ _).from _, ⟨rfl, x, rfl, hb.set _⟩, hB.setCell (p := ⟨w.heap.size, 0, none⟩) (Nat.le_refl _) _⟩
  case done =>
    rintro D ys W hD hys ⟨⟨e, _⟩, _⟩ _
    exact absurd (hys.symm.trans e) HNE.out
  case stop =>
    rintro D c pre W hD ⟨rest, hr⟩ ⟨⟨rfl, x, rfl, hb⟩, hB⟩ hK
    have HE : Hid (ownR np ms (plc key) = x) := Lib.hid (by rw [HO.out, ← hr]; rfl)
    gi_wp2
    refine ⟨by simp, .inl ⟨_, _, rfl, run_takeDeferred hK, ?_⟩⟩
    refine ⟨_, results_box Tryd.results20 _ _ w.heap.size _ rfl (boxed_put hb _ hK rfl) Tryd.isAgg3, ?_⟩
    rw [HE.out]
    exact ⟨rfl, hB.trans (belowK_b (w := w) (Nat.le_refl _) _ D _ _ (by omega) hK rfl rfl)⟩
theorem owner_c {w : World} {F : Nat → Prop} {g np : Nat} {ms : List T} (h : Rg w F g np ms) (hT : RT w) (key : T) (hk : key.length ≤ 140737488354500) :
    Calls Tryd.prog 20 #[.pointer (some ⟨g, 0, none⟩), tx key] w fun e w' => e = .returned (.int .i64 (ownR np ms (plc key) : Nat)) ∧ Below w.heap.size w w' := callsIn_wide.1 (owner_in 5 (Nat.le_refl _) h hT key hk)
set_option maxRecDepth 100000 in
set_option maxHeartbeats 4000000 in
theorem owner_nil_in (n : Nat) (hn : 5 ≤ n) (w : World) (key : T) :
    CallsIn Fence.wide n Tryd.prog 20 #[.pointer none, tx key] w fun e w' => e = .returned (.int .i64 (-1)) ∧ Below w.heap.size w w' := by
  have h1 : 1 ≤ n := by omega
  refine callsIn_of_wp_marks Tryd.func20 rfl trivial ?_ rfl
  simp only [Tryd.ntmps20, List.size_toArray, List.length_cons, List.length_nil, Nat.reduceAdd, Nat.reduceSub, Array.replicate_succ, Array.replicate_zero, List.push_toArray, List.append_toArray, List.nil_append, List.cons_append]
  gi_wp2_with (refine ⟨trivial, ?_⟩; gi_at_call 35; refine (behind_in none key (n - 1) _).mono ?_; rintro e w' ⟨rfl, rfl⟩)
  obtain ⟨w0, hw0⟩ : ∃ w0, w0 = ((w.alloc (.cells #[.int .i64 0] 3)).alloc (.cells #[.pointer none] 24)).alloc (.cells #[tx key] 9) := ⟨_, rfl⟩
  have hs0 : w0.heap.size = w.heap.size + 3 := by rw [hw0]; simp
  have bb0 : Below w.heap.size w w0 := by
    rw [hw0]
    exact (((Below.refl _ w).alloc (Nat.le_refl _) _).alloc (by simp) _).alloc (by simp; omega) _
  have x4 : Boxed w0 w.heap.size 3 (.int .i64 0) := by rw [hw0]; exact ((Boxed.new w _ _).alloc _).alloc _
  have x1 : Boxed w0 (w.heap.size + 1) 24 (.pointer none) := by
    rw [hw0]
    have := (Boxed.new (w.alloc (.cells #[.int .i64 0] 3)) 24 (.pointer none)).alloc (.cells #[tx key] 9)
    simpa using this
  rw [← hw0]
  clear hw0
  refine wpIn_rangeFunc_ownG rfl h1 (gf := 50) (lb := #[.pointer (some ⟨w.heap.size + 1, 0, none⟩), .pointer (some ⟨w.heap.size + 1 + 1, 0, none⟩)]) rfl trivial (enters_of Tryd.func50 (by kernel_rfl) rfl)
    (nil_stops (n - 1) w0.heap.size w.heap.size (w.heap.size + 1) (w.heap.size + 1 + 1) w0 x1.cell) (fun h k => h.trans k) (fun W l o o' hl => KR.put W l o o' hl) (Below.refl _ _) (fun _ => rfl)
    (fun _ W => Boxed W w.heap.size 3 (.int .i64 0) ∧ Below w.heap.size w W)
    (fun _ _ _ => False)
    (OwnFrom.and (Own.from (fun s X Y row hsx hg hr => boxed_kept hsx hg hr) _) (ownFrom_below (Nat.le_refl _) (by omega)))
    (fun _ _ _ _ _ hs _ _ => hs)
    ⟨x4, bb0⟩
    (fun x => { tmps := #[.pointer none, tx key, undef, undef, .pointer (some ⟨w.heap.size, 0, none⟩), .int .i64 (x : Int), .pointer none, tx key, .func (.func 50) #[] #[.pointer (some ⟨w.heap.size + 1, 0, none⟩), .pointer (some ⟨w.heap.size + 1 + 1, 0, none⟩)], .int .i64 (x : Int), undef], defers := [] }) ?assign ?body ?done ?stop
  case assign =>
    intro l x W K hK
    gi_wp2
    exact hK
  case body =>
    rintro l pre x W _ hlt
    exact absurd hlt (Nat.not_lt_zero _)
  case done =>
    rintro D ys W hD _ ⟨hb, hB⟩ hK
    have c4 := hb.cell
    have f4 := hb.frozen
    gi_wp2
    have hko : KeepsOthers W (W.setCell ⟨w.heap.size, 0, none⟩ (.int .i64 (-1))) := KeepsOthers.setCell _ _ _
    have hK2 := hko.same D _ hK rfl
    refine ⟨by simp, .inl ⟨_, _, rfl, run_takeDeferred hK2, ?_⟩⟩
    refine ⟨_, results_box Tryd.results20 _ _ w.heap.size _ rfl (boxed_put (hb.set (.int .i64 (-1))) _ hK2 rfl) Tryd.isAgg3, ?_⟩
    exact ⟨rfl, (hB.setCell (p := ⟨w.heap.size, 0, none⟩) (Nat.le_refl _) _).trans (belowK_b (w := w) (Nat.le_refl _) _ D _ _ (by omega) hK2 rfl rfl)⟩
  case stop =>
    rintro D c pre W _ _ h _
    exact h.elim
theorem owner_nil (w : World) (key : T) : Calls Tryd.prog 20 #[.pointer none, tx key] w fun e w' => e = .returned (.int .i64 (-1)) ∧ Below w.heap.size w w' := callsIn_wide.1 (owner_nil_in 5 (Nat.le_refl _) w key)
end Go.Proofs.YtkababeeikhifaaDoor.rng
