/- The contract of the developers' Parse. Texts of up to 2^47 - 4096 bytes. -/
import Derived.Test.YtfgenbmobfbifaaFdv8
import Derived.Test.YtfgenbmobfbifaaFldR
namespace Go.Proofs.Ytfgenbmobfbifaa.fdv
open Go.RowKit
open Go.Proofs.Ytfgenbmobfbifaa.oct Go.Proofs.Ytfgenbmobfbifaa.ref Go.Proofs.Ytfgenbmobfbifaa.fld Go.Proofs.Ytfgenbmobfbifaa.rows
open Go.Lib (byteCells)
attribute [local go_sem] Oper.semAt_some

theorem keeps_of_below {W W' : World} (h : Below W.heap.size W W') : KeepsOthers W W' :=
  ⟨h.size, fun k _ hk _ => (h.block k (Array.getElem?_eq_some_iff.1 hk).1).trans hk⟩
theorem boxed_below {n₀ : Nat} {W W' : World} {B : Nat} {t : TypeId} {v : Value} (h : Boxed W B t v) (hb : Below n₀ W W') (hB : B < n₀) : Boxed W' B t v := (hb.block B hB).trans h
theorem boxed_own {W W' : World} {row : Option Nat} {B : Nat} {t : TypeId} {v : Value} (h : Boxed W B t v) (hg : W.grownBy W' row) (hr : ∀ r, row = some r → ∃ o : Obj, W.heap[r]? = some o ∧ o.isCells = false) : Boxed W' B t v := by
  refine h.kept hg (fun e => ?_)
  obtain ⟨o, ho, hc⟩ := hr B e.symm
  rw [show W.heap[B]? = _ from h] at ho; cases ho; cases hc
theorem row_own {W W' : World} {row : Option Nat} {n₀ e size k : Nat} {v : Value} {xs : List Value} (h : W.ownsRow n₀ e size v k xs) (hg : W.grownBy W' row) (hr : ∀ r, row = some r → ∃ o : Obj, W.heap[r]? = some o ∧ o.isCells = false) : W'.ownsRow n₀ e size v k xs := by
  refine h.kept hg ?_
  rcases h.2 with ⟨rfl, _⟩ | ⟨g, cap, cur, rfl, _, hgb, _⟩
  · exact .inl rfl
  · refine .inr fun e' => ?_
    obtain ⟨o, ho, hc⟩ := hr g (by simpa [Value.ownBlock] using e'.symm)
    rw [hgb] at ho; cases ho; cases hc
/-- between two rounds: what the pieces so far have come to; the boxes of the results and of 'out' -/
structure Mid (n₀ B2 B3 B4 : Nat) (pre : List (List UInt8)) (acc : List Pr) (v : Value) (W : World) : Prop where
  few : acc.length ≤ 64
  run : ∀ rest, runP (pre ++ rest) [] = runP rest acc
  b2 : Boxed W B2 30 (.slice none 0 0)
  b3 : Boxed W B3 25 (.int .i64 0)
  b4 : Boxed W B4 30 v
  row : W.ownsRow n₀ 44 2 v acc.length (pcells acc)
theorem mid_own (n₀ B2 B3 B4 : Nat) : Own (fun (pre : List Txt) W => ∃ acc v, Mid n₀ B2 B3 B4 (txs pre) acc v W) := by
  rintro s X Y row ⟨acc, v, h⟩ hg hr
  exact ⟨acc, v, h.few, h.run, boxed_own h.b2 hg hr, boxed_own h.b3 hg hr, boxed_own h.b4 hg hr, row_own h.row hg hr⟩
theorem src_one (w : World) (y : Pr) (b : Nat) (hb : b = w.heap.size) : ∀ j u, (pcells [y])[j]? = some u → (w.alloc (.cells #[.string ⟨y.1.toArray⟩, .string ⟨y.2.toArray⟩] 44)).cell? ((⟨b, 0, none⟩ : Addr).add j) = some u := by
  subst hb
  intro j u hj
  have hb := heap_alloc_new w (.cells #[.string ⟨y.1.toArray⟩, .string ⟨y.2.toArray⟩] 44)
  match j, hj with
  | 0, hj => cases hj; show (w.alloc _).cell? ⟨w.heap.size, 0, none⟩ = _; rw [Lib.cell_of_heap hb]; rfl
  | 1, hj => cases hj; show (w.alloc _).cell? ⟨w.heap.size, 1, none⟩ = _; rw [Lib.cell_of_heap hb]; rfl
  | j + 2, hj => simp [pcells] at hj
/-- a round has left by return -/
structure Out (B2 B3 : Nat) (pre : List (List UInt8)) (code : Nat) (W : World) : Prop where
  run : ∀ rest, runP (pre ++ rest) [] = (code, [])
  b2 : Boxed W B2 30 (.slice none 0 0)
  b3 : Boxed W B3 25 (.int .i64 code)
theorem out_own (B2 B3 : Nat) (c : Code) : Own (fun (pre : List Txt) W => c = .ret ∧ ∃ code, Out B2 B3 (txs pre) code W) := by
  rintro s X Y row ⟨hc, code, h⟩ hg hr
  exact ⟨hc, code, h.run, boxed_own h.b2 hg hr, boxed_own h.b3 hg hr⟩
theorem load_box {P : Program} {w : World} {b : Nat} {t : TypeId} {x : Value} (h : Boxed w b t x) (ha : (isAgg t).run P w = .ok false w) : (loadVar t ⟨b, 0, none⟩).run P w = .ok x w := by
  have hc := h.cell
  simp [loadVar, ha, go_sem, hc]
/-- two results that lie in boxes -/
theorem results_boxes {P : Program} {fn : Func} {p q : Tmp} {t1 t2 : TypeId} (h : fn.results = #[.cell p t1, .cell q t2]) (tmps : Array Value) (w : World) (b2 b3 : Nat) (x y : Value)
    (hp : tmps.getD p undef = .pointer (some ⟨b2, 0, none⟩)) (hq : tmps.getD q undef = .pointer (some ⟨b3, 0, none⟩)) (h2 : Boxed w b2 t1 x) (h3 : Boxed w b3 t2 y)
    (a1 : ∀ w, (isAgg t1).run P w = .ok false w) (a2 : ∀ w, (isAgg t2).run P w = .ok false w) : (results fn tmps).run P w = .ok (.tuple #[x, y]) w := by
  have hp' : tmps[p]?.getD undef = .pointer (some ⟨b2, 0, none⟩) := by simpa using hp
  have hq' : tmps[q]?.getD undef = .pointer (some ⟨b3, 0, none⟩) := by simpa using hq
  have l1 := load_box h2 (a1 w)
  have l2 := load_box h3 (a2 w)
  simp [results, h, hp', hq', asAddr, l1, l2]
theorem boxed_putObj {w : World} {b D : Nat} {t : TypeId} {x : Value} (h : Boxed w b t x) {o : Obj} (o' : Obj) (hK : w.heap[D]? = some o) (ho : o.isCells = false) : Boxed (w.putObj D o') b t x :=
  boxed_own h (grownBy_putObj' w D o') (fun r e => by cases e; exact ⟨o, hK, ho⟩)
set_option maxRecDepth 100000 in
set_option maxHeartbeats 2000000 in
theorem dparse_in (L : List UInt8) (w : World) (hL : L.length ≤ 16384) (n : Nat) (hn : 5 ≤ n) :
    CallsIn Fence.wide n Try.prog 19 #[.string ⟨L.toArray⟩] w fun e w' => ParseV w w' (parse L) e := by
  have h1 : 1 ≤ n := by omega
  have hI : (L.length : Int) ≤ 16384 := by omega
  refine callsIn_of_wp_marks Try.func19 rfl trivial ?_ rfl
  simp only [Try.ntmps19, List.size_toArray, List.length_cons, List.length_nil, Nat.reduceAdd, Nat.reduceSub, Array.replicate_succ, Array.replicate_zero, List.push_toArray, List.append_toArray, List.nil_append, List.cons_append]
  gi_wp2_with (refine ⟨trivial, ?_⟩; gi_at_call 35; refine (pieces_in L (n - 1) _).mono ?_; rintro e w' ⟨rfl, rfl⟩)
  obtain ⟨w0, hw0⟩ : ∃ w0, w0 = ((((w.alloc (.cells #[.slice none 0 0] 30)).alloc (.cells #[.int .i64 0] 25)).alloc (.cells #[.slice none 0 0] 30)).alloc (.cells #[tx L] 9)) := ⟨_, rfl⟩
  have hs0 : w0.heap.size = w.heap.size + 4 := by rw [hw0]; simp
  have bb0 : Below w.heap.size w w0 := by
    rw [hw0]
    exact ((((Below.refl _ w).alloc (Nat.le_refl _) _).alloc (by simp) _).alloc (by simp; omega) _).alloc (by simp; omega) _
  have x2 : Boxed w0 w.heap.size 30 (.slice none 0 0) := by rw [hw0]; exact (((Boxed.new w _ _).alloc _).alloc _).alloc _
  have x3 : Boxed w0 (w.heap.size + 1) 25 (.int .i64 0) := by
    rw [hw0]
    have := ((Boxed.new (w.alloc (.cells #[.slice none 0 0] 30)) 25 (.int .i64 0)).alloc (.cells #[.slice none 0 0] 30)).alloc (.cells #[tx L] 9)
    simpa using this
  have x4 : Boxed w0 (w.heap.size + 1 + 1) 30 (.slice none 0 0) := by
    rw [hw0]
    have := (Boxed.new ((w.alloc (.cells #[.slice none 0 0] 30)).alloc (.cells #[.int .i64 0] 25)) 30 (.slice none 0 0)).alloc (.cells #[tx L] 9)
    simpa using this
  have x5 : Boxed w0 (w.heap.size + 1 + 1 + 1) 9 (tx L) := by
    rw [hw0]
    have := Boxed.new (((w.alloc (.cells #[.slice none 0 0] 30)).alloc (.cells #[.int .i64 0] 25)).alloc (.cells #[.slice none 0 0] 30)) 9 (tx L)
    simpa using this
  rw [← hw0]
  clear hw0
  refine wpIn_rangeFunc_ownG rfl h1 (gf := 43) (lb := #[.pointer (some ⟨w.heap.size + 1 + 1 + 1, 0, none⟩)]) rfl trivial (enters_of Try.func43 (by kernel_rfl) rfl)
    (pieces_stops (n - 1) (by omega) (w.heap.size + 1 + 1 + 1) w.heap.size L (by omega) w0 (by omega) x5.cell) belowK_t (belowK_b (by omega)) (Below.refl _ _) (fun _ => rfl)
    (fun pre W => (∃ acc v, Mid w.heap.size w.heap.size (w.heap.size + 1) (w.heap.size + 1 + 1) (txs pre) acc v W) ∧ Below w.heap.size w W)
    (fun c pre W => (c = .ret ∧ ∃ code, Out w.heap.size (w.heap.size + 1) (txs pre) code W) ∧ Below w.heap.size w W)
    (OwnFrom.and (Own.from (mid_own _ _ _ _) _) (ownFrom_below (Nat.le_refl _) (by omega)))
    (fun c => OwnFrom.and (Own.from (out_own _ _ _) _) (ownFrom_below (Nat.le_refl _) (by omega)))
    ⟨⟨[], .slice none 0 0, by simp, fun _ => rfl, x2, x3, x4, World.ownsRow_nil _ _ _ _⟩, bb0⟩
    (fun x => { tmps := #[.string ⟨L.toArray⟩, undef, .pointer (some ⟨w.heap.size, 0, none⟩), .pointer (some ⟨w.heap.size + 1, 0, none⟩), .pointer (some ⟨w.heap.size + 1 + 1, 0, none⟩), tx x.1, undef, undef, .string ⟨L.toArray⟩, .int .i64 (L.length : Int), .bool (decide ((16384 : Int) < (L.length : Int))), .string ⟨L.toArray⟩, .func (.func 43) #[] #[.pointer (some ⟨w.heap.size + 1 + 1 + 1, 0, none⟩)], tx x.1, undef, undef, undef, undef, undef, undef, undef, undef, undef, undef, undef, undef, undef, undef, undef, undef], defers := [] }) ?assign ?body ?done ?stop
  case assign =>
    intro l x W K hK
    unfold tx at hK ⊢
    gi_wp2
    exact hK
  case body =>
    rintro l pre x W ⟨⟨acc, v, hM⟩, hB⟩ hlt
    have c4 := hM.b4.cell
    have c2 := hM.b2.cell
    have f2 := hM.b2.frozen
    have c3 := hM.b3.cell
    have f3 := hM.b3.frozen
    obtain ⟨p, c, rfl, _, _, _⟩ := own_pairs hM.row
    have HM := Lib.hid hM
    have HB := Lib.hid hB
    have hfew := hM.few
    have HLT := Lib.hid hlt
    clear hM hB hlt
    by_cases h64 : acc.length = 64
    · have hlen : ((acc.length : Int) == 64) = true := by rw [h64]; rfl
      gi_wp2
      have t2 := HM.out.b2.set (.slice none 0 0)
      have t3 : Boxed (W.setCell ⟨w.heap.size, 0, none⟩ (.slice none 0 0)) (w.heap.size + 1) 25 (.int .i64 0) := HM.out.b3.kept (grownBy_setCell' W w.heap.size _) (by simp)
      have t3' := t3.set (.int .i64 2)
      have t2' := t2.kept (grownBy_setCell' _ (w.heap.size + 1) (.int .i64 2)) (by simp)
      have hk : KeepsOthers W ((W.setCell ⟨w.heap.size, 0, none⟩ (.slice none 0 0)).setCell ⟨w.heap.size + 1, 0, none⟩ (.int .i64 2)) := (KeepsOthers.setCell _ _ _).trans (KeepsOthers.setCell _ _ _)
      refine ⟨hk.from _, ⟨rfl, 2, ?_, t2', t3'⟩, (HB.out.setCell (p := ⟨w.heap.size, 0, none⟩) (Nat.le_refl _) _).setCell (p := ⟨w.heap.size + 1, 0, none⟩) (by simp) _⟩
      intro rest
      rw [txs_snoc, List.append_assoc, HM.out.run, List.singleton_append, runP, if_pos h64]
    · have hlen : ((acc.length : Int) == 64) = false := by rw [beq_eq_false_iff_ne]; omega
      have HR : Hid (∀ rest, runP (txs (pre ++ [x]) ++ rest) [] = match pairOf x.1 with | none => (3, []) | some y => runP rest (acc ++ [y])) := fun rest => by
        rw [txs_snoc, List.append_assoc, HM.out.run, List.singleton_append, runP, if_neg h64]
        cases pairOf x.1 <;> rfl
      have HC := Lib.hid (dpair_c ⟨x.1.toArray⟩ W (by rw [size_mk]; exact x.2))
      have hdep : 1 ≤ n - 1 - 1 := by omega
      cases hp : pairOf x.1 with
      | none =>
        rw [show (⟨x.1.toArray⟩ : ByteArray).data.toList = x.1 from rfl, hp] at HC
        rw [hp] at HR
        unfold pairV tx at HC
        unfold tx
        clear c2 f2 c3 f3
        gi_wp2_with (refine ⟨trivial, ?_⟩; gi_at_call 36; refine (CallsIn.inRound l (callsIn_wide.2 HC.out)).mono ?_; rintro e W1 ⟨rfl, hb1⟩; have hk1 := keeps_of_below hb1; have y2 := boxed_below HM.out.b2 hb1 HM.out.b2.lt; have y3 := boxed_below HM.out.b3 hb1 HM.out.b3.lt; have hb2 := bnext HB.out hb1; have y2a := y2.alloc (.cells #[.string ⟨#[]⟩, .string ⟨#[]⟩] 44); have y3a := y3.alloc (.cells #[.string ⟨#[]⟩, .string ⟨#[]⟩] 44); have c2 := y2a.cell; have f2 := y2a.frozen; have c3 := y3a.cell; have f3 := y3a.frozen; have Y2 := Lib.hid y2a; have Y3 := Lib.hid y3a; have HB2 := Lib.hid hb2; have HK1 := Lib.hid hk1; clear y2 y3 y2a y3a hb2 hk1 hb1)
        have hk2 := (HK1.out.trans (KeepsOthers.alloc W1 (.cells #[.string ⟨#[]⟩, .string ⟨#[]⟩] 44))).trans ((KeepsOthers.setCell _ ⟨w.heap.size, 0, none⟩ (.slice none 0 0)).trans (KeepsOthers.setCell _ ⟨w.heap.size + 1, 0, none⟩ (.int .i64 3)))
        have t2' := (Y2.out.set (.slice none 0 0)).kept (grownBy_setCell' _ (w.heap.size + 1) (.int .i64 3)) (by simp)
        have t3' := (Y3.out.kept (grownBy_setCell' _ w.heap.size (.slice none 0 0)) (by simp)).set (.int .i64 3)
        refine ⟨hk2.from _, ⟨rfl, 3, HR.out, t2', t3'⟩, ?_⟩
        exact ((HB2.out.alloc HB2.out.size (.cells #[.string ⟨#[]⟩, .string ⟨#[]⟩] 44)).setCell (p := ⟨w.heap.size, 0, none⟩) (Nat.le_refl _) _).setCell (p := ⟨w.heap.size + 1, 0, none⟩) (by simp) _
      | some y =>
        rw [show (⟨x.1.toArray⟩ : ByteArray).data.toList = x.1 from rfl, hp] at HC
        rw [hp] at HR
        obtain ⟨y1, y2⟩ := y
        unfold pairV tx at HC
        unfold tx
        obtain ⟨j0, hj, hy0, hy1, hy2⟩ := info_parts infoPair
        clear c2 f2 c3 f3
        gi_wp2_with (first
          | (refine ⟨trivial, ?_⟩; gi_at_call 36; refine (CallsIn.inRound l (callsIn_wide.2 HC.out)).mono ?_; rintro e W1 ⟨rfl, hb1⟩; have z2 := (boxed_below HM.out.b2 hb1 HM.out.b2.lt).alloc (.cells #[.string ⟨y1.toArray⟩, .string ⟨y2.toArray⟩] 44); have z3 := (boxed_below HM.out.b3 hb1 HM.out.b3.lt).alloc (.cells #[.string ⟨y1.toArray⟩, .string ⟨y2.toArray⟩] 44); have z4 := (boxed_below HM.out.b4 hb1 HM.out.b4.lt).alloc (.cells #[.string ⟨y1.toArray⟩, .string ⟨y2.toArray⟩] 44); have c5 := z4.cell; have HRA := Lib.hid ((own_belowS HM.out.row hb1).alloc (.cells #[.string ⟨y1.toArray⟩, .string ⟨y2.toArray⟩] 44)); have HSZ := Lib.hid (Nat.le_trans (bnext HB.out hb1).size (by simp) : w.heap.size ≤ (W1.alloc (.cells #[.string ⟨y1.toArray⟩, .string ⟨y2.toArray⟩] 44)).heap.size); have HK1 := Lib.hid (keeps_of_below hb1); have HB2 := Lib.hid (bnext HB.out hb1); have HB1 := Lib.hid hb1; have Z2 := Lib.hid z2; have Z3 := Lib.hid z3; have Z4 := Lib.hid z4; clear z2 z3 z4 hb1)
          | (gi_at_builtin; refine wpListIn_append_own _ rfl _ _ 30 rfl w.heap.size 44 j0 (.agg #[tx [], tx []]) 2 32 Try.underlying30 hj hy0 hy1 hy2 rfl (by decide) _ _ _ rfl (HRA.out.alloc _) _ 1 1 (pcells [(y1, y2)]) rfl rfl (src_one _ (y1, y2) _ (by simp)) (fun u hu => by obtain ⟨l, rfl⟩ := pcells_tx _ u hu; rfl) (by unfold maxLen; omega) (by omega) (Nat.le_trans HSZ.out (by simp)) ?_; intro v' w1 hown' hgrow _; obtain ⟨g', cap', rfl⟩ := ownsRow_succ hown'; obtain ⟨hv1, hv2, hr2, hk2, hb2⟩ := Z4.out.appended (by decide) HRA.out HSZ.out (by omega) hown' hgrow; have hc1 := hv1.cell; have hf1 := hv1.frozen; have HV2 := Lib.hid hv2; have HR2 := Lib.hid hr2; have HK2 := Lib.hid hk2; have HBB2 := Lib.hid hb2; have HG := Lib.hid hgrow; clear hv1 hv2 hr2 hk2 hb2 hgrow hown'))
        have q2 := ((Z2.out.alloc _).kept HG.out (Z2.out.not_row (by decide) HRA.out)).kept (grownBy_setCell' _ (w.heap.size + 1 + 1) (.slice (some ⟨g', 0, none⟩) (acc.length + 1) cap')) (by simp; omega)
        have q3 := ((Z3.out.alloc _).kept HG.out (Z3.out.not_row (by decide) HRA.out)).kept (grownBy_setCell' _ (w.heap.size + 1 + 1) (.slice (some ⟨g', 0, none⟩) (acc.length + 1) cap')) (by simp)
        have hkk := ((HK1.out.trans (KeepsOthers.alloc W1 (.cells #[.string ⟨y1.toArray⟩, .string ⟨y2.toArray⟩] 44))).trans HK2.out).from w0.heap.size
        have hbw : Below w.heap.size W W1 := HB1.out.mono HB.out.size
        have hbz := (hbw.alloc (Nat.le_trans HB.out.size hbw.size) (.cells #[.string ⟨y1.toArray⟩, .string ⟨y2.toArray⟩] 44)).trans HBB2.out
        have hrr := HR2.out
        rw [← pcells_append, show acc.length + 1 = (acc ++ [(y1, y2)]).length by simp] at hrr
        refine ⟨hkk, hbz, ⟨acc ++ [(y1, y2)], _, by simp; omega, HR.out, q2, q3, HV2.out, ?_⟩, HB.out.trans hbz⟩
        simpa using hrr
  case done =>
    rintro D ys W hD hys ⟨⟨acc, v, hM⟩, hB⟩ hK
    have c4 := hM.b4.cell
    have c2 := hM.b2.cell
    have f2 := hM.b2.frozen
    have c3 := hM.b3.cell
    have f3 := hM.b3.frozen
    obtain ⟨p, c, rfl, _, _, _⟩ := own_pairs hM.row
    have HM := Lib.hid hM
    have HB := Lib.hid hB
    have HK := Lib.hid hK
    have HYS := Lib.hid hys
    clear hM hB hK hys
    gi_wp2
    have hko : KeepsOthers W ((W.setCell ⟨w.heap.size, 0, none⟩ (.slice p acc.length c)).setCell ⟨w.heap.size + 1, 0, none⟩ (.int .i64 0)) := (KeepsOthers.setCell _ _ _).trans (KeepsOthers.setCell _ _ _)
    have hK2 := hko.same D _ HK.out rfl
    have t2 := (HM.out.b2.set (.slice p acc.length c)).kept (grownBy_setCell' _ (w.heap.size + 1) (.int .i64 0)) (by simp)
    have t3 := (HM.out.b3.kept (grownBy_setCell' _ w.heap.size (.slice p acc.length c)) (by simp)).set (.int .i64 0)
    have hnr2 := HM.out.b2.not_row (by decide) HM.out.row
    have hnr3 := HM.out.b3.not_row (by decide) HM.out.row
    have tr := (HM.out.row.kept (grownBy_setCell' _ w.heap.size (.slice p acc.length c)) (.inr hnr2.symm)).kept (grownBy_setCell' _ (w.heap.size + 1) (.int .i64 0)) (.inr hnr3.symm)
    have tb := (HB.out.setCell (p := ⟨w.heap.size, 0, none⟩) (Nat.le_refl _) (.slice p acc.length c)).setCell (p := ⟨w.heap.size + 1, 0, none⟩) (by simp) (.int .i64 0)
    have hpv : parse L = (0, acc) := by
      unfold parse
      rw [if_neg (by omega), ← HYS.out]
      have := HM.out.run []
      rw [List.append_nil] at this
      rw [this, runP]
    refine ⟨by simp, .inl ⟨_, _, rfl, run_takeDeferred hK2, ?_⟩⟩
    refine ⟨_, results_boxes Try.results19 _ _ w.heap.size (w.heap.size + 1) _ _ rfl rfl (boxed_putObj t2 _ hK2 rfl) (boxed_putObj t3 _ hK2 rfl) Try.isAgg30 Try.isAgg25, ?_⟩
    rw [hpv]
    exact ⟨_, rfl, ownsRow_putObj tr _ hK2 rfl, tb.trans (belowK_b (w := w) (Nat.le_refl _) _ D _ _ (by omega) hK2 rfl rfl)⟩
  case stop =>
    rintro D c pre W hD hpx ⟨⟨rfl, code, hM⟩, hB⟩ hK
    obtain ⟨rest, hr⟩ := hpx
    have hpv : parse L = (code, []) := by
      unfold parse
      rw [if_neg (by omega), ← hr]
      exact hM.run rest
    gi_wp2
    refine ⟨by simp, .inl ⟨_, _, rfl, run_takeDeferred hK, ?_⟩⟩
    refine ⟨_, results_boxes Try.results19 _ _ w.heap.size (w.heap.size + 1) _ _ rfl rfl (boxed_putObj hM.b2 _ hK rfl) (boxed_putObj hM.b3 _ hK rfl) Try.isAgg30 Try.isAgg25, ?_⟩
    rw [hpv]
    exact ⟨_, rfl, by simpa [pcells] using World.ownsRow_nil _ _ _ _, hB.trans (belowK_b (w := w) (Nat.le_refl _) _ D _ _ (by omega) hK rfl rfl)⟩
set_option maxRecDepth 100000 in
set_option maxHeartbeats 1000000 in
theorem dparse_c (L : List UInt8) (w : World) (hL : L.length ≤ 140737488351232) :
    Calls Try.prog 19 #[.string ⟨L.toArray⟩] w fun e w' => ParseV w w' (parse L) e := by
  by_cases h : L.length ≤ 16384
  · exact callsIn_wide.1 (dparse_in L w h 5 (Nat.le_refl _))
  · have hpv : Hid (parse L = (2, [])) := by show _ = _; unfold parse; rw [if_pos (by omega)]
    have hI : ((L.length : Int)) > 16384 := by omega
    have x2 : Boxed ((w.alloc (.cells #[.slice none 0 0] 30)).alloc (.cells #[.int .i64 2] 25)) w.heap.size 30 (.slice none 0 0) := (Boxed.new w _ _).alloc _
    have x3 : Boxed ((w.alloc (.cells #[.slice none 0 0] 30)).alloc (.cells #[.int .i64 2] 25)) (w.heap.size + 1) 25 (.int .i64 2) := by
      have := Boxed.new (w.alloc (.cells #[.slice none 0 0] 30)) 25 (.int .i64 2)
      simpa using this
    have X2 := Lib.hid x2
    have X3 := Lib.hid x3
    have HB := Lib.hid (((Below.refl w.heap.size w).alloc (Nat.le_refl _) (.cells #[.slice none 0 0] 30)).alloc (by simp) (.cells #[.int .i64 2] 25))
    clear x2 x3 h hL
    go_enter Try.func19, Try.ntmps19
    go_wp2_with fail
    refine bodyPost_ret (results_boxes Try.results19 _ _ w.heap.size (w.heap.size + 1) _ _ rfl rfl X2.out X3.out Try.isAgg30 Try.isAgg25) rfl ?_
    rw [hpv.out]
    exact ⟨_, rfl, by simpa [pcells] using World.ownsRow_nil _ _ _ _, HB.out⟩
end Go.Proofs.Ytfgenbmobfbifaa.fdv
