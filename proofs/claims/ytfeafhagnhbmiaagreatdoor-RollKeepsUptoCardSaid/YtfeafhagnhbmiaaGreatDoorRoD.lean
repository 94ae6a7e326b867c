/- The developers' of: the client of an Id as it stands. No condition beyond what slices and texts are. -/
import Derived.Test.YtfeafhagnhbmiaaGreatDoorRoC
import Derived.Test.YtfeafhagnhbmiaaGreatDoorGfld
namespace Go.Proofs.YtfeafhagnhbmiaaGreatDoor.rol
open Go.RowKit
open Go.Proofs.YtfeafhagnhbmiaaGreatDoor.oct Go.Proofs.YtfeafhagnhbmiaaGreatDoor.ref Go.Proofs.YtfeafhagnhbmiaaGreatDoor.rows Go.Proofs.YtfeafhagnhbmiaaGreatDoor.rowg Go.Proofs.YtfeafhagnhbmiaaGreatDoor.trn
open Go.Proofs.YtfeafhagnhbmiaaGreatDoor.scp (tx senc senc_len InS Lst lval)

theorem infoCl : (Tryz.prog.info? 49).map (·.size) = some 6 := by kernel_rfl
/-- a row and a value, as results -/
theorem results_row2 {P : Program} {fn : Func} {p q : Tmp} {ty : TypeId} (h : fn.results = #[.cell p ty, .tmp q]) (tmps : Array Value) (w : World) (g : Nat) (t : TypeId) (X : List Value) (u : Value) {d : TypeDesc}
    (hp : tmps.getD p undef = .pointer (some ⟨g, 0, none⟩)) (hq : tmps.getD q undef = u) (hB : Blk w g t X) (hu : P.underlying ty = some d) (hd : (match d with | .struct _ | .array _ _ => true | _ => false) = true) (hi : (P.info? ty).map (·.size) = some X.length) :
    (results fn tmps).run P w = .ok (.tuple #[.agg X.toArray, u]) w := by
  have hp' : tmps[p]?.getD undef = .pointer (some ⟨g, 0, none⟩) := by simpa using hp
  have hq' : tmps[q]?.getD undef = u := by simpa using hq
  have hl := run_loadVar_row (P := P) w g t ty X.toArray (0, 0) d hB hu hd (by rw [hi, List.size_toArray])
  simp [results, h, hp', hq', asAddr, hl]
theorem frz6 {w : World} {g : Nat} {t : TypeId} {v0 v1 v2 v3 v4 v5 : Value} (h : Blk w g t [v0, v1, v2, v3, v4, v5]) : w.frozen? ⟨g, 0, none⟩ = false ∧ w.frozen? ⟨g, 1, none⟩ = false ∧ w.frozen? ⟨g, 2, none⟩ = false ∧ w.frozen? ⟨g, 3, none⟩ = false ∧ w.frozen? ⟨g, 4, none⟩ = false ∧ w.frozen? ⟨g, 5, none⟩ = false := ⟨h.frozen 0, h.frozen 1, h.frozen 2, h.frozen 3, h.frozen 4, h.frozen 5⟩
theorem wpList_lookup_run {P : Program} {w : World} {ops : Array Oper} {rest : List Oper} {o : Oper} {a : Act} {Q : Exit → Act → World → Prop} (hg : o.guard = none) (m x : Operand) (t : TypeId) (hop : o.op = Op.lookup t m x true) (mv xv v : Value) (hm : a.eval m = mv) (hx : a.eval x = xv)
    (hrun : (Instr.lookup t mv xv true).run P w = .ok v w) (hK : wpList P ops Q rest (a.put o.dst v) w) : wpList P ops Q (o :: rest) a w := by
  refine wpList_plain hg fun K' hK' => ?_
  unfold Oper.wp
  simp [execOp, hop, hm, hx, hrun, Result.andThen]
  exact hK' _ _ hK
/-- a client's value, laid open -/
theorem cval_open (y : Cm) : ∃ S0 S1 b P3 n3 C3 P4 n4 C4 P5 n5 C5, cval y = .agg #[.string S0, .string S1, .bool b, .slice P3 n3 C3, .slice P4 n4 C4, .slice P5 n5 C5] := ⟨_, _, _, _, _, _, _, _, _, _, _, _, rfl⟩
theorem cval_open2 (y : Cm) : ∃ S1 b P3 n3 C3 P4 n4 C4 P5 n5 C5, cval y = .agg #[.string ⟨y.id.toArray⟩, .string S1, .bool b, .slice P3 n3 C3, .slice P4 n4 C4, .slice P5 n5 C5] := ⟨_, _, _, _, _, _, _, _, _, _, _, rfl⟩
set_option maxRecDepth 100000 in
set_option maxHeartbeats 4000000 in
theorem of_c {w : World} {F : Nat → Prop} {g : Nat} {ys : List Cm} (h : RolM w F g ys) (id : T) (hid : id.length ≤ 140737488351232) :
    Calls Tryz.prog 17 #[.pointer (some ⟨g, 0, none⟩), .string ⟨id.toArray⟩] w fun e w' => e = .returned (.tuple #[cval (lookM ys id).1, .bool (lookM ys id).2]) ∧ Below w.heap.size w w' := by
  obtain ⟨m, D, h⟩ := h
  obtain ⟨wa, hwa, hba, hR, hrest⟩ := box_c w (.string ⟨#[]⟩) (.string ⟨#[]⟩) (.bool false) (.slice none 0 0) (.slice none 0 0) (.slice none 0 0) 49
  have hsa : wa.heap.size = w.heap.size + 1 := by rw [← hwa, World.size_alloc]
  obtain ⟨wb, hwb, hbb, hC, hrest2⟩ := box_c wa (.string ⟨#[]⟩) (.string ⟨#[]⟩) (.bool false) (.slice none 0 0) (.slice none 0 0) (.slice none 0 0) 49
  have h2 := h.below hba
  have hl := look_run h2.map h2.is id hid
  have c0 : wa.cell? ⟨g, 0, none⟩ = some (.map (some m)) := h2.blk.cell 0
  obtain ⟨bb, hbb2⟩ : ∃ bb, (lookM ys id).2 = bb := ⟨_, rfl⟩
  obtain ⟨y, hy⟩ : ∃ y, (lookM ys id).1 = y := ⟨_, rfl⟩
  rw [hbb2, hy] at hl ⊢
  obtain ⟨S0, S1, b, P3, n3, C3, P4, n4, C4, P5, n5, C5, ho⟩ := cval_open y
  rw [ho] at hl ⊢
  have hRb := hR.below hbb
  obtain ⟨q0, q1, q2, q3, q4, q5⟩ := frz6 hC
  obtain ⟨k0, k1, k2, k3, k4, k5⟩ := blk6 hC
  have hT := set6_turn (w := wb) (g := wa.heap.size) (v0 := .string S0) (v1 := .string S1) (v2 := .bool b) (v3 := .slice P3 n3 C3) (v4 := .slice P4 n4 C4) (v5 := .slice P5 n5 C5)
  have hC6 := set6_blk hC (.string S0) (.string S1) (.bool b) (.slice P3 n3 C3) (.slice P4 n4 C4) (.slice P5 n5 C5)
  obtain ⟨wc, hwc⟩ : ∃ wc, ((((((wb.setCell ⟨wa.heap.size, 0, none⟩ (.string S0)).setCell ⟨wa.heap.size, 1, none⟩ (.string S1)).setCell ⟨wa.heap.size, 2, none⟩ (.bool b)).setCell ⟨wa.heap.size, 3, none⟩ (.slice P3 n3 C3)).setCell ⟨wa.heap.size, 4, none⟩ (.slice P4 n4 C4)).setCell ⟨wa.heap.size, 5, none⟩ (.slice P5 n5 C5)) = wc := ⟨_, rfl⟩
  rw [hwc] at hT hC6
  have hRc := blk_turn hRb hT (by omega)
  obtain ⟨r0, r1, r2, r3, r4, r5⟩ := frz6 hRc
  obtain ⟨j0, j1, j2, j3, j4, j5⟩ := blk6 hRc
  obtain ⟨d0, d1, d2, d3, d4, d5⟩ := blk6 hC6
  have hbc : Below w.heap.size w wc := Turn.below (bnext hba hbb) hT (fun k hk => by omega) (by have := (bnext hba hbb).size; omega)
  have HSET := Lib.hid (set6_blk hRc (.string S0) (.string S1) (.bool b) (.slice P3 n3 C3) (.slice P4 n4 C4) (.slice P5 n5 C5))
  have HFIN := Lib.hid (Turn.below hbc (set6_turn (w := wc) (g := w.heap.size) (v0 := .string S0) (v1 := .string S1) (v2 := .bool b) (v3 := .slice P3 n3 C3) (v4 := .slice P4 n4 C4) (v5 := .slice P5 n5 C5)) (fun k hk => by rw [hk]; exact Nat.le_refl _) (by have := hRc.lt; omega))
  clear hT hC6 hRc hbc hsa
  clear h h2 hba hbb hR hRb hC hrest hrest2 hbb2 hy ho hid
  go_enter Tryz.func17, Tryz.ntmps17
  go_wp2_with fail
  clear q0 q1 q2 q3 q4 q5 k0 k1 k2 k3 k4 k5 r0 r1 r2 r3 r4 r5 j0 j1 j2 j3 j4 j5 d0 d1 d2 d3 d4 d5 hwc hwb hwa hl c0
  refine bodyPost_ret (results_row2 Tryz.results17 _ _ w.heap.size 49 [.string S0, .string S1, .bool b, .slice P3 n3 C3, .slice P4 n4 C4, .slice P5 n5 C5] _ rfl rfl HSET.out Tryz.underlying49 rfl infoCl) rfl ?_
  exact ⟨rfl, HFIN.out⟩
set_option maxRecDepth 100000 in
set_option maxHeartbeats 400000 in
theorem of_nil (id : T) (w : World) : Calls Tryz.prog 17 #[.pointer none, .string ⟨id.toArray⟩] w fun e w' => e = .returned (.tuple #[cval zCm, .bool false]) ∧ Below w.heap.size w w' := by
  obtain ⟨wa, hwa, hba, hR, hrest⟩ := box_c w (.string ⟨#[]⟩) (.string ⟨#[]⟩) (.bool false) (.slice none 0 0) (.slice none 0 0) (.slice none 0 0) 49
  obtain ⟨r0, r1, r2, r3, r4, r5⟩ := frz6 hR
  obtain ⟨j0, j1, j2, j3, j4, j5⟩ := blk6 hR
  have HSET := Lib.hid (set6_blk hR (.string ⟨#[]⟩) (.string ⟨#[]⟩) (.bool false) (.slice none 0 0) (.slice none 0 0) (.slice none 0 0))
  have HFIN := Lib.hid (Turn.below hba (set6_turn (w := wa) (g := w.heap.size) (v0 := .string ⟨#[]⟩) (v1 := .string ⟨#[]⟩) (v2 := .bool false) (v3 := .slice none 0 0) (v4 := .slice none 0 0) (v5 := .slice none 0 0)) (fun k hk => by rw [hk]; exact Nat.le_refl _) (by have := hR.lt; omega))
  clear hba hR hrest
  go_enter Tryz.func17, Tryz.ntmps17
  go_wp2_with fail
  clear r0 r1 r2 r3 r4 r5 j0 j1 j2 j3 j4 j5 hwa
  refine bodyPost_ret (results_row2 Tryz.results17 _ _ w.heap.size 49 [.string ⟨#[]⟩, .string ⟨#[]⟩, .bool false, .slice none 0 0, .slice none 0 0, .slice none 0 0] _ rfl rfl HSET.out Tryz.underlying49 rfl infoCl) rfl ?_
  exact ⟨rfl, HFIN.out⟩
end Go.Proofs.YtfeafhagnhbmiaaGreatDoor.rol
