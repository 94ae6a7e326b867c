/- The developers' Family. No condition beyond what texts are. -/
import Derived.Test.YthagdkipipldlaaGreatDoorGrr
namespace Go.Proofs.YthagdkipipldlaaGreatDoor.gra
open Go.RowKit
open Go.Proofs.YthagdkipipldlaaGreatDoor.oct Go.Proofs.YthagdkipipldlaaGreatDoor.ref Go.Proofs.YthagdkipipldlaaGreatDoor.rows Go.Proofs.YthagdkipipldlaaGreatDoor.rowg Go.Proofs.YthagdkipipldlaaGreatDoor.mpt Go.Proofs.YthagdkipipldlaaGreatDoor.trn Go.Proofs.YthagdkipipldlaaGreatDoor.krd
open Go.Proofs.YthagdkipipldlaaGreatDoor.scp (tx senc senc_len senc_one InS ins_below ins_cell ins_one lt Lst lval lenc GoodL FitS RowA own_good infoStr clone_c key_txt skeyed)

/-- what Family answers: a family in memory of its own, or none -/
def FamA (w w' : World) (o : Option FT) (e : Ending) : Prop := match o with
  | none => e = .returned (.tuple #[.agg zerF.toArray, .bool false]) ∧ Below w.heap.size w w'
  | some f => ∃ y : DF, e = .returned (.tuple #[fval y, .bool true]) ∧ y.f = f ∧ OwnF w' w.heap.size y ∧ Below w.heap.size w w'
theorem set11_blk {w : World} {g : Nat} {t : TypeId} {a0 a1 a2 a3 a4 a5 a6 a7 a8 a9 a10 : Value} (h : Blk w g t [a0, a1, a2, a3, a4, a5, a6, a7, a8, a9, a10]) (v0 v1 v2 v3 v4 v5 v6 v7 v8 v9 v10 : Value) : Blk (((((((((((w.setCell ⟨g, 0, none⟩ v0).setCell ⟨g, 1, none⟩ v1).setCell ⟨g, 2, none⟩ v2).setCell ⟨g, 3, none⟩ v3).setCell ⟨g, 4, none⟩ v4).setCell ⟨g, 5, none⟩ v5).setCell ⟨g, 6, none⟩ v6).setCell ⟨g, 7, none⟩ v7).setCell ⟨g, 8, none⟩ v8).setCell ⟨g, 9, none⟩ v9).setCell ⟨g, 10, none⟩ v10) g t [v0, v1, v2, v3, v4, v5, v6, v7, v8, v9, v10] := (((((((((((h.set 0 v0).set 1 v1).set 2 v2).set 3 v3).set 4 v4).set 5 v5).set 6 v6).set 7 v7).set 8 v8).set 9 v9).set 10 v10)
theorem set11_turn {w : World} {g : Nat} {v0 v1 v2 v3 v4 v5 v6 v7 v8 v9 v10 : Value} : Turn (fun k => k = g) w (((((((((((w.setCell ⟨g, 0, none⟩ v0).setCell ⟨g, 1, none⟩ v1).setCell ⟨g, 2, none⟩ v2).setCell ⟨g, 3, none⟩ v3).setCell ⟨g, 4, none⟩ v4).setCell ⟨g, 5, none⟩ v5).setCell ⟨g, 6, none⟩ v6).setCell ⟨g, 7, none⟩ v7).setCell ⟨g, 8, none⟩ v8).setCell ⟨g, 9, none⟩ v9).setCell ⟨g, 10, none⟩ v10) := (((((((((((Turn.set (S := fun k => k = g) w g _ _ rfl).next (Turn.set _ _ _ _ rfl)).next (Turn.set _ _ _ _ rfl)).next (Turn.set _ _ _ _ rfl)).next (Turn.set _ _ _ _ rfl)).next (Turn.set _ _ _ _ rfl)).next (Turn.set _ _ _ _ rfl)).next (Turn.set _ _ _ _ rfl)).next (Turn.set _ _ _ _ rfl)).next (Turn.set _ _ _ _ rfl)).next (Turn.set _ _ _ _ rfl))
theorem results_fam {P : Program} {fn : Func} {p q : Tmp} {ty : TypeId} (h : fn.results = #[.cell p ty, .tmp q]) (tmps : Array Value) (w : World) (g : Nat) (t : TypeId) (X : List Value) (u : Value) {d : TypeDesc}
    (hp : tmps.getD p undef = .pointer (some ⟨g, 0, none⟩)) (hq : tmps.getD q undef = u) (hB : Blk w g t X) (hu : P.underlying ty = some d) (hd : (match d with | .struct _ | .array _ _ => true | _ => false) = true) (hi : (P.info? ty).map (·.size) = some X.length) :
    (results fn tmps).run P w = .ok (.tuple #[.agg X.toArray, u]) w := by
  have hp' : tmps[p]?.getD undef = .pointer (some ⟨g, 0, none⟩) := by simpa using hp
  have hq' : tmps[q]?.getD undef = u := by simpa using hq
  have hl := run_loadVar_row (P := P) w g t ty X.toArray (0, 0) d hB hu hd (by simpa using hi)
  simp [results, h, hp', hq', asAddr, hl]
set_option maxRecDepth 100000 in
set_option maxHeartbeats 16000000 in
theorem family_c {w : World} {R : Nat → Prop} {g m room : Nat} {D : DataW Nat} {fl : List DF} (h : BM w R g m D fl room) (hall : ∀ x ∈ fl, RT x.f) (id : T) (hid : id.length ≤ 140737488351232) :
    Calls Tryz.prog 21 #[dptr g, .string ⟨id.toArray⟩] w fun e w' => FamA w w' (getG (fl.map DF.f) id) e := by
  have hb1 : Below w.heap.size w (w.alloc (.cells zerF.toArray 41)) := (Below.refl _ _).alloc (Nat.le_refl _) _
  have hB1 : Blk (w.alloc (.cells zerF.toArray 41)) w.heap.size 41 zerF := blk_new w _ _ _ rfl
  obtain ⟨w1, hw1⟩ : ∃ w1, w.alloc (.cells zerF.toArray 41) = w1 := ⟨_, rfl⟩
  rw [hw1] at hb1 hB1
  unfold zerF at hw1
  have HOF := Lib.hid (of_c (h.below hb1) id hid)
  have HB1 := Lib.hid hB1
  have HBW := Lib.hid hb1
  rw [← f_get]
  have hXi : (Tryz.prog.info? 41).map (·.size) = some zerF.length := infoFa
  cases hg : getD fl id with
  | none =>
    rw [hg] at HOF
    unfold optr at HOF
    dsimp only at HOF
    show Calls _ _ _ w fun e w' => FamA w w' none e
    have z0 := hB1.cell 0
    have z1 := hB1.cell 1
    have z2 := hB1.cell 2
    have z3 := hB1.cell 3
    have z4 := hB1.cell 4
    have z5 := hB1.cell 5
    have z6 := hB1.cell 6
    have z7 := hB1.cell 7
    have z8 := hB1.cell 8
    have z9 := hB1.cell 9
    have z10 := hB1.cell 10
    have f0 := hB1.frozen 0
    have f1 := hB1.frozen 1
    have f2 := hB1.frozen 2
    have f3 := hB1.frozen 3
    have f4 := hB1.frozen 4
    have f5 := hB1.frozen 5
    have f6 := hB1.frozen 6
    have f7 := hB1.frozen 7
    have f8 := hB1.frozen 8
    have f9 := hB1.frozen 9
    have f10 := hB1.frozen 10
    unfold zerF at z0 z1 z2 z3 z4 z5 z6 z7 z8 z9 z10
    clear h hall hg hid hb1 hB1
    go_enter Tryz.func21, Tryz.ntmps21
    go_wp2_with (first
      | (go_at_call 42; (with_reducible refine HOF.out.mono ?_); rintro e w3 ⟨rfl, hw3⟩; obtain rfl : w1 = w3 := hw3.symm)
      | fail)
    refine bodyPost_ret (v := .tuple #[.agg zerF.toArray, .bool false]) (results_fam Tryz.results21 _ _ w.heap.size 41 zerF _ rfl rfl (set11_blk HB1.out _ _ _ _ _ _ _ _ _ _ _) Tryz.underlying41 rfl hXi) rfl ?_
    exact ⟨rfl, (Turn.below HBW.out set11_turn (fun k hk => by omega) (by have := HB1.out.lt; omega))⟩
  | some o =>
    rw [hg] at HOF
    unfold optr dptr at HOF
    dsimp only at HOF
    have hom : o ∈ fl := (getD_in hg).1
    have HBO := Lib.hid (((h.below hb1).fams o hom).blk)
    have HC := Lib.hid (copied_c o w1 (fam_good ((h.below hb1).fams o hom) (hall o hom)))
    obtain ⟨X, hX⟩ : ∃ X, fenc o = X := ⟨_, rfl⟩
    have hXv : fval o = .agg X.toArray := by rw [← hX]; rfl
    have hXi2 : (Tryz.prog.info? 41).map (·.size) = some X.length := by rw [← hX]; exact infoFa
    rw [hXv] at HC
    rw [hX] at HBO
    show Calls _ _ _ w fun e w' => FamA w w' (some o.f) e
    clear h hall hg hid hb1 hB1 hom hX hXv
    go_enter Tryz.func21, Tryz.ntmps21
    go_wp2_with (first
      | (go_at_call 42; (with_reducible refine HOF.out.mono ?_); rintro e w3 ⟨rfl, hw3⟩; obtain rfl : w1 = w3 := hw3.symm)
      | (with_reducible refine wpList_load_blk rfl 41 (.tmp 15) rfl o.g X 82 HBO.out rfl _ Tryz.underlying41 rfl hXi2 ?_)
      | fail)
    refine HC.out.mono ?_
    rintro e w2 ⟨y, rfl, hyf, hyo, hb2⟩
    have hB2 : Blk w2 w.heap.size 41 zerF := HB1.out.below hb2
    obtain ⟨Y, hY⟩ : ∃ Y, fenc y = Y := ⟨_, rfl⟩
    have hYv : fval y = .agg Y.toArray := by rw [← hY]; rfl
    have hYi : (Tryz.prog.info? 41).map (·.size) = some Y.length := by rw [← hY]; exact infoFa
    have hYl : zerF.length = Y.length := by rw [← hY]; rfl
    have hY1 : ∀ v ∈ Y, v.oneCell' = true := by rw [← hY]; exact fenc_one y
    have HY := Lib.hid hYv
    rw [hYv]
    have H1 : Hid (w.heap.size + 1 ≤ w1.heap.size) := by show _ ≤ _; have := HB1.out.lt; omega
    have HYF := Lib.hid hyf
    have HYO := Lib.hid hyo
    have HB2 := Lib.hid hB2
    have HBL := Lib.hid (bnext HBW.out hb2)
    clear hyf hyo hb2 hB2 hY hYv HC HBO HOF
    go_wp2_with (first
      | ((with_reducible refine wpList_store_blk rfl 41 (.tmp 4) (.tmp 17) rfl w.heap.size Y zerF 41 HB2.out rfl rfl hYi hYl hY1 ?_); intro w5 hR hW; have HRES := Lib.hid hR; have HWR := Lib.hid hW; clear hR hW)
      | fail)
    refine bodyPost_ret (v := .tuple #[.agg Y.toArray, .bool true]) (results_fam Tryz.results21 _ _ w.heap.size 41 Y _ rfl rfl HRES.out Tryz.underlying41 rfl hYi) rfl ?_
    have hT := wrote_turn HWR.out HB2.out.lt
    refine ⟨y, by rw [HY.out], HYF.out, ?_, ?_⟩
    · have hot : OwnF w5 w1.heap.size y := HYO.out.turn hT (fun k hk e => by have := (HYO.out.lt k hk).1; have := H1.out; omega)
      exact hot.base (by have := H1.out; omega)
    · exact Turn.below HBL.out hT (fun k hk => by omega) (by have := HB2.out.lt; omega)
end Go.Proofs.YthagdkipipldlaaGreatDoor.gra
