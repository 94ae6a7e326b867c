/- The developers' Scope, Find, has. No condition beyond what slices and texts are. -/
import Derived.Test.YtfeafhagnhbmiaaGreatDoorRoH
import Derived.Test.YtfeafhagnhbmiaaGreatDoorRoB
import Derived.Test.YtfeafhagnhbmiaaGreatDoorOctA
namespace Go.Proofs.YtfeafhagnhbmiaaGreatDoor.rol
open Go.RowKit
open Go.Proofs.YtfeafhagnhbmiaaGreatDoor.oct Go.Proofs.YtfeafhagnhbmiaaGreatDoor.ref Go.Proofs.YtfeafhagnhbmiaaGreatDoor.rows Go.Proofs.YtfeafhagnhbmiaaGreatDoor.rowg Go.Proofs.YtfeafhagnhbmiaaGreatDoor.trn
open Go.Proofs.YtfeafhagnhbmiaaGreatDoor.scp (tx senc senc_len InS ins_below ins_cell lt hasB hasB_iff Lst lval lenc GoodL FitS clone_c setP withinP RowA own_good fit_set setP_len set_c within_c)

/-- a list that is told, and whether -/
def ListA (w w' : World) (r : List T × Bool) (e : Ending) : Prop := ∃ p c, e = .returned (.tuple #[.slice p r.1.length c, .bool r.2]) ∧ w'.ownsRow w.heap.size 9 1 (.slice p r.1.length c) r.1.length (cells senc r.1) ∧ Below w.heap.size w w'
theorem listA_none {w w' : World} (h : Below w.heap.size w w') : ListA w w' ([], false) (.returned (.tuple #[.slice none 0 0, .bool false])) := ⟨none, 0, rfl, World.ownsRow_nil _ _ _ _, h⟩
set_option maxRecDepth 100000 in
set_option maxHeartbeats 400000 in
theorem scope_c {w : World} {F : Nat → Prop} {gp : Option Addr} {ys : List Cm} (h : RolN w F gp ys) (id : T) (x : Lst) (hid : id.length ≤ 140737488351232) (hx : GoodL w x) :
    Calls Tryz.prog 9 #[.pointer gp, .string ⟨id.toArray⟩, lval x] w fun e w' => ListA w w' (scopeP (ys.map Cm.ct) id x.2.2) e := by
  have HOF := Lib.hid (of_n h id hid)
  have hlk := lookM_P ys id
  have hgd := look_goodN h id
  obtain ⟨kn, hkn⟩ : ∃ kn, (lookM ys id).2 = kn := ⟨_, rfl⟩
  obtain ⟨y, hy⟩ : ∃ y, (lookM ys id).1 = y := ⟨_, rfl⟩
  rw [hkn, hy] at HOF hlk
  rw [hy] at hgd
  have HKN := Lib.hid hkn
  have HYE := Lib.hid hy
  clear hkn hy
  obtain ⟨yid, ysec, ypub, ⟨P3, C3, l3⟩, ⟨P4, C4, l4⟩, ⟨P5, C5, l5⟩⟩ := y
  replace HOF : Hid (Calls Tryz.prog 17 #[.pointer gp, .string ⟨id.toArray⟩] w fun e w' => e = .returned (.tuple #[.agg #[.string ⟨yid.toArray⟩, .string ⟨ysec.toArray⟩, .bool ypub, .slice P3 l3.length C3, .slice P4 l4.length C4, .slice P5 l5.length C5], .bool kn]) ∧ Below w.heap.size w w') := HOF
  have hl1 : lookP (ys.map Cm.ct) id = (⟨yid, ysec, ypub, l3, l4, l5⟩, kn) := hlk.symm
  obtain ⟨P, C, l⟩ := x
  show Calls _ _ #[_, _, .slice P l.length C] w fun e w' => ListA w w' (scopeP (ys.map Cm.ct) id l) e
  have HRD : Hid (scopeP (ys.map Cm.ct) id l = if kn = false ∨ withinP (setP l) l4 = false then ([], false) else if (setP l).length = 0 then (l4, true) else (setP l, true)) := Lib.hid (by unfold scopeP; rw [hl1])
  have HST : Hid (∀ W, Below w.heap.size w W → Calls Tryz.prog 25 #[.slice P l.length C] W fun e w' => ∃ p c, e = .returned (.slice p (setP l).length c) ∧ GoodL w' (p, c, setP l) ∧ w'.ownsRow W.heap.size 9 1 (.slice p (setP l).length c) (setP l).length (cells senc (setP l)) ∧ Below W.heap.size W w') := Lib.hid fun W hW => (set_c (P, C, l) W (hx.below hW)).mono fun e w' ⟨v, h1, h2, h3⟩ => by
    obtain ⟨p, c, rfl, h5⟩ := own_good h2 (fit_set l) (by have := setP_len l; have h6 : l.length ≤ 4194304 := hx.few; show (setP l).length ≤ _; omega)
    exact ⟨p, c, h1, h5, h2, h3⟩
  have HWI : Hid (∀ W p c, Below w.heap.size w W → GoodL W (p, c, setP l) → Calls Tryz.prog 27 #[.slice p (setP l).length c, .slice P4 l4.length C4] W fun e w' => e = .returned (.bool (withinP (setP l) l4)) ∧ Below W.heap.size W w') := Lib.hid fun W p c hW hs => within_c (p, c, setP l) (P4, C4, l4) W hs ((hgd.1.sco.below hW).good hgd.2.1.sco)
  have HCL : Hid (∀ W, Below w.heap.size w W → Calls Tryz.prog 26 #[.slice P4 l4.length C4] W fun e w' => ∃ p c, e = .returned (.slice p l4.length c) ∧ w'.ownsRow W.heap.size 9 1 (.slice p l4.length c) l4.length (cells senc l4) ∧ GoodL w' (p, c, l4) ∧ Below W.heap.size W w') := Lib.hid fun W hW => cloned_c (P4, C4, l4) W (hgd.1.sco.below hW) hgd.2.1.sco
  obtain ⟨rr, hrr⟩ : ∃ rr, scopeP (ys.map Cm.ct) id l = rr := ⟨_, rfl⟩
  rw [hrr] at HRD ⊢
  obtain ⟨n, hn⟩ : ∃ n, l.length = n := ⟨_, rfl⟩
  obtain ⟨n4, hn4⟩ : ∃ n, l4.length = n := ⟨_, rfl⟩
  obtain ⟨ms, hms⟩ : ∃ n, (setP l).length = n := ⟨_, rfl⟩
  rw [hn, hms] at HST
  rw [hms, hn4] at HWI
  rw [hn4] at HCL HOF
  rw [hn]
  have HMS := Lib.hid hms
  have HN4 := Lib.hid hn4
  clear h hlk hl1 hgd hrr hx hn hn4 hms
  go_enter Tryz.func9, Tryz.ntmps9
  cases kn with
  | false =>
    have HR : Hid (rr = ([], false)) := Lib.hid (by rw [HRD.out, if_pos (Or.inl rfl)])
    go_wp2_with (first
      | (go_at_call 17; (with_reducible refine HOF.out.mono ?_); rintro e we ⟨rfl, hbe⟩; obtain ⟨wf, wg, hVe⟩ := var_c we 49 (.string ⟨yid.toArray⟩) (.string ⟨ysec.toArray⟩) (.bool ypub) (.slice P3 l3.length C3) (.slice P4 n4 C4) (.slice P5 l5.length C5); have he1 := hVe.a; have he2 := hVe.s; obtain ⟨s0, s1, s2, s3, s4, s5⟩ := blk6 hVe.zero; obtain ⟨t0, t1, t2, t3, t4, t5⟩ := frz6 hVe.zero; obtain ⟨v0, v1, v2, v3, v4, v5⟩ := blk6 hVe.blk; have HBG := Lib.hid (bnext hbe hVe.below); have HVB := Lib.hid hVe.blk; clear hbe hVe))
    go_ret2
    rw [HR.out]
    exact listA_none HBG.out
  | true =>
    by_cases h0 : ms = 0
    · have e0 : setP l = [] := List.length_eq_zero_iff.1 (by rw [HMS.out]; exact h0)
      have HR : Hid (rr = (l4, true)) := Lib.hid (by rw [HRD.out, if_neg (by rw [e0]; simp [withinP]), if_pos (by rw [HMS.out]; exact h0)])
      have b0 : ((ms : Int) == 0) = true := by simpa using h0
      clear h0 e0
      go_wp2_with (first
        | (go_at_call 17; (with_reducible refine HOF.out.mono ?_); rintro e we ⟨rfl, hbe⟩; obtain ⟨wf, wg, hVe⟩ := var_c we 49 (.string ⟨yid.toArray⟩) (.string ⟨ysec.toArray⟩) (.bool ypub) (.slice P3 l3.length C3) (.slice P4 n4 C4) (.slice P5 l5.length C5); have he1 := hVe.a; have he2 := hVe.s; obtain ⟨s0, s1, s2, s3, s4, s5⟩ := blk6 hVe.zero; obtain ⟨t0, t1, t2, t3, t4, t5⟩ := frz6 hVe.zero; obtain ⟨v0, v1, v2, v3, v4, v5⟩ := blk6 hVe.blk; have HBG := Lib.hid (bnext hbe hVe.below); have HVB := Lib.hid hVe.blk; clear hbe hVe)
        | (go_at_call 25; (with_reducible refine (HST.out _ HBG.out).mono ?_); rintro e wh ⟨p, c, rfl, hs1, hs2, hbh⟩; have HBH := Lib.hid (bnext HBG.out hbh); obtain ⟨v0, v1, v2, v3, v4, v5⟩ := blk6 (HVB.out.below hbh); clear hbh hs1 hs2)
        | (go_at_call 26; (with_reducible refine (HCL.out _ HBH.out).mono ?_); rintro e wi ⟨p2, c2, rfl, ho, _, hbi⟩; have HBI := Lib.hid (bnext HBH.out hbi); have HO := Lib.hid ho; clear hbi ho))
      go_ret2
      rw [HR.out]
      have ho2 := own_baseR HO.out HBH.out.size
      rw [← HN4.out] at ho2
      refine ⟨p2, c2, ?_, ho2, HBI.out⟩
      rw [← HN4.out]; rfl
    · have b0 : ((ms : Int) == 0) = false := by simpa using h0
      cases hw : withinP (setP l) l4 with
      | false =>
        have HR : Hid (rr = ([], false)) := Lib.hid (by rw [HRD.out, if_pos (Or.inr hw)])
        rw [hw] at HWI
        clear hw h0
        go_wp2_with (first
          | (go_at_call 17; (with_reducible refine HOF.out.mono ?_); rintro e we ⟨rfl, hbe⟩; obtain ⟨wf, wg, hVe⟩ := var_c we 49 (.string ⟨yid.toArray⟩) (.string ⟨ysec.toArray⟩) (.bool ypub) (.slice P3 l3.length C3) (.slice P4 n4 C4) (.slice P5 l5.length C5); have he1 := hVe.a; have he2 := hVe.s; obtain ⟨s0, s1, s2, s3, s4, s5⟩ := blk6 hVe.zero; obtain ⟨t0, t1, t2, t3, t4, t5⟩ := frz6 hVe.zero; obtain ⟨v0, v1, v2, v3, v4, v5⟩ := blk6 hVe.blk; have HBG := Lib.hid (bnext hbe hVe.below); have HVB := Lib.hid hVe.blk; clear hbe hVe)
          | (go_at_call 25; (with_reducible refine (HST.out _ HBG.out).mono ?_); rintro e wh ⟨p, c, rfl, hs1, hs2, hbh⟩; have HBH := Lib.hid (bnext HBG.out hbh); have HS1 := Lib.hid hs1; obtain ⟨v0, v1, v2, v3, v4, v5⟩ := blk6 (HVB.out.below hbh); clear hbh hs1 hs2)
          | (go_at_call 27; (with_reducible refine (HWI.out _ _ _ HBH.out HS1.out).mono ?_); rintro e wi ⟨rfl, hbi⟩; have HBI := Lib.hid (bnext HBH.out hbi); clear hbi))
        go_ret2
        rw [HR.out]
        exact listA_none HBI.out
      | true =>
        have HR : Hid (rr = (setP l, true)) := Lib.hid (by rw [HRD.out, if_neg (by rw [hw]; simp), if_neg (by rw [HMS.out]; exact h0)])
        rw [hw] at HWI
        clear hw h0
        go_wp2_with (first
          | (go_at_call 17; (with_reducible refine HOF.out.mono ?_); rintro e we ⟨rfl, hbe⟩; obtain ⟨wf, wg, hVe⟩ := var_c we 49 (.string ⟨yid.toArray⟩) (.string ⟨ysec.toArray⟩) (.bool ypub) (.slice P3 l3.length C3) (.slice P4 n4 C4) (.slice P5 l5.length C5); have he1 := hVe.a; have he2 := hVe.s; obtain ⟨s0, s1, s2, s3, s4, s5⟩ := blk6 hVe.zero; obtain ⟨t0, t1, t2, t3, t4, t5⟩ := frz6 hVe.zero; obtain ⟨v0, v1, v2, v3, v4, v5⟩ := blk6 hVe.blk; have HBG := Lib.hid (bnext hbe hVe.below); have HVB := Lib.hid hVe.blk; clear hbe hVe)
          | (go_at_call 25; (with_reducible refine (HST.out _ HBG.out).mono ?_); rintro e wh ⟨p, c, rfl, hs1, hs2, hbh⟩; have HBH := Lib.hid (bnext HBG.out hbh); have HS1 := Lib.hid hs1; have HO := Lib.hid hs2; obtain ⟨v0, v1, v2, v3, v4, v5⟩ := blk6 (HVB.out.below hbh); clear hbh hs1 hs2)
          | (go_at_call 27; (with_reducible refine (HWI.out _ _ _ HBH.out HS1.out).mono ?_); rintro e wi ⟨rfl, hbi⟩; have HBI := Lib.hid (bnext HBH.out hbi); have HO2 := Lib.hid (own_belowG HO.out hbi); clear hbi))
        go_ret2
        rw [HR.out]
        have ho2 := own_baseR HO2.out HBG.out.size
        rw [← HMS.out] at ho2
        refine ⟨p, c, ?_, ho2, HBI.out⟩
        rw [← HMS.out]; rfl
theorem infoAC : (Tryz.prog.info? 27).map (·.size) = some 6 := by kernel_rfl
theorem field0 (v0 v1 v2 v3 v4 v5 : Value) (w : World) : (Instr.field 49 (.agg #[v0, v1, v2, v3, v4, v5]) 0).run Tryz.prog w = .ok (.agg #[v0, v1, v2, v3, v4, v5]) w := by kernel_rfl
/-- a client that is told, and whether -/
def ClientA (w w' : World) (r : CT × Bool) (e : Ending) : Prop := ∃ y : Cm, e = .returned (.tuple #[cval y, .bool r.2]) ∧ y.ct = r.1 ∧ OwnC w' w.heap.size y ∧ Below w.heap.size w w'
set_option maxRecDepth 100000 in
set_option maxHeartbeats 400000 in
theorem find_c {w : World} {F : Nat → Prop} {gp : Option Addr} {ys : List Cm} (h : RolN w F gp ys) (id : T) (hid : id.length ≤ 140737488351232) :
    Calls Tryz.prog 5 #[.pointer gp, .string ⟨id.toArray⟩] w fun e w' => ClientA w w' (lookP (ys.map Cm.ct) id) e := by
  obtain ⟨wa, hwa, hba, hR, hrest⟩ := box_c w (.string ⟨#[]⟩) (.string ⟨#[]⟩) (.bool false) (.slice none 0 0) (.slice none 0 0) (.slice none 0 0) 27
  have h2 := h.below hba
  have HOF := Lib.hid (of_n h2 id hid)
  have hlk := lookM_P ys id
  have hgd := look_goodN h2 id
  obtain ⟨kn, hkn⟩ : ∃ kn, (lookM ys id).2 = kn := ⟨_, rfl⟩
  obtain ⟨y, hy⟩ : ∃ y, (lookM ys id).1 = y := ⟨_, rfl⟩
  rw [hkn, hy] at HOF hlk
  rw [hy] at hgd
  have HKN := Lib.hid hkn
  have HYE := Lib.hid hy
  clear hkn hy
  obtain ⟨yid, ysec, ypub, ⟨P3, C3, l3⟩, ⟨P4, C4, l4⟩, ⟨P5, C5, l5⟩⟩ := y
  replace HOF : Hid (Calls Tryz.prog 17 #[.pointer gp, .string ⟨id.toArray⟩] wa fun e w' => e = .returned (.tuple #[.agg #[.string ⟨yid.toArray⟩, .string ⟨ysec.toArray⟩, .bool ypub, .slice P3 l3.length C3, .slice P4 l4.length C4, .slice P5 l5.length C5], .bool kn]) ∧ Below wa.heap.size wa w') := HOF
  have hl1 : lookP (ys.map Cm.ct) id = (⟨yid, ysec, ypub, l3, l4, l5⟩, kn) := hlk.symm
  rw [hl1]
  have HCP : Hid (∀ W, Below wa.heap.size wa W → Calls Tryz.prog 18 #[.agg #[.string ⟨yid.toArray⟩, .string ⟨ysec.toArray⟩, .bool ypub, .slice P3 l3.length C3, .slice P4 l4.length C4, .slice P5 l5.length C5]] W fun e w' => ∃ y : Cm, e = .returned (cval y) ∧ y.ct = ⟨yid, ysec, ypub, l3, l4, l5⟩ ∧ OwnC w' W.heap.size y ∧ Below W.heap.size W w') := Lib.hid fun W hW => copied_c ⟨yid, ysec, ypub, (P3, C3, l3), (P4, C4, l4), (P5, C5, l5)⟩ W (hgd.1.below hW) hgd.2.1
  have HRB := Lib.hid hR
  have HBA := Lib.hid hba
  clear h h2 hlk hl1 hgd hba hR hrest
  go_enter Tryz.func5, Tryz.ntmps5
  go_wp2_with (first
    | (go_at_call 17; (with_reducible refine HOF.out.mono ?_); rintro e we ⟨rfl, hbe⟩; obtain ⟨wf, wg, hVe⟩ := var_c we 49 (.string ⟨yid.toArray⟩) (.string ⟨ysec.toArray⟩) (.bool ypub) (.slice P3 l3.length C3) (.slice P4 l4.length C4) (.slice P5 l5.length C5); have he1 := hVe.a; have he2 := hVe.s; obtain ⟨s0, s1, s2, s3, s4, s5⟩ := blk6 hVe.zero; obtain ⟨t0, t1, t2, t3, t4, t5⟩ := frz6 hVe.zero; obtain ⟨v0, v1, v2, v3, v4, v5⟩ := blk6 hVe.blk; have HBG := Lib.hid (bnext hbe hVe.below); have HVB := Lib.hid hVe.blk; clear hbe hVe)
    | (go_at_call 18; (with_reducible refine (HCP.out _ HBG.out).mono ?_); rintro e wi ⟨z, he, hzc, hzo, hbi⟩; obtain ⟨Z0, Z1, zb, Q3, x3, F3, Q4, x4, F4, Q5, x5, F5, hzv⟩ := cval_open z; rw [hzv] at he; subst he; have HZV := Lib.hid hzv; have HZC := Lib.hid hzc; have HZO := Lib.hid hzo; have HGG := Lib.hid (bnext HBG.out hbi); have HRI := Lib.hid (HRB.out.below HGG.out); obtain ⟨j0, j1, j2, j3, j4, j5⟩ := blk6 HRI.out; obtain ⟨f0, f1, f2, f3, f4, f5⟩ := frz6 HRI.out; have HSZ := Lib.hid hbi.size; have hfd := field0 (.string Z0) (.string Z1) (.bool zb) (.slice Q3 x3 F3) (.slice Q4 x4 F4) (.slice Q5 x5 F5) wi; clear hzv hzc hzo hbi))
  have HSET := Lib.hid (set6_blk HRI.out (.string Z0) (.string Z1) (.bool zb) (.slice Q3 x3 F3) (.slice Q4 x4 F4) (.slice Q5 x5 F5))
  have HT := Lib.hid (set6_turn (w := wi) (g := w.heap.size) (v0 := .string Z0) (v1 := .string Z1) (v2 := .bool zb) (v3 := .slice Q3 x3 F3) (v4 := .slice Q4 x4 F4) (v5 := .slice Q5 x5 F5))
  clear j0 j1 j2 j3 j4 j5 f0 f1 f2 f3 f4 f5 s0 s1 s2 s3 s4 s5 t0 t1 t2 t3 t4 t5 v0 v1 v2 v3 v4 v5 he1 he2 hwa hfd
  refine bodyPost_ret (results_row2 Tryz.results5 _ _ w.heap.size 27 [.string Z0, .string Z1, .bool zb, .slice Q3 x3 F3, .slice Q4 x4 F4, .slice Q5 x5 F5] _ rfl rfl HSET.out Tryz.underlying27 rfl infoAC) rfl ?_
  have hs1 : w.heap.size ≤ wg.heap.size := by have h1 := HBA.out.size; have h2 := HBG.out.size; omega
  have hlt : w.heap.size < wa.heap.size := HRB.out.lt
  have hlt2 : wa.heap.size ≤ wg.heap.size := HBG.out.size
  refine ⟨z, by rw [HZV.out]; rfl, HZC.out, own_base0 (HZO.out.turn HT.out fun k hk e => by have := HZO.out.lt k hk; omega) hs1, Turn.below (bnext HBA.out HGG.out) HT.out (fun k hk => by omega) (by have := HGG.out.size; omega)⟩
end Go.Proofs.YtfeafhagnhbmiaaGreatDoor.rol
