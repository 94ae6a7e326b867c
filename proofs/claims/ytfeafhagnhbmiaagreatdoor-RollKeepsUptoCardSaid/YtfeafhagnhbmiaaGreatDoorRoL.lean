/- The developers' byForm. No condition beyond what slices and texts are. -/
import Derived.Test.YtfeafhagnhbmiaaGreatDoorRoK
import Derived.Test.YtfeafhagnhbmiaaGreatDoorGfdv
namespace Go.Proofs.YtfeafhagnhbmiaaGreatDoor.rol
open Go.RowKit
open Go.Proofs.YtfeafhagnhbmiaaGreatDoor.oct Go.Proofs.YtfeafhagnhbmiaaGreatDoor.ref Go.Proofs.YtfeafhagnhbmiaaGreatDoor.rows Go.Proofs.YtfeafhagnhbmiaaGreatDoor.rowg Go.Proofs.YtfeafhagnhbmiaaGreatDoor.trn
open Go.Proofs.YtfeafhagnhbmiaaGreatDoor.scp (Lst lval clone_c)
open Go.Proofs.YtfeafhagnhbmiaaGreatDoor.fld (Pr InPr getV getN)
open Go.Proofs.YtfeafhagnhbmiaaGreatDoor.fdv (dget_c getV_len)

/-- a form that is handed in -/
structure GoodF (w : World) (P : Option Addr) (ps : List Pr) : Prop where
  row : InPr w P ps
  len : ps.length ≤ 140737488355328
  val : ∀ x ∈ ps, x.2.length ≤ 140737488351232
theorem GoodF.below {w w' : World} {P : Option Addr} {ps : List Pr} (h : GoodF w P ps) (hb : Below w.heap.size w w') : GoodF w' P ps := ⟨h.row.below hb, h.len, h.val⟩
theorem get_c {w : World} {P : Option Addr} {ps : List Pr} (C : Nat) (n : T) (h : GoodF w P ps) : Calls Tryz.prog 33 #[.slice P ps.length C, .string ⟨n.toArray⟩] w fun e w' => e = .returned (.tuple #[.string ⟨(getV ps n).toArray⟩, .int .i64 (getN ps n : Nat)]) ∧ Below w.heap.size w w' := dget_c P C ps n w h.row h.len fun x hx => by have := h.val x hx; omega
/-- who shows itself, or why nobody does -/
def AuthA (r : T × Nat) (e : Ending) : Prop := e = .returned (.tuple #[.string ⟨r.1.toArray⟩, .int .i64 (r.2 : Int)])
/-- clients that aren't public have a secret -/
def Sec1 (ys : List Cm) : Prop := ∀ y ∈ ys, y.pub = false → 1 ≤ y.sec.length
theorem look_nil {w : World} {F : Nat → Prop} {gp : Option Addr} {ys : List Cm} (h : RolN w F gp ys) : (lookM ys []).2 = false := by
  cases hb : (lookM ys []).2 with
  | false => rfl
  | true =>
    have h1 := ((look_goodN h []).2.2 hb).idp
    have h2 := (lookM_yes hb).2
    have h3 : (lookM ys []).1.ct.id = [] := h2
    rw [h3] at h1
    simp at h1
theorem getN_nil {ps : List Pr} {n : T} (h : getN ps n = 0) : getV ps n = [] := getV_of_none h
set_option maxRecDepth 100000 in
set_option maxHeartbeats 1000000 in
theorem byForm_c {w : World} {F : Nat → Prop} {gp : Option Addr} {ys : List Cm} (h : RolN w F gp ys) (hsec : Sec1 ys) (P : Option Addr) (C : Nat) (ps : List Pr) (hf : GoodF w P ps) :
    Calls Tryz.prog 19 #[.pointer gp, .slice P ps.length C] w fun e w' => AuthA (authF (ys.map Cm.ct) ps) e ∧ Below w.heap.size w w' := by
  have HG1 : Hid (Calls Tryz.prog 33 #[.slice P ps.length C, .string ⟨#[99, 108, 105, 101, 110, 116, 95, 105, 100]⟩] w fun e w' => e = .returned (.tuple #[.string ⟨(getV ps wId).toArray⟩, .int .i64 (getN ps wId : Nat)]) ∧ Below w.heap.size w w') := Lib.hid (get_c C wId hf)
  have HG2 : Hid (∀ W, Below w.heap.size w W → Calls Tryz.prog 33 #[.slice P ps.length C, .string ⟨#[99, 108, 105, 101, 110, 116, 95, 115, 101, 99, 114, 101, 116]⟩] W fun e w' => e = .returned (.tuple #[.string ⟨(getV ps wSec).toArray⟩, .int .i64 (getN ps wSec : Nat)]) ∧ Below W.heap.size W w') := Lib.hid fun W hW => get_c C wSec (hf.below hW)
  have hid : (getV ps wId).length ≤ 140737488351232 := getV_len ps wId _ hf.val
  have hnl := look_nil h
  have hv0 : getN ps wId = 0 → getV ps wId = [] := getN_nil
  have hv1 : getN ps wSec = 0 → getV ps wSec = [] := getN_nil
  obtain ⟨id, hidd⟩ : ∃ id, getV ps wId = id := ⟨_, rfl⟩
  obtain ⟨sv, hsv⟩ : ∃ s, getV ps wSec = s := ⟨_, rfl⟩
  obtain ⟨n1, hn1⟩ : ∃ n, getN ps wId = n := ⟨_, rfl⟩
  obtain ⟨n2, hn2⟩ : ∃ n, getN ps wSec = n := ⟨_, rfl⟩
  have hAF : authF (ys.map Cm.ct) ps = if 1 < n1 ∨ 1 < n2 then ([], 1) else if n1 = 0 ∨ (lookP (ys.map Cm.ct) id).2 = false then ([], 2) else if ((lookP (ys.map Cm.ct) id).1.pub = true ∧ n2 = 1) ∨ ((lookP (ys.map Cm.ct) id).1.pub = false ∧ (n2 = 0 ∨ (lookP (ys.map Cm.ct) id).1.sec ≠ sv)) then ([], 2) else (id, 0) := by unfold authF; rw [hidd, hsv, hn1, hn2]
  rw [hidd] at HG1 hid hv0
  rw [hn1] at HG1 hv0
  rw [hsv] at HG2 hv1
  rw [hn2] at HG2 hv1
  have hlk := lookM_P ys id
  have HOF0 : ∀ W, Below w.heap.size w W → _ := fun W hW => of_n (h.below hW) id hid
  have hgd := look_goodN h id
  have hyes : (lookM ys id).2 = true → (lookM ys id).1 ∈ ys ∧ (lookM ys id).1.id = id := lookM_yes
  have hempty : n1 = 0 → (lookM ys id).2 = false := fun e => by rw [hv0 e]; exact hnl
  have hsc : (lookM ys id).2 = true → (lookM ys id).1.pub = false → 1 ≤ (lookM ys id).1.sec.length := fun e1 e2 => hsec _ (hyes e1).1 e2
  obtain ⟨kn, hkn⟩ : ∃ kn, (lookM ys id).2 = kn := ⟨_, rfl⟩
  obtain ⟨y, hy⟩ : ∃ y, (lookM ys id).1 = y := ⟨_, rfl⟩
  have hyid : kn = true → y.id = id := fun e => by rw [← hy]; exact (hyes (by rw [hkn]; exact e)).2
  rw [hkn, hy] at hlk
  rw [hy] at hgd hsc
  rw [hkn] at hempty hsc
  simp only [hkn, hy] at HOF0
  clear hkn hy hyes hidd hsv hn1 hn2 hf hnl
  obtain ⟨yid, ysec, ypub, ⟨P3, C3, l3⟩, ⟨P4, C4, l4⟩, ⟨P5, C5, l5⟩⟩ := y
  have HOF : Hid (∀ W, Below w.heap.size w W → Calls Tryz.prog 17 #[.pointer gp, .string ⟨id.toArray⟩] W fun e w' => e = .returned (.tuple #[.agg #[.string ⟨yid.toArray⟩, .string ⟨ysec.toArray⟩, .bool ypub, .slice P3 l3.length C3, .slice P4 l4.length C4, .slice P5 l5.length C5], .bool kn]) ∧ Below W.heap.size W w') := Lib.hid HOF0
  have hl1 : lookP (ys.map Cm.ct) id = (⟨yid, ysec, ypub, l3, l4, l5⟩, kn) := hlk.symm
  rw [hl1] at hAF
  dsimp only at hAF hsc hyid
  have hsl : ysec.length ≤ 140737488351232 := hgd.1.sec
  have HHS : Hid (∀ W, Calls Tryz.prog 34 #[.agg #[.string ⟨yid.toArray⟩, .string ⟨ysec.toArray⟩, .bool ypub, .slice P3 l3.length C3, .slice P4 l4.length C4, .slice P5 l5.length C5], .string ⟨sv.toArray⟩] W fun e w' => e = .returned (.bool (!ypub && decide (ysec = sv))) ∧ Below W.heap.size W w') := Lib.hid fun W => has_c ⟨yid, ysec, ypub, (P3, C3, l3), (P4, C4, l4), (P5, C5, l5)⟩ sv W (by show ysec.length ≤ _; omega)
  have HCN := Lib.hid (fun W => clone_c ⟨yid.toArray⟩ W (by rw [size_mk]; have : yid.length ≤ _ := hgd.1.id; omega))
  have HAF := Lib.hid hAF
  obtain ⟨rr, hrr⟩ : ∃ rr, authF (ys.map Cm.ct) ps = rr := ⟨_, rfl⟩
  rw [hrr] at HAF ⊢
  have HSC := Lib.hid hsc
  have HYI := Lib.hid hyid
  have HV1 := Lib.hid hv1
  have HEM := Lib.hid hempty
  clear h hsec hlk hgd hl1 hAF hsl HOF0 hrr hsc hyid hv1 hempty hv0 hid
  obtain ⟨np, hnp⟩ : ∃ n, ps.length = n := ⟨_, rfl⟩
  rw [hnp] at HG1 HG2 ⊢
  clear hnp
  have fin1 : rr = ([], 1) → ∀ w', Below w.heap.size w w' → AuthA rr (.returned (.tuple #[.string ⟨#[]⟩, .int .i64 1])) ∧ Below w.heap.size w w' := fun e w' hb => ⟨by rw [e]; rfl, hb⟩
  have FIN1 := Lib.hid fin1
  have fin2 : rr = ([], 2) → ∀ w', Below w.heap.size w w' → AuthA rr (.returned (.tuple #[.string ⟨#[]⟩, .int .i64 2])) ∧ Below w.heap.size w w' := fun e w' hb => ⟨by rw [e]; rfl, hb⟩
  have FIN2 := Lib.hid fin2
  have fin0 : rr = (id, 0) → yid = id → ∀ w', Below w.heap.size w w' → AuthA rr (.returned (.tuple #[.string ⟨yid.toArray⟩, .int .i64 0])) ∧ Below w.heap.size w w' := fun e e2 w' hb => ⟨by rw [e, e2]; rfl, hb⟩
  have FIN0 := Lib.hid fin0
  clear fin0 fin1 fin2
  go_enter Tryz.func19, Tryz.ntmps19
  by_cases h1 : 1 < n1
  · have HR : Hid (rr = ([], 1)) := Lib.hid (by rw [HAF.out, if_pos (Or.inl h1)])
    have i1 : decide ((1 : Int) < (n1 : Int)) = true := decide_eq_true (by omega)
    clear h1
    go_wp2_with (first
    | (go_at_call_of 33 (Value.string ⟨#[99, 108, 105, 101, 110, 116, 95, 105, 100]⟩); (with_reducible refine HG1.out.mono ?_); rintro e w1 ⟨rfl, hb1⟩; have HB1 := Lib.hid hb1; clear hb1) | (go_at_call_of 33 (Value.string ⟨#[99, 108, 105, 101, 110, 116, 95, 115, 101, 99, 114, 101, 116]⟩); (with_reducible refine (HG2.out _ HB1.out).mono ?_); rintro e w2 ⟨rfl, hb2⟩; have HB2 := Lib.hid (bnext HB1.out hb2); clear hb2))
    go_ret2
    exact FIN1.out HR.out _ HB2.out
  have i1 : decide ((1 : Int) < (n1 : Int)) = false := decide_eq_false (by omega)
  by_cases h2 : 1 < n2
  · have HR : Hid (rr = ([], 1)) := Lib.hid (by rw [HAF.out, if_pos (Or.inr h2)])
    have i2 : decide ((1 : Int) < (n2 : Int)) = true := decide_eq_true (by omega)
    clear h1 h2
    go_wp2_with (first
    | (go_at_call_of 33 (Value.string ⟨#[99, 108, 105, 101, 110, 116, 95, 105, 100]⟩); (with_reducible refine HG1.out.mono ?_); rintro e w1 ⟨rfl, hb1⟩; have HB1 := Lib.hid hb1; clear hb1) | (go_at_call_of 33 (Value.string ⟨#[99, 108, 105, 101, 110, 116, 95, 115, 101, 99, 114, 101, 116]⟩); (with_reducible refine (HG2.out _ HB1.out).mono ?_); rintro e w2 ⟨rfl, hb2⟩; have HB2 := Lib.hid (bnext HB1.out hb2); clear hb2))
    go_ret2
    exact FIN1.out HR.out _ HB2.out
  have i2 : decide ((1 : Int) < (n2 : Int)) = false := decide_eq_false (by omega)
  have HAF2 : Hid (rr = if n1 = 0 ∨ kn = false then ([], 2) else if (ypub = true ∧ n2 = 1) ∨ (ypub = false ∧ (n2 = 0 ∨ ysec ≠ sv)) then ([], 2) else (id, 0)) := Lib.hid (by rw [HAF.out, if_neg (by omega)])
  clear HAF
  cases kn with
  | false =>
    have HR : Hid (rr = ([], 2)) := Lib.hid (by rw [HAF2.out, if_pos (Or.inr rfl)])
    clear h1 h2
    go_wp2_with (first
    | (go_at_call_of 33 (Value.string ⟨#[99, 108, 105, 101, 110, 116, 95, 105, 100]⟩); (with_reducible refine HG1.out.mono ?_); rintro e w1 ⟨rfl, hb1⟩; have HB1 := Lib.hid hb1; clear hb1) | (go_at_call_of 33 (Value.string ⟨#[99, 108, 105, 101, 110, 116, 95, 115, 101, 99, 114, 101, 116]⟩); (with_reducible refine (HG2.out _ HB1.out).mono ?_); rintro e w2 ⟨rfl, hb2⟩; have HB2 := Lib.hid (bnext HB1.out hb2); have HBQ := Lib.hid HB2.out; clear hb2)
    | (go_at_call 17; (with_reducible refine (HOF.out _ HBQ.out).mono ?_); rintro e we ⟨rfl, hbe⟩; obtain ⟨wf, wg, hVe⟩ := var_c we 49 (.string ⟨yid.toArray⟩) (.string ⟨ysec.toArray⟩) (.bool ypub) (.slice P3 l3.length C3) (.slice P4 l4.length C4) (.slice P5 l5.length C5); have he1 := hVe.a; have he2 := hVe.s; obtain ⟨s0, s1, s2, s3, s4, s5⟩ := blk6 hVe.zero; obtain ⟨t0, t1, t2, t3, t4, t5⟩ := frz6 hVe.zero; obtain ⟨v0, v1, v2, v3, v4, v5⟩ := blk6 hVe.blk; have HBG := Lib.hid (bnext HBQ.out (bnext hbe hVe.below)); have HVB := Lib.hid hVe.blk; clear hbe hVe))
    go_ret2
    exact FIN2.out HR.out _ HBG.out
  | true =>
    have hn0 : n1 ≠ 0 := fun e => by have := HEM.out e; cases this
    have HAF3 : Hid (rr = if (ypub = true ∧ n2 = 1) ∨ (ypub = false ∧ (n2 = 0 ∨ ysec ≠ sv)) then ([], 2) else (id, 0)) := Lib.hid (by rw [HAF2.out, if_neg (by rintro (e | e); exact hn0 e; cases e)])
    have HYD := Lib.hid (HYI.out rfl)
    clear HAF2 hn0 h1 HYI
    cases ypub with
    | true =>
      by_cases h0 : n2 = 0
      · have HR : Hid (rr = (id, 0)) := Lib.hid (by rw [HAF3.out, if_neg (by rintro (⟨_, e⟩ | ⟨e, _⟩); omega; cases e)])
        have i0 : decide ((0 : Int) < (n2 : Int)) = false := decide_eq_false (by omega)
        have i00 : ¬ 0 < n2 := by omega
        clear h2 h0
        go_wp2_with (first
        | (go_at_call_of 33 (Value.string ⟨#[99, 108, 105, 101, 110, 116, 95, 105, 100]⟩); (with_reducible refine HG1.out.mono ?_); rintro e w1 ⟨rfl, hb1⟩; have HB1 := Lib.hid hb1; clear hb1) | (go_at_call_of 33 (Value.string ⟨#[99, 108, 105, 101, 110, 116, 95, 115, 101, 99, 114, 101, 116]⟩); (with_reducible refine (HG2.out _ HB1.out).mono ?_); rintro e w2 ⟨rfl, hb2⟩; have HB2 := Lib.hid (bnext HB1.out hb2); have HBQ := Lib.hid HB2.out; clear hb2)
        | (go_at_call 17; (with_reducible refine (HOF.out _ HBQ.out).mono ?_); rintro e we ⟨rfl, hbe⟩; obtain ⟨wf, wg, hVe⟩ := var_c we 49 (.string ⟨yid.toArray⟩) (.string ⟨ysec.toArray⟩) (.bool true) (.slice P3 l3.length C3) (.slice P4 l4.length C4) (.slice P5 l5.length C5); have he1 := hVe.a; have he2 := hVe.s; obtain ⟨s0, s1, s2, s3, s4, s5⟩ := blk6 hVe.zero; obtain ⟨t0, t1, t2, t3, t4, t5⟩ := frz6 hVe.zero; obtain ⟨v0, v1, v2, v3, v4, v5⟩ := blk6 hVe.blk; have HBG := Lib.hid (bnext HBQ.out (bnext hbe hVe.below)); have HVB := Lib.hid hVe.blk; clear hbe hVe)
        | (go_at_call 23; (with_reducible refine (HCN.out _).mono ?_); rintro e wi ⟨rfl, hbi⟩; have HBI := Lib.hid (bnext HBG.out hbi); clear hbi))
        go_ret2
        exact FIN0.out HR.out HYD.out _ HBI.out
      · have HR : Hid (rr = ([], 2)) := Lib.hid (by rw [HAF3.out, if_pos (Or.inl ⟨rfl, by omega⟩)])
        have i0 : decide ((0 : Int) < (n2 : Int)) = true := decide_eq_true (by omega)
        have i00 : 0 < n2 := by omega
        clear h2 h0
        go_wp2_with (first
        | (go_at_call_of 33 (Value.string ⟨#[99, 108, 105, 101, 110, 116, 95, 105, 100]⟩); (with_reducible refine HG1.out.mono ?_); rintro e w1 ⟨rfl, hb1⟩; have HB1 := Lib.hid hb1; clear hb1) | (go_at_call_of 33 (Value.string ⟨#[99, 108, 105, 101, 110, 116, 95, 115, 101, 99, 114, 101, 116]⟩); (with_reducible refine (HG2.out _ HB1.out).mono ?_); rintro e w2 ⟨rfl, hb2⟩; have HB2 := Lib.hid (bnext HB1.out hb2); have HBQ := Lib.hid HB2.out; clear hb2)
        | (go_at_call 17; (with_reducible refine (HOF.out _ HBQ.out).mono ?_); rintro e we ⟨rfl, hbe⟩; obtain ⟨wf, wg, hVe⟩ := var_c we 49 (.string ⟨yid.toArray⟩) (.string ⟨ysec.toArray⟩) (.bool true) (.slice P3 l3.length C3) (.slice P4 l4.length C4) (.slice P5 l5.length C5); have he1 := hVe.a; have he2 := hVe.s; obtain ⟨s0, s1, s2, s3, s4, s5⟩ := blk6 hVe.zero; obtain ⟨t0, t1, t2, t3, t4, t5⟩ := frz6 hVe.zero; obtain ⟨v0, v1, v2, v3, v4, v5⟩ := blk6 hVe.blk; have HBG := Lib.hid (bnext HBQ.out (bnext hbe hVe.below)); have HVB := Lib.hid hVe.blk; clear hbe hVe))
        go_ret2
        exact FIN2.out HR.out _ HBG.out
    | false =>
      have hsx := HSC.out rfl rfl
      by_cases hq : ysec = sv
      · have hn20 : n2 ≠ 0 := fun e => by
          have := HV1.out e
          rw [this] at hq
          rw [hq] at hsx
          simp at hsx
        have HR : Hid (rr = (id, 0)) := Lib.hid (by rw [HAF3.out, if_neg (by rintro (⟨e, _⟩ | ⟨_, (e | e)⟩); cases e; exact hn20 e; exact e hq)])
        rw [decide_eq_true hq] at HHS
        clear h2 hq hn20 hsx
        go_wp2_with (first
        | (go_at_call_of 33 (Value.string ⟨#[99, 108, 105, 101, 110, 116, 95, 105, 100]⟩); (with_reducible refine HG1.out.mono ?_); rintro e w1 ⟨rfl, hb1⟩; have HB1 := Lib.hid hb1; clear hb1) | (go_at_call_of 33 (Value.string ⟨#[99, 108, 105, 101, 110, 116, 95, 115, 101, 99, 114, 101, 116]⟩); (with_reducible refine (HG2.out _ HB1.out).mono ?_); rintro e w2 ⟨rfl, hb2⟩; have HB2 := Lib.hid (bnext HB1.out hb2); have HBQ := Lib.hid HB2.out; clear hb2)
        | (go_at_call 17; (with_reducible refine (HOF.out _ HBQ.out).mono ?_); rintro e we ⟨rfl, hbe⟩; obtain ⟨wf, wg, hVe⟩ := var_c we 49 (.string ⟨yid.toArray⟩) (.string ⟨ysec.toArray⟩) (.bool false) (.slice P3 l3.length C3) (.slice P4 l4.length C4) (.slice P5 l5.length C5); have he1 := hVe.a; have he2 := hVe.s; obtain ⟨s0, s1, s2, s3, s4, s5⟩ := blk6 hVe.zero; obtain ⟨t0, t1, t2, t3, t4, t5⟩ := frz6 hVe.zero; obtain ⟨v0, v1, v2, v3, v4, v5⟩ := blk6 hVe.blk; have HBG := Lib.hid (bnext HBQ.out (bnext hbe hVe.below)); have HVB := Lib.hid hVe.blk; clear hbe hVe)
        | (go_at_call 34; (with_reducible refine (HHS.out _).mono ?_); rintro e wh ⟨rfl, hbh⟩; have HBH := Lib.hid (bnext HBG.out hbh); obtain ⟨v0, v1, v2, v3, v4, v5⟩ := blk6 (HVB.out.below hbh); clear hbh)
        | (go_at_call 23; (with_reducible refine (HCN.out _).mono ?_); rintro e wi ⟨rfl, hbi⟩; have HBI := Lib.hid (bnext HBH.out hbi); clear hbi))
        go_ret2
        exact FIN0.out HR.out HYD.out _ HBI.out
      · have HR : Hid (rr = ([], 2)) := Lib.hid (by rw [HAF3.out, if_pos (Or.inr ⟨rfl, Or.inr hq⟩)])
        rw [decide_eq_false hq] at HHS
        clear h2 hq hsx
        go_wp2_with (first
        | (go_at_call_of 33 (Value.string ⟨#[99, 108, 105, 101, 110, 116, 95, 105, 100]⟩); (with_reducible refine HG1.out.mono ?_); rintro e w1 ⟨rfl, hb1⟩; have HB1 := Lib.hid hb1; clear hb1) | (go_at_call_of 33 (Value.string ⟨#[99, 108, 105, 101, 110, 116, 95, 115, 101, 99, 114, 101, 116]⟩); (with_reducible refine (HG2.out _ HB1.out).mono ?_); rintro e w2 ⟨rfl, hb2⟩; have HB2 := Lib.hid (bnext HB1.out hb2); have HBQ := Lib.hid HB2.out; clear hb2)
        | (go_at_call 17; (with_reducible refine (HOF.out _ HBQ.out).mono ?_); rintro e we ⟨rfl, hbe⟩; obtain ⟨wf, wg, hVe⟩ := var_c we 49 (.string ⟨yid.toArray⟩) (.string ⟨ysec.toArray⟩) (.bool false) (.slice P3 l3.length C3) (.slice P4 l4.length C4) (.slice P5 l5.length C5); have he1 := hVe.a; have he2 := hVe.s; obtain ⟨s0, s1, s2, s3, s4, s5⟩ := blk6 hVe.zero; obtain ⟨t0, t1, t2, t3, t4, t5⟩ := frz6 hVe.zero; obtain ⟨v0, v1, v2, v3, v4, v5⟩ := blk6 hVe.blk; have HBG := Lib.hid (bnext HBQ.out (bnext hbe hVe.below)); have HVB := Lib.hid hVe.blk; clear hbe hVe)
        | (go_at_call 34; (with_reducible refine (HHS.out _).mono ?_); rintro e wh ⟨rfl, hbh⟩; have HBH := Lib.hid (bnext HBG.out hbh); obtain ⟨v0, v1, v2, v3, v4, v5⟩ := blk6 (HVB.out.below hbh); clear hbh))
        go_ret2
        exact FIN2.out HR.out _ HBH.out
end Go.Proofs.YtfeafhagnhbmiaaGreatDoor.rol
