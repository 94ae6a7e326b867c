/- The developers' byHeader, Auth. Headers of at most 8388608 bytes. -/
import Derived.Test.YtfeafhagnhbmiaaGreatDoorRoL
namespace Go.Proofs.YtfeafhagnhbmiaaGreatDoor.rol
open Go.RowKit
open Go.Proofs.YtfeafhagnhbmiaaGreatDoor.oct Go.Proofs.YtfeafhagnhbmiaaGreatDoor.ref Go.Proofs.YtfeafhagnhbmiaaGreatDoor.rows Go.Proofs.YtfeafhagnhbmiaaGreatDoor.rowg Go.Proofs.YtfeafhagnhbmiaaGreatDoor.trn
open Go.Proofs.YtfeafhagnhbmiaaGreatDoor.scp (Lst lval clone_c)
open Go.Proofs.YtfeafhagnhbmiaaGreatDoor.fld (Pr InPr getV getN)
open Go.Proofs.YtfeafhagnhbmiaaGreatDoor.fdv (getV_len)
open Go.Proofs.YtfeafhagnhbmiaaGreatDoor.fld (unq)

theorem shown_out {s : T} (hs : s.length ≤ 8388608) : (∃ x y, shownP s = some (x, y) ∧ x.length ≤ 8388608 ∧ y.length ≤ 8388608) ∨ shownP s = none := by
  cases h : shownP s with
  | none => exact Or.inr rfl
  | some z =>
    refine Or.inl ⟨z.1, z.2, rfl, ?_⟩
    by_cases hb : s.take 6 = wBas
    · rw [shown_some hb] at h
      cases hu : unbasP (s.drop 6) with
      | none => rw [hu] at h; cases h
      | some o =>
        rw [hu] at h
        have ho : basT o = s.drop 6 := by
          unfold unbasP at hu
          split at hu
          · rename_i hx
            injection hu with hu
            rw [← hu]
            exact hx.choose_spec
          · cases hu
        have hol : o.length ≤ 8388608 := by
          have h1 := basT_len o
          rw [ho, List.length_drop] at h1
          omega
        have h2 : shownB o = some z := h
        unfold shownB at h2
        split at h2
        · unfold unq2 cutC at h2
          dsimp only at h2
          cases q1 : unq (o.takeWhile (· ≠ 58)) with
          | none => rw [q1] at h2; cases h2
          | some a =>
            rw [q1] at h2
            cases q2 : unq ((o.dropWhile (· ≠ 58)).drop 1) with
            | none => rw [q2] at h2; cases h2
            | some b =>
              rw [q2] at h2
              injection h2 with h2
              rw [← h2]
              have m1 := unq_le q1
              have m2 := unq_le q2
              have t1 := (List.takeWhile_sublist (l := o) (fun x : UInt8 => decide (x ≠ 58))).length_le
              have t2 := ((List.drop_sublist 1 (o.dropWhile (fun x : UInt8 => decide (x ≠ 58)))).trans (List.dropWhile_sublist _)).length_le
              exact ⟨by dsimp only; omega, by dsimp only; omega⟩
        · cases h2
    · rw [shown_none hb] at h; cases h
/-- what a header and a form come to, once the header's Id and secret are known -/
theorem authH_some {l : List CT} {s : T} {ps : List Pr} {x y : T} (h : shownP s = some (x, y)) : authH l s ps = if 1 < getN ps wId ∨ 0 < getN ps wSec then ([], 1) else if (lookP l x).2 = false ∨ (lookP l x).1.pub = true ∨ (lookP l x).1.sec ≠ y then ([], 2) else if getN ps wId = 1 ∧ getV ps wId ≠ x then ([], 1) else (x, 0) := by
  unfold authH
  rw [h]
theorem authH_none {l : List CT} {s : T} {ps : List Pr} (h : shownP s = none) : authH l s ps = if 1 < getN ps wId ∨ 0 < getN ps wSec then ([], 1) else ([], 2) := by
  unfold authH
  rw [h]
set_option maxRecDepth 100000 in
set_option maxHeartbeats 1000000 in
theorem byHeader_c {w : World} {F : Nat → Prop} {gp : Option Addr} {ys : List Cm} (h : RolN w F gp ys) (s : T) (hs : s.length ≤ 8388608) (P : Option Addr) (C : Nat) (ps : List Pr) (hf : GoodF w P ps) :
    Calls Tryz.prog 20 #[.pointer gp, .string ⟨s.toArray⟩, .slice P ps.length C] w fun e w' => AuthA (authH (ys.map Cm.ct) s ps) e ∧ Below w.heap.size w w' := by
  have HG1 : Hid (Calls Tryz.prog 33 #[.slice P ps.length C, .string ⟨#[99, 108, 105, 101, 110, 116, 95, 105, 100]⟩] w fun e w' => e = .returned (.tuple #[.string ⟨(getV ps wId).toArray⟩, .int .i64 (getN ps wId : Nat)]) ∧ Below w.heap.size w w') := Lib.hid (get_c C wId hf)
  have HG2 : Hid (∀ W, Below w.heap.size w W → Calls Tryz.prog 33 #[.slice P ps.length C, .string ⟨#[99, 108, 105, 101, 110, 116, 95, 115, 101, 99, 114, 101, 116]⟩] W fun e w' => e = .returned (.tuple #[.string ⟨(getV ps wSec).toArray⟩, .int .i64 (getN ps wSec : Nat)]) ∧ Below W.heap.size W w') := Lib.hid fun W hW => get_c C wSec (hf.below hW)
  obtain ⟨nid, hidd⟩ : ∃ id, getV ps wId = id := ⟨_, rfl⟩
  obtain ⟨sv, hsv⟩ : ∃ s, getV ps wSec = s := ⟨_, rfl⟩
  obtain ⟨n1, hn1⟩ : ∃ n, getN ps wId = n := ⟨_, rfl⟩
  obtain ⟨n2, hn2⟩ : ∃ n, getN ps wSec = n := ⟨_, rfl⟩
  have HN : Hid (shownP s = none → authH (ys.map Cm.ct) s ps = if 1 < n1 ∨ 0 < n2 then ([], 1) else ([], 2)) := Lib.hid fun e => by rw [authH_none e, hn1, hn2]
  have HY : Hid (∀ x y, shownP s = some (x, y) → authH (ys.map Cm.ct) s ps = if 1 < n1 ∨ 0 < n2 then ([], 1) else if (lookP (ys.map Cm.ct) x).2 = false ∨ (lookP (ys.map Cm.ct) x).1.pub = true ∨ (lookP (ys.map Cm.ct) x).1.sec ≠ y then ([], 2) else if n1 = 1 ∧ nid ≠ x then ([], 1) else (x, 0)) := Lib.hid fun x y e => by rw [authH_some e, hn1, hn2, hidd]
  rw [hidd, hn1] at HG1
  rw [hsv, hn2] at HG2
  have H1 : Hid (1 < n1 ∨ 0 < n2 → authH (ys.map Cm.ct) s ps = ([], 1)) := Lib.hid fun e => by
    rcases shown_out hs with ⟨x, y, h1, _⟩ | h1
    · rw [HY.out x y h1, if_pos e]
    · rw [HN.out h1, if_pos e]
  have HSH0 : ∀ W, Below w.heap.size w W → _ := fun W (_ : Below w.heap.size w W) => shown_c s W hs
  have hso := shown_out hs
  obtain ⟨rr, hrr⟩ : ∃ rr, authH (ys.map Cm.ct) s ps = rr := ⟨_, rfl⟩
  rw [hrr] at HN HY H1 ⊢
  have HRN : Hid (RolN w F gp ys) := Lib.hid h
  obtain ⟨np, hnp⟩ : ∃ n, ps.length = n := ⟨_, rfl⟩
  rw [hnp] at HG1 HG2 ⊢
  have fin1 : rr = ([], 1) → ∀ w', Below w.heap.size w w' → AuthA rr (.returned (.tuple #[.string ⟨#[]⟩, .int .i64 1])) ∧ Below w.heap.size w w' := fun e w' hb => ⟨by rw [e]; rfl, hb⟩
  have FIN1 := Lib.hid fin1
  have fin2 : rr = ([], 2) → ∀ w', Below w.heap.size w w' → AuthA rr (.returned (.tuple #[.string ⟨#[]⟩, .int .i64 2])) ∧ Below w.heap.size w w' := fun e w' hb => ⟨by rw [e]; rfl, hb⟩
  have FIN2 := Lib.hid fin2
  have HSO := Lib.hid hso
  have HSH1 := Lib.hid HSH0
  clear hidd hsv hn1 hn2 hf hrr h hnp fin1 fin2 hso HSH0
  go_enter Tryz.func20, Tryz.ntmps20
  by_cases h1 : 1 < n1
  · have HR := Lib.hid (H1.out (Or.inl h1))
    go_wp2_with (first
    | (go_at_call_of 33 (Value.string ⟨#[99, 108, 105, 101, 110, 116, 95, 105, 100]⟩); (with_reducible refine HG1.out.mono ?_); rintro e w1 ⟨rfl, hb1⟩; have HB1 := Lib.hid hb1; clear hb1) | (go_at_call_of 33 (Value.string ⟨#[99, 108, 105, 101, 110, 116, 95, 115, 101, 99, 114, 101, 116]⟩); (with_reducible refine (HG2.out _ HB1.out).mono ?_); rintro e w2 ⟨rfl, hb2⟩; have HB2 := Lib.hid (bnext HB1.out hb2); clear hb2))
    go_ret2
    exact FIN1.out HR.out _ HB2.out
  by_cases h2 : 0 < n2
  · have HR := Lib.hid (H1.out (Or.inr h2))
    go_wp2_with (first
    | (go_at_call_of 33 (Value.string ⟨#[99, 108, 105, 101, 110, 116, 95, 105, 100]⟩); (with_reducible refine HG1.out.mono ?_); rintro e w1 ⟨rfl, hb1⟩; have HB1 := Lib.hid hb1; clear hb1) | (go_at_call_of 33 (Value.string ⟨#[99, 108, 105, 101, 110, 116, 95, 115, 101, 99, 114, 101, 116]⟩); (with_reducible refine (HG2.out _ HB1.out).mono ?_); rintro e w2 ⟨rfl, hb2⟩; have HB2 := Lib.hid (bnext HB1.out hb2); clear hb2))
    go_ret2
    exact FIN1.out HR.out _ HB2.out
  have hnn : ¬ (1 < n1 ∨ 0 < n2) := by omega
  have HNN := Lib.hid hnn
  clear hnn
  have i1 : decide ((1 : Int) < (n1 : Int)) = false := decide_eq_false (by omega)
  have i2 : decide ((0 : Int) < (n2 : Int)) = false := decide_eq_false (by omega)
  rcases HSO.out with ⟨x, sv2, hx, hxl, hyl⟩ | hx
  · have HAF := Lib.hid (HY.out x sv2 hx)
    rw [if_neg HNN.out] at HAF
    have HSH : Hid (∀ W, Below w.heap.size w W → Calls Tryz.prog 35 #[.string ⟨s.toArray⟩] W fun e w' => e = .returned (.tuple #[.string ⟨x.toArray⟩, .string ⟨sv2.toArray⟩, .bool true]) ∧ Below W.heap.size W w') := Lib.hid fun W hW => (HSH1.out W hW).mono fun e w' ⟨q1, q2⟩ => ⟨by rw [hx] at q1; exact q1, q2⟩
    have hlk := lookM_P ys x
    have HOF0 : ∀ W, Below w.heap.size w W → _ := fun W hW => of_n (HRN.out.below hW) x (by omega)
    have hgd := look_goodN HRN.out x
    have hyes : (lookM ys x).2 = true → (lookM ys x).1 ∈ ys ∧ (lookM ys x).1.id = x := lookM_yes
    obtain ⟨kn, hkn⟩ : ∃ kn, (lookM ys x).2 = kn := ⟨_, rfl⟩
    obtain ⟨y, hy⟩ : ∃ y, (lookM ys x).1 = y := ⟨_, rfl⟩
    have hyid : kn = true → y.id = x := fun e => by rw [← hy]; exact (hyes (by rw [hkn]; exact e)).2
    rw [hkn, hy] at hlk
    rw [hy] at hgd
    simp only [hkn, hy] at HOF0
    clear hkn hy hyes hx HY HN H1
    obtain ⟨yid, ysec, ypub, ⟨P3, C3, l3⟩, ⟨P4, C4, l4⟩, ⟨P5, C5, l5⟩⟩ := y
    have HOF : Hid (∀ W, Below w.heap.size w W → Calls Tryz.prog 17 #[.pointer gp, .string ⟨x.toArray⟩] W fun e w' => e = .returned (.tuple #[.agg #[.string ⟨yid.toArray⟩, .string ⟨ysec.toArray⟩, .bool ypub, .slice P3 l3.length C3, .slice P4 l4.length C4, .slice P5 l5.length C5], .bool kn]) ∧ Below W.heap.size W w') := Lib.hid HOF0
    have hl1 : lookP (ys.map Cm.ct) x = (⟨yid, ysec, ypub, l3, l4, l5⟩, kn) := hlk.symm
    rw [hl1] at HAF
    replace HAF : Hid (rr = if kn = false ∨ ypub = true ∨ ysec ≠ sv2 then ([], 2) else if n1 = 1 ∧ nid ≠ x then ([], 1) else (x, 0)) := HAF
    dsimp only at hyid
    have hsl : ysec.length ≤ 140737488351232 := hgd.1.sec
    have HHS : Hid (∀ W, Calls Tryz.prog 34 #[.agg #[.string ⟨yid.toArray⟩, .string ⟨ysec.toArray⟩, .bool ypub, .slice P3 l3.length C3, .slice P4 l4.length C4, .slice P5 l5.length C5], .string ⟨sv2.toArray⟩] W fun e w' => e = .returned (.bool (!ypub && decide (ysec = sv2))) ∧ Below W.heap.size W w') := Lib.hid fun W => has_c ⟨yid, ysec, ypub, (P3, C3, l3), (P4, C4, l4), (P5, C5, l5)⟩ sv2 W (by show ysec.length ≤ _; omega)
    have HCN := Lib.hid (fun W => clone_c ⟨yid.toArray⟩ W (by rw [size_mk]; have : yid.length ≤ _ := hgd.1.id; omega))
    have HYI := Lib.hid hyid
    clear hlk hgd hl1 hsl HOF0 hyid hxl hyl HSO HSH1
    have fin0 : rr = (x, 0) → yid = x → ∀ w', Below w.heap.size w w' → AuthA rr (.returned (.tuple #[.string ⟨yid.toArray⟩, .int .i64 0])) ∧ Below w.heap.size w w' := fun e e2 w' hb => ⟨by rw [e, e2]; rfl, hb⟩
    have FIN0 := Lib.hid fin0
    clear fin0
    cases kn with
    | false =>
      have HR : Hid (rr = ([], 2)) := Lib.hid (by rw [HAF.out, if_pos (Or.inl rfl)])
      go_wp2_with (first
      | (go_at_call_of 33 (Value.string ⟨#[99, 108, 105, 101, 110, 116, 95, 105, 100]⟩); (with_reducible refine HG1.out.mono ?_); rintro e w1 ⟨rfl, hb1⟩; have HB1 := Lib.hid hb1; clear hb1) | (go_at_call_of 33 (Value.string ⟨#[99, 108, 105, 101, 110, 116, 95, 115, 101, 99, 114, 101, 116]⟩); (with_reducible refine (HG2.out _ HB1.out).mono ?_); rintro e w2 ⟨rfl, hb2⟩; have HB2 := Lib.hid (bnext HB1.out hb2); clear hb2)
      | (go_at_call 35; (with_reducible refine (HSH.out _ HB2.out).mono ?_); rintro e w3 ⟨rfl, hb3⟩; have HBQ := Lib.hid (bnext HB2.out hb3); clear hb3)
      | (go_at_call 17; (with_reducible refine (HOF.out _ HBQ.out).mono ?_); rintro e we ⟨rfl, hbe⟩; obtain ⟨wf, wg, hVe⟩ := var_c we 49 (.string ⟨yid.toArray⟩) (.string ⟨ysec.toArray⟩) (.bool ypub) (.slice P3 l3.length C3) (.slice P4 l4.length C4) (.slice P5 l5.length C5); have he1 := hVe.a; have he2 := hVe.s; obtain ⟨s0, s1, s2, s3, s4, s5⟩ := blk6 hVe.zero; obtain ⟨t0, t1, t2, t3, t4, t5⟩ := frz6 hVe.zero; obtain ⟨v0, v1, v2, v3, v4, v5⟩ := blk6 hVe.blk; have HBG := Lib.hid (bnext HBQ.out (bnext hbe hVe.below)); have HVB := Lib.hid hVe.blk; clear hbe hVe))
      go_ret2
      exact FIN2.out HR.out _ HBG.out
    | true =>
      have HYD := Lib.hid (HYI.out rfl)
      have HAF2 : Hid (rr = if ypub = true ∨ ysec ≠ sv2 then ([], 2) else if n1 = 1 ∧ nid ≠ x then ([], 1) else (x, 0)) := Lib.hid (by rw [HAF.out]; simp)
      obtain ⟨hb, hhb⟩ : ∃ hb, (!ypub && decide (ysec = sv2)) = hb := ⟨_, rfl⟩
      rw [hhb] at HHS
      cases hb with
      | false =>
        have HR : Hid (rr = ([], 2)) := Lib.hid (by
          rw [HAF2.out, if_pos]
          cases ypub with
          | true => exact Or.inl rfl
          | false => exact Or.inr (by simpa using hhb))
        clear HYI hhb
        go_wp2_with (first
        | (go_at_call_of 33 (Value.string ⟨#[99, 108, 105, 101, 110, 116, 95, 105, 100]⟩); (with_reducible refine HG1.out.mono ?_); rintro e w1 ⟨rfl, hb1⟩; have HB1 := Lib.hid hb1; clear hb1) | (go_at_call_of 33 (Value.string ⟨#[99, 108, 105, 101, 110, 116, 95, 115, 101, 99, 114, 101, 116]⟩); (with_reducible refine (HG2.out _ HB1.out).mono ?_); rintro e w2 ⟨rfl, hb2⟩; have HB2 := Lib.hid (bnext HB1.out hb2); clear hb2)
        | (go_at_call 35; (with_reducible refine (HSH.out _ HB2.out).mono ?_); rintro e w3 ⟨rfl, hb3⟩; have HBQ := Lib.hid (bnext HB2.out hb3); clear hb3)
        | (go_at_call 17; (with_reducible refine (HOF.out _ HBQ.out).mono ?_); rintro e we ⟨rfl, hbe⟩; obtain ⟨wf, wg, hVe⟩ := var_c we 49 (.string ⟨yid.toArray⟩) (.string ⟨ysec.toArray⟩) (.bool ypub) (.slice P3 l3.length C3) (.slice P4 l4.length C4) (.slice P5 l5.length C5); have he1 := hVe.a; have he2 := hVe.s; obtain ⟨s0, s1, s2, s3, s4, s5⟩ := blk6 hVe.zero; obtain ⟨t0, t1, t2, t3, t4, t5⟩ := frz6 hVe.zero; obtain ⟨v0, v1, v2, v3, v4, v5⟩ := blk6 hVe.blk; have HBG := Lib.hid (bnext HBQ.out (bnext hbe hVe.below)); have HVB := Lib.hid hVe.blk; clear hbe hVe)
        | (go_at_call 34; (with_reducible refine (HHS.out _).mono ?_); rintro e wh ⟨rfl, hbh⟩; have HBH := Lib.hid (bnext HBG.out hbh); obtain ⟨v0, v1, v2, v3, v4, v5⟩ := blk6 (HVB.out.below hbh); clear hbh))
        go_ret2
        exact FIN2.out HR.out _ HBH.out
      | true =>
        have HAF3 : Hid (rr = if n1 = 1 ∧ nid ≠ x then ([], 1) else (x, 0)) := Lib.hid (by
          rw [HAF2.out, if_neg]
          cases ypub with
          | true => simp at hhb
          | false => simpa using hhb)
        clear HYI hhb HAF HAF2
        by_cases hz : n1 = 1
        · have b1 : ((n1 : Int) == 1) = true := by simp; omega
          have b1n : decide (n1 = 1) = true := decide_eq_true hz
          by_cases hq : nid = x
          · have HR : Hid (rr = (x, 0)) := Lib.hid (by rw [HAF3.out, if_neg (fun e => e.2 hq)])
            have b2 : (nid == x) = true := by simpa using hq
            have b3 : (nid != x) = false := by simpa using hq
            clear hz hq
            go_wp2_with (first
            | (go_at_call_of 33 (Value.string ⟨#[99, 108, 105, 101, 110, 116, 95, 105, 100]⟩); (with_reducible refine HG1.out.mono ?_); rintro e w1 ⟨rfl, hb1⟩; have HB1 := Lib.hid hb1; clear hb1) | (go_at_call_of 33 (Value.string ⟨#[99, 108, 105, 101, 110, 116, 95, 115, 101, 99, 114, 101, 116]⟩); (with_reducible refine (HG2.out _ HB1.out).mono ?_); rintro e w2 ⟨rfl, hb2⟩; have HB2 := Lib.hid (bnext HB1.out hb2); clear hb2)
            | (go_at_call 35; (with_reducible refine (HSH.out _ HB2.out).mono ?_); rintro e w3 ⟨rfl, hb3⟩; have HBQ := Lib.hid (bnext HB2.out hb3); clear hb3)
            | (go_at_call 17; (with_reducible refine (HOF.out _ HBQ.out).mono ?_); rintro e we ⟨rfl, hbe⟩; obtain ⟨wf, wg, hVe⟩ := var_c we 49 (.string ⟨yid.toArray⟩) (.string ⟨ysec.toArray⟩) (.bool ypub) (.slice P3 l3.length C3) (.slice P4 l4.length C4) (.slice P5 l5.length C5); have he1 := hVe.a; have he2 := hVe.s; obtain ⟨s0, s1, s2, s3, s4, s5⟩ := blk6 hVe.zero; obtain ⟨t0, t1, t2, t3, t4, t5⟩ := frz6 hVe.zero; obtain ⟨v0, v1, v2, v3, v4, v5⟩ := blk6 hVe.blk; have HBG := Lib.hid (bnext HBQ.out (bnext hbe hVe.below)); have HVB := Lib.hid hVe.blk; clear hbe hVe)
            | (go_at_call 34; (with_reducible refine (HHS.out _).mono ?_); rintro e wh ⟨rfl, hbh⟩; have HBH := Lib.hid (bnext HBG.out hbh); obtain ⟨v0, v1, v2, v3, v4, v5⟩ := blk6 (HVB.out.below hbh); clear hbh)
            | (go_at_call 23; (with_reducible refine (HCN.out _).mono ?_); rintro e wi ⟨rfl, hbi⟩; have HBI := Lib.hid (bnext HBH.out hbi); clear hbi))
            go_ret2
            exact FIN0.out HR.out HYD.out _ HBI.out
          · have HR : Hid (rr = ([], 1)) := Lib.hid (by rw [HAF3.out, if_pos ⟨hz, hq⟩])
            have b2 : (nid == x) = false := by simpa using hq
            have b3 : (nid != x) = true := by simpa using hq
            clear hz hq
            go_wp2_with (first
            | (go_at_call_of 33 (Value.string ⟨#[99, 108, 105, 101, 110, 116, 95, 105, 100]⟩); (with_reducible refine HG1.out.mono ?_); rintro e w1 ⟨rfl, hb1⟩; have HB1 := Lib.hid hb1; clear hb1) | (go_at_call_of 33 (Value.string ⟨#[99, 108, 105, 101, 110, 116, 95, 115, 101, 99, 114, 101, 116]⟩); (with_reducible refine (HG2.out _ HB1.out).mono ?_); rintro e w2 ⟨rfl, hb2⟩; have HB2 := Lib.hid (bnext HB1.out hb2); clear hb2)
            | (go_at_call 35; (with_reducible refine (HSH.out _ HB2.out).mono ?_); rintro e w3 ⟨rfl, hb3⟩; have HBQ := Lib.hid (bnext HB2.out hb3); clear hb3)
            | (go_at_call 17; (with_reducible refine (HOF.out _ HBQ.out).mono ?_); rintro e we ⟨rfl, hbe⟩; obtain ⟨wf, wg, hVe⟩ := var_c we 49 (.string ⟨yid.toArray⟩) (.string ⟨ysec.toArray⟩) (.bool ypub) (.slice P3 l3.length C3) (.slice P4 l4.length C4) (.slice P5 l5.length C5); have he1 := hVe.a; have he2 := hVe.s; obtain ⟨s0, s1, s2, s3, s4, s5⟩ := blk6 hVe.zero; obtain ⟨t0, t1, t2, t3, t4, t5⟩ := frz6 hVe.zero; obtain ⟨v0, v1, v2, v3, v4, v5⟩ := blk6 hVe.blk; have HBG := Lib.hid (bnext HBQ.out (bnext hbe hVe.below)); have HVB := Lib.hid hVe.blk; clear hbe hVe)
            | (go_at_call 34; (with_reducible refine (HHS.out _).mono ?_); rintro e wh ⟨rfl, hbh⟩; have HBH := Lib.hid (bnext HBG.out hbh); obtain ⟨v0, v1, v2, v3, v4, v5⟩ := blk6 (HVB.out.below hbh); clear hbh))
            go_ret2
            exact FIN1.out HR.out _ HBH.out
        · have b1 : ((n1 : Int) == 1) = false := by simp; omega
          have b1n : decide (n1 = 1) = false := decide_eq_false hz
          have HR : Hid (rr = (x, 0)) := Lib.hid (by rw [HAF3.out, if_neg (fun e => hz e.1)])
          clear hz
          go_wp2_with (first
          | (go_at_call_of 33 (Value.string ⟨#[99, 108, 105, 101, 110, 116, 95, 105, 100]⟩); (with_reducible refine HG1.out.mono ?_); rintro e w1 ⟨rfl, hb1⟩; have HB1 := Lib.hid hb1; clear hb1) | (go_at_call_of 33 (Value.string ⟨#[99, 108, 105, 101, 110, 116, 95, 115, 101, 99, 114, 101, 116]⟩); (with_reducible refine (HG2.out _ HB1.out).mono ?_); rintro e w2 ⟨rfl, hb2⟩; have HB2 := Lib.hid (bnext HB1.out hb2); clear hb2)
          | (go_at_call 35; (with_reducible refine (HSH.out _ HB2.out).mono ?_); rintro e w3 ⟨rfl, hb3⟩; have HBQ := Lib.hid (bnext HB2.out hb3); clear hb3)
          | (go_at_call 17; (with_reducible refine (HOF.out _ HBQ.out).mono ?_); rintro e we ⟨rfl, hbe⟩; obtain ⟨wf, wg, hVe⟩ := var_c we 49 (.string ⟨yid.toArray⟩) (.string ⟨ysec.toArray⟩) (.bool ypub) (.slice P3 l3.length C3) (.slice P4 l4.length C4) (.slice P5 l5.length C5); have he1 := hVe.a; have he2 := hVe.s; obtain ⟨s0, s1, s2, s3, s4, s5⟩ := blk6 hVe.zero; obtain ⟨t0, t1, t2, t3, t4, t5⟩ := frz6 hVe.zero; obtain ⟨v0, v1, v2, v3, v4, v5⟩ := blk6 hVe.blk; have HBG := Lib.hid (bnext HBQ.out (bnext hbe hVe.below)); have HVB := Lib.hid hVe.blk; clear hbe hVe)
          | (go_at_call 34; (with_reducible refine (HHS.out _).mono ?_); rintro e wh ⟨rfl, hbh⟩; have HBH := Lib.hid (bnext HBG.out hbh); obtain ⟨v0, v1, v2, v3, v4, v5⟩ := blk6 (HVB.out.below hbh); clear hbh)
          | (go_at_call 23; (with_reducible refine (HCN.out _).mono ?_); rintro e wi ⟨rfl, hbi⟩; have HBI := Lib.hid (bnext HBH.out hbi); clear hbi))
          go_ret2
          exact FIN0.out HR.out HYD.out _ HBI.out
  · have HR : Hid (rr = ([], 2)) := Lib.hid (by rw [HN.out hx, if_neg HNN.out])
    have HSH : Hid (∀ W, Below w.heap.size w W → Calls Tryz.prog 35 #[.string ⟨s.toArray⟩] W fun e w' => ∃ a b : T, e = .returned (.tuple #[.string ⟨a.toArray⟩, .string ⟨b.toArray⟩, .bool false]) ∧ a.length ≤ 8388608 ∧ Below W.heap.size W w') := Lib.hid fun W hW => (HSH1.out W hW).mono fun e w' ⟨q1, q2⟩ => by
      rw [hx] at q1
      obtain ⟨a, b, q3, q4, _⟩ := q1
      exact ⟨a, b, q3, q4, q2⟩
    have HOF : Hid (∀ W (a : T), Below w.heap.size w W → a.length ≤ 8388608 → Calls Tryz.prog 17 #[.pointer gp, .string ⟨a.toArray⟩] W fun e w' => ∃ (S0 S1 : ByteArray) (bb : Bool) (R3 : Option Addr) (z3 E3 : Nat) (R4 : Option Addr) (z4 E4 : Nat) (R5 : Option Addr) (z5 E5 : Nat) (kn : Bool), e = .returned (.tuple #[.agg #[.string S0, .string S1, .bool bb, .slice R3 z3 E3, .slice R4 z4 E4, .slice R5 z5 E5], .bool kn]) ∧ Below W.heap.size W w') := Lib.hid fun W a hW ha => (of_n (HRN.out.below hW) a (by omega)).mono fun e w' ⟨q1, q2⟩ => by
      obtain ⟨S0, S1, bb, R3, z3, E3, R4, z4, E4, R5, z5, E5, ho⟩ := cval_open (lookM ys a).1
      rw [ho] at q1
      exact ⟨S0, S1, bb, R3, z3, E3, R4, z4, E4, R5, z5, E5, _, q1, q2⟩
    clear hx HY HN H1 HSO HSH1
    go_wp2_with (first
    | (go_at_call_of 33 (Value.string ⟨#[99, 108, 105, 101, 110, 116, 95, 105, 100]⟩); (with_reducible refine HG1.out.mono ?_); rintro e w1 ⟨rfl, hb1⟩; have HB1 := Lib.hid hb1; clear hb1) | (go_at_call_of 33 (Value.string ⟨#[99, 108, 105, 101, 110, 116, 95, 115, 101, 99, 114, 101, 116]⟩); (with_reducible refine (HG2.out _ HB1.out).mono ?_); rintro e w2 ⟨rfl, hb2⟩; have HB2 := Lib.hid (bnext HB1.out hb2); clear hb2)
    | (go_at_call 35; (with_reducible refine (HSH.out _ HB2.out).mono ?_); rintro e w3 ⟨a, a2, rfl, hal, hb3⟩; have HAL := Lib.hid hal; have HBQ := Lib.hid (bnext HB2.out hb3); clear hb3 hal)
    | (go_at_call 17; (with_reducible refine (HOF.out _ _ HBQ.out HAL.out).mono ?_); rintro e we ⟨S0, S1, bb, R3, z3, E3, R4, z4, E4, R5, z5, E5, kn, rfl, hbe⟩; obtain ⟨wf, wg, hVe⟩ := var_c we 49 (.string S0) (.string S1) (.bool bb) (.slice R3 z3 E3) (.slice R4 z4 E4) (.slice R5 z5 E5); have he1 := hVe.a; have he2 := hVe.s; obtain ⟨s0, s1, s2, s3, s4, s5⟩ := blk6 hVe.zero; obtain ⟨t0, t1, t2, t3, t4, t5⟩ := frz6 hVe.zero; obtain ⟨v0, v1, v2, v3, v4, v5⟩ := blk6 hVe.blk; have HBG := Lib.hid (bnext HBQ.out (bnext hbe hVe.below)); clear hbe hVe))
    go_ret2
    exact FIN2.out HR.out _ HBG.out
set_option maxRecDepth 100000 in
set_option maxHeartbeats 1000000 in
theorem auth_c {w : World} {F : Nat → Prop} {gp : Option Addr} {ys : List Cm} (h : RolN w F gp ys) (hsec : Sec1 ys) (s : T) (hs : s.length ≤ 8388608) (P : Option Addr) (C : Nat) (ps : List Pr) (hf : GoodF w P ps) :
    Calls Tryz.prog 6 #[.pointer gp, .string ⟨s.toArray⟩, .slice P ps.length C] w fun e w' => AuthA (authP (ys.map Cm.ct) s ps) e ∧ Below w.heap.size w w' := by
  obtain ⟨rr, hrr⟩ : ∃ rr, authP (ys.map Cm.ct) s ps = rr := ⟨_, rfl⟩
  rw [hrr]
  cases he : s.isEmpty with
  | true =>
    have e : s = [] := List.isEmpty_iff.1 he
    have HR : Hid (authF (ys.map Cm.ct) ps = rr) := Lib.hid (by rw [← hrr]; unfold authP; rw [if_pos e])
    have HC := Lib.hid (byForm_c h hsec P C ps hf)
    rw [HR.out] at HC
    unfold AuthA at HC
    obtain ⟨np, hnp⟩ : ∃ n, ps.length = n := ⟨_, rfl⟩
    rw [hnp] at HC ⊢
    clear h hsec hs hf hrr e hnp
    go_enter Tryz.func6, Tryz.ntmps6
    go_wp2_with (go_at_call 19; (with_reducible refine HC.out.mono ?_); rintro e w1 ⟨rfl, hb1⟩; have HB1 := Lib.hid hb1; clear hb1)
    go_ret2
    exact ⟨rfl, HB1.out⟩
  | false =>
    have e : s ≠ [] := by intro e; rw [e] at he; cases he
    have HR : Hid (authH (ys.map Cm.ct) s ps = rr) := Lib.hid (by rw [← hrr]; unfold authP; rw [if_neg e])
    have HC := Lib.hid (byHeader_c h s hs P C ps hf)
    rw [HR.out] at HC
    unfold AuthA at HC
    obtain ⟨np, hnp⟩ : ∃ n, ps.length = n := ⟨_, rfl⟩
    rw [hnp] at HC ⊢
    clear h hsec hs hf hrr e hnp
    go_enter Tryz.func6, Tryz.ntmps6
    go_wp2_with (go_at_call 20; (with_reducible refine HC.out.mono ?_); rintro e w1 ⟨rfl, hb1⟩; have HB1 := Lib.hid hb1; clear hb1)
    go_ret2
    exact ⟨rfl, HB1.out⟩
end Go.Proofs.YtfeafhagnhbmiaaGreatDoor.rol
