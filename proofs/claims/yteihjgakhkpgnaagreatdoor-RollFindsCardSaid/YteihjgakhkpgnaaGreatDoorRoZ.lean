/- RollFinds. No condition beyond what slices and texts are. -/
import Derived.Test.YteihjgakhkpgnaaGreatDoorRoId
import Derived.Test.YteihjgakhkpgnaaGreatDoorRoOp
namespace Go.Proofs.YteihjgakhkpgnaaGreatDoor.rol
open Go.RowKit
open Go.Proofs.YteihjgakhkpgnaaGreatDoor.oct Go.Proofs.YteihjgakhkpgnaaGreatDoor.ref Go.Proofs.YteihjgakhkpgnaaGreatDoor.rows Go.Proofs.YteihjgakhkpgnaaGreatDoor.rowg Go.Proofs.YteihjgakhkpgnaaGreatDoor.trn
open Go.Proofs.YteihjgakhkpgnaaGreatDoor.scp (tx senc senc_len InS ins_below ins_cell lt hasB hasB_iff Lst lval lenc GoodL FitS)

theorem ids_rise {ys : List Cm} (hnd : (ys.map (·.id)).Nodup) {i : Nat} (h : i + 1 < (idsP ys).length) : Go.Op.bytesLess (idsP ys)[i] (idsP ys)[i + 1] = true := by
  have tr : ∀ a b c : List UInt8, Go.leB a b = true → Go.leB b c = true → Go.leB a c = true := fun a b c h1 h2 => by simp only [Go.leB, decide_eq_true_eq] at *; exact List.le_trans h1 h2
  have tot : ∀ a b : List UInt8, (Go.leB a b || Go.leB b a) = true := fun a b => by simp only [Go.leB, Bool.or_eq_true, decide_eq_true_eq]; exact List.le_total a b
  have hs : (idsP ys).Pairwise (fun a b => Go.leB a b = true) := List.pairwise_mergeSort tr tot _
  have hn : (idsP ys).Nodup := by unfold idsP; exact (List.mergeSort_perm _ _).nodup_iff.2 hnd
  have h1 := List.pairwise_iff_getElem.1 hs i (i + 1) (by omega) h (by omega)
  have h2 := List.pairwise_iff_getElem.1 hn i (i + 1) (by omega) h (by omega)
  simp only [Go.leB, decide_eq_true_eq] at h1
  rw [Go.Proofs.bytesLess_eq]
  simp only [decide_eq_true_eq]
  exact Decidable.byContradiction fun hh => h2 (List.le_antisymm h1 (List.not_lt.1 hh))
theorem GoodC.of_own {w : World} {B : Nat} {y : Cm} {L : List CT} {id : T} (h : OwnC w B y) (hL : allB L = true) (hy : y.ct = (lookP L id).1) : GoodC w y := by
  have hs := look_small hL id
  rw [← hy] at hs
  obtain ⟨h1, h2, h3, h4, h5, h6, h7, h8⟩ := hs
  have e1 : y.id.length ≤ 64 := h1
  have e2 : y.sec.length ≤ 128 := h2
  have e3 : y.red.2.2.length ≤ 4 := h3
  have e5 : y.sco.2.2.length ≤ 32 := h5
  have e7 : y.gra.2.2.length ≤ 3 := h7
  exact ⟨by omega, by omega, own_LL h.red (fun s hx => by have := h4 s hx; omega) (by omega), own_LL h.sco (fun s hx => by have := h6 s hx; omega) (by omega), own_LL h.gra (fun s hx => by have := h8 s hx; omega) (by omega)⟩
theorem lookM_of {xs : List Cm} {x : T} (h : ∃ y ∈ xs, y.id = x) : (lookM xs x).2 = true ∧ (lookM xs x).1.id = x := by
  cases hb : (lookM xs x).2 with
  | true => exact ⟨rfl, (lookM_yes hb).2⟩
  | false =>
    obtain ⟨y, hy, e⟩ := h
    exact absurd e ((lookM_no hb).2 y hy)
theorem small_of2 {xs : List Cm} (h : allB (xs.map Cm.ct) = true) : ∀ x ∈ xs, Small x.ct := fun _ hx => right_small ((all_right h).1 _ (List.mem_map_of_mem hx))
theorem ids_ct (ys : List Cm) : ys.map (·.id) = (ys.map Cm.ct).map (·.id) := by rw [List.map_map]; rfl
set_option maxRecDepth 100000 in
set_option maxHeartbeats 4000000 in
theorem law_finds (P : Option Addr) (C : Nat) (xs0 : List Cm) (id : T) (w : World) (h0 : ArgC w P C xs0) (hid : id.length ≤ 140737488351232) :
    Calls Tryz.prog 3 #[.slice P xs0.length C, .string ⟨id.toArray⟩] w fun e w' => e = .returned (.bool true) ∧ Below w.heap.size w w' := by
  obtain ⟨hp, hg⟩ := h0.few
  have HF := Lib.hid (few15_c P C xs0 w h0.cap)
  obtain ⟨xs, hxs⟩ : ∃ xs, xs0.take 70 = xs := ⟨_, rfl⟩
  rw [hxs] at hp hg HF
  have hl : xs.length ≤ 70 := by rw [← hxs, List.length_take]; omega
  obtain ⟨n0, hn0⟩ : ∃ n, xs0.length = n := ⟨_, rfl⟩
  rw [hn0] at HF ⊢
  clear hxs hn0 h0
  have HK := Lib.hid known15_c
  have HAL : Hid (∀ W, Below w.heap.size w W → Calls Tryz.prog 12 #[.slice P xs.length C] W fun e w' => e = .returned (.bool (allB (xs.map Cm.ct))) ∧ Below W.heap.size W w') := Lib.hid fun W hW => all_c P C xs W (inc_below hp hW) (fun x hx => (hg x hx).below hW) (by omega)
  have HNW : Hid (NewA w = NewA w ∧ Calls Tryz.prog 10 #[.slice P xs.length C] w fun e w' => NewA w w' xs e) := Lib.hid ⟨rfl, new_c P C xs w hp hg (by omega)⟩
  have HRF : Hid (∀ W x, Below w.heap.size w W → Calls Tryz.prog 14 #[.slice P xs.length C, .string ⟨x.toArray⟩] W fun e w' => e = .returned (.tuple #[cval (lookM xs x).1, .bool (lookM xs x).2]) ∧ Below W.heap.size W w') := Lib.hid fun W x hW => rfind_c P C xs x W (inc_below hp hW) (by omega)
  have hlk := lookM_P xs id
  have HGX : Hid (∀ W, Below w.heap.size w W → allB (xs.map Cm.ct) = true → GoodC W (lookM xs id).1) := Lib.hid fun W hW ha => (lookm_good (fun x hx => (hg x hx).below hW) (small_of2 ha) id).1
  have HIX : Hid (∀ ys : List Cm, ys.map Cm.ct = xs.map Cm.ct → ∀ x ∈ idsP ys, (lookM xs x).2 = true ∧ (lookM xs x).1.id = x) := Lib.hid fun ys hy x hx => by
    have h1 : x ∈ ys.map (·.id) := by unfold idsP at hx; rwa [List.mem_mergeSort] at hx
    rw [ids_ct, hy, ← ids_ct, List.mem_map] at h1
    exact lookM_of h1
  obtain ⟨L, hL⟩ : ∃ L, xs.map Cm.ct = L := ⟨_, rfl⟩
  obtain ⟨n, hn⟩ : ∃ n, xs.length = n := ⟨_, rfl⟩
  have HLN : Hid (L.length = n) := Lib.hid (by rw [← hL, List.length_map, hn])
  unfold NewA at HNW
  rw [hn] at HF HAL HNW HRF
  rw [hL] at HNW HAL hlk HGX HIX
  obtain ⟨ab, hab⟩ : ∃ b, allB L = b := ⟨_, rfl⟩
  rw [hab] at HAL HNW HGX
  have HAB := Lib.hid hab
  have HLK := Lib.hid hlk
  have hn70 : n ≤ 70 := by omega
  clear hp hg hl hn hL hab hlk
  have HCUR : Hid (Below w.heap.size w w) := Lib.hid (Below.refl _ _)
  go_enter Tryz.func3, Tryz.ntmps3
  cases ab with
  | false =>
    have HNF : Hid (Calls Tryz.prog 10 #[.slice P n C] w fun e w' => e = .returned (.tuple #[.pointer none, .int .i64 1]) ∧ Below w.heap.size w w') := Lib.hid (HNW.out.2.mono fun e w' ⟨hb, h⟩ => by
      rcases h with ⟨h1, _⟩ | ⟨_, h1⟩
      · cases h1
      · exact ⟨h1, hb⟩)
    clear HNW
    go_wp2_with (first
      | (go_at_call 9; (with_reducible refine HF.out.mono ?_); rintro e w1 ⟨rfl, rfl⟩)
      | (go_at_call 10; (with_reducible refine HNF.out.mono ?_); rintro e w2 ⟨rfl, hb2⟩; have HCUR := Lib.hid (bnext HCUR.out hb2); clear hb2)
      | (go_at_call 11; (with_reducible refine (HK.out _).mono ?_); rintro e w2 ⟨rfl, hb2⟩; have HCUR := Lib.hid (bnext HCUR.out hb2); clear hb2)
      | (go_at_call 12; (with_reducible refine (HAL.out _ HCUR.out).mono ?_); rintro e w3 ⟨rfl, hb2⟩; have HCUR := Lib.hid (bnext HCUR.out hb2); clear hb2))
    go_ret
    exact ⟨rfl, HCUR.out⟩
  | true =>
    have HNF : Hid (Calls Tryz.prog 10 #[.slice P n C] w fun e w' => ∃ g ys F, e = .returned (.tuple #[.pointer (some ⟨g, 0, none⟩), .int .i64 0]) ∧ RolM w' F g ys ∧ ys.map Cm.ct = L ∧ Below w.heap.size w w') := Lib.hid (HNW.out.2.mono fun e w' ⟨hb, h⟩ => by
      rcases h with ⟨_, g, ys, h1, h2, h3⟩ | ⟨h1, _⟩
      · exact ⟨g, ys, _, h1, h2, h3, hb⟩
      · cases h1)
    clear HNW
    go_wp2_with (go_at_call 9; (with_reducible refine HF.out.mono ?_); rintro e w1 ⟨rfl, rfl⟩)
    refine HNF.out.mono ?_
    rintro e w5 ⟨g, ys, F, rfl, hr, hys, hb5⟩
    have HB5 := Lib.hid hb5
    have hyl : ys.length = n := by rw [← HLN.out, ← hys, List.length_map]
    have hnd : (ys.map (·.id)).Nodup := by rw [ids_ct, hys]; exact (all_right HAB.out).2.1
    have HIL : Hid ((idsP ys).length = n) := Lib.hid ((ids_len ys).trans hyl)
    have HID : Hid (∀ W, Below w5.heap.size w5 W → Calls Tryz.prog 15 #[.pointer (some ⟨g, 0, none⟩)] W fun e w' => ∃ p c, e = .returned (.slice p n c) ∧ GoodL w' (p, c, idsP ys) ∧ Below W.heap.size W w') := Lib.hid fun W hW => by
      have h := ids_c (hr.below hW) hnd (by omega)
      rw [hyl] at h
      exact h
    have HFN : Hid (∀ W, Below w5.heap.size w5 W → Calls Tryz.prog 13 #[.pointer (some ⟨g, 0, none⟩), .string ⟨id.toArray⟩] W fun e w' => ClientA W w' (lookP L id) e) := Lib.hid fun W hW => by
      have h := find_c (F := F) (gp := some ⟨g, 0, none⟩) (Or.inr ⟨g, rfl, hr.below hW⟩) id hid
      rw [hys] at h
      exact h
    have HIX2 := Lib.hid (HIX.out ys hys)
    have HRI : Hid (∀ i a b, (idsP ys)[i]? = some a → (idsP ys)[i + 1]? = some b → Go.Op.bytesLess a b = true) := Lib.hid fun i a b h1 h2 => by
      obtain ⟨q1, rfl⟩ := List.getElem?_eq_some_iff.1 h1
      obtain ⟨q2, rfl⟩ := List.getElem?_eq_some_iff.1 h2
      exact ids_rise hnd q2
    obtain ⟨is, his⟩ : ∃ l, idsP ys = l := ⟨_, rfl⟩
    rw [his] at HIL HID HIX2 HRI
    have HBW : Hid (∀ W, Below w5.heap.size w5 W → Below w.heap.size w W) := Lib.hid fun W hW => bnext HB5.out hW
    clear hr hys hb5 hyl hnd his HNF HIX HF
    have HCUR : Hid (Below w5.heap.size w5 w5) := Lib.hid (Below.refl _ _)
    go_wp2_with (first
      | (go_at_call 11; (with_reducible refine (HK.out _).mono ?_); rintro e w2 ⟨rfl, hb2⟩; have HCUR := Lib.hid (bnext HCUR.out hb2); clear hb2)
      | (go_at_call 12; (with_reducible refine (HAL.out _ (HBW.out _ HCUR.out)).mono ?_); rintro e w3 ⟨rfl, hb2⟩; have HCUR := Lib.hid (bnext HCUR.out hb2); clear hb2))
    have HFN2 := Lib.hid (HFN.out _ HCUR.out)
    have hk2 : (lookP L id).2 = (lookM xs id).2 := by rw [← HLK.out]
    have hk1 : (lookP L id).1 = (lookM xs id).1.ct := by rw [← HLK.out]
    unfold ClientA at HFN2
    rw [hk2] at HFN2
    refine HFN2.out.mono ?_
    rintro e w7 ⟨y, he, hyc, hyo, hb7⟩
    have hgy := GoodC.of_own hyo HAB.out (hyc.trans rfl)
    have hgz := HGX.out w7 (HBW.out _ (bnext HCUR.out hb7)) trivial
    have hyz : y.ct = (lookM xs id).1.ct := hyc.trans hk1
    have HRF2 : Hid (∀ W, Below w.heap.size w W → Calls Tryz.prog 14 #[.slice P n C, .string ⟨id.toArray⟩] W fun e w' => e = .returned (.tuple #[cval (lookM xs id).1, .bool (lookM xs id).2]) ∧ Below W.heap.size W w') := Lib.hid fun W hW => HRF.out W id hW
    obtain ⟨kn, hkn⟩ : ∃ kn, (lookM xs id).2 = kn := ⟨_, rfl⟩
    obtain ⟨z, hz⟩ : ∃ z, (lookM xs id).1 = z := ⟨_, rfl⟩
    rw [hkn] at HRF2 he
    rw [hz] at HRF2 hgz hyz
    have HSM : Hid (∀ W, Below w7.heap.size w7 W → Calls Tryz.prog 16 #[cval y, cval z] W fun e w' => e = .returned (.bool true) ∧ Below W.heap.size W w') := Lib.hid fun W hW => same15_c y z W (hgy.below hW) (hgz.below hW) hyz
    clear hkn hz hk1 hk2 hyc hyo hgy hgz hyz HGX HLK HFN HFN2 HAB
    obtain ⟨id2, sec2, pub2, ⟨P3, C3, l3⟩, ⟨P4, C4, l4⟩, ⟨P5, C5, l5⟩⟩ := y
    obtain ⟨id3, sec3, pub3, ⟨Q3, D3, m3⟩, ⟨Q4, D4, m4⟩, ⟨Q5, D5, m5⟩⟩ := z
    replace he : e = .returned (.tuple #[.agg #[.string ⟨id2.toArray⟩, .string ⟨sec2.toArray⟩, .bool pub2, .slice P3 l3.length C3, .slice P4 l4.length C4, .slice P5 l5.length C5], .bool kn]) := he
    subst he
    replace HRF2 : Hid (∀ W, Below w.heap.size w W → Calls Tryz.prog 14 #[.slice P n C, .string ⟨id.toArray⟩] W fun e w' => e = .returned (.tuple #[.agg #[.string ⟨id3.toArray⟩, .string ⟨sec3.toArray⟩, .bool pub3, .slice Q3 m3.length D3, .slice Q4 m4.length D4, .slice Q5 m5.length D5], .bool kn]) ∧ Below W.heap.size W w') := HRF2
    replace HSM : Hid (∀ W, Below w7.heap.size w7 W → Calls Tryz.prog 16 #[.agg #[.string ⟨id2.toArray⟩, .string ⟨sec2.toArray⟩, .bool pub2, .slice P3 l3.length C3, .slice P4 l4.length C4, .slice P5 l5.length C5], .agg #[.string ⟨id3.toArray⟩, .string ⟨sec3.toArray⟩, .bool pub3, .slice Q3 m3.length D3, .slice Q4 m4.length D4, .slice Q5 m5.length D5]] W fun e w' => e = .returned (.bool true) ∧ Below W.heap.size W w') := HSM
    obtain ⟨w8, w9, hV⟩ := var_c w7 32 (.string ⟨id2.toArray⟩) (.string ⟨sec2.toArray⟩) (.bool pub2) (.slice P3 l3.length C3) (.slice P4 l4.length C4) (.slice P5 l5.length C5)
    have hv1 := hV.a
    have hv2 := hV.s
    obtain ⟨s0, s1, s2, s3, s4, s5⟩ := blk6 hV.zero
    obtain ⟨t0, t1, t2, t3, t4, t5⟩ := frz6 hV.zero
    have HB9 := Lib.hid (HBW.out _ (bnext HCUR.out (bnext hb7 hV.below)))
    have HU9 := Lib.hid hV.below
    have HB59 := Lib.hid (bnext HCUR.out (bnext hb7 hV.below))
    have HC9 := Lib.hid hV.blk
    clear hb7 hV
    go_wp2_with fail
    refine (HRF2.out w9 HB9.out).mono ?_
    rintro e wA ⟨rfl, hbA⟩
    obtain ⟨wB, wC, hV⟩ := var_c wA 32 (.string ⟨id3.toArray⟩) (.string ⟨sec3.toArray⟩) (.bool pub3) (.slice Q3 m3.length D3) (.slice Q4 m4.length D4) (.slice Q5 m5.length D5)
    have hx1 := hV.a
    have hx2 := hV.s
    have HXB := Lib.hid hV.blk
    have HBC := Lib.hid (bnext hbA hV.below)
    have HUC := Lib.hid (bnext HU9.out HBC.out)
    have HCC := Lib.hid (HC9.out.below HBC.out)
    clear s0 s1 s2 s3 s4 s5 t0 t1 t2 t3 t4 t5 hv1 hv2
    obtain ⟨s0, s1, s2, s3, s4, s5⟩ := blk6 hV.zero
    obtain ⟨t0, t1, t2, t3, t4, t5⟩ := frz6 hV.zero
    have HB5C : Hid (Below w5.heap.size w5 wC) := Lib.hid (bnext HB59.out HBC.out)
    clear hbA hV
    go_wp2_with fail
    refine (HID.out wC HB5C.out).mono ?_
    rintro e wD ⟨p, c, rfl, hgl, hbD⟩
    have HGL := Lib.hid hgl
    have HBD := Lib.hid (bnext HB5C.out hbD)
    have HSD := Lib.hid (HSM.out wD (bnext HUC.out hbD))
    clear s0 s1 s2 s3 s4 s5 t0 t1 t2 t3 t4 t5 hx1 hx2
    obtain ⟨s0, s1, s2, s3, s4, s5⟩ := blk6 (HCC.out.below hbD)
    obtain ⟨t0, t1, t2, t3, t4, t5⟩ := blk6 (HXB.out.below hbD)
    clear hgl hbD HSM HID HCC HXB HBC HUC HU9 HC9 HB9 HB59
    go_wp2_with (go_at_call 16; (with_reducible refine HSD.out.mono ?_); rintro e wE ⟨rfl, hbE⟩; have HGE := Lib.hid (HGL.out.below hbE); have HBE := Lib.hid (bnext HBD.out hbE); clear hbE)
    clear s0 s1 s2 s3 s4 s5 t0 t1 t2 t3 t4 t5
    go_loopg [12, 13, 14] n (fun g s12 _ _ wx => ∃ k : Nat, k + g = n ∧ s12 = .int .i64 k ∧ Hid (Below wE.heap.size wE wx))
    case atStart => exact ⟨0, by omega, rfl, Lib.hid (Below.refl _ _)⟩
    case round =>
      obtain ⟨k, hkg, rfl, HB⟩ := hrel
      rcases gk with _ | gg
      · obtain rfl : k = n := by omega
        go_wp2_with fail
        go_ret
        exact ⟨rfl, HBW.out _ (bnext HBE.out HB.out)⟩
      · have hk : k < is.length := by rw [HIL.out]; omega
        have hkI : (k : Int) < (n : Int) := by omega
        obtain ⟨b, o, hP, hc⟩ := ins_cell (ins_below HGE.out.row HB.out) k hk
        subst hP
        have hf := HIX2.out is[k] (List.getElem_mem hk)
        have HRX : Hid (∀ W, Below w.heap.size w W → Calls Tryz.prog 14 #[.slice P n C, .string ⟨(is[k]).toArray⟩] W fun e w' => e = .returned (.tuple #[cval (lookM xs is[k]).1, .bool true]) ∧ Below W.heap.size W w') := Lib.hid fun W hW => by
          have h := HRF.out W is[k] hW
          rw [hf.1] at h
          exact h
        have HCX : Hid (∀ W, Below wr.heap.size wr W → W.cell? ⟨b, o + k, none⟩ = some (.string ⟨(is[k]).toArray⟩)) := Lib.hid fun W hW => (hW.cell (p := ⟨b, o + k, none⟩) (cell_lt hc)).trans hc
        have HPV : Hid (∀ j, j + 1 = k → ∃ a, (∀ W, Below wr.heap.size wr W → W.cell? ⟨b, o + j, none⟩ = some (.string ⟨a.toArray⟩)) ∧ Go.Op.bytesLess a is[k] = true) := Lib.hid fun j hj => by
          subst hj
          obtain ⟨b2, o2, e2, hc2⟩ := ins_cell (ins_below HGE.out.row HB.out) j (show j < is.length by omega)
          injection e2 with e2
          injection e2 with e3 e4 _
          subst e3
          subst e4
          exact ⟨is[j], fun W hW => (hW.cell (p := ⟨_, _, none⟩) (cell_lt hc2)).trans hc2, HRI.out j _ _ (List.getElem?_eq_getElem (show j < is.length by omega)) (List.getElem?_eq_getElem hk)⟩
        have hz2 := hf.2
        obtain ⟨z, hz⟩ : ∃ z, (lookM xs is[k]).1 = z := ⟨_, rfl⟩
        rw [hz] at HRX hz2
        obtain ⟨x0, hx0⟩ : ∃ x, is[k] = x := ⟨_, rfl⟩
        rw [hx0] at HRX hz2 HCX HPV hc
        clear hz hx0 hf hk
        obtain ⟨id3, sec3, pub3, ⟨Q3, D3, m3⟩, ⟨Q4, D4, m4⟩, ⟨Q5, D5, m5⟩⟩ := z
        dsimp only at hz2
        subst hz2
        replace HRX : Hid (∀ W, Below w.heap.size w W → Calls Tryz.prog 14 #[.slice P n C, .string ⟨id3.toArray⟩] W fun e w' => e = .returned (.tuple #[.agg #[.string ⟨id3.toArray⟩, .string ⟨sec3.toArray⟩, .bool pub3, .slice Q3 m3.length D3, .slice Q4 m4.length D4, .slice Q5 m5.length D5], .bool true]) ∧ Below W.heap.size W w') := HRX
        have HRY := Lib.hid (HRX.out wr (HBW.out _ (bnext HBE.out HB.out)))
        by_cases h0 : k = 0
        · have hz : decide (0 < k) = false := decide_eq_false (by omega)
          have hzI : decide ((0 : Int) < (k : Int)) = false := decide_eq_false (by omega)
          clear h0 HPV
          go_wp2_with (go_at_call 14; (with_reducible refine HRY.out.mono ?_); rintro e we ⟨rfl, hbe⟩; obtain ⟨wf, wg, hVe⟩ := var_c we 32 (.string ⟨id3.toArray⟩) (.string ⟨sec3.toArray⟩) (.bool pub3) (.slice Q3 m3.length D3) (.slice Q4 m4.length D4) (.slice Q5 m5.length D5); have he1 := hVe.a; have he2 := hVe.s; obtain ⟨s0, s1, s2, s3, s4, s5⟩ := blk6 hVe.zero; obtain ⟨t0, t1, t2, t3, t4, t5⟩ := frz6 hVe.zero; have HBG := Lib.hid (bnext hbe hVe.below); have HVB := Lib.hid hVe.blk; clear hbe hVe)
          have ev : ∀ y : After wg, y.v.cell? ⟨we.heap.size, 0, none⟩ = some (.string ⟨id3.toArray⟩) := fun y => (blk6 (HVB.out.below y.below)).1
          have ek : ∀ y : After wg, y.v.cell? ⟨b, o + k, none⟩ = some (.string ⟨id3.toArray⟩) := fun y => HCX.out y.v (bnext HBG.out y.below)
          clear hc s0 s1 s2 s3 s4 s5 t0 t1 t2 t3 t4 t5 he1 he2 HVB
          refine wp_region_after (by kernel_rfl) (by kernel_rfl) ?_
          repeat (go_big_quiet_step (fail))
          refine wpQuiet_nil ?_
          rintro ⟨wq, hq⟩
          dsimp only
          have HQ := Lib.hid (bnext HB.out (bnext HBG.out hq))
          clear hq ev ek
          go_wp2_with fail
          go_roundg gg
          case measure => omega
          case rel => exact ⟨k + 1, by omega, by go_num, HQ⟩
        · obtain ⟨j, hj⟩ : ∃ j, k = j + 1 := ⟨k - 1, by omega⟩
          obtain ⟨a, hca, hlt⟩ := HPV.out j hj.symm
          have HCA := Lib.hid hca
          have hz : decide (0 < k) = true := decide_eq_true (by omega)
          have hzI : decide ((0 : Int) < (k : Int)) = true := decide_eq_true (by omega)
          have hk1 : (k : Int) - 1 = (j : Int) := by omega
          have hjI : (j : Int) < (n : Int) := by omega
          clear HPV hca h0 hj
          go_wp2_with (go_at_call 14; (with_reducible refine HRY.out.mono ?_); rintro e we ⟨rfl, hbe⟩; obtain ⟨wf, wg, hVe⟩ := var_c we 32 (.string ⟨id3.toArray⟩) (.string ⟨sec3.toArray⟩) (.bool pub3) (.slice Q3 m3.length D3) (.slice Q4 m4.length D4) (.slice Q5 m5.length D5); have he1 := hVe.a; have he2 := hVe.s; obtain ⟨s0, s1, s2, s3, s4, s5⟩ := blk6 hVe.zero; obtain ⟨t0, t1, t2, t3, t4, t5⟩ := frz6 hVe.zero; have HBG := Lib.hid (bnext hbe hVe.below); have HVB := Lib.hid hVe.blk; clear hbe hVe)
          have ev : ∀ y : After wg, y.v.cell? ⟨we.heap.size, 0, none⟩ = some (.string ⟨id3.toArray⟩) := fun y => (blk6 (HVB.out.below y.below)).1
          have ek : ∀ y : After wg, y.v.cell? ⟨b, o + k, none⟩ = some (.string ⟨id3.toArray⟩) := fun y => HCX.out y.v (bnext HBG.out y.below)
          have e9 : ∀ y : After wg, y.v.cell? ⟨b, o + j, none⟩ = some (.string ⟨a.toArray⟩) := fun y => HCA.out y.v (bnext HBG.out y.below)
          clear hc s0 s1 s2 s3 s4 s5 t0 t1 t2 t3 t4 t5 he1 he2 HVB
          refine wp_region_after (by kernel_rfl) (by kernel_rfl) ?_
          repeat (go_big_quiet_step (fail))
          refine wpQuiet_nil ?_
          rintro ⟨wq, hq⟩
          dsimp only
          have HQ := Lib.hid (bnext HB.out (bnext HBG.out hq))
          clear hq ev ek e9
          go_wp2_with fail
          go_roundg gg
          case measure => omega
          case rel => exact ⟨k + 1, by omega, by go_num, HQ⟩
theorem g_finds (P : Option Addr) (C : Nat) (xs : List Cm) (s : ByteArray) (w : World) (hp : InC w P xs) (hc : xs.length ≤ C) (hg : ∀ x ∈ xs, GoodC w x) (hs : s.size ≤ 140737488351232) :
    Calls Tryz.prog 3 #[.slice P xs.length C, .string s] w fun e w' => e = .returned (.bool true) ∧ Below w.heap.size w w' := by
  have h := law_finds P C xs s.data.toList w ⟨hp, hc, hg⟩ (by rw [Array.length_toList]; exact hs)
  rw [s_of] at h
  exact h
end Go.Proofs.YteihjgakhkpgnaaGreatDoor.rol
