/- The developers' New: at clients that may be a roll. No condition beyond what slices and texts are. -/
import Derived.Test.YtfeafhagnhbmiaaGreatDoorRoB
import Derived.Test.YtfeafhagnhbmiaaGreatDoorRoE
import Derived.StillTailTactics
namespace Go.Proofs.YtfeafhagnhbmiaaGreatDoor.rol
open Go.RowKit
open Go.Proofs.YtfeafhagnhbmiaaGreatDoor.oct Go.Proofs.YtfeafhagnhbmiaaGreatDoor.ref Go.Proofs.YtfeafhagnhbmiaaGreatDoor.rows Go.Proofs.YtfeafhagnhbmiaaGreatDoor.rowg Go.Proofs.YtfeafhagnhbmiaaGreatDoor.trn
open Go.Proofs.YtfeafhagnhbmiaaGreatDoor.scp (tx senc senc_len senc_one InS ins_below ins_cell lt hasB hasB_iff Lst lval lenc GoodL FitS skeyed key_txt own_blk)

/-- what New answers -/
def NewA (w w' : World) (xs : List Cm) (e : Ending) : Prop :=
  Below w.heap.size w w' ∧ ((allB (xs.map Cm.ct) = true ∧ ∃ g ys, e = .returned (.tuple #[.pointer (some ⟨g, 0, none⟩), .int .i64 0]) ∧ RolM w' (fun k => w.heap.size ≤ k ∧ k < w'.heap.size) g ys ∧ ys.map Cm.ct = xs.map Cm.ct) ∨ (allB (xs.map Cm.ct) = false ∧ e = .returned (.tuple #[.pointer none, .int .i64 1])))
/-- a roll on its way -/
structure NewI (w wx : World) (xs : List Cm) (k : Nat) (ys : List Cm) (D : DataW Value) : Prop where
  seen : ys.map Cm.ct = (xs.map Cm.ct).take k
  all : allTo (xs.map Cm.ct) k = true
  rol : RolB wx (fun j => w.heap.size ≤ j ∧ j < wx.heap.size) (w.heap.size + 1) w.heap.size D ys
  bel : Below w.heap.size w wx
set_option maxRecDepth 100000 in
set_option maxHeartbeats 4000000 in
theorem new_c (P : Option Addr) (C : Nat) (xs : List Cm) (w : World) (hp : InC w P xs) (hg : ∀ x ∈ xs, GoodC w x) (hl : xs.length ≤ 140737488355328) :
    Calls Tryz.prog 14 #[.slice P xs.length C] w fun e w' => NewA w w' xs e := by
  by_cases h64 : xs.length ≤ 64
  · have HP := Lib.hid hp
    have HG := Lib.hid hg
    obtain ⟨n, hn⟩ : ∃ n, xs.length = n := ⟨_, rfl⟩
    rw [hn] at h64 ⊢
    have HN := Lib.hid hn
    have i64 : decide ((64 : Int) < (n : Int)) = false := decide_eq_false (by omega)
    have hmm := @run_makeMap Tryz.prog
    have hm0 : (w.alloc (.map #[] 0)).ownsMap Tryz.prog 9 vElem w.heap.size 0 (.map []) := World.ownsMap_made w _ _ _
    obtain ⟨w1, hw1⟩ : ∃ w1, w.alloc (.map #[] 0) = w1 := ⟨_, rfl⟩
    have hb1 : Below w.heap.size w w1 := by rw [← hw1]; exact (Below.refl _ _).alloc (Nat.le_refl _) _
    have hs1 : w1.heap.size = w.heap.size + 1 := by rw [← hw1, World.size_alloc]
    rw [hw1] at hm0
    obtain ⟨w2, hw2⟩ : ∃ w2, w1.alloc (.cells #[.map (some w.heap.size)] 70) = w2 := ⟨_, rfl⟩
    have hB2 : Blk w2 w1.heap.size 70 [.map (some w.heap.size)] := by rw [← hw2]; exact blk_new w1 _ _ _ rfl
    have hb2 : Below w1.heap.size w1 w2 := by rw [← hw2]; exact (Below.refl _ _).alloc (Nat.le_refl _) _
    have hs2 : w2.heap.size = w1.heap.size + 1 := by rw [← hw2, World.size_alloc]
    have HI0 : Hid (NewI w w2 xs 0 [] (.map [])) := Lib.hid ⟨rfl, rfl, ⟨by rw [← hs1]; exact hB2, hw2 ▸ hm0.alloc _, isRol_nil, ⟨by omega, by omega⟩, ⟨Nat.le_refl _, by omega⟩, (fun y hy => by cases hy), (fun y hy => by cases hy), (fun y hy => by cases hy)⟩, bnext hb1 hb2⟩
    clear hp hg hl hn hm0 hB2 hb1 hb2
    go_enter Tryz.func14, Tryz.ntmps14
    go_wp2_with fail
    clear hw1 hw2 hmm
    clear hs1 hs2
    go_loopg [18] n (fun g s18 wx => ∃ k : Nat, k + g = n ∧ s18 = .int .i64 k ∧ ∃ ys D, Hid (NewI w wx xs k ys D))
    case atStart => exact ⟨0, by omega, rfl, _, _, HI0⟩
    case round =>
      clear HI0
      obtain ⟨k, hkg, rfl, ys, D, HI⟩ := hrel
      rcases gk with _ | g
      · obtain rfl : k = n := by omega
        have HR : Hid (NewA w wr xs (.returned (.tuple #[.pointer (some ⟨w.heap.size + 1, 0, none⟩), .int .i64 0]))) := Lib.hid (by
          have h := HI.out
          have e : (xs.map Cm.ct).length = k := by rw [List.length_map, HN.out]
          have hs := h.seen
          have ha := h.all
          rw [List.take_of_length_le (by omega)] at hs
          refine ⟨h.bel, Or.inl ⟨?_, _, ys, rfl, ⟨_, _, h.rol⟩, hs⟩⟩
          unfold allB
          rw [e, ha, decide_eq_true h64]; rfl)
        go_wp2_with fail
        go_ret2
        exact HR.out
      · have hk : k < xs.length := by rw [HN.out]; omega
        have hkI : (k : Int) < (n : Int) := by omega
        obtain ⟨b, o, hP, d0, d1, d2, d3, d4, d5⟩ := inc_cells (inc_below HP.out HI.out.bel) k hk
        have hgx := HG.out _ (List.getElem_mem hk)
        have HAS := Lib.hid (all_step (l := xs.map Cm.ct) (k := k) (by rw [List.length_map]; exact hk) HI.out.all)
        rw [List.getElem_map, ← HI.out.seen, ← known_has] at HAS
        have HTK : Hid ((xs.map Cm.ct).take (k + 1) = (xs.map Cm.ct).take k ++ [xs[k].ct]) := Lib.hid (by rw [List.take_succ_eq_append_getElem (by rw [List.length_map]; exact hk), List.getElem_map])
        obtain ⟨x, hx⟩ : ∃ x, xs[k] = x := ⟨_, rfl⟩
        rw [hx] at d0 d1 d2 d3 d4 d5 hgx HAS HTK
        subst hP
        clear hx hk
        obtain ⟨id, sec, pub, ⟨P3, C3, l3⟩, ⟨P4, C4, l4⟩, ⟨P5, C5, l5⟩⟩ := x
        replace d0 : wr.cell? ⟨b, o + k * 6, none⟩ = some (.string ⟨id.toArray⟩) := d0
        replace d1 : wr.cell? ⟨b, o + k * 6 + 1, none⟩ = some (.string ⟨sec.toArray⟩) := d1
        replace d2 : wr.cell? ⟨b, o + k * 6 + 2, none⟩ = some (.bool pub) := d2
        replace d3 : wr.cell? ⟨b, o + k * 6 + 3, none⟩ = some (.slice P3 l3.length C3) := d3
        replace d4 : wr.cell? ⟨b, o + k * 6 + 4, none⟩ = some (.slice P4 l4.length C4) := d4
        replace d5 : wr.cell? ⟨b, o + k * 6 + 5, none⟩ = some (.slice P5 l5.length C5) := d5
        obtain ⟨wa, wb, hVa⟩ := var_c wr 27 (.string ⟨id.toArray⟩) (.string ⟨sec.toArray⟩) (.bool pub) (.slice P3 l3.length C3) (.slice P4 l4.length C4) (.slice P5 l5.length C5)
        obtain ⟨wc, wd, hVc⟩ := var_c wb 49 (.string ⟨id.toArray⟩) (.string ⟨sec.toArray⟩) (.bool pub) (.slice P3 l3.length C3) (.slice P4 l4.length C4) (.slice P5 l5.length C5)
        have ha1 := hVa.a
        have ha2 := hVa.s
        have hc1 := hVc.a
        have hc2 := hVc.s
        obtain ⟨m0, m1, m2, m3, m4, m5⟩ := blk6 hVa.zero
        obtain ⟨f0, f1, f2, f3, f4, f5⟩ := frz6 hVa.zero
        obtain ⟨n0, n1, n2, n3, n4, n5⟩ := blk6 hVa.blk
        obtain ⟨p0, p1, p2, p3, p4, p5⟩ := blk6 hVc.zero
        obtain ⟨g0, g1, g2, g3, g4, g5⟩ := frz6 hVc.zero
        obtain ⟨r0, r1, r2, r3, r4, r5⟩ := blk6 hVc.blk
        have HVA := Lib.hid hVa
        have HVC := Lib.hid hVc
        have HBD := Lib.hid (bnext hVa.below hVc.below)
        have HOF := Lib.hid (of_c (w := wd) ⟨_, _, HI.out.rol.below (bnext hVa.below hVc.below)⟩ id hgx.id)
        have HGX := Lib.hid (hgx.below HI.out.bel)
        obtain ⟨kn, hkn⟩ : ∃ kn, (lookM ys id).2 = kn := ⟨_, rfl⟩
        obtain ⟨S0, S1, bb, R3, z3, E3, R4, z4, E4, R5, z5, E5, ho⟩ := cval_open (lookM ys id).1
        rw [hkn, ho] at HOF
        replace HAS : Hid ((rightB ⟨id, sec, pub, l3, l4, l5⟩ = true → kn = false → allTo (xs.map Cm.ct) (k + 1) = true) ∧ (rightB ⟨id, sec, pub, l3, l4, l5⟩ = false → allB (xs.map Cm.ct) = false) ∧ (kn = true → allB (xs.map Cm.ct) = false)) := by rw [← hkn]; exact HAS
        have HMB : Hid (∀ W, Below wr.heap.size wr W → Calls Tryz.prog 31 #[.agg #[.string ⟨id.toArray⟩, .string ⟨sec.toArray⟩, .bool pub, .slice P3 l3.length C3, .slice P4 l4.length C4, .slice P5 l5.length C5]] W fun e w' => e = .returned (.bool (rightB ⟨id, sec, pub, l3, l4, l5⟩)) ∧ Below W.heap.size W w') := Lib.hid fun W hW => mayBe_c ⟨id, sec, pub, (P3, C3, l3), (P4, C4, l4), (P5, C5, l5)⟩ W (HGX.out.below hW)
        have HKN := Lib.hid hkn
        clear hVa hVc hgx hkn ho
        have HNO : Hid (∀ W, Below wr.heap.size wr W → allB (xs.map Cm.ct) = false → NewA w W xs (.returned (.tuple #[.pointer none, .int .i64 1]))) := Lib.hid fun W hW ha => ⟨bnext HI.out.bel hW, Or.inr ⟨ha, rfl⟩⟩
        cases kn with
        | true =>
          have HF := Lib.hid (HAS.out.2.2 rfl)
          go_wp2_with (go_at_call 17; (with_reducible refine HOF.out.mono ?_); rintro e we ⟨rfl, hbe⟩; obtain ⟨wf, wg, hVe⟩ := var_c we 49 (.string S0) (.string S1) (.bool bb) (.slice R3 z3 E3) (.slice R4 z4 E4) (.slice R5 z5 E5); have he1 := hVe.a; have he2 := hVe.s; obtain ⟨s0, s1, s2, s3, s4, s5⟩ := blk6 hVe.zero; obtain ⟨t0, t1, t2, t3, t4, t5⟩ := frz6 hVe.zero; have HBG := Lib.hid (bnext (bnext HBD.out hbe) hVe.below); clear hbe hVe)
          go_ret2
          exact HNO.out _ HBG.out HF.out
        | false =>
          obtain ⟨rb, hrb⟩ : ∃ rb, rightB ⟨id, sec, pub, l3, l4, l5⟩ = rb := ⟨_, rfl⟩
          rw [hrb] at HMB HAS
          have HRB := Lib.hid hrb
          clear hrb
          cases rb with
          | false =>
            have HF := Lib.hid (HAS.out.2.1 rfl)
            go_wp2_with (first
              | (go_at_call 17; (with_reducible refine HOF.out.mono ?_); rintro e we ⟨rfl, hbe⟩; obtain ⟨wf, wg, hVe⟩ := var_c we 49 (.string S0) (.string S1) (.bool bb) (.slice R3 z3 E3) (.slice R4 z4 E4) (.slice R5 z5 E5); have he1 := hVe.a; have he2 := hVe.s; obtain ⟨s0, s1, s2, s3, s4, s5⟩ := blk6 hVe.zero; obtain ⟨t0, t1, t2, t3, t4, t5⟩ := frz6 hVe.zero; have HBG := Lib.hid (bnext (bnext HBD.out hbe) hVe.below); obtain ⟨v0, v1, v2, v3, v4, v5⟩ := blk6 (HVC.out.blk.below (bnext hbe hVe.below)); clear hbe hVe)
              | (go_at_call 31; (with_reducible refine (HMB.out _ HBG.out).mono ?_); rintro e wh ⟨rfl, hbh⟩; have HBH := Lib.hid (bnext HBG.out hbh); clear hbh))
            go_ret2
            exact HNO.out _ HBH.out HF.out
          | true =>
            have HF := Lib.hid (HAS.out.1 rfl rfl)
            have hsm : Small ⟨id, sec, pub, l3, l4, l5⟩ := right_small HRB.out
            have e3 : l3.length ≤ 4 := hsm.red
            have e4 : l4.length ≤ 32 := hsm.sco
            have e5 : l5.length ≤ 3 := hsm.gra
            have HCP : Hid (∀ W, Below wr.heap.size wr W → Calls Tryz.prog 18 #[.agg #[.string ⟨id.toArray⟩, .string ⟨sec.toArray⟩, .bool pub, .slice P3 l3.length C3, .slice P4 l4.length C4, .slice P5 l5.length C5]] W fun e w' => ∃ y : Cm, e = .returned (cval y) ∧ y.ct = ⟨id, sec, pub, l3, l4, l5⟩ ∧ OwnC w' W.heap.size y ∧ Below W.heap.size W w') := Lib.hid fun W hW => copied_c ⟨id, sec, pub, (P3, C3, l3), (P4, C4, l4), (P5, C5, l5)⟩ W (HGX.out.below hW) ⟨by show l3.length ≤ _; omega, by show l4.length ≤ _; omega, by show l5.length ≤ _; omega⟩
            have HSM := Lib.hid hsm
            clear e3 e4 e5 hsm
            go_wp2_with (first
              | (go_at_call 17; (with_reducible refine HOF.out.mono ?_); rintro e we ⟨rfl, hbe⟩; obtain ⟨wf, wg, hVe⟩ := var_c we 49 (.string S0) (.string S1) (.bool bb) (.slice R3 z3 E3) (.slice R4 z4 E4) (.slice R5 z5 E5); have he1 := hVe.a; have he2 := hVe.s; obtain ⟨s0, s1, s2, s3, s4, s5⟩ := blk6 hVe.zero; obtain ⟨t0, t1, t2, t3, t4, t5⟩ := frz6 hVe.zero; have HBG := Lib.hid (bnext (bnext HBD.out hbe) hVe.below); have HCB := Lib.hid (HVC.out.blk.below (bnext hbe hVe.below)); obtain ⟨v0, v1, v2, v3, v4, v5⟩ := blk6 HCB.out; clear hbe hVe)
              | (go_at_call 18; (with_reducible refine (HCP.out _ HBH.out).mono ?_); rintro e wi ⟨y, he, hyc, hyo, hbi⟩; obtain ⟨Y1, yb, Q3, x3, F3, Q4, x4, F4, Q5, x5, F5, hyv⟩ := cval_open2 y; rw [hyv] at he; subst he; have HYV := Lib.hid hyv; have HYC := Lib.hid hyc; have HYO := Lib.hid hyo; have HBI := Lib.hid (bnext HBH.out hbi); have HHI := Lib.hid hbi; have HCI := Lib.hid (HCH.out.below hbi); obtain ⟨v0, v1, v2, v3, v4, v5⟩ := blk6 HCI.out; obtain ⟨o0, o1, o2, o3, o4, o5⟩ := frz6 HCI.out; have HSJ := Lib.hid (set6_blk HCI.out (.string ⟨y.id.toArray⟩) (.string Y1) (.bool yb) (.slice Q3 x3 F3) (.slice Q4 x4 F4) (.slice Q5 x5 F5)); have HTJ := Lib.hid (set6_turn (w := wi) (g := wb.heap.size) (v0 := .string ⟨y.id.toArray⟩) (v1 := .string Y1) (v2 := .bool yb) (v3 := .slice Q3 x3 F3) (v4 := .slice Q4 x4 F4) (v5 := .slice Q5 x5 F5)); clear hyv hyc hyo hbi)
              | (go_at_call 31; (with_reducible refine (HMB.out _ HBG.out).mono ?_); rintro e wh ⟨rfl, hbh⟩; have HBH := Lib.hid (bnext HBG.out hbh); have HCH := Lib.hid (HCB.out.below hbh); obtain ⟨v0, v1, v2, v3, v4, v5⟩ := blk6 HCH.out; clear hbh))
            clear v0 v1 v2 v3 v4 v5 o0 o1 o2 o3 o4 o5 s0 s1 s2 s3 s4 s5 t0 t1 t2 t3 t4 t5 he1 he2
            clear m0 m1 m2 m3 m4 m5 f0 f1 f2 f3 f4 f5 n0 n1 n2 n3 n4 n5 p0 p1 p2 p3 p4 p5 g0 g1 g2 g3 g4 g5 r0 r1 r2 r3 r4 r5 ha1 ha2 hc1 hc2 d0 d1 d2 d3 d4 d5
            obtain ⟨wj, hwj⟩ : ∃ wj, ((((((wi.setCell ⟨wb.heap.size, 0, none⟩ (.string ⟨y.id.toArray⟩)).setCell ⟨wb.heap.size, 1, none⟩ (.string Y1)).setCell ⟨wb.heap.size, 2, none⟩ (.bool yb)).setCell ⟨wb.heap.size, 3, none⟩ (.slice Q3 x3 F3)).setCell ⟨wb.heap.size, 4, none⟩ (.slice Q4 x4 F4)).setCell ⟨wb.heap.size, 5, none⟩ (.slice Q5 x5 F5)) = wj := ⟨_, rfl⟩
            rw [hwj] at HSJ HTJ ⊢
            have hsb : wr.heap.size ≤ wb.heap.size := HVA.out.below.size
            have hwb : w.heap.size ≤ wr.heap.size := HI.out.bel.size
            have hbs : wb.heap.size < wh.heap.size := HCH.out.lt
            have hsj : wj.heap.size = wi.heap.size := by rw [← hwj]; exact set6_size
            have hhi : wh.heap.size ≤ wi.heap.size := HHI.out.size
            have HRJ := Lib.hid ((HI.out.rol.below HBI.out).turn (F2 := fun j => w.heap.size ≤ j ∧ j < wr.heap.size) HTJ.out (fun k hk e => by omega) fun k hk => hk)
            have HBJ : Hid (Below w.heap.size w wj) := Lib.hid (Turn.below (bnext HI.out.bel HBI.out) HTJ.out (fun k hk => by omega) (by have := (bnext HI.out.bel HBI.out).size; omega))
            have HYJ := Lib.hid ((HYO.out.turn HTJ.out fun k hk e => by have := HYO.out.lt k hk; omega))
            have hid2 : y.id = id := congrArg CT.id HYC.out
            have hidl : id.length ≤ 64 := HSM.out.id
            have HKY : Hid (keyOf Tryz.prog 9 (.string ⟨y.id.toArray⟩) = some (.string y.id)) := Lib.hid (key_txt y.id (by rw [hid2]; omega))
            have c0 : wj.cell? ⟨w.heap.size + 1, 0, none⟩ = some (.map (some w.heap.size)) := HRJ.out.blk.cell 0
            obtain ⟨v0, v1, v2, v3, v4, v5⟩ := blk6 HSJ.out
            have hysl : ys.length = k := by
              have h := congrArg List.length HI.out.seen
              rw [List.length_map, List.length_take, List.length_map, HN.out] at h
              omega
            have HYL := Lib.hid hysl
            have hnb : ys.length < maxLen := by unfold maxLen; omega
            have HNB := Lib.hid hnb
            have HNE : Hid (∀ z ∈ ys, z.id ≠ y.id) := Lib.hid (by rw [hid2]; exact (lookM_no HKN.out).2)
            have HFIN : Hid (∀ wk, wk.ownsMap Tryz.prog 9 vElem w.heap.size (ys.length + 1) (D.put (.string y.id) (.held (cval y))) → wj.drew.grownBy wk (some w.heap.size) → NewI w wk xs (k + 1) (ys ++ [y]) (D.put (.string y.id) (.held (cval y)))) := Lib.hid fun wk h1 h2 => by
              have hsz : wj.heap.size ≤ wk.heap.size := h2.size
              refine ⟨?_, HF.out, ?_, ?_⟩
              · rw [List.map_append, HI.out.seen, HTK.out]
                show _ ++ [y.ct] = _
                rw [HYC.out]
                rfl
              · exact rol_add (w := wj.drew) (B := wh.heap.size) (HRJ.out.below (Below.refl _ _).drew) (HYJ.out.turn (Turn.refl (fun _ => False) wj).drew fun _ _ h => h) (by rw [HYC.out]; exact HSM.out) HNE.out h1 h2 (fun q hq => ⟨hq.1, by have := hq.2; omega⟩) (fun q h3 h4 => by have e : wj.drew.heap.size = wj.heap.size := rfl; exact ⟨by omega, by omega⟩)
              · exact (HBJ.out.drew).grown h2 (by have := HBJ.out.size; exact this) (fun q hq => by cases hq; exact Nat.le_refl _)
            have HOM : Hid (wj.drew.ownsMap Tryz.prog 9 vElem w.heap.size ys.length D) := Lib.hid (HRJ.out.below (Below.refl _ _).drew).map
            clear hwj hsb hwb hbs hsj hhi hid2 hidl hysl hnb
            go_still_tail 8, (by kernel_rfl)
            change wpList _ _ _ _ _ wj.drew
            rw [HYV.out] at HFIN
            generalize hwd2 : wj.drew = wq at HFIN ⊢
            have HOQ : Hid (wq.ownsMap Tryz.prog 9 vElem w.heap.size ys.length D) := Lib.hid (by rw [← hwd2]; exact HOM.out)
            clear hwd2
            go_wp2_with (at_mapUpdate; refine wpList_mapUpdate_own _ rfl _ _ _ 68 rfl 9 49 skeyed Tryz.underlying68 vElem w.heap.size ys.length D rfl HOQ.out HNB.out _ _ _ rfl rfl HKY.out _ [] rfl ?_; intro wk hown1 hgrow1; have HZ := Lib.hid (HFIN.out wk hown1 hgrow1); clear hown1 hgrow1)
            go_roundg g
            case measure => omega
            case rel => exact ⟨k + 1, by omega, by go_num, _, _, HZ⟩
  · have HR : Hid (allB (xs.map Cm.ct) = false) := Lib.hid (by unfold allB; rw [List.length_map, decide_eq_false h64, Bool.and_false])
    obtain ⟨n, hn⟩ : ∃ n, xs.length = n := ⟨_, rfl⟩
    rw [hn] at h64 ⊢
    have i64 : decide ((64 : Int) < (n : Int)) = true := decide_eq_true (by omega)
    clear hp hg hl hn
    go_enter Tryz.func14, Tryz.ntmps14
    go_wp2_with fail
    go_ret2
    exact ⟨Below.refl _ _, Or.inr ⟨HR.out, rfl⟩⟩
end Go.Proofs.YtfeafhagnhbmiaaGreatDoor.rol
