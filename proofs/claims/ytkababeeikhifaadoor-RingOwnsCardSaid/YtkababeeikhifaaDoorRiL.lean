/- RingAlike. Condition: package variables (RT). -/
import Derived.Test.YtkababeeikhifaaDoorRiJ
namespace Go.Proofs.YtkababeeikhifaaDoor.rng
open Go.RowKit
open Go.Proofs.YtkababeeikhifaaDoor.oct Go.Proofs.YtkababeeikhifaaDoor.ref Go.Proofs.YtkababeeikhifaaDoor.rows Go.Proofs.YtkababeeikhifaaDoor.rowg Go.Proofs.YtkababeeikhifaaDoor.trn
open Go.Proofs.YtkababeeikhifaaDoor.scp (tx senc senc_len InS ins_below ins_cell)
open Go.Lib (byteCells)

def zenc (z : Int) : List Value := [.int .i64 z]
theorem zenc_len : ∀ a, (zenc a).length = 1 := fun _ => rfl
abbrev InZ (w : World) (P : Option Addr) (l : List Int) : Prop := InG zenc 1 w P l
theorem inz_at {w : World} {P : Option Addr} {l : List Int} (h : InZ w P l) {i : Nat} (hi : i < l.length) : ∃ b o, P = some ⟨b, o, none⟩ ∧ w.cell? ⟨b, o + i, none⟩ = some (.int .i64 l[i]) := by
  obtain ⟨b, o, hP, hc⟩ := h.cells i hi
  have := hc 0 (by decide)
  rw [Nat.mul_one, Nat.add_zero] at this
  exact ⟨b, o, hP, this⟩
theorem cells_tx (l : List T) : cells senc l = l.map tx := by
  unfold cells
  induction l with
  | nil => rfl
  | cons a l ih => rw [List.flatMap_cons, ih]; rfl
theorem cells_set (l : List T) (i : Nat) (x : T) : (cells senc l).set i (tx x) = cells senc (l.set i x) := by rw [cells_tx, cells_tx, List.map_set]
theorem good_perm {l m : List T} (h : l.Perm m) (hg : Good m) : Good l := ⟨by rw [h.length_eq]; exact hg.lo, by rw [h.length_eq]; exact hg.hi, fun x hx => hg.ok x (h.mem_iff.1 hx), h.nodup_iff.2 hg.nd⟩
/-- a row of texts of the call's own -/
def OwnT (w : World) (B b c n : Nat) (l : List T) : Prop := l.length = n ∧ w.ownsRow B 9 1 (.slice (some ⟨b, 0, none⟩) n c) n (cells senc l)
theorem OwnT.at {w : World} {B b c n : Nat} {l : List T} (h : OwnT w B b c n l) {i : Nat} (hi : i < n) : ∃ x, l[i]? = some x ∧ w.cell? ⟨b, i, none⟩ = some (.string ⟨x.toArray⟩) ∧ w.frozen? ⟨b, i, none⟩ = false := by
  obtain ⟨hl, ho⟩ := h
  refine ⟨l[i]'(by omega), List.getElem?_eq_getElem (by omega), ?_, ho.frozenAt i⟩
  rw [ho.cellAt i (by omega), cells_tx, List.getElem?_map, List.getElem?_eq_getElem (by omega)]
  rfl
theorem OwnT.set {w : World} {B b c n : Nat} {l : List T} (h : OwnT w B b c n l) (i : Nat) (x : T) : OwnT (w.setCell ⟨b, i, none⟩ (.string ⟨x.toArray⟩)) B b c n (l.set i x) := by
  obtain ⟨hl, ho⟩ := h
  have := (ho.stored i (tx x)).1
  rw [cells_set] at this
  exact ⟨by rw [List.length_set]; exact hl, this⟩
theorem OwnT.turn {S : Nat → Prop} {w w' : World} {B b c n : Nat} {l : List T} (h : OwnT w B b c n l) (ht : Turn S w w') (hb : ¬ S b) : OwnT w' B b c n l := ⟨h.1, own_turn h.2 ht fun k hk => by cases hk; exact hb⟩
theorem OwnT.in {w : World} {B b c n : Nat} {l : List T} (h : OwnT w B b c n l) (h1 : 1 ≤ n) : InS w (some ⟨b, 0, none⟩) l ∧ n ≤ c := by
  obtain ⟨b2, c2, e, hc, hin⟩ := own_in senc_len (by decide) h.1 h1 h.2
  injection e with e1 _ e3
  rw [e1]
  exact ⟨hin, by omega⟩
theorem swap_perm {l : List T} {i k : Nat} {x y : T} (hi : l[i]? = some x) (hk : l[k]? = some y) : ((l.set i y).set k x).Perm l := by
  obtain ⟨h1, rfl⟩ := List.getElem?_eq_some_iff.1 hi
  obtain ⟨h2, rfl⟩ := List.getElem?_eq_some_iff.1 hk
  exact List.set_set_perm h1 h2
theorem alike_at {n : Nat} (hn : 1 ≤ n) {ms ls : List T} (hp : ls.Perm ms) (gm : Good ms) (p : Nat) {j : Nat} (hj : j < ms.length) : ∃ r1 r2 t, (ordR n ms p)[j]? = some r1 ∧ (ordR n ls p)[j]? = some r2 ∧ ms[r1]? = some t ∧ ls[r2]? = some t ∧ r1 < ms.length ∧ r2 < ms.length := by
  have gl := good_perm hp gm
  have l1 := ordR_len hn gm.nd p
  have l2 := ordR_len hn gl.nd p
  have hll := hp.length_eq
  obtain ⟨a1, a2⟩ := ordR_name hn (names := ms) p j (by omega)
  obtain ⟨b1, b2⟩ := ordR_name hn (names := ls) p j (by omega)
  rw [alikeO hp p, ← a2] at b2
  refine ⟨_, _, ms[(ordR n ms p)[j]'(by omega)], List.getElem?_eq_getElem (by omega), List.getElem?_eq_getElem (by omega), List.getElem?_eq_getElem a1, ?_, a1, by omega⟩
  rw [List.getD, List.getElem?_eq_getElem b1, List.getD, List.getElem?_eq_getElem a1] at b2
  rw [List.getElem?_eq_getElem b1]
  exact congrArg some b2
theorem ini_q {w : World} {P : Option Addr} {l : List Nat} (h : InI w P l) {j r : Nat} (hj : l[j]? = some r) : ∃ b o, P = some ⟨b, o, none⟩ ∧ w.cell? ⟨b, o + j, none⟩ = some (.int .i64 (r : Int)) := by
  obtain ⟨h1, rfl⟩ := List.getElem?_eq_some_iff.1 hj
  exact ini_cell h j h1
theorem ins_q {w : World} {P : Option Addr} {l : List T} (h : InS w P l) {j : Nat} {x : T} (hj : l[j]? = some x) : ∃ b o, P = some ⟨b, o, none⟩ ∧ w.cell? ⟨b, o + j, none⟩ = some (.string ⟨x.toArray⟩) := by
  obtain ⟨h1, rfl⟩ := List.getElem?_eq_some_iff.1 hj
  obtain ⟨b, o, e, hc⟩ := txt_at h h1
  exact ⟨b, o, e, hc w (Below.refl _ _)⟩
set_option maxRecDepth 100000 in
set_option maxHeartbeats 16000000 in
theorem alike_c (n : Int) (P : Option Addr) (C : Nat) (ms : List T) (O : Option Addr) (U : Nat) (zs : List Int) (K : Option Addr) (D : Nat) (keys : List T) (w : World) (hp : InS w P ms) (hC : ms.length ≤ C) (hnil : P = none → C = 0) (hl : ms.length ≤ 140737488355328) (hz : InZ w O zs) (hk : InS w K keys) (hkf : Fit keys) (hT : RT w) :
    Calls Tryd.prog 6 #[.int .i64 n, .slice P ms.length C, .slice O zs.length U, .slice K keys.length D] w fun e w' => e = .returned (.bool true) ∧ Below w.heap.size w w' := by
  have HNEW := Lib.hid (new_c n P C ms.length ms w hp rfl hl hC hT)
  have HKN : Hid (∀ W, Below w.heap.size w W → Calls Tryd.prog 10 #[] W fun e w' => e = .returned (.bool true) ∧ Below W.heap.size W w') := Lib.hid fun W hW => known_c W (hT.below hW)
  have HP := Lib.hid hp
  have HNIL := Lib.hid hnil
  have HZ := Lib.hid hz
  have HK := Lib.hid hk
  have HF := Lib.hid hkf
  have HT := Lib.hid hT
  obtain ⟨j0, hj, hy0, hy1, hy2⟩ := info_parts infoStr
  obtain ⟨m, hm⟩ : ∃ m, ms.length = m := ⟨_, rfl⟩
  obtain ⟨kn, hkn⟩ : ∃ kn, keys.length = kn := ⟨_, rfl⟩
  obtain ⟨zn, hzn⟩ : ∃ zn, zs.length = zn := ⟨_, rfl⟩
  rw [hm] at HNEW hl ⊢
  rw [hkn, hzn]
  have HM := Lib.hid hm
  have HKL := Lib.hid hkn
  have HZL := Lib.hid hzn
  clear hp hC hk hkf hT hm hkn hnil hz hzn
  go_enter Tryd.func6, Tryd.ntmps6
  go_wp2_with fail
  refine HNEW.out.mono ?_
  rintro e w1 (⟨hr, rfl, hb1⟩ | ⟨hr, g, np, rfl, rfl, hR, hb1⟩)
  · have HB1 := Lib.hid hb1
    clear hr hb1 HNEW
    go_wp2_with fail
    refine (HKN.out w1 HB1.out).mono ?_
    rintro e w2 ⟨rfl, hb2⟩
    have HB2 := Lib.hid (bnext HB1.out hb2)
    clear hb2
    go_wp2_with fail
    refine (HKN.out w2 HB2.out).mono ?_
    rintro e w3 ⟨rfl, hb3⟩
    have HB3 := Lib.hid (bnext HB2.out hb3)
    clear hb3
    go_wp2_with fail
    go_ret
    exact ⟨rfl, HB3.out⟩
  · have HB1 := Lib.hid hb1
    have HR1 := Lib.hid hR
    have HRB := Lib.hid hr
    clear hr hb1 HNEW hR
    have hgd := HR1.out.good
    have hm8 : m ≤ 8 := by have := hgd.1.hi; rw [HM.out] at this; exact this
    have hm1 : 1 ≤ m := by have := hgd.1.lo; rw [HM.out] at this; exact this
    have hn1 := hgd.2.1
    have HGD := Lib.hid hgd.1
    clear hgd
    go_wp2_with fail
    refine (HKN.out w1 HB1.out).mono ?_
    rintro e w2 ⟨rfl, hb2⟩
    have HB2 := Lib.hid (bnext HB1.out hb2)
    have HR2 := Lib.hid (HR1.out.below hb2)
    have HB12 := Lib.hid hb2.size
    clear hb2 HKN HR1 HB1
    go_wp2_with (at_builtin; go_loud (refine wpList_append_g senc_len (by decide) senc_one rfl _ _ 22 9 rfl Tryd.underlying22 hj hy0 hy1 hy2 rfl w2.heap.size _ 0 (cells senc []) rfl (own_emptyG w2 9) P m C ms rfl (ins_below HP.out (HB2.out.alloc HB2.out.size _)) HM.out HNIL.out (by unfold maxLen; omega) (by omega) (by simp) ?_); intro v1 w3 hown1 hgrow1; rw [Nat.zero_add] at hown1; obtain ⟨p1, c1, rfl⟩ := cln.own_slice hown1; have HO3 := Lib.hid hown1; have HB23 := Lib.hid (((Below.refl w2.heap.size w2).alloc (Nat.le_refl _) _).grown hgrow1 (by simp) (fun k hk => by cases hk; exact Nat.le_refl _)); clear hown1 hgrow1)
    have hrow := HO3.out
    rw [← cells_append, List.nil_append] at hrow
    obtain ⟨b1, c1, e, hmc, hin⟩ := own_in senc_len (by decide) HM.out hm1 hrow
    injection e with e1 _ e3
    subst e1
    subst e3
    have hk1 := (hrow.lt b1 rfl).1
    have HOT : Hid (OwnT w3 w2.heap.size b1 c1 m ms) := Lib.hid ⟨HM.out, hrow⟩
    have HK1 := Lib.hid hk1
    have HB3 := Lib.hid (bnext HB2.out HB23.out)
    have HR3 := Lib.hid (HR2.out.below HB23.out)
    clear hrow hin hk1 HO3 HR2
    go_loopg [12] (min zn m) (fun g s12 wx => ∃ i : Nat, i + g = min zn m ∧ s12 = .int .i64 (i : Int) ∧ (∃ ls, Hid (ls.Perm ms ∧ OwnT wx w2.heap.size b1 c1 m ls)) ∧ Hid (Turn (fun k => k = b1) w3 wx))
    case atStart => exact ⟨0, by omega, rfl, ⟨ms, Lib.hid ⟨List.Perm.refl _, HOT.out⟩⟩, Lib.hid (Turn.refl _ _)⟩
    case round =>
      obtain ⟨i, hig, rfl, ⟨ls, HX⟩, HTX⟩ := hrel
      have HBX := Lib.hid (Turn.below HB23.out HTX.out (fun k hk => hk ▸ HK1.out) HB23.out.size)
      have HBW := Lib.hid (bnext HB2.out HBX.out)
      rcases gk with _ | gk
      · go_upto_region 6 with fail
        go_cut [46] from 37 to 46 (fun s46 wx => s46 = .bool false ∧ wx = wr)
        case first =>
          by_cases hik : i < zn
          · have j1 : decide ((i : Int) < (zn : Int)) = true := decide_eq_true (by omega)
            have j2 : decide (i < zn) = true := decide_eq_true hik
            have j3 : decide ((i : Int) < (m : Int)) = false := decide_eq_false (by omega)
            have j4 : decide (i < m) = false := decide_eq_false (by omega)
            go_wp2_with fail
            go_meet
            exact ⟨rfl, rfl⟩
          · have j1 : decide ((i : Int) < (zn : Int)) = false := decide_eq_false (by omega)
            have j2 : decide (i < zn) = false := decide_eq_false hik
            go_wp2_with fail
            go_meet
            exact ⟨rfl, rfl⟩
        case rest =>
          obtain ⟨rfl, rfl⟩ := hcut
          have HQ := Lib.hid HX.out.1
          have HOW := Lib.hid HX.out.2
          have hin := HOW.out.in hm1
          have HNQ := Lib.hid (new_c (np : Int) (some ⟨b1, 0, none⟩) c1 m ls wc hin.1 HOW.out.1 (by omega) hin.2 (HT.out.below HBW.out))
          have hrq : rightB (np : Int) ls = true := (rightB_iff _ _).2 ⟨((rightB_iff _ _).1 HRB.out).1, ((rightB_iff _ _).1 HRB.out).2.1, good_perm HQ.out HGD.out⟩
          have HRX := Lib.hid (HR3.out.turn (F2 := fun k => w.heap.size ≤ k ∧ k < w1.heap.size) HTX.out (fun k hk e => by have := HK1.out; have := HB12.out; omega) fun _ => id)
          have HRQ := Lib.hid hrq
          clear hin hrq HX HTX HR3 HOT
          go_wp2_with fail
          refine HNQ.out.mono ?_
          rintro e w5 (⟨hr, rfl, hb5⟩ | ⟨hr, g2, np2, hnp, rfl, hQ5, hb5⟩)
          · rw [hr] at HRQ
            exact absurd HRQ.out (by decide)
          · obtain rfl : np2 = np := by omega
            have HB5 := Lib.hid (bnext HBW.out hb5)
            have HR5 := Lib.hid (HRX.out.below hb5)
            have HQ5 := Lib.hid hQ5
            have HOW5 := Lib.hid (HOW.out.turn (Turn.of_below (S := fun _ => False) hb5) id)
            clear hr hnp hQ5 hb5 HNQ HRX HRQ HRB HOW
            go_wp2_with fail
            clear HBX HBW HB3 HB23
            go_loopg [17] (min kn 20) (fun g s17 wx => ∃ i : Nat, i + g = min kn 20 ∧ s17 = .int .i64 (i : Int) ∧ Hid (Below w5.heap.size w5 wx))
            case atStart => exact ⟨0, by omega, rfl, Lib.hid (Below.refl _ _)⟩
            case round =>
              obtain ⟨i5, hig5, rfl, HBX⟩ := hrel
              have HBW := Lib.hid (bnext HB5.out HBX.out)
              rcases gk with _ | gq
              · by_cases hik : i5 < kn
                · obtain rfl : i5 = 20 := by omega
                  have j1 : decide ((20 : Int) < (kn : Int)) = true := decide_eq_true (by omega)
                  have j2 : decide (20 < kn) = true := decide_eq_true hik
                  go_wp2_with fail
                  go_ret
                  exact ⟨rfl, HBW.out⟩
                · have j1 : decide ((i5 : Int) < (kn : Int)) = false := decide_eq_false (by omega)
                  have j2 : decide (i5 < kn) = false := decide_eq_false hik
                  go_wp2_with fail
                  go_ret
                  exact ⟨rfl, HBW.out⟩
              · have hi1 : (i5 : Int) < (kn : Int) := by omega
                have hi2 : (i5 : Int) < 20 := by omega
                have hi3 : i5 < kn := by omega
                have hil : i5 < keys.length := by rw [HKL.out]; exact hi3
                obtain ⟨kb, ko, hke, hkc⟩ := txt_at (ins_below HK.out HBW.out) hil
                have hkl := HF.out _ (List.getElem_mem hil)
                obtain ⟨key, hkey⟩ : ∃ key, keys[i5] = key := ⟨_, rfl⟩
                rw [hkey] at hkc hkl
                have HRX := Lib.hid (HR5.out.below HBX.out)
                have HQX := Lib.hid (HQ5.out.below HBX.out)
                have HTX : Hid (∀ W, Below wr.heap.size wr W → RT W) := Lib.hid fun W hW => (HT.out.below HBW.out).below hW
                have hRl := ordR_len HRX.out.good.2.1 HGD.out.nd (plc key)
                have hQl := ordR_len HRX.out.good.2.1 HQX.out.good.1.nd (plc key)
                rw [HM.out] at hRl
                rw [HOW5.out.1] at hQl
                have HAT : Hid (∀ j, j < m → ∃ r1 r2 t, (ordR np2 ms (plc key))[j]? = some r1 ∧ (ordR np2 ls (plc key))[j]? = some r2 ∧ ms[r1]? = some t ∧ ls[r2]? = some t ∧ r1 < m ∧ r2 < m) := Lib.hid fun j hj => by
                  have := alike_at HRX.out.good.2.1 HQ.out HGD.out (plc key) (j := j) (by rw [HM.out]; exact hj)
                  rwa [HM.out] at this
                have HOR : Hid (∀ W, Below wr.heap.size wr W → Calls Tryd.prog 19 #[.pointer (some ⟨g, 0, none⟩), .string ⟨key.toArray⟩] W fun e w' => ∃ b c, e = .returned (.slice (some ⟨b, 0, none⟩) m c) ∧ InI w' (some ⟨b, 0, none⟩) (ordR np2 ms (plc key)) ∧ Below W.heap.size W w') := Lib.hid fun W hW => (order_c (HRX.out.below hW) (HTX.out W hW) key hkl).mono fun _ _ ⟨v, e1, e2, e3⟩ => by
                  rw [hRl] at e2
                  obtain ⟨b, c, rfl, _, hin⟩ := own_in ienc_len (by decide) hRl hm1 e2
                  exact ⟨b, c, e1, hin, e3⟩
                have HOQ : Hid (∀ W, Below wr.heap.size wr W → Calls Tryd.prog 19 #[.pointer (some ⟨g2, 0, none⟩), .string ⟨key.toArray⟩] W fun e w' => ∃ b c, e = .returned (.slice (some ⟨b, 0, none⟩) m c) ∧ InI w' (some ⟨b, 0, none⟩) (ordR np2 ls (plc key)) ∧ Below W.heap.size W w') := Lib.hid fun W hW => (order_c (HQX.out.below hW) (HTX.out W hW) key hkl).mono fun _ _ ⟨v, e1, e2, e3⟩ => by
                  rw [hQl] at e2
                  obtain ⟨b, c, rfl, _, hin⟩ := own_in ienc_len (by decide) hQl hm1 e2
                  exact ⟨b, c, e1, hin, e3⟩
                obtain ⟨RA, hRA⟩ : ∃ RA, ordR np2 ms (plc key) = RA := ⟨_, rfl⟩
                obtain ⟨RB, hRB⟩ : ∃ RB, ordR np2 ls (plc key) = RB := ⟨_, rfl⟩
                rw [hRA] at HAT HOR
                rw [hRB] at HAT HOQ
                subst hke
                have HKC := Lib.hid hkc
                have hk0 := hkc wr (Below.refl _ _)
                have HB0 : Hid (Below wr.heap.size wr wr) := Lib.hid (Below.refl _ _)
                clear hRA hRB hRl hQl hkey hil hkc HTX
                go_upto_region 18 with fail
                go_cut [18, 19] from 96 to 107 (fun s18 s19 wx => ∃ b6 c6 b7 c7, s18 = .slice (some ⟨b6, 0, none⟩) m c6 ∧ s19 = .slice (some ⟨b7, 0, none⟩) m c7 ∧ Hid (Below wr.heap.size wr wx) ∧ Hid (InI wx (some ⟨b6, 0, none⟩) RA) ∧ Hid (InI wx (some ⟨b7, 0, none⟩) RB))
                case first =>
                  go_region_law (first
                    | (go_simp; go_at_call 19; (with_reducible refine (HOR.out _ HB0.out.drew).mono ?_); rintro e wa ⟨b6, c6, rfl, hcc, hb⟩; have HBA := Lib.hid (HB0.out.drew.trans (hb.mono HB0.out.size)); have k1 := HKC.out wa HBA.out; have HIA := Lib.hid hcc; clear hb hcc)
                    | (go_simp; go_at_call 19; (with_reducible refine (HOQ.out _ HBA.out).mono ?_); rintro e wb ⟨b7, c7, rfl, hcc, hb⟩; have HBB := Lib.hid (bnext HBA.out hb); have HIB := Lib.hid (HIA.out.below ienc_len (by decide) hb); have HIQ := Lib.hid hcc; clear hb hcc))
                  all_goals
                    go_wp2_with fail
                    go_meet
                    exact ⟨_, _, _, _, rfl, rfl, HBB, HIB, HIQ⟩
                case rest =>
                  obtain ⟨b6, c6, b7, c7, rfl, rfl, HBR, HI6, HI7⟩ := hcut
                  clear HOR HOQ hk0 HKC HB0 HRX HQX
                  have j1 : ((m : Int) != (m : Int)) = false := by simp
                  go_wp2_with fail
                  clear j1
                  go_loopg [20] m (fun g s20 wx => ∃ j : Nat, j + g = m ∧ s20 = .int .i64 (j : Int) ∧ Hid (Below wc.heap.size wc wx))
                  case atStart => exact ⟨0, by omega, rfl, Lib.hid (Below.refl _ _)⟩
                  case round =>
                    obtain ⟨j, hjg, rfl, HBY⟩ := hrel
                    have HCY := Lib.hid (bnext HBR.out HBY.out)
                    rcases gk with _ | gk
                    · have HBZ := Lib.hid (HBX.out.trans (HCY.out.mono HBX.out.size))
                      have j1 : decide ((j : Int) < (m : Int)) = false := decide_eq_false (by omega)
                      have j2 : decide (j < m) = false := decide_eq_false (by omega)
                      go_wp2_with fail
                      go_roundg gq
                      case measure => omega
                      case rel => exact ⟨i5 + 1, by omega, by go_num, HBZ⟩
                    · have hj1 : (j : Int) < (m : Int) := by omega
                      have hj2 : j < m := by omega
                      obtain ⟨r1, r2, t, h1, h2, h3, h4, h5, h6⟩ := HAT.out j hj2
                      obtain ⟨b, o, e, q1⟩ := ini_q (HI6.out.below ienc_len (by decide) HBY.out) h1
                      cases e
                      obtain ⟨b, o, e, q2⟩ := ini_q (HI7.out.below ienc_len (by decide) HBY.out) h2
                      cases e
                      obtain ⟨nb, no, e, q3⟩ := ins_q (ins_below HP.out (bnext HBW.out HCY.out)) h3
                      subst e
                      obtain ⟨b, o, e, q4⟩ := ins_q (ins_below (HOW5.out.in hm1).1 (bnext HBX.out HCY.out)) h4
                      cases e
                      rw [Nat.zero_add] at q1 q2 q4
                      have i1 : (r1 : Int) < (m : Int) := by omega
                      have i2 : (r2 : Int) < (m : Int) := by omega
                      have b1 : (t == t) = true := by simp
                      clear h1 h2 h3 h4 h5 h6
                      go_wp2_with fail
                      go_quiet (fail)
                      go_wp2_with fail
                      go_roundg gk
                      case measure => omega
                      case rel => exact ⟨j + 1, by omega, by go_num, Lib.hid (HBY.out.trans ⟨rfl, rfl, rfl, Nat.le_refl _, fun _ _ => rfl⟩)⟩
      · have hi1 : (i : Int) < (zn : Int) := by omega
        have hi2 : (i : Int) < (m : Int) := by omega
        have hi3 : i < zn := by omega
        have hi4 : i < m := by omega
        obtain ⟨zb, zo, hze, hzc⟩ := inz_at (HZ.out.below zenc_len (by decide) HBW.out) (i := i) (by rw [HZL.out]; exact hi3)
        subst hze
        obtain ⟨a, ha⟩ : ∃ a, zs[i]'(by rw [HZL.out]; exact hi3) = a := ⟨_, rfl⟩
        rw [ha] at hzc
        obtain ⟨k, hkm, hku⟩ := umod a m (by omega) hm8
        have i3 : ¬ m = 0 := by omega
        have i4 : ((m : Int) == 0) = false := by rw [beq_eq_false_iff_ne]; omega
        have hkI : (k : Int) < (m : Int) := by omega
        have hkx : IntKind.i64.wrap (k : Int) = (k : Int) := by rw [IntKind.wrap_i64]; omega
        obtain ⟨x, hx, hxc, hxf⟩ := HX.out.2.at hi4
        obtain ⟨y, hy, hyc, _⟩ := HX.out.2.at hkm
        have hset := HX.out.2.set i y
        obtain ⟨u, _, huc, huf⟩ := hset.at hkm
        have HST : Hid (((ls.set i y).set k x).Perm ms ∧ OwnT ((wr.setCell ⟨b1, i, none⟩ (.string ⟨y.toArray⟩)).setCell ⟨b1, k, none⟩ (.string ⟨x.toArray⟩)) w2.heap.size b1 c1 m ((ls.set i y).set k x)) := Lib.hid ⟨(swap_perm hx hy).trans HX.out.1, hset.set k x⟩
        have HTT := Lib.hid ((HTX.out.next (Turn.set (S := fun k => k = b1) wr b1 i (.string ⟨y.toArray⟩) rfl)).next (Turn.set (S := fun k => k = b1) _ b1 k (.string ⟨x.toArray⟩) rfl))
        clear hset hx hy ha
        go_wp2_with fail
        go_roundg gk
        case measure => omega
        case rel => exact ⟨i + 1, by omega, by go_num, ⟨_, HST⟩, HTT⟩
end Go.Proofs.YtkababeeikhifaaDoor.rng
