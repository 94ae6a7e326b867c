/- The contract of the reference's Set. Lists of up to 4194304 texts. -/
import Derived.Test.YtcklbbbplbboaaaDoorScp3
import Derived.Deep.Onto
import Derived.Deep.CutBlock
import Derived.Deep.DeepCutAuto
namespace Go.Proofs.YtcklbbbplbboaaaDoor.scp
open Go.RowKit
open Go.Proofs.YtcklbbbplbboaaaDoor.oct Go.Proofs.YtcklbbbplbboaaaDoor.ref Go.Proofs.YtcklbbbplbboaaaDoor.rows Go.Proofs.YtcklbbbplbboaaaDoor.rowg

theorem infoStr : (Tryd.prog.info? 9).map (fun i => (i.zero, i.size, i.bytes)) = some (some (.string ⟨#[]⟩), 1, 16) := by kernel_rfl
theorem senc_one : ∀ a : T, ∀ u ∈ senc a, u.oneCell' = true := fun a u hu => by rw [List.mem_singleton.1 hu]; rfl
theorem setP_len (l : List T) : (setP l).length ≤ l.length := len_sub _ _ (srt_nodup (setP_srt l)) fun x hx => ((setP_mem l x).1 hx).1
theorem setP_take (l : List T) (k : Nat) (h : k < l.length) : setP (l.take (k + 1)) = addP (setP (l.take k)) l[k] := by
  rw [List.take_succ_eq_append_getElem h, setP_snoc]
theorem insP_at (x : T) (out : List T) (j : Nat) (hj : j ≤ out.length) (h1 : (out.take j).all (fun y => lt y x) = true) (h2 : ∀ h : j < out.length, lt out[j] x = false) : insP x out = out.take j ++ x :: out.drop j := by
  induction out generalizing j with
  | nil => simp [insP]
  | cons y out ih =>
    rcases j with _ | j
    · have := h2 (by simp)
      rw [insP_cons, if_neg (by simpa using this)]
      simp
    · rw [List.take_succ_cons, List.all_cons, Bool.and_eq_true] at h1
      rw [insP_cons, if_pos h1.1, ih j (by simpa using hj) h1.2 (fun h => by have := h2 (by simpa using h); simpa using this)]
      simp
theorem all_take (x : T) (out : List T) (j : Nat) (hj : j < out.length) (h1 : (out.take j).all (fun y => lt y x) = true) (h2 : lt out[j] x = true) : (out.take (j + 1)).all (fun y => lt y x) = true := by
  rw [List.take_succ_eq_append_getElem hj, List.all_append, h1]
  simp only [List.all_cons, List.all_nil, h2]
  rfl
/-- a row of texts of the call's own: nil and empty, or a block -/
theorem own_two {w : World} {B : Nat} {v : Value} {ps : List T} (h : w.ownsRow B 9 1 v ps.length (cells senc ps)) :
    (v = .slice none 0 0 ∧ ps = []) ∨ ∃ g c, v = .slice (some ⟨g, 0, none⟩) ps.length c ∧ ps.length ≤ c ∧ c ≤ maxLen ∧ B ≤ g ∧ InS w (some ⟨g, 0, none⟩) ps := by
  obtain ⟨p, c, hv, hc, hn, hin⟩ := own_g senc_len (by decide) h
  rcases h.2 with ⟨h1, hx⟩ | ⟨g, cp, cur, h1, hB, hg, hn2, hm, hs, ht⟩
  · rw [h1] at hv
    injection hv with e1 e2 e3
    subst e1
    exact Or.inl ⟨by rw [h1], ing_nil hin⟩
  · rw [h1] at hv
    injection hv with e1 e2 e3
    subst e1
    subst e3
    exact Or.inr ⟨g, cp, h1, hn2, hm, hB, hin⟩
theorem ins_take {w : World} {P : Option Addr} {l : List T} (h : InS w P l) (j : Nat) (hj : j ≤ l.length) : InS w P (l.take j) := fun hl => by
  rw [List.length_take] at hl
  obtain ⟨b, o, e, hc⟩ := h (by omega)
  refine ⟨b, o, e, fun i hi j2 hj2 => ?_⟩
  rw [List.length_take] at hi
  rw [hc i (by omega) j2 hj2, List.getElem_take]
theorem ins_drop {w : World} {b o : Nat} {l : List T} (h : InS w (some ⟨b, o, none⟩) l) (j : Nat) (hj : j ≤ l.length) : InS w (some ⟨b, o + j, none⟩) (l.drop j) := fun hl => by
  rw [List.length_drop] at hl
  obtain ⟨b2, o2, e, hc⟩ := h (by omega)
  cases e
  refine ⟨b, o + j, rfl, fun i hi j2 hj2 => ?_⟩
  rw [List.length_drop] at hi
  have := hc (j + i) (by omega) j2 hj2
  rw [List.getElem_drop, ← this]
  congr 2; simp only [Nat.mul_one]; omega
theorem ins_one (W : World) (x : T) (e : Nat) : InS (W.alloc (.cells #[.string ⟨x.toArray⟩] e)) (some ⟨W.heap.size, 0, none⟩) [x] := fun _ =>
  ⟨W.heap.size, 0, rfl, fun i hi j hj => by
    rw [List.length_singleton] at hi
    obtain rfl : i = 0 := by omega
    obtain rfl : j = 0 := by omega
    rw [World.cell?_alloc_at _ _ _ _ rfl]
    rfl⟩
/-- what Set answers -/
def RowA (w w' : World) (l : List T) (e : Ending) : Prop := ∃ v, e = .returned v ∧ w'.ownsRow w.heap.size 9 1 v l.length (cells senc l) ∧ Below w.heap.size w w'
set_option maxRecDepth 100000 in
set_option maxHeartbeats 8000000 in
theorem rset_c (P : Option Addr) (C : Nat) (l : List T) (w : World) (hp : InS w P l) (hl : l.length ≤ 4194304) :
    Calls Tryd.prog 16 #[.slice P l.length C] w fun e w' => RowA w w' (setP l) e := by
  have HP := Lib.hid hp
  obtain ⟨i0, hi0, hz0, hz1, hz2⟩ := info_parts infoStr
  clear hp
  go_enter Tryd.func16, Tryd.ntmps16
  go_wp2_with fail
  go_loopg [3, 4] l.length (fun g s3 s4 wx => ∃ k : Nat, k + g = l.length ∧ s4 = .int .i64 k ∧ ∃ out, Hid (setP (l.take k) = out) ∧ Hid (wx.ownsRow w.heap.size 9 1 s3 out.length (cells senc out)) ∧ Below w.heap.size w wx)
  case atStart => exact ⟨0, by omega, rfl, [], rfl, World.ownsRow_nil _ _ _ _, Below.refl _ _⟩
  case round =>
    obtain ⟨k, hkg, rfl, out, HO, HOW, hbx⟩ := hrel
    have HBX := Lib.hid hbx
    rcases gk with _ | g
    · obtain rfl : k = l.length := by omega
      have HR : Hid (setP l = out) := by have h := HO.out; rwa [List.take_length] at h
      go_wp2_with fail
      go_ret
      exact ⟨_, rfl, by rw [HR.out]; exact HOW.out, HBX.out⟩
    · have hk : k < l.length := by omega
      have hkI : (k : Int) < (l.length : Int) := by omega
      have HPX := Lib.hid (ins_below HP.out hbx)
      obtain ⟨b, o, rfl, c0⟩ := ins_cell HPX.out k hk
      have hol : out.length ≤ 4194304 := by
        have := setP_len (l.take k)
        rw [HO.out, List.length_take] at this
        omega
      have HST := Lib.hid (setP_take l k hk)
      rw [HO.out] at HST
      obtain ⟨x, hx⟩ : ∃ x, l[k] = x := ⟨_, rfl⟩
      rw [hx] at c0 HST
      have HWD := Lib.hid (fun w => rword_c ⟨x.toArray⟩ w)
      rw [show (⟨x.toArray⟩ : ByteArray).data.toList = x from rfl] at HWD
      clear hx hbx
      by_cases hw : wordB x = true
      · rw [hw] at HWD
        obtain ⟨p, co, hv, hco, hno, hin⟩ := own_g senc_len (by decide) HOW.out
        subst hv
        have HIN := Lib.hid hin
        have HHS := Lib.hid (rhas_c p co out x wr hin (by omega))
        clear hin
        by_cases hh : hasB out x = true
        · have HSK : Hid (setP (l.take (k + 1)) = out) := by show _ = _; rw [HST.out]; unfold addP; rw [hw, hh]; rfl
          rw [hh] at HHS
          clear hw hh HST
          go_wp2_with (first
            | (go_at_call 12; refine (HWD.out wr).mono ?_; rintro e w' ⟨rfl, rfl⟩)
            | (go_at_call 29; refine HHS.out.mono ?_; rintro e w' ⟨rfl, rfl⟩))
          go_roundg g
          case measure => omega
          case rel => exact ⟨k + 1, by omega, by go_num, out, HSK, HOW, HBX.out⟩
        · have hhf : hasB out x = false := by simpa using hh
          have HSK : Hid (setP (l.take (k + 1)) = insP x out) := by show _ = _; rw [HST.out]; unfold addP; rw [hw, hhf]; rfl
          rw [hhf] at HHS
          obtain ⟨W, hW⟩ : ∃ W, W = wr := ⟨_, rfl⟩
          subst hW
          clear hw hh hhf HST
          go_upto_block 2 with (first
            | (go_at_call 12; refine (HWD.out W).mono ?_; rintro e w' ⟨rfl, rfl⟩)
            | (go_at_call 29; refine HHS.out.mono ?_; rintro e w' ⟨rfl, rfl⟩))
          go_cut [5] from 7 to 60 (fun s5 wx => ∃ j : Nat, s5 = .int .i64 j ∧ j ≤ out.length ∧ Hid (insP x out = out.take j ++ x :: out.drop j) ∧ ∃ nd, wx = W.drewN nd)
          case first =>
            go_wp2_with fail
            go_loopg [5] out.length (fun g s5 wx => ∃ j : Nat, j + g = out.length ∧ s5 = .int .i64 j ∧ Hid ((out.take j).all (fun y => lt y x) = true) ∧ ∃ nd, wx = W.drewN nd)
            case atStart => exact ⟨0, by omega, rfl, rfl, 0, rfl⟩
            case round =>
              obtain ⟨j, hjg, rfl, HA, nd, hwy⟩ := hrel
              have HWY := Lib.hid hwy
              clear hwy
              rcases gk with _ | g2
              · have hj : j = out.length := by omega
                have HF : Hid (insP x out = out.take j ++ x :: out.drop j) := insP_at x out j (by omega) HA.out (fun h => by omega)
                have hd : decide ((j : Int) < (out.length : Int)) = false := decide_eq_false (by omega)
                go_wp2_with fail
                go_quiet (fail)
                go_wp2_with fail
                go_meet
                exact ⟨j, rfl, by omega, HF, nd + nq, by rw [HWY.out]; exact drewN_add W nd nq⟩
              · have hj : j < out.length := by omega
                have hjI : (j : Int) < (out.length : Int) := by omega
                obtain ⟨b2, o2, rfl, d0⟩ := ins_cell HIN.out j hj
                have HAT := Lib.hid (all_take x out j hj HA.out)
                have HAF := Lib.hid (fun h : lt out[j] x = false => insP_at x out j (by omega) HA.out (fun _ => h))
                obtain ⟨y, hy⟩ : ∃ y, out[j] = y := ⟨_, rfl⟩
                rw [hy] at d0 HAT HAF
                replace d0 : wr.cell? ⟨b2, o2 + j, none⟩ = some (.string ⟨y.toArray⟩) := by rw [HWY.out]; exact d0
                have c1 : wr.cell? ⟨b, o + k, none⟩ = some (.string ⟨x.toArray⟩) := by rw [HWY.out]; exact c0
                clear hy c0
                by_cases hlt : lt y x = true
                · have HE2 := Lib.hid (HAT.out hlt)
                  have hb : Go.Op.bytesLess y x = true := hlt
                  clear hlt HAT HAF
                  go_wp2_with fail
                  go_quiet (fail)
                  go_wp2_with fail
                  go_roundg g2
                  case measure => omega
                  case rel => exact ⟨j + 1, by omega, by go_num, HE2, nd + nq, by rw [HWY.out]; exact drewN_add W nd nq⟩
                · have hb : Go.Op.bytesLess y x = false := by simpa using hlt
                  have HF := Lib.hid (HAF.out hb)
                  clear hlt HAT HAF
                  go_wp2_with fail
                  go_quiet (fail)
                  go_wp2_with fail
                  go_meet
                  exact ⟨j, rfl, by omega, HF, nd + nq, by rw [HWY.out]; exact drewN_add W nd nq⟩
          case rest =>
            obtain ⟨j, rfl, hj, HF, nd, hwy⟩ := hcut
            subst hwy
            have HBC := Lib.hid (below_drewN HBX.out nd)
            have HC : Hid (∀ w', Below (W.drewN nd).heap.size (W.drewN nd) w' → w'.cell? ⟨b, o + k, none⟩ = some (.string ⟨x.toArray⟩)) := fun w' hb => (hb.cell (p := ⟨b, o + k, none⟩) (cell_lt c0)).trans c0
            have HINC : Hid (InS (W.drewN nd) p out) := HIN.out
            have HE0 := Lib.hid (own_emptyG (enc := senc) (k := 1) (W.drewN nd) 9)
            have HOW2 : Hid ((Value.slice p out.length co = .slice none 0 0 ∧ out = []) ∨ ∃ g c, Value.slice p out.length co = .slice (some ⟨g, 0, none⟩) out.length c ∧ out.length ≤ c ∧ c ≤ maxLen ∧ w.heap.size ≤ g ∧ InS W (some ⟨g, 0, none⟩) out) := own_two HOW.out
            obtain ⟨Z, hZ⟩ : ∃ Z, Z = W.drewN nd := ⟨_, rfl⟩
            rw [← hZ] at HBC HC HINC HE0 ⊢
            have hjI : (j : Int) ≤ (out.length : Int) := by omega
            clear hZ HOW HIN HBX HPX HHS HWD c0
            rcases HOW2.out with ⟨hv, hoe⟩ | ⟨g0, c2, hv, hc2, hcm, hg0, _⟩
            · injection hv with e1 e2 e3
              subst e1
              subst e3
              subst hoe
              obtain rfl : j = 0 := by simpa using hj
              clear e2 HOW2 hno hjI
              clear hol hco hj
              rw [show ([] : List T).length = 0 from rfl, show ((0 : Nat) : Int) = 0 from rfl]
              have HN : Hid (∀ w' : World, InS w' none ([] : List T)) := fun w' hl => by simp at hl
              go_wp2_with (first
                | (at_builtin; refine wpList_append_g senc_len (by decide) senc_one rfl (.tmp 44) (.tmp 47) 24 9 rfl Tryd.underlying24 hi0 hz0 hz1 hz2 rfl Z.heap.size _ 0 (cells senc []) rfl HE0.out _ 0 _ [] rfl (HN.out _) rfl (fun _ => rfl) (by unfold maxLen; omega) (by omega) (by simp) ?_; intro v2 w2 hown2 hgrow2; have hb2 := ((Below.refl Z.heap.size Z).alloc (Nat.le_refl _) _).grown hgrow2 (by simp) (fun k hk => (HE0.out.lt k hk).1); have d2 := HC.out w2 hb2; have HO2 := Lib.hid hown2; have HB2 := Lib.hid hb2; clear hown2 hgrow2 hb2)
                | (at_builtin; refine wpList_append_g senc_len (by decide) senc_one rfl (.tmp 49) (.tmp 54) 24 9 rfl Tryd.underlying24 hi0 hz0 hz1 hz2 rfl Z.heap.size _ (0 + 0) _ rfl (HO2.out.alloc _) (some ⟨w2.heap.size, 0, none⟩) 1 1 [x] rfl (ins_one w2 x _) rfl (fun h => by cases h) (by unfold maxLen; omega) (by omega) (by have := HB2.out.size; simp; omega) ?_; intro v3 w3 hown3 hgrow3; have hb3 := (HB2.out.alloc HB2.out.size _).grown hgrow3 (by have := HB2.out.size; simp; omega) (fun k hk => (HO2.out.lt k hk).1); have HO3 := Lib.hid hown3; have HB3 := Lib.hid hb3; clear hown3 hgrow3 hb3 d2)
                | (at_builtin; (refine wpList_append_g senc_len (by decide) senc_one rfl (.tmp 56) (.tmp 59) 24 9 rfl Tryd.underlying24 hi0 hz0 hz1 hz2 rfl Z.heap.size _ (0 + 0 + 1) _ rfl HO3.out _ 0 _ [] rfl (HN.out _) rfl (fun _ => rfl) (by unfold maxLen; omega) (by omega) HB3.out.size ?_); intro v4 w4 hown4 hgrow4; have hb4 := HB3.out.grown hgrow4 HB3.out.size (fun k hk => (HO3.out.lt k hk).1); have HO4 := Lib.hid hown4; have HB4 := Lib.hid hb4; clear hown4 hgrow4 hb4))
              all_goals
                go_roundg g
                case measure => omega
                refine ⟨k + 1, by omega, by go_num, insP x [], HSK, ?_, bnext HBC.out HB4.out⟩
                show w4.ownsRow _ _ _ _ _ _
                exact HO4.out.mono HBC.out.size
            · injection hv with e1 e2 e3
              subst e1
              subst e3
              clear e2 HOW2 hno
              have hjc : (j : Int) ≤ (co : Int) := by omega
              have hoc : (out.length : Int) ≤ (co : Int) := by omega
              have HD : Hid (∀ w', Below Z.heap.size Z w' → InS w' (some ⟨g0, j, none⟩) (out.drop j)) := fun w' hb => by
                have := ins_below (ins_drop HINC.out j hj) hb
                rwa [Nat.zero_add] at this
              have HDX : Hid (∀ w', Below Z.heap.size Z w' → InS w' (if co = j then some ⟨g0, 0, none⟩ else some ⟨g0, j, none⟩) (out.drop j)) := fun w' hb => by
                split
                · intro hl; rw [List.length_drop] at hl; omega
                · exact HD.out w' hb
              go_wp2_with (first
                | (at_builtin; refine wpList_append_g senc_len (by decide) senc_one rfl (.tmp 44) (.tmp 47) 24 9 rfl Tryd.underlying24 hi0 hz0 hz1 hz2 rfl Z.heap.size _ 0 (cells senc []) rfl HE0.out _ j _ (out.take j) rfl (ins_below (ins_take HINC.out j hj) ((Below.refl _ _).alloc (Nat.le_refl _) _)) (by rw [List.length_take]; omega) (fun h => by cases h) (by unfold maxLen; omega) (by omega) (by simp) ?_; intro v2 w2 hown2 hgrow2; have hb2 := ((Below.refl Z.heap.size Z).alloc (Nat.le_refl _) _).grown hgrow2 (by simp) (fun k hk => (HE0.out.lt k hk).1); have d2 := HC.out w2 hb2; have HO2 := Lib.hid hown2; have HB2 := Lib.hid hb2; clear hown2 hgrow2 hb2)
                | (at_builtin; refine wpList_append_g senc_len (by decide) senc_one rfl (.tmp 49) (.tmp 54) 24 9 rfl Tryd.underlying24 hi0 hz0 hz1 hz2 rfl Z.heap.size _ (0 + j) _ rfl (HO2.out.alloc _) (some ⟨w2.heap.size, 0, none⟩) 1 1 [x] rfl (ins_one w2 x _) rfl (fun h => by cases h) (by unfold maxLen; omega) (by omega) (by have := HB2.out.size; simp; omega) ?_; intro v3 w3 hown3 hgrow3; have hb3 := (HB2.out.alloc HB2.out.size _).grown hgrow3 (by have := HB2.out.size; simp; omega) (fun k hk => (HO2.out.lt k hk).1); have HO3 := Lib.hid hown3; have HB3 := Lib.hid hb3; clear hown3 hgrow3 hb3 d2)
                | (at_builtin; refine wpList_append_g senc_len (by decide) senc_one rfl (.tmp 56) (.tmp 59) 24 9 rfl Tryd.underlying24 hi0 hz0 hz1 hz2 rfl Z.heap.size _ (0 + j + 1) _ rfl HO3.out _ (out.length - j) _ (out.drop j) rfl (HDX.out w3 HB3.out) (by rw [List.length_drop]) (fun h => by split at h <;> cases h) (by unfold maxLen; omega) (by omega) HB3.out.size ?_; intro v4 w4 hown4 hgrow4; have hb4 := HB3.out.grown hgrow4 HB3.out.size (fun k hk => (HO3.out.lt k hk).1); have HO4 := Lib.hid hown4; have HB4 := Lib.hid hb4; clear hown4 hgrow4 hb4))
              all_goals
                go_roundg g
                case measure => omega
                refine ⟨k + 1, by omega, by go_num, insP x out, HSK, ?_, bnext HBC.out HB4.out⟩
                show w4.ownsRow _ _ _ _ _ _
                have hn : 0 + j + 1 + (out.length - j) = (insP x out).length := by rw [HF.out, List.length_append, List.length_cons, List.length_take, List.length_drop]; omega
                have hc : cells senc [] ++ cells senc (out.take j) ++ cells senc [x] ++ cells senc (out.drop j) = cells senc (insP x out) := by
                  rw [HF.out, ← List.singleton_append, cells_append, cells_append]
                  simp [cells]
                have h := HO4.out
                rw [hn, hc] at h
                exact h.mono HBC.out.size
      · have HSK : Hid (setP (l.take (k + 1)) = out) := by show _ = _; rw [HST.out]; unfold addP; rw [show wordB x = false by simpa using hw]; rfl
        rw [show wordB x = false by simpa using hw] at HWD
        clear hw HST
        go_wp2_with (go_at_call 12; refine (HWD.out wr).mono ?_; rintro e w' ⟨rfl, rfl⟩)
        go_roundg g
        case measure => omega
        case rel => exact ⟨k + 1, by omega, by go_num, out, HSK, HOW, HBX.out⟩
end Go.Proofs.YtcklbbbplbboaaaDoor.scp
