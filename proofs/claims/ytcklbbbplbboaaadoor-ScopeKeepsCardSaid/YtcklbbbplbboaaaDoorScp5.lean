/- The contracts of the reference's Within and Meet, and of few. Lists of up to 4194304 texts. -/
import Derived.Test.YtcklbbbplbboaaaDoorScp4
namespace Go.Proofs.YtcklbbbplbboaaaDoor.scp
open Go.RowKit
open Go.Proofs.YtcklbbbplbboaaaDoor.oct Go.Proofs.YtcklbbbplbboaaaDoor.ref Go.Proofs.YtcklbbbplbboaaaDoor.rows Go.Proofs.YtcklbbbplbboaaaDoor.rowg

theorem all_step {α : Type} (p : α → Bool) (l : List α) (k : Nat) (h : k < l.length) (h0 : (l.take k).all p = true) : (p l[k] = true → (l.take (k + 1)).all p = true) ∧ (p l[k] = false → l.all p = false) := by
  constructor
  · intro h2
    rw [List.take_succ_eq_append_getElem h, List.all_append, h0, List.all_cons, h2]
    rfl
  · intro h2
    cases h3 : l.all p with
    | false => rfl
    | true =>
      rw [List.all_eq_true] at h3
      rw [h3 _ (List.getElem_mem h)] at h2
      cases h2
set_option maxRecDepth 100000 in
set_option maxHeartbeats 4000000 in
theorem rwithin_c (P : Option Addr) (C : Nat) (l : List T) (Q : Option Addr) (D : Nat) (m : List T) (w : World) (hp : InS w P l) (hq : InS w Q m) (hl : l.length ≤ 4194304) (hm : m.length ≤ 4194304) :
    Calls Tryd.prog 22 #[.slice P l.length C, .slice Q m.length D] w fun e w' => e = .returned (.bool (withinP l m)) ∧ w = w' := by
  have HP := Lib.hid hp
  have HH := Lib.hid (fun n => rhas_c Q D m n w hq (by omega))
  clear hp hq
  go_enter Tryd.func22, Tryd.ntmps22
  go_wp2_with fail
  go_loopg [5] l.length (fun g s6 wx => ∃ k : Nat, k + g = l.length ∧ s6 = .int .i64 k ∧ Hid ((l.take k).all (fun x => !wordB x || hasB m x) = true) ∧ wx = w)
  case atStart => exact ⟨0, by omega, rfl, rfl, rfl⟩
  case round =>
    obtain ⟨k, hkg, rfl, HN, rfl⟩ := hrel
    rcases gk with _ | g
    · obtain rfl : k = l.length := by omega
      have HR : Hid (withinP l m = true) := by have h := HN.out; rwa [List.take_length] at h
      go_wp2_with fail
      go_ret
      exact ⟨ret_bool HR.out.symm, rfl⟩
    · have hk : k < l.length := by omega
      have hkI : (k : Int) < (l.length : Int) := by omega
      obtain ⟨b, o, rfl, c0⟩ := ins_cell HP.out k hk
      obtain ⟨h1, h2⟩ := all_step _ l k hk HN.out
      obtain ⟨x, hx⟩ : ∃ x, l[k] = x := ⟨_, rfl⟩
      rw [hx] at c0 h1 h2
      have H1 := Lib.hid h1
      have H2 : Hid ((!wordB x || hasB m x) = false → withinP l m = false) := h2
      have HWD := Lib.hid (rword_c ⟨x.toArray⟩ wr)
      rw [show (⟨x.toArray⟩ : ByteArray).data.toList = x from rfl] at HWD
      have HHS := Lib.hid (HH.out x)
      clear h1 h2 hx
      by_cases hw : wordB x = true
      · rw [hw] at HWD
        by_cases hh : hasB m x = true
        · have HR := Lib.hid (H1.out (by rw [hh, Bool.or_true]))
          rw [hh] at HHS
          clear hw hh H1 H2
          go_wp2_with (first
            | (go_at_call 12; refine HWD.out.mono ?_; rintro e w' ⟨rfl, rfl⟩)
            | (go_at_call 29; refine HHS.out.mono ?_; rintro e w' ⟨rfl, rfl⟩))
          go_roundg g
          case measure => omega
          case rel => exact ⟨k + 1, by omega, by go_num, HR, rfl⟩
        · have HR := Lib.hid (H2.out (by rw [hw, show hasB m x = false by simpa using hh]; rfl))
          rw [show hasB m x = false by simpa using hh] at HHS
          clear hw hh H1 H2
          go_wp2_with (first
            | (go_at_call 12; refine HWD.out.mono ?_; rintro e w' ⟨rfl, rfl⟩)
            | (go_at_call 29; refine HHS.out.mono ?_; rintro e w' ⟨rfl, rfl⟩))
          go_ret
          exact ⟨ret_bool HR.out.symm, rfl⟩
      · have hwf : wordB x = false := by simpa using hw
        have HR := Lib.hid (H1.out (by rw [hwf]; rfl))
        rw [hwf] at HWD
        clear hw hwf H1 H2
        go_wp2_with (go_at_call 12; refine HWD.out.mono ?_; rintro e w' ⟨rfl, rfl⟩)
        go_roundg g
        case measure => omega
        case rel => exact ⟨k + 1, by omega, by go_num, HR, rfl⟩
theorem filter_take (l m : List T) (k : Nat) (h : k < l.length) : (l.take (k + 1)).filter (hasB m) = (l.take k).filter (hasB m) ++ (if hasB m l[k] = true then [l[k]] else []) := by
  rw [List.take_succ_eq_append_getElem h, List.filter_append]
  congr 1
  by_cases hh : hasB m l[k] = true
  · rw [if_pos hh]; simp [hh]
  · rw [if_neg hh]; simp [hh]
set_option maxRecDepth 100000 in
set_option maxHeartbeats 4000000 in
theorem rmeet_c (P : Option Addr) (C : Nat) (l : List T) (Q : Option Addr) (D : Nat) (m : List T) (w : World) (hp : InS w P l) (hq : InS w Q m) (hl : l.length ≤ 4194304) (hm : m.length ≤ 4194304) :
    Calls Tryd.prog 24 #[.slice P l.length C, .slice Q m.length D] w fun e w' => RowA w w' (meetP l m) e := by
  have HP := Lib.hid hp
  have HQ := Lib.hid hq
  obtain ⟨i0, hi0, hz0, hz1, hz2⟩ := info_parts infoStr
  clear hp hq
  go_enter Tryd.func24, Tryd.ntmps24
  go_wp2_with fail
  go_loopg [5, 6] l.length (fun g s5 s6 wx => ∃ k : Nat, k + g = l.length ∧ s6 = .int .i64 k ∧ ∃ out, Hid ((l.take k).filter (hasB m) = out) ∧ Hid (wx.ownsRow w.heap.size 9 1 s5 out.length (cells senc out)) ∧ Below w.heap.size w wx)
  case atStart => exact ⟨0, by omega, rfl, [], rfl, World.ownsRow_nil _ _ _ _, Below.refl _ _⟩
  case round =>
    obtain ⟨k, hkg, rfl, out, HO, HOW, hbx⟩ := hrel
    have HBX := Lib.hid hbx
    have hol : out.length ≤ 4194304 := by
      have h := List.length_filter_le (hasB m) (l.take k)
      rw [HO.out, List.length_take] at h
      omega
    rcases gk with _ | g
    · obtain rfl : k = l.length := by omega
      have HR : Hid (l.filter (hasB m) = out) := by have h := HO.out; rwa [List.take_length] at h
      obtain ⟨p, co, hv, hco, hno, hin⟩ := own_g senc_len (by decide) HOW.out
      subst hv
      have HS := Lib.hid (rset_c p co out wr hin (by omega))
      clear hin hbx
      go_wp2_with fail
      refine HS.out.mono ?_
      rintro e w2 ⟨v, rfl, hown, hb2⟩
      go_wp2_with fail
      go_ret
      refine ⟨v, rfl, ?_, bnext HBX.out hb2⟩
      unfold meetP
      rw [HR.out]
      exact hown.mono HBX.out.size
    · have hk : k < l.length := by omega
      have hkI : (k : Int) < (l.length : Int) := by omega
      obtain ⟨b, o, rfl, c0⟩ := ins_cell (ins_below HP.out hbx) k hk
      have HST := Lib.hid (filter_take l m k hk)
      rw [HO.out] at HST
      obtain ⟨x, hx⟩ : ∃ x, l[k] = x := ⟨_, rfl⟩
      rw [hx] at c0 HST
      have HHS := Lib.hid (rhas_c Q D m x wr (ins_below HQ.out hbx) (by omega))
      clear hx hbx
      by_cases hh : hasB m x = true
      · have HSK : Hid ((l.take (k + 1)).filter (hasB m) = out ++ [x]) := by show _ = _; rw [HST.out, if_pos hh]
        rw [hh] at HHS
        clear hh HST
        go_wp2_with (first
          | (go_at_call 29; refine HHS.out.mono ?_; rintro e w' ⟨rfl, rfl⟩)
          | (at_builtin; refine wpList_append_g senc_len (by decide) senc_one rfl (.tmp 19) (.tmp 24) 24 9 rfl Tryd.underlying24 hi0 hz0 hz1 hz2 rfl w.heap.size _ out.length _ rfl (HOW.out.alloc _) (some ⟨wr.heap.size, 0, none⟩) 1 1 [x] rfl (ins_one wr x _) rfl (fun h => by cases h) (by unfold maxLen; omega) (by omega) (by have := HBX.out.size; simp; omega) ?_; intro v3 w3 hown3 hgrow3; have hb3 := (HBX.out.alloc HBX.out.size _).grown hgrow3 (by have := HBX.out.size; simp; omega) (fun k hk => (HOW.out.lt k hk).1); have HO3 := Lib.hid hown3; have HB3 := Lib.hid hb3; clear hown3 hgrow3 hb3))
        go_roundg g
        case measure => omega
        case rel =>
          refine ⟨k + 1, by omega, by go_num, out ++ [x], HSK, ?_, HB3.out⟩
          show w3.ownsRow _ _ _ _ _ _
          rw [cells_append, List.length_append]
          exact HO3.out
      · have HSK : Hid ((l.take (k + 1)).filter (hasB m) = out) := by show _ = _; rw [HST.out, if_neg hh, List.append_nil]
        rw [show hasB m x = false by simpa using hh] at HHS
        clear hh HST
        go_wp2_with (go_at_call 29; refine HHS.out.mono ?_; rintro e w' ⟨rfl, rfl⟩)
        go_roundg g
        case measure => omega
        case rel => exact ⟨k + 1, by omega, by go_num, out, HSK, HOW, HBX.out⟩
set_option maxHeartbeats 400000 in
theorem few_c (P : Option Addr) (C : Nat) (l : List T) (w : World) (hp : InS w P l) (hC : l.length ≤ C) :
    Calls Tryd.prog 13 #[.slice P l.length C] w fun e w' => e = .returned (.slice P (l.take 300).length C) ∧ w = w' := by
  have HT : Hid ((l.take 300).length = if 300 < l.length then 300 else l.length) := by show _ = _; rw [List.length_take]; split <;> omega
  by_cases h3 : 300 < l.length
  · obtain ⟨b, o, rfl, _⟩ := ins_cell hp 0 (by omega)
    rw [HT.out, if_pos h3]
    have i3 : (300 : Int) < (l.length : Int) := by omega
    have i4 : (300 : Int) ≤ (C : Int) := by omega
    clear hp
    go_enter Tryd.func13, Tryd.ntmps13
    go_wp2_with fail
    go_ret
    exact ⟨rfl, rfl⟩
  · rw [HT.out, if_neg h3]
    have i3 : ¬ (300 : Int) < (l.length : Int) := by omega
    clear hp
    go_enter Tryd.func13, Tryd.ntmps13
    go_wp2_with fail
    go_ret
    exact ⟨rfl, rfl⟩
end Go.Proofs.YtcklbbbplbboaaaDoor.scp
