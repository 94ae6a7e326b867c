/- The contract of the reference's Parse. Every text that has a size. -/
import Derived.Test.YtcklbbbplbboaaaDoorScp6
namespace Go.Proofs.YtcklbbbplbboaaaDoor.scp
open Go.RowKit
open Go.Proofs.YtcklbbbplbboaaaDoor.oct Go.Proofs.YtcklbbbplbboaaaDoor.ref Go.Proofs.YtcklbbbplbboaaaDoor.rows Go.Proofs.YtcklbbbplbboaaaDoor.rowg

theorem text_extract (s : ByteArray) (a b : Nat) : (s.extract a b).data.toList = (s.data.toList.drop a).take (b - a) := by
  rw [Lib.extract_data]
theorem cut_blank_at (t : T) (f k : Nat) (hf : f ≤ k) (hk : k < t.length) (hc : t[k] = 32) (hn : (32 : UInt8) ∉ (t.drop f).take (k - f)) : cutP (t.drop f) = (t.drop f).take (k - f) :: cutP (t.drop (k + 1)) := by
  have e : t.drop f = (t.drop f).take (k - f) ++ 32 :: t.drop (k + 1) := by
    conv => lhs; rw [← List.take_append_drop (k - f) (t.drop f)]
    rw [List.drop_drop, show f + (k - f) = k by omega, List.drop_eq_getElem_cons hk, hc]
  have h := cutP_app _ (32 :: t.drop (k + 1)) hn [] _ (cutP_blank _)
  rw [← e, List.append_nil] at h
  exact h
theorem cut_end (t : T) (f : Nat) (hn : (32 : UInt8) ∉ (t.drop f).take (t.length - f)) : cutP (t.drop f) = [(t.drop f).take (t.length - f)] := by
  have e : (t.drop f).take (t.length - f) = t.drop f := List.take_of_length_le (by rw [List.length_drop]; omega)
  rw [e] at hn ⊢
  have h := cutP_app (t.drop f) [] hn [] [] rfl
  rwa [List.append_nil] at h
theorem blank_step (t : T) (f k : Nat) (hf : f ≤ k) (hk : k < t.length) (hc : t[k] ≠ 32) (hn : (32 : UInt8) ∉ (t.drop f).take (k - f)) : (32 : UInt8) ∉ (t.drop f).take (k + 1 - f) := by
  have hl : k - f < (t.drop f).length := by rw [List.length_drop]; omega
  rw [show k + 1 - f = k - f + 1 by omega, List.take_succ_eq_append_getElem hl, List.mem_append, List.mem_singleton, List.getElem_drop]
  rintro (h | h)
  · exact hn h
  · refine hc ?_
    rw [h]
    congr 1; omega
theorem onceP_snoc (d : List T) (x : T) : onceP (d ++ [x]) = if hasB (onceP d) x = true then onceP d else onceP d ++ [x] := by
  unfold onceP
  rw [List.foldl_append]
  rfl
theorem once_le (d : List T) : (onceP d).length ≤ d.length := len_sub _ _ (onceP_spec d).1 fun x hx => ((onceP_spec d).2 x).1 hx
theorem cut_count (t : T) : (cutP t).length ≤ t.length + 1 := by
  rw [← cutP_len]
  induction cutP t with
  | nil => simp
  | cons x l ih => rw [List.map_cons, List.sum_cons, List.length_cons]; omega
/-- what Parse answers -/
def ParA (w w' : World) (r : Nat × List T) (e : Ending) : Prop := ∃ v, e = .returned (.tuple #[v, .int .i64 (r.1 : Nat)]) ∧ w'.ownsRow w.heap.size 9 1 v r.2.length (cells senc r.2) ∧ Below w.heap.size w w'
/-- how far the cutting is: at k, the word in hand begins at f, d is done -/
structure CutI (t : T) (k f : Nat) (d : List T) : Prop where
  inn : k ≤ t.length → f ≤ k ∧ cutP t = d ++ cutP (t.drop f) ∧ (32 : UInt8) ∉ (t.drop f).take (k - f)
  out : k = t.length + 1 → cutP t = d
  ok : d.all wordB = true
  len : d.length ≤ t.length + 1
theorem cuti_start (t : T) : CutI t 0 0 [] := ⟨fun _ => ⟨Nat.le_refl _, rfl, by simp⟩, fun h => by omega, rfl, by simp⟩
theorem cuti_sign {t : T} {k f : Nat} {d : List T} (h : CutI t k f d) (hk : k < t.length) (hc : t[k] ≠ 32) : CutI t (k + 1) f d := by
  obtain ⟨h1, h2, h3⟩ := h.inn (by omega)
  exact ⟨fun _ => ⟨by omega, h2, blank_step t f k h1 hk hc h3⟩, fun e => by omega, h.ok, h.len⟩
theorem cuti_seg {t : T} {k f : Nat} {d : List T} (h : CutI t k f d) (hk : k ≤ t.length) (hc : ∀ h : k < t.length, t[k] = 32) : cutP t = d ++ (t.drop f).take (k - f) :: (if k < t.length then cutP (t.drop (k + 1)) else []) := by
  obtain ⟨h1, h2, h3⟩ := h.inn hk
  by_cases hlt : k < t.length
  · rw [if_pos hlt, h2, cut_blank_at t f k h1 hlt (hc hlt) h3]
  · obtain rfl : k = t.length := by omega
    rw [if_neg hlt, h2, cut_end t f h3]
theorem cuti_word {t : T} {k f : Nat} {d : List T} (h : CutI t k f d) (hk : k ≤ t.length) (hc : ∀ h : k < t.length, t[k] = 32) (hw : wordB ((t.drop f).take (k - f)) = true) : CutI t (k + 1) (k + 1) (d ++ [(t.drop f).take (k - f)]) := by
  have e := cuti_seg h hk hc
  refine ⟨fun h2 => ⟨Nat.le_refl _, ?_, by simp⟩, fun h2 => ?_, ?_, ?_⟩
  · rw [e, if_pos (by omega)]; simp
  · rw [e, if_neg (by omega)]
  · rw [List.all_append, h.ok, List.all_cons, hw]; rfl
  · have h2 := cut_count t
    rw [e, List.length_append, List.length_cons] at h2
    rw [List.length_append, List.length_singleton]; omega
theorem cuti_bad {t : T} {k f : Nat} {d : List T} (h : CutI t k f d) (hk : k ≤ t.length) (hc : ∀ h : k < t.length, t[k] = 32) (hw : wordB ((t.drop f).take (k - f)) = false) : (cutP t).all wordB = false := by
  rw [cuti_seg h hk hc, List.all_append, List.all_cons, hw, Bool.false_and, Bool.and_false]
theorem parse_long {t : T} (h : 16384 < t.length) : parseP t = (2, []) := by unfold parseP; rw [if_pos h]
theorem parse_bad {t : T} (h : ¬ 16384 < t.length) (h0 : t ≠ []) (hc : (cutP t).all wordB = false) : parseP t = (3, []) := by
  unfold parseP; rw [if_neg h, if_neg h0, hc]; rfl
theorem parse_many {t : T} {d : List T} (h : ¬ 16384 < t.length) (h0 : t ≠ []) (hd : cutP t = d) (hc : d.all wordB = true) : parseP t = if 32 < (onceP d).length then (2, []) else (0, setP (onceP d)) := by
  unfold parseP
  rw [if_neg h, if_neg h0, hd, hc, if_pos rfl]
  rw [show setP (onceP d) = setP d from setP_eq fun y _ => (onceP_spec d).2 y]
set_option maxRecDepth 100000 in
set_option maxHeartbeats 8000000 in
theorem rparse_c (s : ByteArray) (w : World) :
    Calls Tryd.prog 20 #[.string s] w fun e w' => ParA w w' (parseP s.data.toList) e := by
  have HSL : Hid (s.data.toList.length = s.size) := by show _ = _; rw [Array.length_toList]; rfl
  obtain ⟨i0, hi0, hz0, hz1, hz2⟩ := info_parts infoStr
  by_cases hlong : 16384 < s.size
  · have HR := Lib.hid (parse_long (t := s.data.toList) (by rw [HSL.out]; exact hlong))
    have i1 : (s.size : Int) > 16384 := by omega
    clear hlong
    go_enter Tryd.func20, Tryd.ntmps20
    go_wp2_with fail
    go_ret2
    exact ⟨_, by rw [HR.out]; rfl, by rw [HR.out]; exact World.ownsRow_nil _ _ _ _, Below.refl _ _⟩
  · by_cases h0 : s.size = 0
    · have hem : s.data.toList = [] := List.length_eq_zero_iff.1 (by rw [HSL.out]; exact h0)
      have HR : Hid (parseP s.data.toList = (0, [])) := by show _ = _; rw [hem]; rfl
      have he : s.toList.isEmpty = true := by rw [Lib.toList_data, hem]; rfl
      have i1 : ¬ ((s.size : Int) > 16384) := by omega
      clear hlong h0 hem
      go_enter Tryd.func20, Tryd.ntmps20
      go_wp2_with fail
      go_ret2
      exact ⟨_, by rw [HR.out]; rfl, by rw [HR.out]; exact World.ownsRow_nil _ _ _ _, Below.refl _ _⟩
    · have hn : ¬ 16384 < s.data.toList.length := by rw [HSL.out]; exact hlong
      have hne : s.data.toList ≠ [] := fun h => by
        have h2 := HSL.out
        rw [h] at h2
        exact h0 h2.symm
      have he : s.toList.isEmpty = false := by rw [Lib.toList_data]; cases h : s.data.toList with | nil => exact absurd h hne | cons x l => rfl
      have i1 : ¬ ((s.size : Int) > 16384) := by omega
      have HN := Lib.hid hn
      have HNE := Lib.hid hne
      have hsz : s.size ≤ 16384 := by omega
      clear hlong h0 hn hne
      go_enter Tryd.func20, Tryd.ntmps20
      go_wp2_with fail
      go_loopg [4, 5, 6] (s.size + 1) (fun g s4 s5 s6 wx => ∃ (k f : Nat) (d : List T), k + g = s.size + 1 ∧ s5 = .int .i64 f ∧ s6 = .int .i64 k ∧ Hid (CutI s.data.toList k f d) ∧ Hid (wx.ownsRow w.heap.size 9 1 s4 (onceP d).length (cells senc (onceP d))) ∧ Below w.heap.size w wx)
      case atStart => exact ⟨0, 0, [], by omega, rfl, rfl, cuti_start _, World.ownsRow_nil _ _ _ _, Below.refl _ _⟩
      case round =>
        obtain ⟨k, f, d, hkg, rfl, rfl, HC, HOW, hbx⟩ := hrel
        have HBX := Lib.hid hbx
        have hdl : (onceP d).length ≤ 16385 := by
          have h1 := once_le d
          have h2 := HC.out.len
          rw [HSL.out] at h2
          omega
        obtain ⟨p, co, hv, hco, hno, hin⟩ := own_g senc_len (by decide) HOW.out
        subst hv
        have HIN := Lib.hid hin
        clear hin hbx
        rcases gk with _ | g
        · obtain rfl : k = s.size + 1 := by omega
          have HR := Lib.hid (parse_many HN.out HNE.out (HC.out.out (by rw [HSL.out])) HC.out.ok)
          have ik : ¬ (((s.size + 1 : Nat) : Int) ≤ (s.size : Int)) := by omega
          by_cases hm : 32 < (onceP d).length
          · rw [if_pos hm] at HR
            have im : ((onceP d).length : Int) > 32 := by omega
            go_wp2_with fail
            go_ret2
            exact ⟨_, by rw [HR.out]; rfl, by rw [HR.out]; exact World.ownsRow_nil _ _ _ _, HBX.out⟩
          · rw [if_neg hm] at HR
            have im : ¬ (((onceP d).length : Int) > 32) := by omega
            have HS := Lib.hid (rset_c p co (onceP d) wr HIN.out (by omega))
            go_wp2_with fail
            refine HS.out.mono ?_
            rintro e w2 ⟨v, rfl, hown, hb2⟩
            go_wp2_with fail
            go_ret2
            exact ⟨v, by rw [HR.out]; rfl, by rw [HR.out]; exact hown.mono HBX.out.size, bnext HBX.out hb2⟩
        · have hk : k ≤ s.size := by omega
          have hkI : (k : Int) ≤ (s.size : Int) := by omega
          have hfk : f ≤ k := (HC.out.inn (by rw [HSL.out]; exact hk)).1
          have hfI : (f : Int) ≤ (k : Int) := by omega
          obtain ⟨X, hX⟩ : ∃ X, (s.data.toList.drop f).take (k - f) = X := ⟨_, rfl⟩
          have HE : Hid ((⟨X.toArray⟩ : ByteArray) = s.extract f k) := by
            show _ = _
            rw [← hX, ← text_extract]
          have HWD : Hid (Calls Tryd.prog 12 #[.string (s.extract f k)] wr fun e w' => e = .returned (.bool (wordB X)) ∧ wr = w') := by
            have h := rword_c (s.extract f k) wr
            rw [text_extract, hX] at h
            exact h
          have HHS : Hid (Calls Tryd.prog 29 #[.slice p (onceP d).length co, .string (s.extract f k)] wr fun e w' => e = .returned (.bool (hasB (onceP d) X)) ∧ wr = w') := by
            have h := rhas_c p co (onceP d) X wr HIN.out (by omega)
            unfold tx at h
            rw [HE.out] at h
            exact h
          have HI1 : Hid (InS (wr.alloc (.cells #[.string (s.extract f k)] 9)) (some ⟨wr.heap.size, 0, none⟩) [X]) := by
            have h := ins_one wr X 9
            rw [HE.out] at h
            exact h
          have HW1 : Hid ((∀ h : k < s.data.toList.length, s.data.toList[k] = 32) → wordB X = true → CutI s.data.toList (k + 1) (k + 1) (d ++ [X])) := fun hc hw => by
            have h := cuti_word HC.out (by rw [HSL.out]; exact hk) hc (by rw [hX]; exact hw)
            rwa [hX] at h
          have HW0 : Hid ((∀ h : k < s.data.toList.length, s.data.toList[k] = 32) → wordB X = false → parseP s.data.toList = (3, [])) := fun hc hw =>
            parse_bad HN.out HNE.out (cuti_bad HC.out (by rw [HSL.out]; exact hk) hc (by rw [hX]; exact hw))
          have HSN := Lib.hid (onceP_snoc d X)
          clear hX HE HIN
          by_cases hlt : k < s.size
          · have hlI : (k : Int) < (s.size : Int) := by omega
            obtain ⟨c, hc⟩ : ∃ c, s[k] = c := ⟨_, rfl⟩
            have hct : s.data.toList[k]'(by rw [HSL.out]; exact hlt) = c := by rw [← hc]; rfl
            have hcc : (s[k].toNat : Int) = (c.toNat : Int) := by rw [hc]
            clear hc
            by_cases h32 : c = 32
            · have hb : ((c.toNat : Int) != 32) = false := by rw [h32]; rfl
              have HC32 : Hid (∀ h : k < s.data.toList.length, s.data.toList[k] = 32) := fun h => by rw [hct, h32]
              clear h32 hct
              by_cases hw : wordB X = true
              · have HCW := Lib.hid (HW1.out HC32.out hw)
                rw [hw] at HWD
                by_cases hh : hasB (onceP d) X = true
                · have HSK : Hid (onceP (d ++ [X]) = onceP d) := by show _ = _; rw [HSN.out, if_pos hh]
                  rw [hh] at HHS
                  clear hw hh HSN HW1 HW0
                  go_wp2_with (first
                    | (go_at_call 12; refine HWD.out.mono ?_; rintro e w' ⟨rfl, rfl⟩)
                    | (go_at_call 29; refine HHS.out.mono ?_; rintro e w' ⟨rfl, rfl⟩))
                  go_roundg g
                  case measure => omega
                  case rel => exact ⟨k + 1, k + 1, d ++ [X], by omega, by go_num, by go_num, HCW, by rw [HSK.out]; exact HOW, HBX.out⟩
                · have HSK : Hid (onceP (d ++ [X]) = onceP d ++ [X]) := by show _ = _; rw [HSN.out, if_neg hh]
                  rw [show hasB (onceP d) X = false by simpa using hh] at HHS
                  clear hw hh HSN HW1 HW0
                  go_wp2_with (first
                    | (go_at_call 12; refine HWD.out.mono ?_; rintro e w' ⟨rfl, rfl⟩)
                    | (go_at_call 29; refine HHS.out.mono ?_; rintro e w' ⟨rfl, rfl⟩)
                    | (at_builtin; refine wpList_append_g senc_len (by decide) senc_one rfl (.tmp 41) (.tmp 46) 24 9 rfl Tryd.underlying24 hi0 hz0 hz1 hz2 rfl w.heap.size _ (onceP d).length _ rfl (HOW.out.alloc _) (some ⟨wr.heap.size, 0, none⟩) 1 1 [X] rfl HI1.out rfl (fun h => by cases h) (by unfold maxLen; omega) (by omega) (by have := HBX.out.size; simp; omega) ?_; intro v3 w3 hown3 hgrow3; have hb3 := (HBX.out.alloc HBX.out.size _).grown hgrow3 (by have := HBX.out.size; simp; omega) (fun k hk => (HOW.out.lt k hk).1); have HO3 := Lib.hid hown3; have HB3 := Lib.hid hb3; clear hown3 hgrow3 hb3))
                  go_roundg g
                  case measure => omega
                  case rel =>
                    refine ⟨k + 1, k + 1, d ++ [X], by omega, by go_num, by go_num, HCW, ?_, HB3.out⟩
                    show w3.ownsRow _ _ _ _ _ _
                    rw [HSK.out, cells_append, List.length_append]
                    exact HO3.out
              · have hwf : wordB X = false := by simpa using hw
                have HR := Lib.hid (HW0.out HC32.out hwf)
                rw [hwf] at HWD
                clear hw hwf HSN HW1 HW0
                go_wp2_with (go_at_call 12; refine HWD.out.mono ?_; rintro e w' ⟨rfl, rfl⟩)
                go_ret2
                exact ⟨_, by rw [HR.out]; rfl, by rw [HR.out]; exact World.ownsRow_nil _ _ _ _, HBX.out⟩
            · have hb : ((c.toNat : Int) != 32) = true := by
                rw [bne_iff_ne]
                intro h
                exact h32 (UInt8.toNat_inj.1 (by rw [show (32 : UInt8).toNat = 32 from rfl]; omega))
              have HCS := Lib.hid (cuti_sign HC.out (by rw [HSL.out]; exact hlt) (by rw [hct]; exact h32))
              clear h32 hct
              go_wp2_with fail
              go_roundg g
              case measure => omega
              case rel => exact ⟨k + 1, f, d, by omega, rfl, by go_num, HCS, HOW, HBX.out⟩
          · have hlI : ¬ ((k : Int) < (s.size : Int)) := by omega
            have HC32 : Hid (∀ h : k < s.data.toList.length, s.data.toList[k] = 32) := fun h => by rw [HSL.out] at h; omega
            by_cases hw : wordB X = true
            · have HCW := Lib.hid (HW1.out HC32.out hw)
              rw [hw] at HWD
              by_cases hh : hasB (onceP d) X = true
              · have HSK : Hid (onceP (d ++ [X]) = onceP d) := by show _ = _; rw [HSN.out, if_pos hh]
                rw [hh] at HHS
                clear hw hh HSN HW1 HW0
                go_wp2_with (first
                  | (go_at_call 12; refine HWD.out.mono ?_; rintro e w' ⟨rfl, rfl⟩)
                  | (go_at_call 29; refine HHS.out.mono ?_; rintro e w' ⟨rfl, rfl⟩))
                go_roundg g
                case measure => omega
                case rel => exact ⟨k + 1, k + 1, d ++ [X], by omega, by go_num, by go_num, HCW, by rw [HSK.out]; exact HOW, HBX.out⟩
              · have HSK : Hid (onceP (d ++ [X]) = onceP d ++ [X]) := by show _ = _; rw [HSN.out, if_neg hh]
                rw [show hasB (onceP d) X = false by simpa using hh] at HHS
                clear hw hh HSN HW1 HW0
                go_wp2_with (first
                  | (go_at_call 12; refine HWD.out.mono ?_; rintro e w' ⟨rfl, rfl⟩)
                  | (go_at_call 29; refine HHS.out.mono ?_; rintro e w' ⟨rfl, rfl⟩)
                  | (at_builtin; refine wpList_append_g senc_len (by decide) senc_one rfl (.tmp 41) (.tmp 46) 24 9 rfl Tryd.underlying24 hi0 hz0 hz1 hz2 rfl w.heap.size _ (onceP d).length _ rfl (HOW.out.alloc _) (some ⟨wr.heap.size, 0, none⟩) 1 1 [X] rfl HI1.out rfl (fun h => by cases h) (by unfold maxLen; omega) (by omega) (by have := HBX.out.size; simp; omega) ?_; intro v3 w3 hown3 hgrow3; have hb3 := (HBX.out.alloc HBX.out.size _).grown hgrow3 (by have := HBX.out.size; simp; omega) (fun k hk => (HOW.out.lt k hk).1); have HO3 := Lib.hid hown3; have HB3 := Lib.hid hb3; clear hown3 hgrow3 hb3))
                go_roundg g
                case measure => omega
                case rel =>
                  refine ⟨k + 1, k + 1, d ++ [X], by omega, by go_num, by go_num, HCW, ?_, HB3.out⟩
                  show w3.ownsRow _ _ _ _ _ _
                  rw [HSK.out, cells_append, List.length_append]
                  exact HO3.out
            · have hwf : wordB X = false := by simpa using hw
              have HR := Lib.hid (HW0.out HC32.out hwf)
              rw [hwf] at HWD
              clear hw hwf HSN HW1 HW0
              go_wp2_with (go_at_call 12; refine HWD.out.mono ?_; rintro e w' ⟨rfl, rfl⟩)
              go_ret2
              exact ⟨_, by rw [HR.out]; rfl, by rw [HR.out]; exact World.ownsRow_nil _ _ _ _, HBX.out⟩
end Go.Proofs.YtcklbbbplbboaaaDoor.scp
