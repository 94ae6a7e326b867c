/- The contract of the developers' Parse. Texts of any length. -/
import Derived.Test.YtcklbbbplbboaaaDoorScq7
namespace Go.Proofs.YtcklbbbplbboaaaDoor.scp
open Go.RowKit
open Go.Proofs.YtcklbbbplbboaaaDoor.oct Go.Proofs.YtcklbbbplbboaaaDoor.ref Go.Proofs.YtcklbbbplbboaaaDoor.rows Go.Proofs.YtcklbbbplbboaaaDoor.rowg

theorem parse_set {t : T} (h : ¬ 16384 < t.length) (h0 : t ≠ []) (hc : (cutP t).all wordB = true) : parseP t = if 32 < (setP (cutP t)).length then (2, []) else (0, setP (cutP t)) := by
  unfold parseP
  rw [if_neg h, if_neg h0, hc, if_pos rfl, once_set (cutP t) (fun x hx => List.all_eq_true.1 hc x hx)]
theorem words_step {l : List T} {k : Nat} (hk : k < l.length) (h : (l.take k).all wordB = true) : (wordB l[k] = true → (l.take (k + 1)).all wordB = true) ∧ (wordB l[k] = false → l.all wordB = false) := by
  constructor
  · intro h2
    rw [List.take_succ_eq_append_getElem hk, List.all_append, h, List.all_cons, h2]
    rfl
  · intro h2
    cases h3 : l.all wordB with
    | false => rfl
    | true =>
      rw [List.all_eq_true] at h3
      rw [h3 _ (List.getElem_mem hk)] at h2
      cases h2
set_option maxRecDepth 100000 in
set_option maxHeartbeats 8000000 in
theorem parse_c (s : ByteArray) (w : World) :
    Calls Tryd.prog 19 #[.string s] w fun e w' => ParA w w' (parseP s.data.toList) e := by
  have HSL : Hid (s.data.toList.length = s.size) := by show _ = _; rw [Array.length_toList]; rfl
  by_cases hlong : 16384 < s.size
  · have HR := Lib.hid (parse_long (t := s.data.toList) (by rw [HSL.out]; exact hlong))
    have i1 : (s.size : Int) > 16384 := by omega
    clear hlong
    go_enter Tryd.func19, Tryd.ntmps19
    go_wp2_with fail
    go_ret2
    exact ⟨_, by rw [HR.out]; rfl, by rw [HR.out]; exact World.ownsRow_nil _ _ _ _, Below.refl _ _⟩
  · by_cases h0 : s.size = 0
    · have hem : s.data.toList = [] := List.length_eq_zero_iff.1 (by rw [HSL.out]; exact h0)
      have HR : Hid (parseP s.data.toList = (0, [])) := by show _ = _; rw [hem]; rfl
      have he : s.toList.isEmpty = true := by rw [Lib.toList_data, hem]; rfl
      have i1 : ¬ ((s.size : Int) > 16384) := by omega
      clear hlong h0 hem
      go_enter Tryd.func19, Tryd.ntmps19
      go_wp2_with fail
      go_ret2
      exact ⟨_, by rw [HR.out]; rfl, by rw [HR.out]; exact World.ownsRow_nil _ _ _ _, Below.refl _ _⟩
    · have hn : ¬ 16384 < s.data.toList.length := by rw [HSL.out]; exact hlong
      have hne : s.data.toList ≠ [] := fun h => by
        have h2 := HSL.out
        rw [h] at h2
        exact h0 h2.symm
      have he : s.toList.isEmpty = false := by rw [Lib.toList_data]; cases h : s.data.toList with | nil => exact absurd h hne | cons x l => rfl
      have i1 : ¬ ((s.size : Int) > 16384) := by omega
      have HBAD := Lib.hid (fun h => parse_bad hn hne h)
      have HSET := Lib.hid (fun h => parse_set hn hne h)
      have HSP := Lib.hid (split_c s w (by omega))
      obtain ⟨r, hr⟩ : ∃ r, parseP s.data.toList = r := ⟨_, rfl⟩
      obtain ⟨l, hl⟩ : ∃ l, cutP s.data.toList = l := ⟨_, rfl⟩
      rw [hr, hl] at HBAD HSET
      rw [hl] at HSP
      rw [hr]
      clear hlong h0 hn hne hr hl
      go_enter Tryd.func19, Tryd.ntmps19
      go_wp2_with fail
      refine HSP.out.mono ?_
      rintro e w1 ⟨p, c, rfl, hgl, hb1⟩
      have hfew : l.length ≤ 4194304 := hgl.few
      have HGL := Lib.hid hgl
      have HB1 := Lib.hid hb1
      clear hgl hb1 HSP he i1
      go_wp2_with fail
      go_loopg [6, 17] l.length (fun g _ s17 wx => ∃ k : Nat, k + g = l.length ∧ s17 = .int .i64 k ∧ Hid ((l.take k).all wordB = true) ∧ wx = w1)
      case atStart => exact ⟨0, by omega, rfl, rfl, rfl⟩
      case round =>
        obtain ⟨k, hkg, rfl, HA, rfl⟩ := hrel
        rcases gk with _ | g
        · obtain rfl : k = l.length := by omega
          have hall : l.all wordB = true := by have h := HA.out; rwa [List.take_length] at h
          have HS := Lib.hid (HSET.out hall)
          have HG := Lib.hid (gather1_c (p, c, l) wr HGL.out)
          dsimp only at HG
          clear hall
          go_wp2_with fail
          refine HG.out.mono ?_
          rintro e w2 ⟨b, rfl, hset, hb2⟩
          have HB2 := Lib.hid (bnext HB1.out hb2)
          have HSR := Lib.hid (sorted_c b l w2 hset hfew)
          obtain ⟨n, D, hom, hst⟩ := hset
          have hsz := (set_keys hom hst).2
          have HOM := Lib.hid hom
          have hsl := setP_len l
          obtain ⟨q, hq⟩ : ∃ q, setP l = q := ⟨_, rfl⟩
          rw [hq] at HS HSR hsz hsl
          have HSZ := Lib.hid hsz
          clear hom hst hsz hb2 HG hq
          by_cases hm : 32 < q.length
          · have HR : Hid (r = (2, [])) := by show _ = _; rw [HS.out, if_pos hm]
            have i1 : ((Maps.size D : Nat) : Int) > 32 := by rw [HSZ.out]; omega
            clear hm HS HSZ hsl
            go_wp2_with (at_len; refine wpList_len_own _ rfl _ 42 rfl 9 48 Tryd.underlying42 unitElem b n _ rfl HOM.out ?_)
            go_ret2
            exact ⟨_, by rw [HR.out]; rfl, by rw [HR.out]; exact World.ownsRow_nil _ _ _ _, HB2.out⟩
          · have HR : Hid (r = (0, q)) := by show _ = _; rw [HS.out, if_neg hm]
            have i1 : ¬ (((Maps.size D : Nat) : Int) > 32) := by rw [HSZ.out]; omega
            clear hm HS HSZ hsl
            go_wp2_with (at_len; refine wpList_len_own _ rfl _ 42 rfl 9 48 Tryd.underlying42 unitElem b n _ rfl HOM.out ?_)
            refine HSR.out.mono ?_
            rintro e w3 ⟨v, rfl, hown, hb3⟩
            go_wp2_with fail
            go_ret2
            exact ⟨v, by rw [HR.out]; rfl, by rw [HR.out]; exact hown.mono HB2.out.size, bnext HB2.out hb3⟩
        · have hk : k < l.length := by omega
          have hkI : (k : Int) < (l.length : Int) := by omega
          obtain ⟨b, o, hpe, c0⟩ := ins_cell HGL.out.row k hk
          dsimp only at hpe c0
          subst hpe
          obtain ⟨h1, h2⟩ := words_step hk HA.out
          obtain ⟨y, hy⟩ : ∃ y, l[k] = y := ⟨_, rfl⟩
          rw [hy] at c0 h1 h2
          have H1 := Lib.hid h1
          have H2 := Lib.hid (fun h => HBAD.out (h2 h))
          have HW := Lib.hid (wordS_c y wr)
          clear hy h1 h2
          by_cases hw : wordB y = true
          · have HA2 := Lib.hid (H1.out hw)
            rw [hw] at HW
            clear H1 H2 hw
            go_wp2_with (go_at_call 11; refine HW.out.mono ?_; rintro e w' ⟨rfl, rfl⟩)
            go_roundg g
            case measure => omega
            case rel => exact ⟨k + 1, by omega, by go_num, HA2, rfl⟩
          · have hwf : wordB y = false := by simpa using hw
            have HR := Lib.hid (H2.out hwf)
            rw [hwf] at HW
            clear H1 H2 hw hwf
            go_wp2_with (go_at_call 11; refine HW.out.mono ?_; rintro e w' ⟨rfl, rfl⟩)
            go_ret2
            exact ⟨_, by rw [HR.out]; rfl, by rw [HR.out]; exact World.ownsRow_nil _ _ _ _, HB1.out⟩
theorem the_sapi : SApi (fun _ => True) where
  tbelow := fun _ _ _ _ => trivial
  word := fun s w _ _ => (word_c s w).mono fun _ _ ⟨h1, h2⟩ => ⟨h1, by subst h2; exact Below.refl _ _⟩
  set := fun x w _ h => set_c x w h
  print := fun x w _ h => print_c x w h
  parse := fun s w _ _ => parse_c s w
  within := fun x y w _ h1 h2 => within_c x y w h1 h2
  meet := fun x y w _ h1 h2 => meet_c x y w h1 h2
  both := fun P C ls w _ h1 h2 _ _ h5 h6 => both_c P C ls w h1 h2 h5 h6
end Go.Proofs.YtcklbbbplbboaaaDoor.scp
