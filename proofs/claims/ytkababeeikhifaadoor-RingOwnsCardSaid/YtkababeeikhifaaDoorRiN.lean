/- The reference's Order. No condition. -/
import Derived.Test.YtkababeeikhifaaDoorRiM
namespace Go.Proofs.YtkababeeikhifaaDoor.rng
open Go.RowKit
open Go.Proofs.YtkababeeikhifaaDoor.oct Go.Proofs.YtkababeeikhifaaDoor.ref Go.Proofs.YtkababeeikhifaaDoor.rows Go.Proofs.YtkababeeikhifaaDoor.rowg Go.Proofs.YtkababeeikhifaaDoor.trn
open Go.Proofs.YtkababeeikhifaaDoor.scp (tx senc senc_len InS ins_below ins_cell lt)

def ordPre (l : List Pn) (p : Nat) : Nat → List Nat
  | 0 => []
  | t + 1 => ordPre l p t ++ (l.filter fun x => decide (p ≤ x.a) == decide (t = 0)).map (·.r)
theorem ordPre_two (l : List Pn) (p : Nat) : ordPre l p 2 = behR l p := by
  unfold behR ordPre ordPre ordPre
  rw [List.map_append, List.nil_append]
  congr 2
  · congr 1; funext x; cases decide (p ≤ x.a) <;> rfl
  · congr 1; funext x; cases decide (p ≤ x.a) <;> rfl
/-- the regions so far -/
structure OutI (w wx : World) (L : List Nat) (v : Value) (n : Nat) : Prop where
  len : (dd L).length = n
  row : wx.ownsRow w.heap.size 3 1 v n (cells ienc (dd L))
  bel : Below w.heap.size w wx
theorem ordPre_le (l : List Pn) (p : Nat) : ∀ t, (ordPre l p t).length ≤ t * l.length
  | 0 => by simp [ordPre]
  | t + 1 => by
    unfold ordPre
    rw [List.length_append, List.length_map, Nat.succ_mul]
    exact Nat.add_le_add (ordPre_le l p t) (List.length_filter_le _ _)
theorem pt_at {w : World} {b : Nat} {l : List Pn} (h : InG pnc 2 w (some ⟨b, 0, none⟩) l) {i : Nat} {x : Pn} (hi : l[i]? = some x) : w.cell? ⟨b, i * 2, none⟩ = some (.int .u64 (x.a : Int)) ∧ w.cell? ⟨b, i * 2 + 1, none⟩ = some (.int .i64 (x.r : Int)) := by
  obtain ⟨h1, rfl⟩ := List.getElem?_eq_some_iff.1 hi
  obtain ⟨b', o, e, hc⟩ := h (by omega)
  cases e
  have c0 := hc i h1 0 (by decide)
  have c1 := hc i h1 1 (by decide)
  rw [Nat.zero_add] at c0 c1
  exact ⟨c0, c1⟩
theorem OutI.below {w wx wy : World} {L : List Nat} {v : Value} {n : Nat} (h : OutI w wx L v n) (hb : Below wx.heap.size wx wy) : OutI w wy L v n := ⟨h.len, own_belowG h.row hb, bnext h.bel hb⟩
set_option maxRecDepth 100000 in
set_option maxHeartbeats 16000000 in
theorem rorder_c (b C : Nat) (l : List Pn) (p : Nat) (w : World) (hp : InG pnc 2 w (some ⟨b, 0, none⟩) l) (hl : l.length ≤ 600) :
    Calls Tryd.prog 16 #[.slice (some ⟨b, 0, none⟩) l.length C, .int .u64 (p : Nat)] w fun e w' => ∃ v, e = .returned v ∧ ∃ n, OutI w w' (behR l p) v n := by
  have HP := Lib.hid hp
  obtain ⟨N, hN⟩ : ∃ N, l.length = N := ⟨_, rfl⟩
  rw [hN] at hl ⊢
  have HL := Lib.hid hN
  clear hp hN
  go_enter Tryd.func16, Tryd.ntmps16
  go_wp2_with fail
  go_loopg [5, 6] 2 (fun g s5 s6 wx => ∃ t q n c, t + g = 2 ∧ s6 = .int .i64 ((t : Nat) : Int) ∧ s5 = .slice q n c ∧ Hid (OutI w wx (ordPre l p t) (.slice q n c) n))
  case atStart => exact ⟨0, none, 0, 0, by omega, rfl, rfl, Lib.hid ⟨rfl, World.ownsRow_nil _ _ _ _, Below.refl _ _⟩⟩
  case round =>
    obtain ⟨t, q, n, c, htg, rfl, rfl, HO⟩ := hrel
    rcases gk with _ | go
    · obtain rfl : t = 2 := by omega
      rw [ordPre_two] at HO
      go_wp2_with fail
      go_ret
      exact ⟨_, rfl, n, HO.out⟩
    · have ht2 : t < 2 := by omega
      have htI : (t : Int) < 2 := by omega
      have j1 : decide ((t : Int) < 2) = true := decide_eq_true htI
      have j2 : decide (t < 2) = true := decide_eq_true ht2
      obtain ⟨f, hf⟩ : ∃ f : Pn → Bool, f = fun x => decide (p ≤ x.a) == decide (t = 0) := ⟨_, rfl⟩
      have HPS : Hid (ordPre l p (t + 1) = ordPre l p t ++ (l.filter f).map (·.r)) := Lib.hid (by rw [hf]; rfl)
      have HPL := Lib.hid (ordPre_le l p t)
      have HF : Hid (∀ x, f x = (decide (p ≤ x.a) == decide (t = 0))) := Lib.hid fun x => by rw [hf]
      clear hf
      go_wp2_with fail
      go_loopg [5, 7] N (fun g s5 s7 wx => ∃ i q n c, i + g = N ∧ s7 = .int .i64 ((i : Nat) : Int) ∧ s5 = .slice q n c ∧ Hid (OutI w wx (ordPre l p t ++ ((l.take i).filter f).map (·.r)) (.slice q n c) n))
      case atStart => exact ⟨0, q, n, c, by omega, rfl, rfl, by rw [List.take_zero, List.filter_nil, List.map_nil, List.append_nil]; exact HO⟩
      case round =>
        clear HO
        obtain ⟨i, q, n, c, hig, rfl, rfl, HO⟩ := hrel
        rcases gk with _ | gm
        · obtain rfl : i = N := by omega
          rw [List.take_of_length_le (by rw [HL.out]; exact Nat.le_refl _), ← HPS.out] at HO
          have k1 : decide ((i : Int) < (i : Int)) = false := by simp
          go_wp2_with fail
          go_roundg go
          case measure => omega
          case rel => exact ⟨t + 1, q, n, c, by omega, by go_num, rfl, HO⟩
        · have hiI : (i : Int) < (N : Int) := by omega
          have hiN : i < l.length := by rw [HL.out]; omega
          obtain ⟨x, hx⟩ : ∃ x, l[i] = x := ⟨_, rfl⟩
          have hxq : l[i]? = some x := by rw [List.getElem?_eq_getElem hiN, hx]
          have HTK : Hid (ordPre l p t ++ ((l.take (i + 1)).filter f).map (·.r) = (ordPre l p t ++ ((l.take i).filter f).map (·.r)) ++ (if f x then [x.r] else [])) := Lib.hid (by
            rw [List.take_succ_eq_append_getElem hiN, hx, List.filter_append, List.map_append, List.append_assoc]
            congr 2
            cases hx : f x <;> simp [hx])
          have HLL : Hid ((ordPre l p t ++ ((l.take i).filter f).map (·.r)).length ≤ 1800) := Lib.hid (by
            have h1 := HPL.out
            rw [HL.out] at h1
            have h2 : t * N ≤ 2 * 600 := Nat.mul_le_mul (by omega) hl
            have h3 := List.length_filter_le f (l.take i)
            rw [List.length_take, HL.out] at h3
            rw [List.length_append, List.length_map]
            omega)
          obtain ⟨L, hL⟩ : ∃ L, ordPre l p t ++ ((l.take i).filter f).map (·.r) = L := ⟨_, rfl⟩
          rw [hL] at HO HTK HLL
          obtain ⟨c0, c1⟩ := pt_at (HP.out.below pnc_len (by decide) HO.out.bel) hxq
          have HXQ := Lib.hid hxq
          have hfx := HF.out x
          obtain ⟨xa, xr⟩ := x
          simp only at c0 c1 HTK hfx
          clear hL hx hxq hiN
          have e0 : ((t : Int) == 0) = decide (t = 0) := by by_cases h : t = 0 <;> simp [h]
          have e1 : (t == 0) = decide (t = 0) := by by_cases h : t = 0 <;> simp [h]
          have e2 : decide ((xa : Int) ≥ (p : Int)) = decide (p ≤ xa) := by by_cases h : p ≤ xa <;> simp [h]
          cases hfc : f ⟨xa, xr⟩ with
          | false =>
            rw [hfc] at hfx HTK
            have HE : Hid (ordPre l p t ++ ((l.take (i + 1)).filter f).map (·.r) = L) := Lib.hid (by rw [HTK.out]; simp)
            rw [← HE.out] at HO
            have b1 : ¬ (p ≤ xa ↔ t = 0) := by
              intro h
              by_cases h2 : t = 0
              · simp [h2, h.2 h2] at hfx
              · simp [h2, show ¬ p ≤ xa from fun h3 => h2 (h.1 h3)] at hfx
            have b2 : (!decide (p ≤ xa) == decide (t = 0)) = true := by
              by_cases h2 : t = 0 <;> by_cases h3 : p ≤ xa <;> simp [h2, h3] at hfx ⊢
            go_wp2_with fail
            go_roundg gm
            case measure => omega
            case rel => exact ⟨i + 1, q, n, c, by omega, by go_num, rfl, HO⟩
          | true =>
            rw [hfc, if_pos rfl] at HTK
            rw [hfc] at hfx
            have b1 : (p ≤ xa ↔ t = 0) := by
              by_cases h2 : t = 0 <;> by_cases h3 : p ≤ xa <;> simp [h2, h3] at hfx ⊢
            have b2 : (!decide (p ≤ xa) == decide (t = 0)) = false := by
              by_cases h2 : t = 0 <;> by_cases h3 : p ≤ xa <;> simp [h2, h3] at hfx ⊢
            clear hfx hfc HF
            go_wp2_with fail
            obtain ⟨O, hO⟩ : ∃ O, dd L = O := ⟨_, rfl⟩
            have HOE := Lib.hid hO
            have hOl : O.length = n := by rw [← hO]; exact HO.out.len
            have HIN : Hid (InI wr q O) := Lib.hid (by
              have h := HO.out.row
              rw [hO, ← hOl] at h
              obtain ⟨q', c', e, _, _, hin⟩ := own_g ienc_len (by decide) h
              injection e with e
              rw [e]; exact hin)
            have hn18 : n ≤ 1800 := by rw [← HO.out.len]; exact Nat.le_trans (dd_le L) HLL.out
            have HOL := Lib.hid hOl
            have HC0 : Hid (∀ W, Below wr.heap.size wr W → W.cell? ⟨b, i * 2 + 1, none⟩ = some (.int .i64 (xr : Int))) := Lib.hid fun W hW => (hW.cell (p := ⟨b, i * 2 + 1, none⟩) (cell_lt c1)).trans c1
            clear hO hOl b1 b2 c0 e0 e1 e2
            go_loopg [8, 9] n (fun g s8 s9 wx => ∃ k, k + g = n ∧ s9 = .int .i64 ((k : Nat) : Int) ∧ s8 = .bool (decide (xr ∈ O.take k)) ∧ Hid (Below wr.heap.size wr wx))
            case atStart => exact ⟨0, by omega, rfl, by rw [List.take_zero]; simp, Lib.hid (Below.refl _ _)⟩
            case round =>
              obtain ⟨k, hkg, rfl, rfl, HBX⟩ := hrel
              have c1 := HC0.out wr HBX.out
              rcases gk with _ | gk
              · obtain rfl : k = n := by omega
                have HO2 := Lib.hid (HO.out.below HBX.out)
                have htk : O.take k = O := List.take_of_length_le (by rw [HOL.out]; exact Nat.le_refl _)
                have d1 : decide ((k : Int) < (k : Int)) = false := by simp
                obtain ⟨bb, hbb⟩ : ∃ bb, decide (xr ∈ O.take k) = bb := ⟨_, rfl⟩
                rw [hbb]
                rw [htk] at hbb
                clear htk HO
                cases bb with
                | true =>
                  have HE : Hid (OutI w wr (ordPre l p t ++ ((l.take (i + 1)).filter f).map (·.r)) (.slice q k c) k) := Lib.hid (by
                    have h : dd (L ++ [xr]) = dd L := by rw [dd_snoc, HOE.out, if_pos (of_decide_eq_true hbb)]
                    rw [HTK.out]
                    exact ⟨by rw [h]; exact HO2.out.len, by rw [h]; exact HO2.out.row, HO2.out.bel⟩)
                  clear hbb
                  go_wp2_with fail
                  go_roundg gm
                  case measure => omega
                  case rel => exact ⟨i + 1, q, k, c, by omega, by go_num, rfl, HE⟩
                | false =>
                  have HE : Hid (dd (ordPre l p t ++ ((l.take (i + 1)).filter f).map (·.r)) = O ++ [xr]) := Lib.hid (by
                    rw [HTK.out, dd_snoc, HOE.out, if_neg (of_decide_eq_false hbb)])
                  obtain ⟨j0, hj, hy0, hy1, hy2⟩ := info_parts infoIt
                  have HRW : Hid (wr.ownsRow w.heap.size 3 1 (.slice q k c) k (cells ienc O)) := Lib.hid (by have := HO2.out.row; rwa [HOE.out] at this)
                  have HBW := Lib.hid HO2.out.bel
                  clear hbb
                  go_wp2_with (at_builtin; go_loud (refine wpList_append_own _ rfl _ _ 38 rfl w.heap.size 3 j0 (.int .i64 0) 1 8 Tryd.underlying38 hj hy0 hy1 hy2 rfl (by decide) (.slice q k c) k (cells ienc O) rfl (HRW.out.alloc _) ⟨wr.heap.size, 0, none⟩ 1 1 (cells ienc [xr]) rfl rfl (src_int wr xr) (fun u hu => by obtain ⟨y, hy⟩ := cells_mem hu; exact ienc_one y u hy) (by unfold maxLen; omega) (by omega) (by have := HBW.out.size; simp; omega) ?_); intro v2 w2 hown2 hgrow2 _; have HB2 := Lib.hid ((HBW.out.alloc HBW.out.size _).grown hgrow2 (by have := HBW.out.size; simp; omega) (fun k hk => (HRW.out.lt k hk).1)); obtain ⟨b9, c9, rfl⟩ := ownsRow_succ hown2; have HO3 := Lib.hid hown2; clear hown2 hgrow2)
                  have HR : Hid (OutI w w2 (ordPre l p t ++ ((l.take (i + 1)).filter f).map (·.r)) (.slice (some ⟨b9, 0, none⟩) (k + 1) c9) (k + 1)) := Lib.hid ⟨by rw [HE.out, List.length_append, HOL.out]; rfl, by rw [HE.out, cells_append]; exact HO3.out, HB2.out⟩
                  go_roundg gm
                  case measure => omega
                  case rel => exact ⟨i + 1, _, k + 1, c9, by omega, by go_num, rfl, HR⟩
              · have hkn : k < n := by omega
                have hkI : (k : Int) < (n : Int) := by omega
                have hkO : k < O.length := by rw [HOL.out]; exact hkn
                obtain ⟨y, hy⟩ : ∃ y, O[k] = y := ⟨_, rfl⟩
                have hyq : O[k]? = some y := by rw [List.getElem?_eq_getElem hkO, hy]
                obtain ⟨b3, o3, e, d0⟩ := ini_q (HIN.out.below ienc_len (by decide) HBX.out) hyq
                subst e
                have htk : decide (xr ∈ O.take (k + 1)) = (decide (xr ∈ O.take k) || decide (y = xr)) := by
                  rw [List.take_succ_eq_append_getElem hkO, hy]
                  have hc : (xr = y) ↔ (y = xr) := ⟨Eq.symm, Eq.symm⟩
                  by_cases h1 : xr ∈ O.take k <;> by_cases h2 : y = xr <;> simp [h1, h2, hc]
                obtain ⟨bb, hbb⟩ : ∃ bb, decide (xr ∈ O.take k) = bb := ⟨_, rfl⟩
                rw [hbb] at htk ⊢
                have HTB := Lib.hid htk
                clear htk hbb hyq hy hkO
                cases bb with
                | true =>
                  go_wp2_with fail
                  go_quiet (fail)
                  go_wp2_with fail
                  go_roundg gk
                  case measure => omega
                  case rel => exact ⟨k + 1, by omega, by go_num, by rw [HTB.out]; rfl, Lib.hid (HBX.out.trans ⟨rfl, rfl, rfl, Nat.le_refl _, fun _ _ => rfl⟩)⟩
                | false =>
                  by_cases hyx : y = xr
                  · have g1 : ((y : Int) == (xr : Int)) = true := by rw [beq_iff_eq]; omega
                    have g2 : (y == xr) = true := by rw [beq_iff_eq]; exact hyx
                    go_wp2_with fail
                    go_quiet (fail)
                    go_wp2_with fail
                    go_roundg gk
                    case measure => omega
                    case rel => exact ⟨k + 1, by omega, by go_num, by rw [HTB.out, decide_eq_true hyx]; rfl, Lib.hid (HBX.out.trans ⟨rfl, rfl, rfl, Nat.le_refl _, fun _ _ => rfl⟩)⟩
                  · have g1 : ((y : Int) == (xr : Int)) = false := by rw [beq_eq_false_iff_ne]; omega
                    have g2 : (y == xr) = false := by rw [beq_eq_false_iff_ne]; exact hyx
                    go_wp2_with fail
                    go_quiet (fail)
                    go_wp2_with fail
                    go_roundg gk
                    case measure => omega
                    case rel => exact ⟨k + 1, by omega, by go_num, by rw [HTB.out, decide_eq_false hyx]; rfl, Lib.hid (HBX.out.trans ⟨rfl, rfl, rfl, Nat.le_refl _, fun _ _ => rfl⟩)⟩
end Go.Proofs.YtkababeeikhifaaDoor.rng
