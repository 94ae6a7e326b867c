/- The contract of the reference's Print. Texts of up to 1048576 bytes each. -/
import Derived.Test.YtfgenbmobfbifaaFld5
import Derived.Test.YtfgenbmobfbifaaAfter
import Derived.BigQuiet
import Derived.Deep.QuietTactic
namespace Go.Proofs.Ytfgenbmobfbifaa.fld
open Go.RowKit
open Go.Proofs.Ytfgenbmobfbifaa.oct Go.Proofs.Ytfgenbmobfbifaa.ref
open Go.Lib (byteCells)

theorem prt_snoc (ps : List Pr) (x : Pr) : prt (ps ++ [x]) = if ps.isEmpty then prPair x else prt ps ++ 38 :: prPair x := by
  induction ps with
  | nil => simp [prt]
  | cons y r ih =>
    rw [List.cons_append, prt]
    have h1 : (r ++ [x]).isEmpty = false := by cases r <;> rfl
    rw [h1, ih]
    by_cases h : r.isEmpty = true
    · obtain rfl : r = [] := by simpa using h
      simp [prt]
    · have h2 : r.isEmpty = false := by simpa using h
      rw [h2]
      simp [prt, h2]
theorem prt_le (ps : List Pr) (x : Pr) : (prt ps).length ≤ (prt (ps ++ [x])).length := by
  rw [prt_snoc]
  split
  · rename_i h
    obtain rfl : ps = [] := by simpa using h
    simp [prt]
  · rw [List.length_append]; omega
theorem prt_take_le (ps : List Pr) (k : Nat) (hk : k ≤ ps.length) : (prt (ps.take k)).length ≤ (prt ps).length := by
  obtain ⟨d, hd⟩ : ∃ d, ps.length = k + d := ⟨ps.length - k, by omega⟩
  induction d generalizing k with
  | zero => rw [List.take_of_length_le (by omega)]; exact Nat.le_refl _
  | succ d ih =>
    have h := ih (k + 1) (by omega) (by omega)
    rw [List.take_succ_eq_append_getElem (by omega)] at h
    exact Nat.le_trans (prt_le _ _) h
theorem prPair_len (x : Pr) : (prPair x).length ≤ 3 * x.1.length + 3 * x.2.length + 1 := by
  unfold prPair
  rw [List.length_append, List.length_cons]
  have := quote_len x.1
  have := quote_len x.2
  omega
/-- texts of at most so many bytes -/
def Small (ps : List Pr) : Prop := ∀ x ∈ ps, x.1.length ≤ 1048576 ∧ x.2.length ≤ 1048576
theorem rquote_l (l : List UInt8) (w : World) (hl : l.length ≤ 16777216) :
    Calls Try.prog 14 #[.string ⟨l.toArray⟩] w fun e w' => e = .returned (.string ⟨(quote l).toArray⟩) ∧ Below w.heap.size w w' := by
  have h := rquote_c ⟨l.toArray⟩ w (by rw [size_mk]; exact hl)
  exact h

theorem ba4 (a b c : List UInt8) : ((⟨a.toArray⟩ : ByteArray) ++ ⟨#[38]⟩ ++ ⟨b.toArray⟩ ++ ⟨#[61]⟩ ++ ⟨c.toArray⟩) = ⟨(a ++ 38 :: (b ++ 61 :: c)).toArray⟩ := by ext1; simp
theorem ba3 (a b c : List UInt8) : ((⟨a.toArray⟩ : ByteArray) ++ ⟨b.toArray⟩ ++ ⟨#[61]⟩ ++ ⟨c.toArray⟩) = ⟨(a ++ (b ++ 61 :: c)).toArray⟩ := by ext1; simp
set_option maxRecDepth 8000 in
set_option maxHeartbeats 2000000 in
theorem rprint_c (P : Option Addr) (C : Nat) (ps : List Pr) (w : World) (hp : InPr w P ps) (hl : ps.length ≤ 140737488355328) (hs : Small ps) :
    Calls Try.prog 18 #[.slice P ps.length C] w fun e w' => e = .returned (.tuple #[tx (printR ps).2, .int .i64 ((printR ps).1 : Nat)]) ∧ Below w.heap.size w w' := by
  by_cases h64 : 64 < ps.length
  · have hI : (ps.length : Int) > 64 := by omega
    have HR : Hid (printR ps = (2, [])) := by show _ = _; unfold printR; rw [if_pos h64]
    clear h64 hp hs
    go_enter Try.func18, Try.ntmps18
    go_wp2_with fail
    go_ret2
    exact ⟨by rw [HR.out]; rfl, Below.refl _ _⟩
  · have hI : ¬ ((ps.length : Int) > 64) := by omega
    have HP := Lib.hid hp
    have HS := Lib.hid hs
    have HLONG : Hid (16384 < (prt ps).length → printR ps = (2, [])) := fun h => by unfold printR; rw [if_neg h64, if_pos h]
    have HOK : Hid ((prt ps).length ≤ 16384 → printR ps = (0, prt ps)) := fun h => by unfold printR; rw [if_neg h64, if_neg (by omega)]
    clear hp hs
    obtain ⟨N, hN⟩ : ∃ N, ps.length = N := ⟨_, rfl⟩
    rw [hN] at hI h64 ⊢
    have HN := Lib.hid hN
    clear hN hl
    go_enter Try.func18, Try.ntmps18
    go_wp2_with fail
    go_loopg [4, 5] N (fun g s4 s5 wy => ∃ k : Nat, k + g = N ∧ s5 = .int .i64 k ∧ s4 = .string ⟨(prt (ps.take k)).toArray⟩ ∧ (prt (ps.take k)).length ≤ 16384 ∧ Below w.heap.size w wy)
    case atStart => exact ⟨0, by omega, rfl, rfl, by simp [prt], Below.refl _ _⟩
    case round =>
      obtain ⟨k, hkg, rfl, rfl, hpl, hbx⟩ := hrel
      have HBX := Lib.hid hbx
      rcases gk with _ | g
      · obtain rfl : k = N := by omega
        have e : ps.take k = ps := List.take_of_length_le (by rw [HN.out]; exact Nat.le_refl _)
        rw [e] at hpl ⊢
        have HR := Lib.hid (HOK.out hpl)
        clear e hpl hbx
        go_wp2_with fail
        go_ret2
        exact ⟨by rw [HR.out]; rfl, HBX.out⟩
      · have hk : k < N := by omega
        have hkp : k < ps.length := by rw [HN.out]; exact hk
        obtain ⟨b, o, rfl, hc⟩ := (HP.out.below hbx) (by omega)
        obtain ⟨c1, c2⟩ := hc k hkp
        have HT := Lib.hid (show ps.take (k + 1) = ps.take k ++ [ps[k]] from List.take_succ_eq_append_getElem hkp)
        have HPS := Lib.hid (prt_snoc (ps.take k) ps[k])
        have HTL := Lib.hid (prt_take_le ps (k + 1) (by omega))
        have hsm := HS.out _ (List.getElem_mem hkp)
        have hpp := prPair_len ps[k]
        have HE : Hid ((ps.take k).isEmpty = decide (k = 0)) := by
          show _ = _
          rcases k with _ | k
          · simp
          · rw [decide_eq_false (by omega)]
            cases ps with
            | nil => simp at hkp
            | cons a l => rfl
        rw [← HT.out] at HPS
        obtain ⟨x, hx⟩ : ∃ x, ps[k] = x := ⟨_, rfl⟩
        rw [hx] at c1 c2 HPS hsm hpp
        obtain ⟨x1, x2⟩ := x
        unfold tx at c1 c2
        dsimp only at c1 c2 hsm hpp
        have hkI : (k : Int) < (N : Int) := by omega
        clear hc hx
        have q1 : (quote x1).length ≤ 3145728 := Nat.le_trans (quote_len x1) (by omega)
        have q2 : (quote x2).length ≤ 3145728 := Nat.le_trans (quote_len x2) (by omega)
        have hP1 : prPair (x1, x2) = quote x1 ++ 61 :: quote x2 := rfl
        rw [hP1] at HPS
        obtain ⟨L, hL⟩ : ∃ L, prt (ps.take k) = L := ⟨_, rfl⟩
        have HL0 : Hid (k = 0 → L = []) := fun h => by rw [← hL, h]; simp [prt]
        rw [hL] at hpl HPS ⊢
        obtain ⟨y1, hy1⟩ : ∃ y, quote x1 = y := ⟨_, rfl⟩
        obtain ⟨y2, hy2⟩ : ∃ y, quote x2 = y := ⟨_, rfl⟩
        have CQ1 : Hid (∀ w : World, Calls Try.prog 14 #[.string ⟨x1.toArray⟩] w fun e w' => e = .returned (.string ⟨y1.toArray⟩) ∧ Below w.heap.size w w') := fun w => hy1 ▸ rquote_l x1 w (by omega)
        have CQ2 : Hid (∀ w : World, Calls Try.prog 14 #[.string ⟨x2.toArray⟩] w fun e w' => e = .returned (.string ⟨y2.toArray⟩) ∧ Below w.heap.size w w') := fun w => hy2 ▸ rquote_l x2 w (by omega)
        rw [hy1] at q1 HPS
        rw [hy2] at q2 HPS
        have d1 : ∀ x : After wr, x.v.cell? ⟨b, o + k * 2, none⟩ = some (.string ⟨x1.toArray⟩) := fun x => (x.below.cell (p := ⟨b, o + k * 2, none⟩) (cell_lt c1)).trans c1
        have d2 : ∀ x : After wr, x.v.cell? ⟨b, o + k * 2 + 1, none⟩ = some (.string ⟨x2.toArray⟩) := fun x => (x.below.cell (p := ⟨b, o + k * 2 + 1, none⟩) (cell_lt c2)).trans c2
        have C1 := Lib.hid (fun x : After wr => after_of x (CQ1.out x.v))
        have C2 := Lib.hid (fun x : After wr => after_of x (CQ2.out x.v))
        clear hP1 hL hy1 hy2 CQ1 CQ2 hpp
        by_cases hk0 : k = 0
        · obtain rfl : L = [] := HL0.out hk0
          have hk0I : ¬ ((k : Int) > 0) := by omega
          have HPV : Hid (prt (ps.take (k + 1)) = y1 ++ 61 :: y2) := by show _ = _; rw [HPS.out, HE.out, decide_eq_true hk0, if_pos rfl]
          have HPL : Hid ((prt (ps.take (k + 1))).length = y1.length + 1 + y2.length) := by show _ = _; rw [HPV.out]; simp; omega
          have HV : Hid (((⟨#[]⟩ : ByteArray) ++ ⟨y1.toArray⟩ ++ ⟨#[61]⟩ ++ ⟨y2.toArray⟩) = ⟨(prt (ps.take (k + 1))).toArray⟩) := by
            show _ = _
            rw [HPV.out]
            exact ba3 [] y1 y2
          clear hk0 HPS
          go_wp2_with fail
          refine wp_region_after (by kernel_rfl) (by kernel_rfl) ?_
          repeat (go_big_quiet_step (first
            | (rename_i x; go_at_call 14; with_reducible exact C1.out x)
            | (rename_i x; go_at_call 14; with_reducible exact C2.out x)))
          refine wpQuiet_nil ?_
          rintro ⟨wq, hxb⟩
          dsimp only
          have HB2 := Lib.hid (bnext HBX.out hxb)
          clear d1 d2 C1 C2 c1 c2 hxb hbx
          by_cases hlong : 16384 < y1.length + 1 + y2.length
          · have hI2 : (y1.length : Int) + 1 + (y2.length : Int) > 16384 := by omega
            have HR := Lib.hid (HLONG.out (Nat.lt_of_lt_of_le (by rw [HPL.out]; exact hlong) HTL.out))
            go_wp2_with fail
            go_ret2
            exact ⟨by rw [HR.out]; rfl, HB2.out⟩
          · have hI2 : ¬ ((y1.length : Int) + 1 + (y2.length : Int) > 16384) := by omega
            go_wp2_with fail
            go_roundg g
            case measure => omega
            case rel => exact ⟨k + 1, by omega, by go_num, by rw [HV.out], by rw [HPL.out]; omega, HB2.out⟩
        · have hk0I : (k : Int) > 0 := by omega
          have HPV : Hid (prt (ps.take (k + 1)) = L ++ 38 :: (y1 ++ 61 :: y2)) := by show _ = _; rw [HPS.out, HE.out, decide_eq_false hk0, if_neg (by decide)]
          have HPL : Hid ((prt (ps.take (k + 1))).length = L.length + 1 + y1.length + 1 + y2.length) := by show _ = _; rw [HPV.out]; simp; omega
          have HV : Hid (((⟨L.toArray⟩ : ByteArray) ++ ⟨#[38]⟩ ++ ⟨y1.toArray⟩ ++ ⟨#[61]⟩ ++ ⟨y2.toArray⟩) = ⟨(prt (ps.take (k + 1))).toArray⟩) := by
            show _ = _
            rw [HPV.out]
            exact ba4 L y1 y2
          clear hk0 HPS
          go_wp2_with fail
          refine wp_region_after (by kernel_rfl) (by kernel_rfl) ?_
          repeat (go_big_quiet_step (first
            | (rename_i x; go_at_call 14; with_reducible exact C1.out x)
            | (rename_i x; go_at_call 14; with_reducible exact C2.out x)))
          refine wpQuiet_nil ?_
          rintro ⟨wq, hxb⟩
          dsimp only
          have HB2 := Lib.hid (bnext HBX.out hxb)
          clear d1 d2 C1 C2 c1 c2 hxb hbx
          by_cases hlong : 16384 < L.length + 1 + y1.length + 1 + y2.length
          · have hI2 : (L.length : Int) + 1 + (y1.length : Int) + 1 + (y2.length : Int) > 16384 := by omega
            have HR := Lib.hid (HLONG.out (Nat.lt_of_lt_of_le (by rw [HPL.out]; exact hlong) HTL.out))
            go_wp2_with fail
            go_ret2
            exact ⟨by rw [HR.out]; rfl, HB2.out⟩
          · have hI2 : ¬ ((L.length : Int) + 1 + (y1.length : Int) + 1 + (y2.length : Int) > 16384) := by omega
            go_wp2_with fail
            go_roundg g
            case measure => omega
            case rel => exact ⟨k + 1, by omega, by go_num, by rw [HV.out], by rw [HPL.out]; omega, HB2.out⟩
end Go.Proofs.Ytfgenbmobfbifaa.fld
