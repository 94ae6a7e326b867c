/- The contract of the reference's Parse. Texts of up to any length. -/
import Derived.Test.YtfgenbmobfbifaaFld7
namespace Go.Proofs.Ytfgenbmobfbifaa.fld
open Go.RowKit
open Go.Proofs.Ytfgenbmobfbifaa.oct Go.Proofs.Ytfgenbmobfbifaa.ref Go.Proofs.Ytfgenbmobfbifaa.rows
open Go.Lib (byteCells)

/-- the cells of a row of pairs -/
def pcells (ps : List Pr) : List Value := ps.flatMap fun x => [tx x.1, tx x.2]
theorem pcells_append (a b : List Pr) : pcells (a ++ b) = pcells a ++ pcells b := by simp [pcells]
theorem pcells_len (ps : List Pr) : (pcells ps).length = ps.length * 2 := by
  induction ps with
  | nil => rfl
  | cons x r ih =>
    have e : pcells (x :: r) = [tx x.1, tx x.2] ++ pcells r := rfl
    rw [e, List.length_append, ih]
    simp
    omega
theorem pcells_at (ps : List Pr) (i : Nat) (h : i < ps.length) : (pcells ps)[i * 2]? = some (tx (ps[i]).1) ∧ (pcells ps)[i * 2 + 1]? = some (tx (ps[i]).2) := by
  induction ps generalizing i with
  | nil => simp at h
  | cons x r ih =>
    have e : pcells (x :: r) = [tx x.1, tx x.2] ++ pcells r := rfl
    rw [e]
    cases i with
    | zero => exact ⟨rfl, rfl⟩
    | succ i =>
      have h2 := ih i (by simpa using h)
      constructor
      · rw [List.getElem?_append_right (by simp; omega)]
        simp only [List.length_cons, List.length_nil]
        rw [show (i + 1) * 2 - (0 + 1 + 1) = i * 2 by omega]
        simpa using h2.1
      · rw [List.getElem?_append_right (by simp; omega)]
        simp only [List.length_cons, List.length_nil]
        rw [show (i + 1) * 2 + 1 - (0 + 1 + 1) = i * 2 + 1 by omega]
        simpa using h2.2
theorem own_pairs {w : World} {B e : Nat} {v : Value} {ps : List Pr} (h : w.ownsRow B e 2 v ps.length (pcells ps)) : ∃ p c, v = .slice p ps.length c ∧ ps.length ≤ c ∧ (p = none → c = 0) ∧ InPr w p ps := by
  obtain ⟨h0, h1⟩ := h
  rcases h1 with ⟨rfl, hx⟩ | ⟨g, cp, cur, rfl, _, hg, hn, hm, hs, ht⟩
  · have hl := pcells_len ps
    rw [hx] at hl
    have hz : ps.length = 0 := by simp at hl; omega
    rw [hz]
    exact ⟨none, 0, rfl, Nat.le_refl _, fun _ => rfl, fun hp => by omega⟩
  · refine ⟨_, cp, rfl, hn, (fun h => by cases h), fun hp => ⟨g, 0, rfl, fun i hi => ?_⟩⟩
    have hc : ∀ j, j < ps.length * 2 → w.cell? ⟨g, j, none⟩ = (pcells ps)[j]? := by
      intro j hj
      rw [cell_of_row w g j cur e (0, 0) hg, ← ht, List.getElem?_take, if_pos (by omega)]
      simp
    have h2 := pcells_at ps i hi
    rw [Nat.zero_add]
    exact ⟨(hc _ (by omega)).trans h2.1, (hc _ (by omega)).trans h2.2⟩

theorem own_belowS {w w' : World} {B e n z : Nat} {v : Value} {xs : List Value} (h : w.ownsRow B e z v n xs) (hb : Below w.heap.size w w') : w'.ownsRow B e z v n xs := by
  refine ⟨h.1, ?_⟩
  rcases h.2 with h2 | ⟨g, cap, cur, h1, h2, h3, h4⟩
  · exact Or.inl h2
  · refine Or.inr ⟨g, cap, cur, h1, h2, ?_, h4⟩
    rw [hb.block g (Array.getElem?_eq_some_iff.1 h3).1]
    exact h3
theorem new_cells (W : World) (g e : Nat) (hg : g = W.heap.size) (xs : List Value) : ∀ j u, xs[j]? = some u → (W.alloc (.cells xs.toArray e)).cell? ((⟨g, 0, none⟩ : Addr).add j) = some u := by
  intro j u h
  subst hg
  rw [show (⟨W.heap.size, 0, none⟩ : Addr).add j = ⟨W.heap.size, j, none⟩ from by unfold Addr.add; split <;> simp_all]
  rw [World.cell?_alloc_at _ _ _ _ rfl]
  simpa using h
theorem runP_64 {p : List UInt8} {r : List (List UInt8)} {acc : List Pr} (h : acc.length = 64) : runP (p :: r) acc = (2, []) := by rw [runP, if_pos h]
theorem runP_none {p : List UInt8} {r : List (List UInt8)} {acc : List Pr} (h : acc.length ≠ 64) (h2 : pairOf p = none) : runP (p :: r) acc = (3, []) := by rw [runP, if_neg h, h2]
theorem runP_some {p : List UInt8} {r : List (List UInt8)} {acc : List Pr} {x : Pr} (h : acc.length ≠ 64) (h2 : pairOf p = some x) : runP (p :: r) acc = runP r (acc ++ [x]) := by rw [runP, if_neg h, h2]
theorem pieces_step {l : List UInt8} {f i : Nat} (hf : f ≤ i) (hi : i ≤ l.length) (hn : ∀ x ∈ (l.drop f).take (i - f), x ≠ 38) (hend : i = l.length ∨ ∃ h : i < l.length, l[i] = 38) :
    pieces (l.drop f) = (if i = f then [] else [(l.drop f).take (i - f)]) ++ pieces (l.drop (i + 1)) := by
  have hp : pieces ((l.drop f).take (i - f)) = if i = f then [] else [(l.drop f).take (i - f)] := by
    unfold pieces
    rw [split_plain _ hn]
    by_cases h : i = f
    · subst h; simp
    · rw [if_neg h]
      have : ((l.drop f).take (i - f)).isEmpty = false := by
        cases hq : (l.drop f).take (i - f) with
        | nil =>
          have := congrArg List.length hq
          rw [List.length_take, List.length_drop] at this
          simp at this; omega
        | cons a b => rfl
      simp [this]
  rcases hend with h | ⟨h, hc⟩
  · have e : l.drop (i + 1) = [] := List.drop_eq_nil_of_le (by omega)
    have e2 : (l.drop f).take (i - f) = l.drop f := List.take_of_length_le (by rw [List.length_drop]; omega)
    rw [e, show pieces [] = [] from by simp [pieces, splitAmp], List.append_nil, ← hp, e2]
  · have e : l.drop f = (l.drop f).take (i - f) ++ 38 :: l.drop (i + 1) := by
      conv => lhs; rw [← List.take_append_drop (i - f) (l.drop f)]
      rw [List.drop_drop, show f + (i - f) = i by omega, List.drop_eq_getElem_cons h, hc]
    rw [← hp, ← pieces_amp, ← e]
theorem noamp_step {l : List UInt8} {f i : Nat} (hf : f ≤ i) (h : i < l.length) (hn : ∀ x ∈ (l.drop f).take (i - f), x ≠ 38) (hc : l[i] ≠ 38) : ∀ x ∈ (l.drop f).take (i + 1 - f), x ≠ 38 := by
  intro x hx
  rw [show i + 1 - f = (i - f) + 1 by omega, List.take_succ_eq_append_getElem (by rw [List.length_drop]; omega), List.mem_append, List.mem_singleton] at hx
  rcases hx with hx | rfl
  · exact hn x hx
  · rw [List.getElem_drop]
    simpa [show f + (i - f) = i by omega] using hc
theorem infoPair : (Try.prog.info? 44).map (fun i => (i.zero, i.size, i.bytes)) = some (some (.agg #[tx [], tx []]), 2, 32) := by kernel_rfl
/-- what Parse answers: a row of the call's own -/
def ParseV (w w' : World) (r : Nat × List Pr) (e : Ending) : Prop := ∃ v, e = .returned (.tuple #[v, .int .i64 (r.1 : Nat)]) ∧ w'.ownsRow w.heap.size 44 2 v r.2.length (pcells r.2) ∧ Below w.heap.size w w'

set_option maxRecDepth 8000 in
set_option maxHeartbeats 2000000 in
theorem rparse_c (s : ByteArray) (w : World) (hs : s.size ≤ 140737488351232) :
    Calls Try.prog 20 #[.string s] w fun e w' => ParseV w w' (parse s.data.toList) e := by
  have HSL : Hid (s.data.toList.length = s.size) := by show _ = _; rw [Array.length_toList]; rfl
  obtain ⟨i0, hi0, hz0, hz1, hz2⟩ := info_parts infoPair
  by_cases hlong : 16384 < s.size
  · have hI : (s.size : Int) > 16384 := by omega
    have HR : Hid (parse s.data.toList = (2, [])) := by show _ = _; unfold parse; rw [HSL.out, if_pos hlong]
    rw [HR.out]
    clear hlong hi0 hz0 hz1 hz2
    go_enter Try.func20, Try.ntmps20
    go_wp2_with fail
    go_ret2
    exact ⟨_, rfl, World.ownsRow_nil _ _ _ _, Below.refl _ _⟩
  · have hI : ¬ ((s.size : Int) > 16384) := by omega
    have HR : Hid (parse s.data.toList = runP (pieces s.data.toList) []) := by show _ = _; unfold parse; rw [HSL.out, if_neg hlong]
    obtain ⟨R, hRe⟩ : ∃ R, parse s.data.toList = R := ⟨_, rfl⟩
    rw [hRe] at HR ⊢
    clear hRe
    go_enter Try.func20, Try.ntmps20
    go_wp2_with fail
    go_loopg [4, 5, 6] (s.size + 1) (fun g s4 s5 s6 wy => ∃ (i f : Nat) (acc : List Pr), i + g = s.size + 1 ∧ f ≤ i ∧ (i = s.size + 1 → f = i) ∧ s6 = .int .i64 i ∧ s5 = .int .i64 f ∧ acc.length ≤ 64 ∧ Hid (R = runP (pieces (s.data.toList.drop f)) acc) ∧ Hid (∀ x ∈ (s.data.toList.drop f).take (i - f), x ≠ 38) ∧ wy.ownsRow w.heap.size 44 2 s4 acc.length (pcells acc) ∧ Below w.heap.size w wy)
    case atStart => exact ⟨0, 0, [], by omega, Nat.le_refl _, by omega, rfl, rfl, by simp, HR.out, fun x hx => by simp at hx, World.ownsRow_nil _ _ _ _, Below.refl _ _⟩
    case round =>
      obtain ⟨i, f, acc, hig, hfi, hfe, rfl, rfl, hacc, HP, HN, hrow, hbx⟩ := hrel
      rcases gk with _ | g
      · obtain rfl : i = s.size + 1 := by omega
        obtain rfl : f = s.size + 1 := hfe rfl
        have hiI : ¬ (((s.size + 1 : Nat) : Int) ≤ (s.size : Int)) := by omega
        have HF : Hid (R = (0, acc)) := by
          show _ = _
          rw [HP.out, List.drop_eq_nil_of_le (by rw [HSL.out]; omega)]
          simp [pieces, splitAmp, runP]
        have HO := Lib.hid hrow
        have HBX := Lib.hid hbx
        clear hfe hrow hbx HP HN
        go_wp2_with fail
        go_ret2
        rw [HF.out]
        exact ⟨_, rfl, HO.out, HBX.out⟩
      · have hi : i ≤ s.size := by omega
        have hiI : (i : Int) ≤ (s.size : Int) := by omega
        by_cases hmid : ∃ h : i < s.size, s[i] ≠ 38
        · obtain ⟨his, hne⟩ := hmid
          have hisI : (i : Int) < (s.size : Int) := by omega
          have HN2 : Hid (∀ x ∈ (s.data.toList.drop f).take (i + 1 - f), x ≠ 38) := noamp_step hfi (by rw [HSL.out]; exact his) HN.out hne
          obtain ⟨c, hc⟩ : ∃ c, s[i] = c := ⟨_, rfl⟩
          rw [hc] at hne
          have hcc : (s[i].toNat : Int) = (c.toNat : Int) := by rw [hc]
          have hb : ((c.toNat : Int) != 38) = true := by have h := ne_byte hne; rw [bne, show ((c.toNat : Int) == 38) = false from h]; rfl
          clear hne
          go_wp2_with fail
          go_roundg g
          case measure => omega
          case rel => exact ⟨i + 1, f, acc, by omega, by omega, by omega, by go_num, rfl, hacc, HP, HN2, hrow, hbx⟩
        · have hend : i = s.data.toList.length ∨ ∃ h : i < s.data.toList.length, s.data.toList[i] = 38 := by
            rcases Nat.lt_or_ge i s.size with h | h
            · right
              refine ⟨by rw [HSL.out]; exact h, ?_⟩
              have : s[i] = 38 := by
                apply Classical.byContradiction
                intro hc; exact hmid ⟨h, hc⟩
              exact this
            · left; rw [HSL.out]; omega
          have HST := Lib.hid (pieces_step hfi (by rw [HSL.out]; exact hi) HN.out hend)
          have HTEST : Hid (i = s.size ∨ ∃ h : i < s.size, s[i] = 38) := by
            rcases Nat.lt_or_ge i s.size with h | h
            · right; exact ⟨h, by apply Classical.byContradiction; intro hc; exact hmid ⟨h, hc⟩⟩
            · left; omega
          have hx8 : (s.extract f i).data.toList = (s.data.toList.drop f).take (i - f) := by rw [text_extract, List.drop_take]
          have HEX := Lib.hid hx8
          clear hmid hend hx8 HN
          by_cases hfi2 : i = f
          · have HP2 : Hid (R = runP (pieces (s.data.toList.drop (i + 1))) acc) := by show _ = _; rw [HP.out, HST.out, if_pos hfi2, List.nil_append]
            have hgt : ¬ ((i : Int) > (f : Int)) := by omega
            clear HP HST HEX hfi2
            rcases HTEST.out with h | ⟨h, h38⟩
            · have hisI : ¬ ((i : Int) < (s.size : Int)) := by omega
              go_wp2_with fail
              go_roundg g
              case measure => omega
              case rel => exact ⟨i + 1, i + 1, acc, by omega, Nat.le_refl _, fun _ => rfl, by go_num, by go_num, hacc, HP2, fun x hx => by simp at hx, hrow, hbx⟩
            · have hisI : (i : Int) < (s.size : Int) := by omega
              have hcc : (s[i].toNat : Int) = 38 := by rw [h38]; rfl
              clear h38
              go_wp2_with fail
              go_roundg g
              case measure => omega
              case rel => exact ⟨i + 1, i + 1, acc, by omega, Nat.le_refl _, fun _ => rfl, by go_num, by go_num, hacc, HP2, fun x hx => by simp at hx, hrow, hbx⟩
          · have HP2 : Hid (R = runP ((s.extract f i).data.toList :: pieces (s.data.toList.drop (i + 1))) acc) := by show _ = _; rw [HP.out, HST.out, if_neg hfi2, HEX.out]; rfl
            have hgt : (i : Int) > (f : Int) := by omega
            have HBX := Lib.hid hbx
            clear HP HST HEX hfi2
            rcases HTEST.out with h | ⟨h, h38⟩
            · have hisI : ¬ ((i : Int) < (s.size : Int)) := by omega
              clear h
              obtain ⟨p4, c4, rfl, hcap, hnil, hin⟩ := own_pairs hrow
              clear hcap hnil hin
              by_cases h64 : acc.length = 64
              · have hb64 : ((acc.length : Int) == 64) = true := by rw [beq_iff_eq]; omega
                have HF : Hid (R = (2, [])) := by show _ = _; rw [HP2.out, runP_64 h64]
                clear h64 hrow hbx HP2
                go_wp2_with fail
                go_ret2
                rw [HF.out]
                exact ⟨_, rfl, World.ownsRow_nil _ _ _ _, HBX.out⟩
              · have hb64 : ((acc.length : Int) == 64) = false := by rw [beq_eq_false_iff_ne]; omega
                have hC := rpair_c (s.extract f i) wr (by rw [ByteArray.size_extract]; omega)
                obtain ⟨po, hpo⟩ : ∃ po, pairOf (s.extract f i).data.toList = po := ⟨_, rfl⟩
                rw [hpo] at hC
                rcases po with _ | ⟨x1, x2⟩
                · have HF : Hid (R = (3, [])) := by show _ = _; rw [HP2.out, runP_none h64 hpo]
                  have HC := Lib.hid hC
                  clear h64 hrow hbx HP2 hC hpo
                  go_wp2_with fail
                  (with_reducible refine HC.out.mono ?_)
                  rintro e w1 ⟨rfl, hb1⟩
                  have HB1 := Lib.hid (bnext HBX.out hb1)
                  have ha1 := Lib.hid ((Below.refl w1.heap.size w1).alloc (Nat.le_refl _) (.cells #[tx [], tx []] 44))
                  unfold pairV
                  unfold tx
                  dsimp only
                  clear hb1
                  go_wp2_with fail
                  go_ret2
                  rw [HF.out]
                  exact ⟨_, rfl, World.ownsRow_nil _ _ _ _, bnext HB1.out ha1.out⟩
                · have HF : Hid (R = runP (pieces (s.data.toList.drop (i + 1))) (acc ++ [(x1, x2)])) := by show _ = _; rw [HP2.out, runP_some h64 hpo]
                  have HC := Lib.hid hC
                  have HO := Lib.hid hrow
                  clear hrow hbx HP2 hC hpo
                  go_wp2_with fail
                  (with_reducible refine HC.out.mono ?_)
                  rintro e w1 ⟨rfl, hb1⟩
                  have HB1 := Lib.hid (bnext HBX.out hb1)
                  have hrow1 := own_belowS HO.out hb1
                  unfold pairV
                  unfold tx
                  dsimp only
                  clear hb1 HC
                  go_wp2_with (at_builtin; refine wpList_append_own _ rfl (.tmp 45) (.tmp 47) 30 rfl w.heap.size 44 i0 (.agg #[tx [], tx []]) 2 32 Try.underlying30 hi0 hz0 hz1 hz2 rfl (by decide) (.slice p4 acc.length c4) acc.length (pcells acc) rfl ((hrow1.alloc _).alloc _) ⟨w1.heap.size + 1, 0, none⟩ 1 1 [.string ⟨x1.toArray⟩, .string ⟨x2.toArray⟩] rfl rfl (new_cells _ _ _ (by simp) _) (fun u hu => by simp at hu; rcases hu with rfl | rfl <;> rfl) (by unfold maxLen; omega) (by omega) (by have := HB1.out.size; simp; omega) ?_; intro v' w2 hown2 hgrow2 _)
                  have HB2 := Lib.hid (((HB1.out.alloc HB1.out.size (.cells #[.string ⟨x1.toArray⟩, .string ⟨x2.toArray⟩] 44)).alloc (by have := HB1.out.size; simp; omega) (.cells #[.string ⟨x1.toArray⟩, .string ⟨x2.toArray⟩] 44)).grown hgrow2 (by have := HB1.out.size; simp; omega) (fun k hk => (hrow1.lt _ hk).1))
                  go_roundg g
                  case measure => omega
                  case rel => exact ⟨i + 1, i + 1, acc ++ [(x1, x2)], by omega, Nat.le_refl _, fun _ => rfl, by go_num, by go_num, by simp; omega, HF, fun x hx => by simp at hx, by rw [List.length_append, pcells_append]; exact hown2, HB2.out⟩
            · have hisI : (i : Int) < (s.size : Int) := by omega
              have hcc : (s[i].toNat : Int) = 38 := by rw [h38]; rfl
              clear h38
              obtain ⟨p4, c4, rfl, hcap, hnil, hin⟩ := own_pairs hrow
              clear hcap hnil hin
              by_cases h64 : acc.length = 64
              · have hb64 : ((acc.length : Int) == 64) = true := by rw [beq_iff_eq]; omega
                have HF : Hid (R = (2, [])) := by show _ = _; rw [HP2.out, runP_64 h64]
                clear h64 hrow hbx HP2
                go_wp2_with fail
                go_ret2
                rw [HF.out]
                exact ⟨_, rfl, World.ownsRow_nil _ _ _ _, HBX.out⟩
              · have hb64 : ((acc.length : Int) == 64) = false := by rw [beq_eq_false_iff_ne]; omega
                have hC := rpair_c (s.extract f i) wr (by rw [ByteArray.size_extract]; omega)
                obtain ⟨po, hpo⟩ : ∃ po, pairOf (s.extract f i).data.toList = po := ⟨_, rfl⟩
                rw [hpo] at hC
                rcases po with _ | ⟨x1, x2⟩
                · have HF : Hid (R = (3, [])) := by show _ = _; rw [HP2.out, runP_none h64 hpo]
                  have HC := Lib.hid hC
                  clear h64 hrow hbx HP2 hC hpo
                  go_wp2_with fail
                  (with_reducible refine HC.out.mono ?_)
                  rintro e w1 ⟨rfl, hb1⟩
                  have HB1 := Lib.hid (bnext HBX.out hb1)
                  have ha1 := Lib.hid ((Below.refl w1.heap.size w1).alloc (Nat.le_refl _) (.cells #[tx [], tx []] 44))
                  unfold pairV
                  unfold tx
                  dsimp only
                  clear hb1
                  go_wp2_with fail
                  go_ret2
                  rw [HF.out]
                  exact ⟨_, rfl, World.ownsRow_nil _ _ _ _, bnext HB1.out ha1.out⟩
                · have HF : Hid (R = runP (pieces (s.data.toList.drop (i + 1))) (acc ++ [(x1, x2)])) := by show _ = _; rw [HP2.out, runP_some h64 hpo]
                  have HC := Lib.hid hC
                  have HO := Lib.hid hrow
                  clear hrow hbx HP2 hC hpo
                  go_wp2_with fail
                  (with_reducible refine HC.out.mono ?_)
                  rintro e w1 ⟨rfl, hb1⟩
                  have HB1 := Lib.hid (bnext HBX.out hb1)
                  have hrow1 := own_belowS HO.out hb1
                  unfold pairV
                  unfold tx
                  dsimp only
                  clear hb1 HC
                  go_wp2_with (at_builtin; refine wpList_append_own _ rfl (.tmp 45) (.tmp 47) 30 rfl w.heap.size 44 i0 (.agg #[tx [], tx []]) 2 32 Try.underlying30 hi0 hz0 hz1 hz2 rfl (by decide) (.slice p4 acc.length c4) acc.length (pcells acc) rfl ((hrow1.alloc _).alloc _) ⟨w1.heap.size + 1, 0, none⟩ 1 1 [.string ⟨x1.toArray⟩, .string ⟨x2.toArray⟩] rfl rfl (new_cells _ _ _ (by simp) _) (fun u hu => by simp at hu; rcases hu with rfl | rfl <;> rfl) (by unfold maxLen; omega) (by omega) (by have := HB1.out.size; simp; omega) ?_; intro v' w2 hown2 hgrow2 _)
                  have HB2 := Lib.hid (((HB1.out.alloc HB1.out.size (.cells #[.string ⟨x1.toArray⟩, .string ⟨x2.toArray⟩] 44)).alloc (by have := HB1.out.size; simp; omega) (.cells #[.string ⟨x1.toArray⟩, .string ⟨x2.toArray⟩] 44)).grown hgrow2 (by have := HB1.out.size; simp; omega) (fun k hk => (hrow1.lt _ hk).1))
                  go_roundg g
                  case measure => omega
                  case rel => exact ⟨i + 1, i + 1, acc ++ [(x1, x2)], by omega, Nat.le_refl _, fun _ => rfl, by go_num, by go_num, by simp; omega, HF, fun x hx => by simp at hx, by rw [List.length_append, pcells_append]; exact hown2, HB2.out⟩
end Go.Proofs.Ytfgenbmobfbifaa.fld
