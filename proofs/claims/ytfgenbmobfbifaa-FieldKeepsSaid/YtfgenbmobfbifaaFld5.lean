/- Rows of pairs in memory (InPr); the contracts of the reference's Get and Same. No condition but lengths within the reach. -/
import Derived.Test.YtfgenbmobfbifaaFld4
import Derived.Laws.StructEq
namespace Go.Proofs.Ytfgenbmobfbifaa.fld
open Go.RowKit
open Go.Proofs.Ytfgenbmobfbifaa.oct Go.Proofs.Ytfgenbmobfbifaa.ref
open Go.Lib (byteCells)

/-- a text's cell -/
def tx (l : List UInt8) : Value := .string ⟨l.toArray⟩
/-- a row of pairs at a slice's address -/
def InPr (w : World) (P : Option Addr) (ps : List Pr) : Prop :=
  0 < ps.length → ∃ b o, P = some ⟨b, o, none⟩ ∧ ∀ i (h : i < ps.length), w.cell? ⟨b, o + i * 2, none⟩ = some (tx (ps[i]).1) ∧ w.cell? ⟨b, o + i * 2 + 1, none⟩ = some (tx (ps[i]).2)
theorem InPr.below {w w' : World} {P : Option Addr} {ps : List Pr} (h : InPr w P ps) (hb : Below w.heap.size w w') : InPr w' P ps := by
  intro hl
  obtain ⟨b, o, rfl, hc⟩ := h hl
  have hlt : b < w.heap.size := cell_lt (hc 0 hl).1
  exact ⟨b, o, rfl, fun i hi => ⟨(hb.cell (p := ⟨b, o + i * 2, none⟩) hlt).trans (hc i hi).1, (hb.cell (p := ⟨b, o + i * 2 + 1, none⟩) hlt).trans (hc i hi).2⟩⟩
theorem drewN_add (w : World) (a b : Nat) : (w.drewN a).drewN b = w.drewN (a + b) := by
  unfold World.drewN
  simp [Nat.add_assoc]
theorem take_eqk {α : Type} {l m : List α} {k : Nat} (h1 : k < l.length) (h2 : k < m.length) : l.take (k + 1) = m.take (k + 1) ↔ l.take k = m.take k ∧ l[k] = m[k] := by
  rw [List.take_succ_eq_append_getElem h1, List.take_succ_eq_append_getElem h2]
  constructor
  · intro h
    obtain ⟨e1, e2⟩ := List.append_inj h (by simp; omega)
    exact ⟨e1, by simpa using e2⟩
  · rintro ⟨e1, e2⟩; rw [e1, e2]
theorem getN_snoc (ps : List Pr) (x : Pr) (n) : getN (ps ++ [x]) n = getN ps n + if x.1 == n then 1 else 0 := by
  rw [getN_append]; congr 1
  by_cases h : (x.1 == n) = true <;> simp [getN, h]
theorem getV_hit (ps : List Pr) (x : Pr) (n) (h : getN ps n = 0) (hx : x.1 == n) : getV (ps ++ [x]) n = x.2 := by
  have hf : ps.find? (fun x => x.1 == n) = none := by
    rw [List.find?_eq_none]
    intro y hy hc
    have : y ∈ ps.filter (fun x => x.1 == n) := List.mem_filter.2 ⟨hy, hc⟩
    unfold getN at h
    rw [List.eq_nil_of_length_eq_zero h] at this
    cases this
  unfold getV
  rw [List.find?_append, hf]
  simp [hx]
theorem getV_miss (ps : List Pr) (x : Pr) (n) (hx : (x.1 == n) = false) : getV (ps ++ [x]) n = getV ps n := by
  unfold getV
  rw [List.find?_append]
  cases ps.find? (fun x => x.1 == n) <;> simp [hx]
theorem getN_le (ps : List Pr) (n) : getN ps n ≤ ps.length := List.length_filter_le _ _

set_option maxHeartbeats 2000000 in
theorem rget_c (P : Option Addr) (C : Nat) (ps : List Pr) (n : List UInt8) (w : World) (hp : InPr w P ps) (hl : ps.length ≤ 140737488355328) :
    Calls Try.prog 23 #[.slice P ps.length C, tx n] w fun e w' => e = .returned (.tuple #[tx (getV ps n), .int .i64 (getN ps n : Nat)]) ∧ w = w' := by
  unfold tx
  go_enter Try.func23, Try.ntmps23
  go_wp2_with fail
  go_loop [6, 7, 8] (fun s6 s7 s8 => ∃ k : Nat, k ≤ ps.length ∧ s8 = .int .i64 k ∧ s6 = .int .i64 (getN (ps.take k) n : Nat) ∧ s7 = .string ⟨(getV (ps.take k) n).toArray⟩) (fun _ _ i => ps.length - (intOf i).toNat)
  case atStart => exact ⟨0, by omega, rfl, rfl, rfl⟩
  case round =>
    obtain ⟨k, hk, rfl, rfl, rfl⟩ := hrel
    by_cases hlt : k < ps.length
    · obtain ⟨b, o, rfl, hc⟩ := hp (by omega)
      obtain ⟨c1, c2⟩ := hc k hlt
      unfold tx at c1 c2
      have hT : ps.take (k + 1) = ps.take k ++ [ps[k]] := List.take_succ_eq_append_getElem hlt
      have HN := Lib.hid (getN_snoc (ps.take k) ps[k] n)
      have HH := Lib.hid (getV_hit (ps.take k) ps[k] n)
      have HM := Lib.hid (getV_miss (ps.take k) ps[k] n)
      have HA := Lib.hid (getV_append (ps.take k) [ps[k]] n)
      have hle : getN (ps.take k) n ≤ ps.length := Nat.le_trans (getN_le _ _) (by rw [List.length_take]; omega)
      rw [← hT] at HN HH HM HA
      obtain ⟨x, hx⟩ : ∃ x, ps[k] = x := ⟨_, rfl⟩
      rw [hx] at c1 c2 HN HH HM
      obtain ⟨x1, x2⟩ := x
      dsimp only at c1 c2 HN HH HM
      have HT := Lib.hid hT
      clear hT hx hc
      obtain ⟨m, hm⟩ : ∃ m, getN (ps.take k) n = m := ⟨_, rfl⟩
      rw [hm] at HN HH HA hle ⊢
      clear hm
      by_cases he : (x1 == n) = true
      · by_cases hm0 : m = 0
        · have hb0 : ((m : Int) == 0) = true := by rw [hm0]; rfl
          have H1 : Hid (getN (ps.take (k + 1)) n = m + 1) := by show _ = _; rw [HN.out, if_pos he]
          have H2 : Hid (getV (ps.take (k + 1)) n = x2) := HH.out hm0 he
          clear hm0 HN HH HM HA
          go_wp2_with fail
          go_round
          case rel => exact ⟨k + 1, by omega, by go_num, by rw [H1.out]; go_num, by rw [H2.out]⟩
          case measure => simp [intOf]; omega
        · have hb0 : ((m : Int) == 0) = false := by rw [beq_eq_false_iff_ne]; omega
          have H1 : Hid (getN (ps.take (k + 1)) n = m + 1) := by show _ = _; rw [HN.out, if_pos he]
          have H2 : Hid (getV (ps.take (k + 1)) n = getV (ps.take k) n) := HA.out hm0
          clear hm0 HN HH HM HA
          go_wp2_with fail
          go_round
          case rel => exact ⟨k + 1, by omega, by go_num, by rw [H1.out]; go_num, by rw [H2.out]⟩
          case measure => simp [intOf]; omega
      · have hef : (x1 == n) = false := by simpa using he
        have H1 : Hid (getN (ps.take (k + 1)) n = m) := by show _ = _; rw [HN.out, if_neg he]; rfl
        have H2 : Hid (getV (ps.take (k + 1)) n = getV (ps.take k) n) := HM.out hef
        clear HN HH HM HA he
        go_wp2_with fail
        go_round
        case rel => exact ⟨k + 1, by omega, by go_num, by rw [H1.out], by rw [H2.out]⟩
        case measure => simp [intOf]; omega
    · obtain rfl : k = ps.length := by omega
      have e : ps.take ps.length = ps := List.take_length
      rw [e]
      clear e
      go_wp2_with fail
      go_ret2
      exact ⟨rfl, rfl⟩

set_option maxHeartbeats 2000000 in
theorem rsame_c (P : Option Addr) (C : Nat) (ps : List Pr) (Q : Option Addr) (D : Nat) (qs : List Pr) (w : World) (hp : InPr w P ps) (hq : InPr w Q qs) (hl : ps.length ≤ 140737488355328) (hm : qs.length ≤ 140737488355328) :
    Calls Try.prog 21 #[.slice P ps.length C, .slice Q qs.length D] w fun e w' => e = .returned (.bool (decide (ps = qs))) ∧ ∃ n, w' = w.drewN n := by
  by_cases hlen : ps.length = qs.length
  · have hbl : ((ps.length : Int) != (qs.length : Int)) = false := by rw [bne_eq_false_iff_eq]; omega
    obtain ⟨N, hN⟩ : ∃ N, qs.length = N := ⟨_, rfl⟩
    have hNp : ps.length = N := by omega
    rw [hN] at hm hbl ⊢
    rw [hNp] at hbl hl ⊢
    have HNQ := Lib.hid hN
    have HNP := Lib.hid hNp
    have HP := Lib.hid hp
    have HQ := Lib.hid hq
    clear hN hNp hlen hp hq hbl
    go_enter Try.func21, Try.ntmps21
    go_wp2_with fail
    go_loopg [5] N (fun g s5 wy => ∃ k : Nat, k + g = N ∧ s5 = .int .i64 k ∧ Hid (ps.take k = qs.take k) ∧ ∃ nd, wy = w.drewN nd)
    case atStart => exact ⟨0, by omega, rfl, rfl, 0, rfl⟩
    case round =>
      obtain ⟨k, hkg, rfl, HE, nd, hwy⟩ := hrel
      have HWY := Lib.hid hwy
      clear hwy
      rcases gk with _ | g
      · obtain rfl : k = N := by omega
        have HF : Hid (decide (ps = qs) = true) := by
          have e1 : ps.take k = ps := List.take_of_length_le (by rw [HNP.out]; exact Nat.le_refl _)
          have e2 : qs.take k = qs := List.take_of_length_le (by rw [HNQ.out]; exact Nat.le_refl _)
          have h := HE.out
          rw [e1, e2] at h
          exact decide_eq_true h
        go_wp2_with fail
        go_ret
        exact ⟨ret_bool HF.out.symm, nd, HWY.out⟩
      · have hk : k < N := by omega
        have hkp : k < ps.length := by rw [HNP.out]; exact hk
        have hkq : k < qs.length := by rw [HNQ.out]; exact hk
        obtain ⟨b, o, rfl, hc⟩ := HP.out (by omega)
        obtain ⟨b2, o2, rfl, hc2⟩ := HQ.out (by omega)
        obtain ⟨c1, c2⟩ := hc k hkp
        obtain ⟨c3, c4⟩ := hc2 k hkq
        have HT := Lib.hid (show ps.take (k + 1) = qs.take (k + 1) ↔ ps.take k = qs.take k ∧ ps[k] = qs[k] from take_eqk hkp hkq)
        have HNE : Hid (ps[k] ≠ qs[k] → decide (ps = qs) = false) := fun h => decide_eq_false fun e => h (by subst e; rfl)
        obtain ⟨x, hx⟩ : ∃ x, ps[k] = x := ⟨_, rfl⟩
        obtain ⟨y, hy⟩ : ∃ y, qs[k] = y := ⟨_, rfl⟩
        rw [hx] at c1 c2 HT HNE
        rw [hy] at c3 c4 HT HNE
        obtain ⟨x1, x2⟩ := x
        obtain ⟨y1, y2⟩ := y
        unfold tx at c1 c2 c3 c4
        dsimp only at c1 c2 c3 c4
        have d1 : wr.cell? ⟨b, o + k * 2, none⟩ = some (.string ⟨x1.toArray⟩) := by rw [HWY.out]; exact c1
        have d2 : wr.cell? ⟨b, o + k * 2 + 1, none⟩ = some (.string ⟨x2.toArray⟩) := by rw [HWY.out]; exact c2
        have d3 : wr.cell? ⟨b2, o2 + k * 2, none⟩ = some (.string ⟨y1.toArray⟩) := by rw [HWY.out]; exact c3
        have d4 : wr.cell? ⟨b2, o2 + k * 2 + 1, none⟩ = some (.string ⟨y2.toArray⟩) := by rw [HWY.out]; exact c4
        have hkI : (k : Int) < (N : Int) := by omega
        clear hc hc2 c1 c2 c3 c4 hx hy
        by_cases h1 : x1 = y1
        · have hb1 : (x1 == y1) = true := by simp [h1]
          by_cases h2 : x2 = y2
          · have hb2 : (x2 == y2) = true := by simp [h2]
            have HE2 : Hid (ps.take (k + 1) = qs.take (k + 1)) := HT.out.2 ⟨HE.out, by rw [h1, h2]⟩
            clear h1 h2 HNE HT
            go_wp2_with fail
            go_quiet (fail)
            go_wp2_with fail
            go_roundg g
            case measure => omega
            case rel => exact ⟨k + 1, by omega, by go_num, HE2, nd + nq, by rw [HWY.out]; exact drewN_add w nd nq⟩
          · have hb2 : (x2 == y2) = false := by simpa using h2
            have HF := Lib.hid (HNE.out (fun h => h2 (by injection h)))
            clear h1 h2 HNE HT
            go_wp2_with fail
            go_quiet (fail)
            go_wp2_with fail
            go_ret
            exact ⟨ret_bool HF.out.symm, nd + nq, by rw [HWY.out]; exact drewN_add w nd nq⟩
        · have hb1 : (x1 == y1) = false := by simpa using h1
          have HF := Lib.hid (HNE.out (fun h => h1 (by injection h)))
          clear h1 HNE HT
          go_wp2_with fail
          go_quiet (fail)
          go_wp2_with fail
          go_ret
          exact ⟨ret_bool HF.out.symm, nd + nq, by rw [HWY.out]; exact drewN_add w nd nq⟩
  · have hbl : ((ps.length : Int) != (qs.length : Int)) = true := by rw [bne_iff_ne]; omega
    have HF : Hid (decide (ps = qs) = false) := decide_eq_false fun e => hlen (by rw [e])
    clear hlen hp hq
    go_enter Try.func21, Try.ntmps21
    go_wp2_with fail
    go_ret
    exact ⟨ret_bool HF.out.symm, 0, rfl⟩
end Go.Proofs.Ytfgenbmobfbifaa.fld
