/- Rows of texts in memory (InS); the contracts of the reference's Word, Has, Same. No condition but lengths within the reach. -/
import Derived.Test.YtcklbbbplbboaaaDoorScp2
import Derived.Test.YtcklbbbplbboaaaDoorRowG
import Derived.Test.YtcklbbbplbboaaaDoorRows2
import Derived.Test.YtcklbbbplbboaaaDoorAfter
import Derived.WalkKit
import Derived.WalkSmall
import Derived.BigGuardPart
import Derived.BigQuiet
import Derived.Deep.QuietTactic
namespace Go.Proofs.YtcklbbbplbboaaaDoor.scp
open Go.RowKit
open Go.Proofs.YtcklbbbplbboaaaDoor.oct Go.Proofs.YtcklbbbplbboaaaDoor.ref Go.Proofs.YtcklbbbplbboaaaDoor.rows Go.Proofs.YtcklbbbplbboaaaDoor.rowg

/-- a text's cell -/
def tx (l : T) : Value := .string ⟨l.toArray⟩
def senc (a : T) : List Value := [tx a]
theorem senc_len : ∀ a, (senc a).length = 1 := fun _ => rfl
/-- a row of texts at a slice's address -/
abbrev InS (w : World) (P : Option Addr) (l : List T) : Prop := InG senc 1 w P l
theorem ins_below {w w' : World} {P : Option Addr} {ms : List T} (h : InS w P ms) (hb : Below w.heap.size w w') : InS w' P ms := InG.below senc_len (by decide) h hb
theorem ins_cell {w : World} {P : Option Addr} {ms : List T} (h : InS w P ms) (i : Nat) (hi : i < ms.length) : ∃ b o, P = some ⟨b, o, none⟩ ∧ w.cell? ⟨b, o + i, none⟩ = some (.string ⟨(ms[i]).toArray⟩) := by
  obtain ⟨b, o, e, hc⟩ := InG.cells h i hi
  have h0 := hc 0 (by decide)
  rw [Nat.mul_one, Nat.add_zero] at h0
  exact ⟨b, o, e, h0⟩
theorem drewN_add (w : World) (a b : Nat) : (w.drewN a).drewN b = w.drewN (a + b) := by
  unfold World.drewN
  simp [Nat.add_assoc]
theorem take_eqk {α : Type} {l m : List α} {k : Nat} (h1 : k < l.length) (h2 : k < m.length) : l.take (k + 1) = m.take (k + 1) ↔ l.take k = m.take k ∧ l[k] = m[k] := by
  rw [List.take_succ_eq_append_getElem h1, List.take_succ_eq_append_getElem h2]
  constructor
  · intro h
    obtain ⟨e1, e2⟩ := List.append_inj h (by simp; omega)
    exact ⟨e1, by simpa using e2⟩
  · rintro ⟨e1, e2⟩; rw [e1, e2]
theorem hasB_take (l : List T) (s : T) (k : Nat) (h : k < l.length) (h0 : hasB (l.take k) s = false) : (l[k] = s → hasB l s = true) ∧ (l[k] ≠ s → hasB (l.take (k + 1)) s = false) := by
  constructor
  · intro e; rw [hasB_iff, ← e]; exact List.getElem_mem h
  · intro e
    unfold hasB at h0 ⊢
    rw [List.take_succ_eq_append_getElem h, List.any_append, h0]
    simpa using e
set_option maxRecDepth 100000 in
set_option maxHeartbeats 4000000 in
theorem rhas_c (P : Option Addr) (C : Nat) (ms : List T) (n : T) (w : World) (hp : InS w P ms) (hl : ms.length ≤ 140737488355328) :
    Calls Tryd.prog 29 #[.slice P ms.length C, tx n] w fun e w' => e = .returned (.bool (hasB ms n)) ∧ w = w' := by
  have HP := Lib.hid hp
  clear hp
  unfold tx
  go_enter Tryd.func29, Tryd.ntmps29
  go_wp2_with fail
  go_loopg [5] ms.length (fun g s6 wx => ∃ k : Nat, k + g = ms.length ∧ s6 = .int .i64 k ∧ Hid (hasB (ms.take k) n = false) ∧ wx = w)
  case atStart => exact ⟨0, by omega, rfl, rfl, rfl⟩
  case round =>
    obtain ⟨k, hkg, rfl, HN, rfl⟩ := hrel
    rcases gk with _ | g
    · obtain rfl : k = ms.length := by omega
      have HR : Hid (hasB ms n = false) := by have h := HN.out; rwa [List.take_length] at h
      go_wp2_with fail
      go_ret
      exact ⟨ret_bool HR.out.symm, rfl⟩
    · have hk : k < ms.length := by omega
      have hkI : (k : Int) < (ms.length : Int) := by omega
      obtain ⟨b, o, rfl, c0⟩ := ins_cell HP.out k hk
      obtain ⟨h1, h2⟩ := hasB_take ms n k hk HN.out
      obtain ⟨x0, hm⟩ : ∃ m, ms[k] = m := ⟨_, rfl⟩
      rw [hm] at c0 h1 h2
      have H1 := Lib.hid h1
      have H2 := Lib.hid h2
      clear h1 h2 hm
      by_cases he : x0 = n
      · have HR := Lib.hid (H1.out he)
        have hb : (x0 == n) = true := by simpa using he
        clear H1 H2 he
        go_wp2_with fail
        go_ret
        exact ⟨ret_bool HR.out.symm, rfl⟩
      · have HR := Lib.hid (H2.out he)
        have hb : (x0 == n) = false := by simpa using he
        clear H1 H2 he
        go_wp2_with fail
        go_roundg g
        case measure => omega
        case rel => exact ⟨k + 1, by omega, by go_num, HR, rfl⟩
set_option maxRecDepth 100000 in
set_option maxHeartbeats 8000000 in
theorem rsame_c (P : Option Addr) (C : Nat) (ps : List T) (Q : Option Addr) (D : Nat) (qs : List T) (w : World) (hp : InS w P ps) (hq : InS w Q qs) (hl : ps.length ≤ 140737488355328) (hm : qs.length ≤ 140737488355328) :
    Calls Tryd.prog 14 #[.slice P ps.length C, .slice Q qs.length D] w fun e w' => e = .returned (.bool (decide (ps = qs))) ∧ ∃ n, w' = w.drewN n := by
  by_cases hlen : ps.length = qs.length
  · have hbl : ((ps.length : Int) != (qs.length : Int)) = false := by rw [bne_eq_false_iff_eq]; omega
    obtain ⟨N, hN⟩ : ∃ N, qs.length = N := ⟨_, rfl⟩
    have hNp : ps.length = N := by omega
    rw [hN] at hm hbl ⊢
    rw [hNp] at hbl hl ⊢
    have HNQ := Lib.hid hN
    have HNP := Lib.hid hNp
    have HP := Lib.hid hp
    have HQ := Lib.hid hq
    clear hN hNp hlen hp hq hbl
    go_enter Tryd.func14, Tryd.ntmps14
    go_wp2_with fail
    go_loopg [5] N (fun g s5 wy => ∃ k : Nat, k + g = N ∧ s5 = .int .i64 k ∧ Hid (ps.take k = qs.take k) ∧ ∃ nd, wy = w.drewN nd)
    case atStart => exact ⟨0, by omega, rfl, rfl, 0, rfl⟩
    case round =>
      obtain ⟨k, hkg, rfl, HE, nd, hwy⟩ := hrel
      have HWY := Lib.hid hwy
      clear hwy
      rcases gk with _ | g
      · obtain rfl : k = N := by omega
        have HF : Hid (decide (ps = qs) = true) := by
          have e1 : ps.take k = ps := List.take_of_length_le (by rw [HNP.out]; exact Nat.le_refl _)
          have e2 : qs.take k = qs := List.take_of_length_le (by rw [HNQ.out]; exact Nat.le_refl _)
          have h := HE.out
          rw [e1, e2] at h
          exact decide_eq_true h
        go_wp2_with fail
        go_ret
        exact ⟨ret_bool HF.out.symm, nd, HWY.out⟩
      · have hk : k < N := by omega
        have hkp : k < ps.length := by rw [HNP.out]; exact hk
        have hkq : k < qs.length := by rw [HNQ.out]; exact hk
        obtain ⟨b, o, rfl, c0⟩ := ins_cell HP.out k hkp
        obtain ⟨b2, o2, rfl, d0⟩ := ins_cell HQ.out k hkq
        have HT := Lib.hid (show ps.take (k + 1) = qs.take (k + 1) ↔ ps.take k = qs.take k ∧ ps[k] = qs[k] from take_eqk hkp hkq)
        have HNE : Hid (ps[k] ≠ qs[k] → decide (ps = qs) = false) := fun h => decide_eq_false fun e => h (by subst e; rfl)
        obtain ⟨x0, hx⟩ : ∃ x, ps[k] = x := ⟨_, rfl⟩
        obtain ⟨y0, hy⟩ : ∃ y, qs[k] = y := ⟨_, rfl⟩
        rw [hx] at c0 HT HNE
        rw [hy] at d0 HT HNE
        replace c0 : wr.cell? ⟨b, o + k, none⟩ = some (.string ⟨x0.toArray⟩) := by rw [HWY.out]; exact c0
        replace d0 : wr.cell? ⟨b2, o2 + k, none⟩ = some (.string ⟨y0.toArray⟩) := by rw [HWY.out]; exact d0
        have hkI : (k : Int) < (N : Int) := by omega
        clear hx hy
        by_cases e0 : x0 = y0
        · have b0 : (x0 == y0) = true := by simp [e0]
          have HE2 : Hid (ps.take (k + 1) = qs.take (k + 1)) := HT.out.2 ⟨HE.out, e0⟩
          clear HNE HT e0
          go_wp2_with fail
          go_quiet (fail)
          go_wp2_with fail
          go_roundg g
          case measure => omega
          case rel => exact ⟨k + 1, by omega, by go_num, HE2, nd + nq, by rw [HWY.out]; exact drewN_add w nd nq⟩
        · have HF := Lib.hid (HNE.out e0)
          have b0 : (x0 == y0) = false := by simpa using e0
          clear HNE HT e0
          go_wp2_with fail
          go_quiet (fail)
          go_wp2_with fail
          go_ret
          exact ⟨ret_bool HF.out.symm, nd + nq, by rw [HWY.out]; exact drewN_add w nd nq⟩
  · have hbl : ((ps.length : Int) != (qs.length : Int)) = true := by rw [bne_iff_ne]; omega
    have HF : Hid (decide (ps = qs) = false) := decide_eq_false fun e => hlen (by rw [e])
    clear hlen hp hq
    go_enter Tryd.func14, Tryd.ntmps14
    go_wp2_with fail
    go_ret
    exact ⟨ret_bool HF.out.symm, 0, rfl⟩
theorem okC_text (s : ByteArray) (k : Nat) (h : k < s.size) (h0 : (s.data.toList.take k).all okC = true) : (okC s[k] = true → (s.data.toList.take (k + 1)).all okC = true) ∧ (okC s[k] = false → s.data.toList.all okC = false) := by
  have h1 : k < s.data.toList.length := by simpa using h
  have e : s[k] = s.data.toList[k] := rfl
  rw [e]
  constructor
  · intro h2
    rw [List.take_succ_eq_append_getElem h1, List.all_append, h0, List.all_cons, h2]
    rfl
  · intro h2
    cases h3 : s.data.toList.all okC with
    | false => rfl
    | true =>
      rw [List.all_eq_true] at h3
      rw [h3 _ (List.getElem_mem h1)] at h2
      cases h2
set_option maxRecDepth 100000 in
set_option maxHeartbeats 8000000 in
theorem rword_c (s : ByteArray) (w : World) :
    Calls Tryd.prog 12 #[.string s] w fun e w' => e = .returned (.bool (wordB s.data.toList)) ∧ w = w' := by
  have HSL : Hid (s.data.toList.length = s.size) := by show _ = _; rw [Array.length_toList]; rfl
  by_cases h0 : 1 ≤ s.size
  · by_cases h64 : s.size ≤ 64
    · have HW : Hid (wordB s.data.toList = s.data.toList.all okC) := by
        show _ = _
        unfold wordB
        rw [HSL.out, decide_eq_true h0, decide_eq_true h64]; rfl
      have i0 : ¬ ((s.size : Int) < 1) := by omega
      have i64 : ¬ ((s.size : Int) > 64) := by omega
      go_enter Tryd.func12, Tryd.ntmps12
      go_wp2_with fail
      go_loopg [3] s.size (fun g s6 wx => ∃ k : Nat, k + g = s.size ∧ s6 = .int .i64 k ∧ Hid ((s.data.toList.take k).all okC = true) ∧ wx = w)
      case atStart => exact ⟨0, by omega, rfl, rfl, rfl⟩
      case round =>
        obtain ⟨k, hkg, rfl, HN, rfl⟩ := hrel
        rcases gk with _ | g
        · obtain rfl : k = s.size := by omega
          have HR : Hid (wordB s.data.toList = true) := by
            have h := HN.out
            rw [List.take_of_length_le (by rw [HSL.out]; exact Nat.le_refl _)] at h
            show _ = _
            rw [HW.out]; exact h
          go_wp2_with fail
          go_ret
          exact ⟨ret_bool HR.out.symm, rfl⟩
        · have hk : k < s.size := by omega
          have hkI : (k : Int) < (s.size : Int) := by omega
          obtain ⟨h1, h2⟩ := okC_text s k hk HN.out
          rw [← HW.out] at h2
          obtain ⟨c, hc⟩ : ∃ c, s[k] = c := ⟨_, rfl⟩
          have hcc : (s[k].toNat : Int) = (c.toNat : Int) := by rw [hc]
          rw [hc] at h1 h2
          have H1 := Lib.hid h1
          have H2 := Lib.hid h2
          have HOK : Hid (okC c = (decide (c.toNat = 33) || (decide (35 ≤ c.toNat) && decide (c.toNat ≤ 91)) || (decide (93 ≤ c.toNat) && decide (c.toNat ≤ 126)))) := rfl
          have hcl := c.toNat_lt
          clear h1 h2 hc
          obtain ⟨n, hn⟩ : ∃ n, c.toNat = n := ⟨_, rfl⟩
          rw [hn] at hcc hcl HOK
          clear hn
          by_cases hok : okC c = true
          · have HR := Lib.hid (H1.out hok)
            have ho := hok
            rw [HOK.out] at ho
            simp only [Bool.or_eq_true, Bool.and_eq_true, decide_eq_true_eq] at ho
            clear H1 H2 hok HOK
            go_wp2_with fail
            all_goals first
              | (go_roundg g
                 case measure => omega
                 case rel => exact ⟨k + 1, by omega, by go_num, HR, rfl⟩)
              | (exfalso; omega)
          · have HR := Lib.hid (H2.out (by simpa using hok))
            have ho := hok
            rw [HOK.out] at ho
            simp only [Bool.or_eq_true, Bool.and_eq_true, decide_eq_true_eq] at ho
            clear H1 H2 hok HOK
            go_wp2_with fail
            all_goals first
              | (go_ret; exact ⟨ret_bool HR.out.symm, rfl⟩)
              | (exfalso; omega)
    · have HW : Hid (wordB s.data.toList = false) := by
        show _ = _
        unfold wordB
        rw [HSL.out, decide_eq_true h0, decide_eq_false h64]; rfl
      have i0 : ¬ ((s.size : Int) < 1) := by omega
      have i64 : (s.size : Int) > 64 := by omega
      go_enter Tryd.func12, Tryd.ntmps12
      go_wp2_with fail
      go_ret
      exact ⟨ret_bool HW.out.symm, rfl⟩
  · have HW : Hid (wordB s.data.toList = false) := by
      show _ = _
      unfold wordB
      rw [HSL.out, decide_eq_false h0]; rfl
    have i0 : (s.size : Int) < 1 := by omega
    go_enter Tryd.func12, Tryd.ntmps12
    go_wp2_with fail
    go_ret
    exact ⟨ret_bool HW.out.symm, rfl⟩
end Go.Proofs.YtcklbbbplbboaaaDoor.scp
