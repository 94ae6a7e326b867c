/- The contracts of the reference's Same and Get. Bounds as each theorem says. -/
import Derived.Test.YtbgnoobgnpebdaaDoorJsn8
namespace Go.Proofs.YtbgnoobgnpebdaaDoor.jsn
open Go.RowKit
open Go.Proofs.YtbgnoobgnpebdaaDoor.oct Go.Proofs.YtbgnoobgnpebdaaDoor.ref Go.Proofs.YtbgnoobgnpebdaaDoor.rows Go.Proofs.YtbgnoobgnpebdaaDoor.rowg
open Go.Lib (byteCells)

theorem drewN_add (w : World) (a b : Nat) : (w.drewN a).drewN b = w.drewN (a + b) := by
  unfold World.drewN
  simp [Nat.add_assoc]
theorem take_eqk {α : Type} {l m : List α} {k : Nat} (h1 : k < l.length) (h2 : k < m.length) : l.take (k + 1) = m.take (k + 1) ↔ l.take k = m.take k ∧ l[k] = m[k] := by
  rw [List.take_succ_eq_append_getElem h1, List.take_succ_eq_append_getElem h2]
  constructor
  · intro h
    obtain ⟨e1, e2⟩ := List.append_inj h (by simp; omega)
    exact ⟨e1, by simpa using e2⟩
  · rintro ⟨e1, e2⟩; rw [e1, e2]
set_option maxRecDepth 100000 in
set_option maxHeartbeats 8000000 in
theorem rsame_c (P : Option Addr) (C : Nat) (ps : List Mem) (Q : Option Addr) (D : Nat) (qs : List Mem) (w : World) (hp : InM w P ps) (hq : InM w Q qs) (hl : ps.length ≤ 140737488355328) (hm : qs.length ≤ 140737488355328) :
    Calls Tryd.prog 15 #[.slice P ps.length C, .slice Q qs.length D] w fun e w' => e = .returned (.bool (decide (ps = qs))) ∧ ∃ n, w' = w.drewN n := by
  by_cases hlen : ps.length = qs.length
  · have hbl : ((ps.length : Int) != (qs.length : Int)) = false := by rw [bne_eq_false_iff_eq]; omega
    obtain ⟨N, hN⟩ : ∃ N, qs.length = N := ⟨_, rfl⟩
    have hNp : ps.length = N := by omega
    rw [hN] at hm hbl ⊢
    rw [hNp] at hbl hl ⊢
    have HNQ := Lib.hid hN
    have HNP := Lib.hid hNp
    have HP := Lib.hid hp
    have HQ := Lib.hid hq
    clear hN hNp hlen hp hq hbl
    go_enter Tryd.func15, Tryd.ntmps15
    go_wp2_with fail
    go_loopg [5] N (fun g s5 wy => ∃ k : Nat, k + g = N ∧ s5 = .int .i64 k ∧ Hid (ps.take k = qs.take k) ∧ ∃ nd, wy = w.drewN nd)
    case atStart => exact ⟨0, by omega, rfl, rfl, 0, rfl⟩
    case round =>
      obtain ⟨k, hkg, rfl, HE, nd, hwy⟩ := hrel
      have HWY := Lib.hid hwy
      clear hwy
      rcases gk with _ | g
      · obtain rfl : k = N := by omega
        have HF : Hid (decide (ps = qs) = true) := by
          have e1 : ps.take k = ps := List.take_of_length_le (by rw [HNP.out]; exact Nat.le_refl _)
          have e2 : qs.take k = qs := List.take_of_length_le (by rw [HNQ.out]; exact Nat.le_refl _)
          have h := HE.out
          rw [e1, e2] at h
          exact decide_eq_true h
        go_wp2_with fail
        go_ret
        exact ⟨ret_bool HF.out.symm, nd, HWY.out⟩
      · have hk : k < N := by omega
        have hkp : k < ps.length := by rw [HNP.out]; exact hk
        have hkq : k < qs.length := by rw [HNQ.out]; exact hk
        obtain ⟨b, o, rfl, c0, c1, c2, c3, c4⟩ := mem_cells HP.out k hkp
        obtain ⟨b2, o2, rfl, d0, d1, d2, d3, d4⟩ := mem_cells HQ.out k hkq
        have HT := Lib.hid (show ps.take (k + 1) = qs.take (k + 1) ↔ ps.take k = qs.take k ∧ ps[k] = qs[k] from take_eqk hkp hkq)
        have HNE : Hid (ps[k] ≠ qs[k] → decide (ps = qs) = false) := fun h => decide_eq_false fun e => h (by subst e; rfl)
        obtain ⟨x, hx⟩ : ∃ x, ps[k] = x := ⟨_, rfl⟩
        obtain ⟨y, hy⟩ : ∃ y, qs[k] = y := ⟨_, rfl⟩
        rw [hx] at c0 c1 c2 c3 c4 HT HNE
        rw [hy] at d0 d1 d2 d3 d4 HT HNE
        obtain ⟨x0, x1, x2, x3, x4⟩ := x
        obtain ⟨y0, y1, y2, y3, y4⟩ := y
        dsimp only at c0 c1 c2 c3 c4 d0 d1 d2 d3 d4
        replace c0 : wr.cell? ⟨b, o + k * 5, none⟩ = some (.string ⟨x0.toArray⟩) := by rw [HWY.out]; exact c0
        replace c1 : wr.cell? ⟨b, o + k * 5 + 1, none⟩ = some (.int .i64 x1) := by rw [HWY.out]; exact c1
        replace c2 : wr.cell? ⟨b, o + k * 5 + 2, none⟩ = some (.string ⟨x2.toArray⟩) := by rw [HWY.out]; exact c2
        replace c3 : wr.cell? ⟨b, o + k * 5 + 3, none⟩ = some (.int .i64 x3) := by rw [HWY.out]; exact c3
        replace c4 : wr.cell? ⟨b, o + k * 5 + 4, none⟩ = some (.bool x4) := by rw [HWY.out]; exact c4
        replace d0 : wr.cell? ⟨b2, o2 + k * 5, none⟩ = some (.string ⟨y0.toArray⟩) := by rw [HWY.out]; exact d0
        replace d1 : wr.cell? ⟨b2, o2 + k * 5 + 1, none⟩ = some (.int .i64 y1) := by rw [HWY.out]; exact d1
        replace d2 : wr.cell? ⟨b2, o2 + k * 5 + 2, none⟩ = some (.string ⟨y2.toArray⟩) := by rw [HWY.out]; exact d2
        replace d3 : wr.cell? ⟨b2, o2 + k * 5 + 3, none⟩ = some (.int .i64 y3) := by rw [HWY.out]; exact d3
        replace d4 : wr.cell? ⟨b2, o2 + k * 5 + 4, none⟩ = some (.bool y4) := by rw [HWY.out]; exact d4
        have hkI : (k : Int) < (N : Int) := by omega
        clear hx hy
        by_cases e0 : x0 = y0
        · have b0 : (x0 == y0) = true := by simp [e0]
          by_cases e1 : x1 = y1
          · have b1 : (x1 == y1) = true := by simp [e1]
            by_cases e2 : x2 = y2
            · have b2 : (x2 == y2) = true := by simp [e2]
              by_cases e3 : x3 = y3
              · have b3 : (x3 == y3) = true := by simp [e3]
                by_cases e4 : x4 = y4
                · have b4 : (x4 == y4) = true := by simp [e4]
                  have HE2 : Hid (ps.take (k + 1) = qs.take (k + 1)) := HT.out.2 ⟨HE.out, by rw [e0, e1, e2, e3, e4]⟩
                  clear HNE HT e0 e1 e2 e3 e4
                  go_wp2_with fail
                  go_quiet (fail)
                  go_wp2_with fail
                  go_roundg g
                  case measure => omega
                  case rel => exact ⟨k + 1, by omega, by go_num, HE2, nd + nq, by rw [HWY.out]; exact drewN_add w nd nq⟩
                · clear e0 e1 e2 e3
                  have HF := Lib.hid (HNE.out (fun h => e4 (by injection h)))
                  have b4 : (x4 == y4) = false := by simpa using e4
                  clear HNE HT e4
                  go_wp2_with fail
                  go_quiet (fail)
                  go_wp2_with fail
                  go_ret
                  exact ⟨ret_bool HF.out.symm, nd + nq, by rw [HWY.out]; exact drewN_add w nd nq⟩
              · clear e0 e1 e2
                have HF := Lib.hid (HNE.out (fun h => e3 (by injection h)))
                have b3 : (x3 == y3) = false := by simpa using e3
                clear HNE HT e3
                go_wp2_with fail
                go_quiet (fail)
                go_wp2_with fail
                go_ret
                exact ⟨ret_bool HF.out.symm, nd + nq, by rw [HWY.out]; exact drewN_add w nd nq⟩
            · clear e0 e1
              have HF := Lib.hid (HNE.out (fun h => e2 (by injection h)))
              have b2 : (x2 == y2) = false := by simpa using e2
              clear HNE HT e2
              go_wp2_with fail
              go_quiet (fail)
              go_wp2_with fail
              go_ret
              exact ⟨ret_bool HF.out.symm, nd + nq, by rw [HWY.out]; exact drewN_add w nd nq⟩
          · clear e0
            have HF := Lib.hid (HNE.out (fun h => e1 (by injection h)))
            have b1 : (x1 == y1) = false := by simpa using e1
            clear HNE HT e1
            go_wp2_with fail
            go_quiet (fail)
            go_wp2_with fail
            go_ret
            exact ⟨ret_bool HF.out.symm, nd + nq, by rw [HWY.out]; exact drewN_add w nd nq⟩
        · have HF := Lib.hid (HNE.out (fun h => e0 (by injection h)))
          have b0 : (x0 == y0) = false := by simpa using e0
          clear HNE HT e0
          go_wp2_with fail
          go_quiet (fail)
          go_wp2_with fail
          go_ret
          exact ⟨ret_bool HF.out.symm, nd + nq, by rw [HWY.out]; exact drewN_add w nd nq⟩
  · have hbl : ((ps.length : Int) != (qs.length : Int)) = true := by rw [bne_iff_ne]; omega
    have HF : Hid (decide (ps = qs) = false) := decide_eq_false fun e => hlen (by rw [e])
    clear hlen hp hq
    go_enter Tryd.func15, Tryd.ntmps15
    go_wp2_with fail
    go_ret
    exact ⟨ret_bool HF.out.symm, 0, rfl⟩
/-- the zero member -/
def zM : Mem := ⟨[], 0, [], 0, false⟩
def findM (ms : List Mem) (n : List UInt8) : Option Mem := ms.find? (fun m => m.name == n)
/-- what Get answers -/
def getV (o : Option Mem) : Value := match o with
  | some m => .tuple #[mv m, .bool true]
  | none => .tuple #[mv zM, .bool false]
theorem findM_take (ms : List Mem) (n : List UInt8) (k : Nat) (h : k < ms.length) (h0 : findM (ms.take k) n = none) : (((ms[k]).name == n) = true → findM ms n = some ms[k]) ∧ (((ms[k]).name == n) = false → findM (ms.take (k + 1)) n = none) := by
  have e : ms = ms.take k ++ (ms[k] :: ms.drop (k + 1)) := by rw [← List.drop_eq_getElem_cons h, List.take_append_drop]
  constructor
  · intro hx
    unfold findM at h0 ⊢
    conv => lhs; rw [e]
    rw [List.find?_append, h0, List.find?_cons, hx]; rfl
  · intro hx
    unfold findM at h0 ⊢
    rw [List.take_succ_eq_append_getElem h, List.find?_append, h0, List.find?_cons, hx]; rfl
set_option maxRecDepth 100000 in
set_option maxHeartbeats 4000000 in
theorem rget_c (P : Option Addr) (C : Nat) (ms : List Mem) (n : List UInt8) (w : World) (hp : InM w P ms) (hl : ms.length ≤ 140737488355328) :
    Calls Tryd.prog 20 #[.slice P ms.length C, tx n] w fun e w' => e = .returned (getV (findM ms n)) ∧ Below w.heap.size w w' := by
  have HP := Lib.hid hp
  have hE : Blk (w.alloc (.cells #[.string ⟨#[]⟩, .int .i64 0, .string ⟨#[]⟩, .int .i64 0, .bool false] 38)) w.heap.size 38 [.string ⟨#[]⟩, .int .i64 0, .string ⟨#[]⟩, .int .i64 0, .bool false] := blk_new w _ _ _ rfl
  have HE := Lib.hid hE
  have HB0 := Lib.hid ((Below.refl w.heap.size w).alloc (Nat.le_refl _) (.cells #[.string ⟨#[]⟩, .int .i64 0, .string ⟨#[]⟩, .int .i64 0, .bool false] 38))
  clear hp hE
  unfold tx
  go_enter Tryd.func20, Tryd.ntmps20
  go_wp2_with fail
  go_loopg [6] ms.length (fun g s6 wx => ∃ k : Nat, k + g = ms.length ∧ s6 = .int .i64 k ∧ Hid (findM (ms.take k) n = none) ∧ wx = w.alloc (.cells #[.string ⟨#[]⟩, .int .i64 0, .string ⟨#[]⟩, .int .i64 0, .bool false] 38))
  case atStart => exact ⟨0, by omega, rfl, rfl, rfl⟩
  case round =>
    obtain ⟨k, hkg, rfl, HN, rfl⟩ := hrel
    rcases gk with _ | g
    · obtain rfl : k = ms.length := by omega
      have HR : Hid (findM ms n = none) := by have h := HN.out; rwa [List.take_length] at h
      go_wp2_with fail
      refine bodyPost_ret (v := .tuple #[.agg ([.string ⟨#[]⟩, .int .i64 0, .string ⟨#[]⟩, .int .i64 0, .bool false] : List Value).toArray, .bool false]) ?_ ?_ ?_
      · exact results_rowtmp Tryd.results20 _ _ w.heap.size 38 [.string ⟨#[]⟩, .int .i64 0, .string ⟨#[]⟩, .int .i64 0, .bool false] _ rfl rfl (blk_new w _ _ _ rfl) Tryd.underlying38 rfl infoMem
      · rfl
      · exact ⟨by rw [HR.out]; rfl, (Below.refl _ _).alloc (Nat.le_refl _) _⟩
    · have hk : k < ms.length := by omega
      have hkI : (k : Int) < (ms.length : Int) := by omega
      obtain ⟨b, o, rfl, c0, c1, c2, c3, c4⟩ := mem_cells (inm_below HP.out HB0.out) k hk
      obtain ⟨h1, h2⟩ := findM_take ms n k hk HN.out
      obtain ⟨m, hm⟩ : ∃ m, ms[k] = m := ⟨_, rfl⟩
      rw [hm] at c0 c1 c2 c3 c4 h1 h2
      obtain ⟨x0, x1, x2, x3, x4⟩ := m
      dsimp only at c0 c1 c2 c3 c4 h1 h2
      have H1 := Lib.hid h1
      have H2 := Lib.hid h2
      clear h1 h2 hm
      by_cases he : (x0 == n) = true
      · have HR := Lib.hid (H1.out he)
        go_wp2_with fail
        refine bodyPost_ret (v := .tuple #[.agg ([.string ⟨x0.toArray⟩, .int .i64 x1, .string ⟨x2.toArray⟩, .int .i64 x3, .bool x4] : List Value).toArray, .bool true]) ?_ ?_ ?_
        · exact results_rowtmp Tryd.results20 _ _ w.heap.size 38 [.string ⟨x0.toArray⟩, .int .i64 x1, .string ⟨x2.toArray⟩, .int .i64 x3, .bool x4] _ rfl rfl (blk_new w _ _ _ rfl) Tryd.underlying38 rfl infoMem
        · rfl
        · exact ⟨by rw [HR.out]; rfl, (Below.refl _ _).alloc (Nat.le_refl _) _⟩
      · have hef : (x0 == n) = false := by simpa using he
        have HN2 := Lib.hid (H2.out hef)
        clear he
        go_wp2_with fail
        go_roundg g
        case measure => omega
        case rel => exact ⟨k + 1, by omega, by go_num, HN2, rfl⟩
end Go.Proofs.YtbgnoobgnpebdaaDoor.jsn
