/- behind's search by halves: slices.BinarySearchFunc over points with behind's closure. Condition: points that rise. -/
import Derived.Test.YtkababeeikhifaaDoorRi7
namespace Go.Proofs.YtkababeeikhifaaDoor.rng
open Go.RowKit
open Go.Proofs.YtkababeeikhifaaDoor.oct Go.Proofs.YtkababeeikhifaaDoor.ref Go.Proofs.YtkababeeikhifaaDoor.rows Go.Proofs.YtkababeeikhifaaDoor.rowg Go.Proofs.YtkababeeikhifaaDoor.trn
open Go.Proofs.YtkababeeikhifaaDoor.scp (tx senc senc_len InS ins_below ins_cell)

set_option maxHeartbeats 4000000 in
theorem near_c (xa xr p : Nat) (W : World) :
    Calls Tryd.prog 52 #[.agg #[.int .u64 (xa : Int), .int .i64 (xr : Int)], .int .u64 (p : Int)] W fun e w' => e = .returned (.int .i64 (cmpZ xa p)) ∧ Below W.heap.size W w' := by
  have HC := Lib.hid (fun W => cmpu_c xa p W)
  obtain ⟨z, hz⟩ : ∃ z, cmpZ xa p = z := ⟨_, rfl⟩
  rw [hz] at HC ⊢
  have HB : Hid (Below W.heap.size W (W.alloc (.cells #[.int .u64 (xa : Int), .int .i64 (xr : Int)] 37))) := Lib.hid ((Below.refl _ _).alloc (Nat.le_refl _) _)
  clear hz
  go_enter Tryd.func52, Tryd.ntmps52
  go_wp2_with fail
  refine (HC.out _).mono ?_
  rintro e w1 ⟨rfl, rfl⟩
  go_wp2_with fail
  go_ret
  exact ⟨rfl, HB.out⟩
theorem count_at {l : List Pn} {p i : Nat} (hi : i ≤ l.length) (h1 : ∀ t (h : t < l.length), t < i → l[t].a < p) (h2 : ∀ t (h : t < l.length), i ≤ t → ¬ l[t].a < p) : l.countP (fun x => decide (x.a < p)) = i := by
  rw [← List.take_append_drop i l, List.countP_append]
  have e1 : (l.take i).countP (fun x => decide (x.a < p)) = i := by
    have h : (l.take i).countP (fun x => decide (x.a < p)) = (l.take i).length := List.countP_eq_length.2 fun x hx => by
      obtain ⟨t, ht, rfl⟩ := List.getElem_of_mem hx
      rw [List.length_take] at ht
      rw [List.getElem_take]
      exact decide_eq_true (h1 t (by omega) (by omega))
    rw [h, List.length_take]; omega
  have e2 : (l.drop i).countP (fun x => decide (x.a < p)) = 0 := List.countP_eq_zero.2 fun x hx => by
    obtain ⟨t, ht, rfl⟩ := List.getElem_of_mem hx
    rw [List.length_drop] at ht
    rw [List.getElem_drop]
    have := h2 (i + t) (by omega) (by omega)
    simpa using this
  rw [e1, e2]
  rfl
theorem ale_at {l : List Pn} (h : aLe l) {i j : Nat} (hi : i < l.length) (hj : j < l.length) (hij : i ≤ j) : l[i].a ≤ l[j].a := by
  by_cases e : i = j
  · subst e; exact Nat.le_refl _
  · exact List.pairwise_iff_getElem.1 h i j hi hj (by omega)
theorem point_at {w : World} {P : Option Addr} {l : List Pn} (h : InG pnc 2 w P l) (i : Nat) (hi : i < l.length) : ∃ b o, P = some ⟨b, o, none⟩ ∧ w.cell? ⟨b, o + i * 2, none⟩ = some (.int .u64 ((l[i]).a : Int)) ∧ w.cell? ⟨b, o + i * 2 + 1, none⟩ = some (.int .i64 ((l[i]).r : Int)) := by
  obtain ⟨b, o, e, hc⟩ := h.cells i hi
  exact ⟨b, o, e, hc 0 (by decide), hc 1 (by decide)⟩
theorem cmpZ_lt {x y : Nat} (h : x < y) : cmpZ x y = -1 := if_pos h
theorem cmpZ_ge {x y : Nat} (h : ¬ x < y) : 0 ≤ cmpZ x y := by
  unfold cmpZ
  rw [if_neg h]
  split <;> decide
/-- whether a point stands just there -/
def fndB (l : List Pn) (p : Nat) : Bool := match l[l.countP (fun x => decide (x.a < p))]? with
  | some x => cmpZ x.a p == 0
  | none => false
set_option maxRecDepth 100000 in
set_option maxHeartbeats 8000000 in
theorem find_c (b o C n : Nat) (l : List Pn) (p : Nat) (w : World) (hp : InG pnc 2 w (some ⟨b, o, none⟩) l) (hs : aLe l) (hn : l.length = n) (hl : n ≤ 1048576) :
    Calls Tryd.prog 51 #[.slice (some ⟨b, o, none⟩) n C, .int .u64 (p : Int), .func (.func 52) #[] #[]] w fun e w' =>
      e = .returned (.tuple #[.int .i64 ((l.countP (fun x => decide (x.a < p)) : Nat) : Int), .bool (fndB l p)]) ∧ Below w.heap.size w w' := by
  have HN := Lib.hid hn
  have HP := Lib.hid hp
  have HS := Lib.hid hs
  obtain ⟨cn, hcn⟩ : ∃ cn, l.countP (fun x => decide (x.a < p)) = cn := ⟨_, rfl⟩
  have HFD : Hid (fndB l p = match l[cn]? with | some x => cmpZ x.a p == 0 | none => false) := Lib.hid (by unfold fndB; rw [hcn])
  obtain ⟨fd, hfd⟩ : ∃ fd, fndB l p = fd := ⟨_, rfl⟩
  rw [hcn, hfd]
  rw [hfd] at HFD
  have HCNT := Lib.hid hcn
  clear hn hp hs hcn hfd
  go_enter Tryd.func51, Tryd.ntmps51
  go_wp2_with fail
  go_loopg [9, 10] n (fun kx s9 s10 wr => ∃ lo hi : Nat, s9 = .int .i64 (lo : Int) ∧ s10 = .int .i64 (hi : Int) ∧ lo ≤ hi ∧ hi ≤ n ∧ hi - lo ≤ kx ∧ Hid (Below w.heap.size w wr) ∧ Hid ((∀ t (h : t < l.length), t < lo → l[t].a < p) ∧ (∀ t (h : t < l.length), hi ≤ t → ¬ l[t].a < p)))
  case atStart => exact ⟨0, n, rfl, rfl, Nat.zero_le _, Nat.le_refl _, by omega, Lib.hid (Below.refl _ _), Lib.hid ⟨fun t _ ht => absurd ht (Nat.not_lt_zero _), fun t h ht => by have := HN.out; omega⟩⟩
  case round =>
    obtain ⟨lo, hi, rfl, rfl, hlh, hin, hg, HB, I⟩ := hrel
    have HPW : Hid (InG pnc 2 wr (some ⟨b, o, none⟩) l) := Lib.hid (InG.below pnc_len (by decide) HP.out HB.out)
    by_cases hlt : lo < hi
    · obtain ⟨M, hM⟩ : ∃ M, (lo + hi) / 2 = M := ⟨_, rfl⟩
      have hM1 : lo ≤ M := by omega
      have hM2 : M < hi := by omega
      have hMn : M < l.length := by rw [HN.out]; omega
      have hMI : ((lo : Int) + (hi : Int)) / 2 = (M : Int) := by omega
      have hMC : (M : Int) < (n : Int) := by omega
      obtain ⟨b', o', hq, c0, c1⟩ := point_at HPW.out M hMn
      cases hq
      have HC : Hid (∀ W, Calls Tryd.prog 52 #[.agg #[.int .u64 ((l[M]).a : Int), .int .i64 ((l[M]).r : Int)], .int .u64 (p : Int)] W fun e w' => e = .returned (.int .i64 (cmpZ (l[M]).a p)) ∧ Below W.heap.size W w') := Lib.hid fun W => near_c _ _ _ W
      have I1 : Hid ((l[M]).a < p → (∀ t (h : t < l.length), t < M + 1 → l[t].a < p) ∧ (∀ t (h : t < l.length), hi ≤ t → ¬ l[t].a < p)) := Lib.hid fun h => ⟨fun t ht htM => Nat.lt_of_le_of_lt (ale_at HS.out ht hMn (by omega)) h, I.out.2⟩
      have I2 : Hid (¬ (l[M]).a < p → (∀ t (h : t < l.length), t < lo → l[t].a < p) ∧ (∀ t (h : t < l.length), M ≤ t → ¬ l[t].a < p)) := Lib.hid fun h => ⟨I.out.1, fun t ht htM h2 => h (Nat.lt_of_le_of_lt (ale_at HS.out hMn ht htM) h2)⟩
      obtain ⟨ya, hya⟩ : ∃ ya, (l[M]).a = ya := ⟨_, rfl⟩
      obtain ⟨yr, hyr⟩ : ∃ yr, (l[M]).r = yr := ⟨_, rfl⟩
      rw [hya] at c0 HC I1 I2
      rw [hyr] at c1 HC
      clear hya hyr hMn hM I
      by_cases hyp : ya < p
      · have I3 := Lib.hid (I1.out hyp)
        rw [cmpZ_lt hyp] at HC
        clear I1 I2 hyp
        go_wp2_with fail
        refine (HC.out _).mono ?_
        rintro e w2 ⟨rfl, hb⟩
        have HB2 := Lib.hid (bnext HB.out hb)
        clear hb HC c0 c1
        go_wp2_with fail
        go_roundg (hi - (M + 1))
        case measure => omega
        case rel => exact ⟨M + 1, hi, by go_num, rfl, by omega, hin, Nat.le_refl _, HB2, I3⟩
      · have I3 := Lib.hid (I2.out hyp)
        have hz := cmpZ_ge hyp
        obtain ⟨z, hze⟩ : ∃ z, cmpZ ya p = z := ⟨_, rfl⟩
        rw [hze] at HC hz
        have hz2 : decide (z < 0) = false := decide_eq_false (by omega)
        clear I1 I2 hyp hze
        go_wp2_with fail
        refine (HC.out _).mono ?_
        rintro e w2 ⟨rfl, hb⟩
        have HB2 := Lib.hid (bnext HB.out hb)
        clear hb HC c0 c1
        go_wp2_with fail
        go_roundg (M - lo)
        case measure => omega
        case rel => exact ⟨lo, M, rfl, rfl, by omega, by omega, Nat.le_refl _, HB2, I3⟩
    · obtain rfl : hi = lo := by omega
      have HCN : Hid (cn = hi) := Lib.hid (HCNT.out.symm.trans (count_at (by rw [HN.out]; exact hin) I.out.1 I.out.2))
      clear I hlt
      by_cases hin2 : hi < n
      · have hMn : hi < l.length := by rw [HN.out]; omega
        have hMC : (hi : Int) < (n : Int) := by omega
        obtain ⟨b', o', hq, c0, c1⟩ := point_at HPW.out hi hMn
        cases hq
        have HC : Hid (∀ W, Calls Tryd.prog 52 #[.agg #[.int .u64 ((l[hi]).a : Int), .int .i64 ((l[hi]).r : Int)], .int .u64 (p : Int)] W fun e w' => e = .returned (.int .i64 (cmpZ (l[hi]).a p)) ∧ Below W.heap.size W w') := Lib.hid fun W => near_c _ _ _ W
        obtain ⟨ya, hya⟩ : ∃ ya, (l[hi]).a = ya := ⟨_, rfl⟩
        obtain ⟨yr, hyr⟩ : ∃ yr, (l[hi]).r = yr := ⟨_, rfl⟩
        rw [hya] at c0 HC
        rw [hyr] at c1 HC
        obtain ⟨z, hze⟩ : ∃ z, cmpZ ya p = z := ⟨_, rfl⟩
        rw [hze] at HC
        have HFZ : Hid ((z == 0) = fd) := Lib.hid (by rw [HFD.out, HCN.out, List.getElem?_eq_getElem hMn]; show _ = (cmpZ (l[hi]).a p == 0); rw [hya, hze])
        clear hya hyr hMn hze
        go_wp2_with fail
        refine (HC.out _).mono ?_
        rintro e w2 ⟨rfl, hb⟩
        have HB2 := Lib.hid (bnext HB.out hb)
        clear hb HC c0 c1
        go_wp2_with fail
        go_ret2
        obtain rfl := HCN.out
        exact ⟨by rw [← HFZ.out]; rfl, HB2.out⟩
      · have hin3 : decide ((hi : Int) < (n : Int)) = false := decide_eq_false (by omega)
        have hin4 : decide (hi < n) = false := decide_eq_false hin2
        have HFZ : Hid (fd = false) := Lib.hid (by rw [HFD.out, HCN.out, List.getElem?_eq_none (by rw [HN.out]; omega)])
        clear HPW
        go_wp2_with fail
        go_ret2
        obtain rfl := HCN.out
        exact ⟨by rw [HFZ.out]; rfl, HB.out⟩
end Go.Proofs.YtkababeeikhifaaDoor.rng
