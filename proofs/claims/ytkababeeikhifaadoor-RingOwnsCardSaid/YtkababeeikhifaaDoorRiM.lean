/- The reference's Points. No condition. -/
import Derived.Test.YtkababeeikhifaaDoorRiL
import Derived.Test.YtkababeeikhifaaDoorJsn4
namespace Go.Proofs.YtkababeeikhifaaDoor.rng
open Go.RowKit
open Go.Proofs.YtkababeeikhifaaDoor.oct Go.Proofs.YtkababeeikhifaaDoor.ref Go.Proofs.YtkababeeikhifaaDoor.rows Go.Proofs.YtkababeeikhifaaDoor.rowg Go.Proofs.YtkababeeikhifaaDoor.trn
open Go.Proofs.YtkababeeikhifaaDoor.scp (tx senc senc_len InS ins_below ins_cell lt lt_asymm lt_irrefl lt_total)
open Go.Lib (byteCells)

/-- a row of points of the call's own -/
def OwnP (w : World) (B b c n : Nat) (l : List Pn) : Prop := l.length = n ∧ w.ownsRow B 37 2 (.slice (some ⟨b, 0, none⟩) n c) n (cells pnc l)
theorem pn_cells (l : List Pn) (i : Nat) : (cells pnc l)[i * 2]? = l[i]?.map (fun p => Value.int .u64 (p.a : Int)) ∧ (cells pnc l)[i * 2 + 1]? = l[i]?.map (fun p => Value.int .i64 (p.r : Int)) := by
  unfold cells
  induction l generalizing i with
  | nil => simp
  | cons x l ih =>
    rw [List.flatMap_cons]
    rcases i with _ | i
    · exact ⟨rfl, rfl⟩
    · have e : pnc x = [.int .u64 (x.a : Int), .int .i64 (x.r : Int)] := rfl
      rw [e, Nat.succ_mul]
      exact ih i
theorem pn_set (l : List Pn) (i : Nat) (x : Pn) : ((cells pnc l).set (i * 2) (.int .u64 (x.a : Int))).set (i * 2 + 1) (.int .i64 (x.r : Int)) = cells pnc (l.set i x) := by
  unfold cells
  induction l generalizing i with
  | nil => simp
  | cons y l ih =>
    rw [List.flatMap_cons]
    have e : pnc y = [.int .u64 (y.a : Int), .int .i64 (y.r : Int)] := rfl
    rcases i with _ | i
    · rw [List.set_cons_zero, List.flatMap_cons]
      rfl
    · rw [List.set_cons_succ, List.flatMap_cons, ← ih i, e, Nat.succ_mul]
      rfl
theorem OwnP.at {w : World} {B b c n : Nat} {l : List Pn} (h : OwnP w B b c n l) {i : Nat} {p : Pn} (hi : l[i]? = some p) : w.cell? ⟨b, i * 2, none⟩ = some (.int .u64 (p.a : Int)) ∧ w.cell? ⟨b, i * 2 + 1, none⟩ = some (.int .i64 (p.r : Int)) ∧ w.frozen? ⟨b, i * 2, none⟩ = false ∧ w.frozen? ⟨b, i * 2 + 1, none⟩ = false := by
  obtain ⟨hl, ho⟩ := h
  have hlt : i < l.length := (List.getElem?_eq_some_iff.1 hi).1
  obtain ⟨c1, c2⟩ := pn_cells l i
  rw [hi] at c1 c2
  exact ⟨(ho.cellAt (i * 2) (by omega)).trans c1, (ho.cellAt (i * 2 + 1) (by omega)).trans c2, ho.frozenAt _, ho.frozenAt _⟩
theorem OwnP.set {w : World} {B b c n : Nat} {l : List Pn} (h : OwnP w B b c n l) (i : Nat) (x : Pn) : OwnP ((w.setCell ⟨b, i * 2, none⟩ (.int .u64 (x.a : Int))).setCell ⟨b, i * 2 + 1, none⟩ (.int .i64 (x.r : Int))) B b c n (l.set i x) := by
  obtain ⟨hl, ho⟩ := h
  have h2 := ((ho.stored (i * 2) (.int .u64 (x.a : Int))).1.stored (i * 2 + 1) (.int .i64 (x.r : Int))).1
  rw [pn_set] at h2
  exact ⟨by rw [List.length_set]; exact hl, h2⟩
theorem OwnP.turn {S : Nat → Prop} {w w' : World} {B b c n : Nat} {l : List Pn} (h : OwnP w B b c n l) (ht : Turn S w w') (hb : ¬ S b) : OwnP w' B b c n l := ⟨h.1, own_turn h.2 ht fun k hk => by cases hk; exact hb⟩
/-- a row with a place between -/
def gap (A : List Pn) (j : Nat) (y : Pn) : List Pn := A.take j ++ y :: A.drop j
theorem gap_len (A : List Pn) {j : Nat} (hj : j ≤ A.length) (y : Pn) : (gap A j y).length = A.length + 1 := by unfold gap; rw [List.length_append, List.length_cons, List.length_take, List.length_drop]; omega
theorem gap_set (A : List Pn) {j : Nat} (hj : j ≤ A.length) (y x : Pn) : (gap A j y).set j x = gap A j x := by
  unfold gap
  rw [List.set_append_right _ _ (by rw [List.length_take]; omega), List.length_take, show j - min j A.length = 0 by omega]
  rfl
theorem gap_down (A : List Pn) {j : Nat} (hj : j < A.length) (y : Pn) : gap A (j + 1) (A[j]) = gap A j A[j] ∧ (gap A (j + 1) y)[j]? = some A[j] := by
  unfold gap
  constructor
  · rw [List.take_succ_eq_append_getElem hj, List.append_assoc, List.singleton_append]
    congr 2
    exact (List.getElem_cons_drop hj).symm ▸ rfl
  · rw [List.getElem?_append_left (by rw [List.length_take]; omega), List.getElem?_take, if_pos (by omega), List.getElem?_eq_getElem hj]
theorem blk_grewP {w w' : World} {g e : Nat} {X : List Value} {r : Option Nat} (h : Blk w g e X) (hg : w.grownBy w' r) (hn : some g ≠ r) : Blk w' g e X := (hg.block g h.lt hn).trans h
theorem turn_drewNP {S : Nat → Prop} {w w' : World} (h : Turn S w w') (n : Nat) : Turn S w (w'.drewN n) := ⟨h.os, h.tape, h.output, h.size, h.block⟩
theorem gap_end (A : List Pn) (x : Pn) : gap A A.length x = A ++ [x] := by unfold gap; rw [List.take_length, List.drop_length]
/-- the points so far: the row, sorted, of those laid -/
structure PtI (w wx : World) (ms : List T) (R A : List Pn) (v : Value) : Prop where
  row : wx.ownsRow w.heap.size 37 2 v A.length (cells pnc A)
  perm : A.Perm R
  srt : (A.map (nm ms)).Pairwise fun x y => leN x y = true
  bel : Below w.heap.size w wx
theorem gap_in {ms : List T} {R A : List Pn} {x : Pn} {j : Nat} (hp : A.Perm R) (hs : (A.map (nm ms)).Pairwise fun x y => leN x y = true) (h1 : ∀ y ∈ (A.map (nm ms)).drop j, leN y (nm ms x) = false) (h2 : ∀ y ∈ (A.map (nm ms)).take j, leN y (nm ms x) = true) : (gap A j x).Perm (R ++ [x]) ∧ ((gap A j x).map (nm ms)).Pairwise fun x y => leN x y = true := by
  refine ⟨(put_perm A x j).trans (hp.append_right _), ?_⟩
  have h := put_srt hs h1 h2
  unfold gap
  rw [List.map_append, List.map_cons, List.map_take, List.map_drop]
  exact h
set_option maxRecDepth 100000 in
set_option maxHeartbeats 16000000 in
theorem rpoints_c (n : Nat) (P : Option Addr) (C : Nat) (ms : List T) (w : World) (hp : InS w P ms) (hg : Good ms) (h1 : 1 ≤ n) (h64 : n ≤ 64) :
    Calls Tryd.prog 14 #[.int .i64 (n : Int), .slice P ms.length C] w fun e w' => ∃ v, e = .returned v ∧ w'.ownsRow w.heap.size 37 2 v (ms.length * n) (cells pnc (rpts n ms)) ∧ Below w.heap.size w w' := by
  have HP := Lib.hid hp
  have HG := Lib.hid hg
  obtain ⟨m, hm⟩ : ∃ m, ms.length = m := ⟨_, rfl⟩
  have h8 : m ≤ 8 := by rw [← hm]; exact hg.hi
  rw [hm]
  have HM := Lib.hid hm
  clear hp hg hm
  go_enter Tryd.func14, Tryd.ntmps14
  go_wp2_with fail
  go_loopg [5, 6] m (fun g s5 s6 wx => ∃ i A p c, i + g = m ∧ s6 = .int .i64 (i : Int) ∧ s5 = .slice p A.length c ∧ Hid (PtI w wx ms (rawI n ms i) A (.slice p A.length c)))
  case atStart => exact ⟨0, [], none, 0, by omega, rfl, rfl, Lib.hid ⟨⟨rfl, .inl ⟨rfl, rfl⟩⟩, by simp [rawI], List.Pairwise.nil, Below.refl _ _⟩⟩
  case round =>
    obtain ⟨i, A, p, c, hig, rfl, rfl, HA⟩ := hrel
    rcases gk with _ | go
    · obtain rfl : i = m := by omega
      have HL : Hid (A.length = i * n) := Lib.hid (by rw [HA.out.perm.length_eq, rawI_len])
      have HE : Hid (A = rpts n ms) := Lib.hid (rpts_of HG.out.nd (by rw [HM.out]; exact HA.out.perm) HA.out.srt)
      have j1 : decide ((i : Int) < (i : Int)) = false := by simp
      go_wp2_with fail
      go_ret
      exact ⟨_, rfl, by rw [← HE.out, ← HL.out]; exact HA.out.row, HA.out.bel⟩
    · have hi1 : (i : Int) < (m : Int) := by omega
      have him : i < m := by omega
      go_wp2_with fail
      go_loopg [5, 7] n (fun g s5 s7 wx => ∃ k A p c, k + g = n ∧ s7 = .int .i64 (k : Int) ∧ s5 = .slice p A.length c ∧ Hid (PtI w wx ms (rawI n ms i ++ (ownI n ms i).take k) A (.slice p A.length c)))
      case atStart => exact ⟨0, A, p, c, by omega, rfl, rfl, by rw [List.take_zero, List.append_nil]; exact HA⟩
      case round =>
        clear HA
        obtain ⟨k, A, p, c, hkg, rfl, rfl, HA⟩ := hrel
        have HLN : Hid (A.length = i * n + k) := Lib.hid (by rw [HA.out.perm.length_eq, List.length_append, rawI_len, List.length_take, ownI_len]; omega)
        have hin8 : i * n ≤ 8 * 64 := Nat.mul_le_mul (by omega) h64
        rcases gk with _ | gm
        · obtain rfl : k = n := by omega
          have HR : Hid (PtI w wr ms (rawI k ms (i + 1)) A (.slice p A.length c)) := Lib.hid (by
            have h := HA.out
            rw [List.take_of_length_le (by rw [ownI_len]; exact Nat.le_refl _), ← rawI_succ] at h
            exact h)
          clear HA
          have j1 : decide ((k : Int) < (k : Int)) = false := by simp
          go_wp2_with fail
          go_roundg go
          case measure => omega
          case rel => exact ⟨i + 1, A, p, c, by omega, by go_num, rfl, HR⟩
        · have hk1 : (k : Int) < (n : Int) := by omega
          have hkn : k < n := by omega
          have him2 : i < ms.length := by rw [HM.out]; exact him
          have HTK : Hid (rawI n ms i ++ (ownI n ms i).take (k + 1) = (rawI n ms i ++ (ownI n ms i).take k) ++ [⟨plc (lbl ms[i] k), i⟩]) := Lib.hid (by
            have h : k < (ownI n ms i).length := by rw [ownI_len]; exact hkn
            rw [List.take_succ_eq_append_getElem h, ← List.append_assoc, ownI_at]
            simp [List.getD, List.getElem?_eq_getElem him2])
          have hnl := (HG.out.ok _ (List.getElem_mem him2)).2
          obtain ⟨nb, no, hne, hnc⟩ := txt_at (ins_below HP.out HA.out.bel) him2
          have HNX : Hid (nm ms ⟨plc (lbl ms[i] k), i⟩ = ⟨plc (lbl ms[i] k), ms[i]⟩) := Lib.hid (by unfold nm; simp [List.getD, List.getElem?_eq_getElem him2])
          have HTE : Hid (ms[i]? = some ms[i]) := Lib.hid (List.getElem?_eq_getElem him2)
          obtain ⟨t, ht⟩ : ∃ t, ms[i] = t := ⟨_, rfl⟩
          rw [ht] at HTK hnl hnc HNX HTE
          have HDG : Hid (∀ W, Calls Tryd.prog 32 #[.int .i64 (k : Int)] W fun e w' => e = .returned (.string ⟨(dec k).toArray⟩) ∧ Below W.heap.size W w') := Lib.hid fun W => by
            have h := jsn.digits_c (k : Int) W (by omega) (by omega)
            rw [show jsn.intD (k : Int) = dec k from by unfold jsn.intD; rw [if_neg (by omega)]; rfl] at h
            exact h
          have HPL : Hid (∀ W, Calls Tryd.prog 17 #[.string ((⟨t.toArray⟩ : ByteArray) ++ (⟨#[35]⟩ : ByteArray) ++ (⟨(dec k).toArray⟩ : ByteArray))] W fun e w' => e = .returned (.int .u64 (plc (lbl t k) : Nat)) ∧ Below W.heap.size W w') := Lib.hid fun W => by
            rw [lbl_tx]
            exact rplace_c (lbl t k) W (by have := lbl_len hnl (k := k) (by omega); omega)
          have hdl : (dec k).length ≤ 3 := jsn.natD_len 2 k (by omega)
          have hX := plc_lt (lbl t k)
          obtain ⟨D, hD⟩ : ∃ D, dec k = D := ⟨_, rfl⟩
          obtain ⟨X, hXe⟩ : ∃ X, plc (lbl t k) = X := ⟨_, rfl⟩
          rw [hD] at HDG HPL hdl
          rw [hXe] at HPL HTK hX HNX
          have hn1 : ¬ (9223372036854775807 < t.length + 1) := by omega
          have hn2 : ¬ (9223372036854775807 < t.length + 1 + D.length) := by omega
          have HNC := Lib.hid hnc
          have n0 := hnc wr (Below.refl _ _)
          have nA : ∀ o, (wr.alloc o).cell? ⟨nb, no + i, none⟩ = some (.string ⟨t.toArray⟩) := fun o => hnc _ ((Below.refl wr.heap.size wr).alloc (Nat.le_refl _) o)
          have HB0 : Hid (Below wr.heap.size wr wr) := Lib.hid (Below.refl _ _)
          subst hne
          clear ht hD hXe him2 hnc
          go_wp2_with fail
          go_upto_region 8 with fail
          go_cut [8] from 21 to 31 (fun s8 wx => ∃ bx, s8 = .pointer (some ⟨bx, 0, none⟩) ∧ Hid (Blk wx bx 37 [.int .u64 (X : Int), .int .i64 (i : Int)]) ∧ Hid (wr.heap.size ≤ bx) ∧ Hid (Below wr.heap.size wr wx))
          case first =>
            go_region_law (first
              | (go_simp; go_at_call 32; (with_reducible refine (HDG.out _).mono ?_); rintro e wa ⟨rfl, hb⟩; first | (have HBA := Lib.hid (HB0.out.drew.trans (hb.mono HB0.out.size)); have k1 := HNC.out wa HBA.out; have kA : ∀ o, (wa.alloc o).cell? ⟨nb, no + i, none⟩ = some (.string ⟨t.toArray⟩) := (fun o => HNC.out _ (HBA.out.alloc HBA.out.size o)); clear hb) | (have HZA : Hid (Blk wa wr.heap.size 37 [.int .u64 0, .int .i64 0]) := Lib.hid ((show Blk (wr.alloc (.cells #[.int .u64 0, .int .i64 0] 37)).drew wr.heap.size 37 [.int .u64 0, .int .i64 0] from blk_new wr _ 37 [.int .u64 0, .int .i64 0] rfl).below hb); have HSA : Hid (wr.heap.size ≤ wr.heap.size) := Lib.hid (Nat.le_refl _); have HBA := Lib.hid ((HB0.out.alloc (Nat.le_refl _) _).drew.trans (hb.mono (by simp))); have z0 := HZA.out.cell 0; have z1 := HZA.out.cell 1; have f0 := HZA.out.frozen 0; have f1 := HZA.out.frozen 1; have k1 := HNC.out wa HBA.out; have kA : ∀ o, (wa.alloc o).cell? ⟨nb, no + i, none⟩ = some (.string ⟨t.toArray⟩) := (fun o => HNC.out _ (HBA.out.alloc HBA.out.size o)); clear hb))
              | (go_simp; go_at_call 17; (with_reducible refine (HPL.out _).mono ?_); rintro e wb ⟨rfl, hb⟩; first | (have HBB := Lib.hid (bnext HBA.out hb); have HZB := Lib.hid (HZA.out.below hb); have HSB := Lib.hid HSA.out; have z0 := HZB.out.cell 0; have z1 := HZB.out.cell 1; have f0 := HZB.out.frozen 0; have f1 := HZB.out.frozen 1; clear hb) | (have HBB := Lib.hid (bnext HBA.out hb); clear hb) | (have HZB : Hid (Blk wb wa.heap.size 37 [.int .u64 0, .int .i64 0]) := Lib.hid ((blk_new wa _ 37 [.int .u64 0, .int .i64 0] rfl).below hb); have HSB := Lib.hid HBA.out.size; have HBB := Lib.hid ((HBA.out.alloc HBA.out.size _).trans (hb.mono (by have := HBA.out.size; simp; omega))); have z0 := HZB.out.cell 0; have z1 := HZB.out.cell 1; have f0 := HZB.out.frozen 0; have f1 := HZB.out.frozen 1; clear hb)))
            all_goals
              go_wp2_with fail
              go_meet
              first
                | exact ⟨_, rfl, Lib.hid ((HZB.out.set 0 (.int .u64 (X : Int))).set 1 (.int .i64 (i : Int))), Lib.hid HSB.out, Lib.hid ((HBB.out.setCell (p := ⟨_, 0, none⟩) HSB.out _).setCell (p := ⟨_, 1, none⟩) HSB.out _)⟩
                | exact ⟨_, rfl, Lib.hid (blk_new wb _ 37 [.int .u64 (X : Int), .int .i64 (i : Int)] rfl), Lib.hid HBB.out.size, Lib.hid (HBB.out.alloc HBB.out.size _)⟩
          case rest =>
            obtain ⟨bx, rfl, HBK, HSX, HBC⟩ := hcut
            have HBW := Lib.hid (bnext HA.out.bel HBC.out)
            have HRW := Lib.hid (own_belowG HA.out.row HBC.out)
            have HPM := Lib.hid HA.out.perm
            have HSR := Lib.hid HA.out.srt
            have HNX2 : Hid (∀ q, (Value.slice p A.length c).ownBlock = some q → w.heap.size ≤ q ∧ q ≠ bx) := Lib.hid fun q hq => by
              have := HA.out.row.lt q hq
              have h2 := HSX.out
              exact ⟨this.1, by omega⟩
            have HWS : Hid (w.heap.size ≤ bx) := Lib.hid (Nat.le_trans HA.out.bel.size HSX.out)
            have hN6 : A.length ≤ 600 := by have := HLN.out; omega
            obtain ⟨N, hN⟩ : ∃ N, A.length = N := ⟨_, rfl⟩
            rw [hN] at HRW HNX2 hN6
            rw [hN]
            have HAL := Lib.hid hN
            obtain ⟨j0, hj, hy0, hy1, hy2⟩ := info_parts infoPt
            have x0 : wc.cell? ⟨bx, 0, none⟩ = some (.int .u64 (X : Int)) := HBK.out.cell 0
            have x1 : wc.cell? ⟨bx, 1, none⟩ = some (.int .i64 (i : Int)) := HBK.out.cell 1
            have n1 := HNC.out _ HBC.out
            clear hN HA HLN hin8 HDG HPL HB0 n0 nA hn1 hn2 hdl hnl
            go_wp2_with (at_builtin; go_loud (refine wpList_append_lies _ rfl _ _ 32 rfl w.heap.size 37 j0 (.agg #[.int .u64 0, .int .i64 0]) 2 16 Tryd.underlying32 hj hy0 hy1 hy2 rfl (by decide) (.slice p N c) N (cells pnc A) rfl (HRW.out.alloc _) ⟨wc.heap.size, 0, none⟩ 1 1 (pnc ⟨X, i⟩) rfl rfl (p_new wc ⟨X, i⟩ _ rfl) (pnc_one _) (by decide) (by unfold maxLen; omega) (by omega) (by have := HBW.out.size; simp; omega) _ rfl ?_); intro b0 c0 w2 hown2 hgrow2 hlie _; have HB2 := Lib.hid ((HBW.out.alloc HBW.out.size _).grown hgrow2 (by have := HBW.out.size; simp; omega) (fun k hk => (HNX2.out k hk).1)); have HK2 := Lib.hid (blk_grewP (blk_old HBK.out _) hgrow2 (fun e => (HNX2.out bx e.symm).2 rfl)); have HBX2 : Hid (b0 ≠ bx) := Lib.hid (fun e => hlie.elim (fun h => (HNX2.out b0 h).2 e) (fun h => by have := HBK.out.lt; simp at h; omega)); have HO2 := Lib.hid hown2; clear hown2 hgrow2 hlie)
            clear x0 x1 n1
            have HOP : Hid (OwnP w2 w.heap.size b0 c0 (N + 1) (gap A N ⟨X, i⟩)) := Lib.hid (by
              have h := HO2.out
              rw [← cells_one pnc, ← cells_append] at h
              rw [← HAL.out, gap_end]
              exact ⟨by rw [List.length_append]; rfl, by rw [HAL.out]; exact h⟩)
            have h0b : w.heap.size ≤ b0 := (HO2.out.lt b0 rfl).1
            have H0B := Lib.hid h0b
            clear HO2 HRW HNX2 h0b hj hy0 hy1 hy2
            go_wp2_with fail
            go_loopg [9] N (fun g s9 wx => ∃ y, g ≤ N ∧ s9 = .int .i64 (g : Int) ∧ Hid (OwnP wx w.heap.size b0 c0 (N + 1) (gap A g y)) ∧ Hid (∀ z ∈ (A.map (nm ms)).drop g, leN z (nm ms ⟨X, i⟩) = false) ∧ Hid (Turn (fun k => k = b0) w2 wx))
            case atStart => exact ⟨_, Nat.le_refl _, rfl, HOP, Lib.hid (by rw [List.drop_of_length_le (by rw [List.length_map, HAL.out]; exact Nat.le_refl _)]; intro z hz; cases hz), Lib.hid (Turn.refl _ _)⟩
            case round =>
              clear HOP
              obtain ⟨y, hgN, rfl, HX, HDR, HTU⟩ := hrel
              have HKX := Lib.hid (blk_turn HK2.out HTU.out (fun e => HBX2.out e.symm))
              have x0 : wr.cell? ⟨bx, 0, none⟩ = some (.int .u64 (X : Int)) := HKX.out.cell 0
              have x1 : wr.cell? ⟨bx, 1, none⟩ = some (.int .i64 (i : Int)) := HKX.out.cell 1
              have HBY := Lib.hid (Turn.below HB2.out HTU.out (fun k hk => hk ▸ H0B.out) HB2.out.size)
              have HFIN : Hid (∀ W, (∃ nq, W = wr.drewN nq) → (∀ z ∈ (A.map (nm ms)).take gk, leN z (nm ms ⟨X, i⟩) = true) → PtI w ((W.setCell ⟨b0, gk * 2, none⟩ (.int .u64 (X : Int))).setCell ⟨b0, gk * 2 + 1, none⟩ (.int .i64 (i : Int))) ms (rawI n ms i ++ (ownI n ms i).take (k + 1)) (gap A gk ⟨X, i⟩) (.slice (some ⟨b0, 0, none⟩) (gap A gk ⟨X, i⟩).length c0)) := Lib.hid (by
                rintro W ⟨nq, rfl⟩ htk
                have hjl : gk ≤ A.length := by rw [HAL.out]; exact hgN
                have hs := OwnP.set (w := wr.drewN nq) HX.out gk ⟨X, i⟩
                rw [gap_set A hjl] at hs
                have hg2 := gap_in HPM.out HSR.out HDR.out htk
                rw [← HTK.out] at hg2
                have hl : (gap A gk ⟨X, i⟩).length = N + 1 := by rw [gap_len A hjl, HAL.out]
                exact ⟨by rw [hl]; exact hs.2, hg2.1, hg2.2, ((HBY.out.trans (show Below w.heap.size wr (wr.drewN nq) from ⟨rfl, rfl, rfl, Nat.le_refl _, fun _ _ => rfl⟩)).setCell (p := ⟨b0, gk * 2, none⟩) H0B.out _).setCell (p := ⟨b0, gk * 2 + 1, none⟩) H0B.out _⟩)
              have HGL : Hid (∀ z, (gap A gk z).length = N + 1) := Lib.hid fun z => by rw [gap_len A (by rw [HAL.out]; exact hgN), HAL.out]
              obtain ⟨a0, a1, a2, a3⟩ := HX.out.at (i := gk) (p := y) (by unfold gap; rw [List.getElem?_append_right (by rw [List.length_take]; omega), List.length_take, HAL.out, show gk - min gk N = 0 by omega]; rfl)
              have hgI : (gk : Int) < (N : Int) + 1 := by omega
              rcases gk with _ | j
              · go_wp2_with fail
                go_quiet (fail)
                go_wp2_with fail
                have HR := Lib.hid (HFIN.out _ ⟨nq, rfl⟩ (by intro z hz; rw [List.take_zero] at hz; cases hz))
                go_roundg gm
                case measure => omega
                case rel => exact ⟨k + 1, _, _, c0, by omega, by go_num, by rw [HGL.out], HR⟩
              · have hjN : j < A.length := by rw [HAL.out]; omega
                obtain ⟨p0, hp0⟩ : ∃ p0, A[j] = p0 := ⟨_, rfl⟩
                have hjp : (gap A (j + 1) y)[j]? = some p0 := by rw [(gap_down A hjN y).2, hp0]
                obtain ⟨q0, q1, _, _⟩ := HX.out.at hjp
                have hpA : p0 ∈ A := by rw [← hp0]; exact List.getElem_mem hjN
                have hpr : p0.r < m := by
                  rcases List.mem_append.1 (HPM.out.mem_iff.1 hpA) with h | h
                  · have := rawI_r h; omega
                  · have h := List.mem_of_mem_take h
                    unfold ownI at h
                    obtain ⟨_, _, rfl⟩ := List.mem_map.1 h
                    exact him
                have hpl : p0.r < ms.length := by rw [HM.out]; exact hpr
                obtain ⟨nb', no', e, hc⟩ := txt_at HP.out hpl
                cases e
                have t0 := hc wr HBY.out
                have HNP : Hid (nm ms p0 = ⟨p0.a, ms[p0.r]⟩) := Lib.hid (by unfold nm; simp [List.getD, List.getElem?_eq_getElem hpl])
                obtain ⟨tp, htp⟩ : ∃ tp, ms[p0.r] = tp := ⟨_, rfl⟩
                rw [htp] at t0 HNP
                obtain ⟨pa, pr⟩ := p0
                have hrI : (pr : Int) < (m : Int) := by have : pr < m := hpr; omega
                have hjI : (j : Int) < (N : Int) + 1 := by omega
                have HAJ := Lib.hid hp0
                have HJP := Lib.hid hjp
                obtain ⟨nb', no', e, tt⟩ := ins_q (ins_below HP.out HBY.out) HTE.out
                cases e
                clear hc htp hpl hpA hp0 hjp hpr
                simp only at q0 q1 t0 HNP
                have HGO : Hid (∀ nq, leN ⟨pa, tp⟩ ⟨X, t⟩ = false → OwnP (((wr.drewN nq).setCell ⟨b0, (j + 1) * 2, none⟩ (.int .u64 (pa : Int))).setCell ⟨b0, (j + 1) * 2 + 1, none⟩ (.int .i64 (pr : Int))) w.heap.size b0 c0 (N + 1) (gap A j ⟨pa, pr⟩) ∧ (∀ z ∈ (A.map (nm ms)).drop j, leN z (nm ms ⟨X, i⟩) = false) ∧ Turn (fun k => k = b0) w2 (((wr.drewN nq).setCell ⟨b0, (j + 1) * 2, none⟩ (.int .u64 (pa : Int))).setCell ⟨b0, (j + 1) * 2 + 1, none⟩ (.int .i64 (pr : Int)))) := Lib.hid (by
                  intro nq hle
                  have hs := OwnP.set (w := wr.drewN nq) HX.out (j + 1) ⟨pa, pr⟩
                  rw [gap_set A (by rw [HAL.out]; exact hgN), ← HAJ.out, (gap_down A hjN y).1, HAJ.out] at hs
                  refine ⟨hs, ?_, ((turn_drewNP HTU.out nq).next (Turn.set (S := fun k => k = b0) _ b0 ((j + 1) * 2) _ rfl)).next (Turn.set (S := fun k => k = b0) _ b0 ((j + 1) * 2 + 1) _ rfl)⟩
                  have hjm : j < (A.map (nm ms)).length := by rw [List.length_map]; exact hjN
                  rw [List.drop_eq_getElem_cons hjm, List.getElem_map, HAJ.out, HNP.out, HNX.out]
                  intro z hz
                  rcases List.mem_cons.1 hz with rfl | hz
                  · exact hle
                  · rw [← HNX.out]; exact HDR.out z hz)
                have HST : Hid (leN ⟨pa, tp⟩ ⟨X, t⟩ = true → ∀ z ∈ (A.map (nm ms)).take (j + 1), leN z (nm ms ⟨X, i⟩) = true) := Lib.hid (by
                  intro hle
                  refine ahead HSR.out (by rw [List.length_map]; exact hjN) ?_
                  rw [List.getElem_map, HAJ.out, HNP.out, HNX.out]
                  exact hle)
                by_cases hlt : X < pa
                · have HLE : Hid (leN ⟨pa, tp⟩ ⟨X, t⟩ = false) := Lib.hid (by
                    cases h : leN ⟨pa, tp⟩ ⟨X, t⟩ with
                    | false => rfl
                    | true =>
                      rcases (leN_iff _ _).1 h with h | h
                      · exact absurd h (by show ¬ pa < X; omega)
                      · exact absurd h.1 (by show ¬ pa = X; omega))
                  have b1 : decide ((pa : Int) > (X : Int)) = true := decide_eq_true (by omega)
                  have b2 : decide ((X : Int) < (pa : Int)) = true := decide_eq_true (by omega)
                  have b3 : decide (X < pa) = true := decide_eq_true hlt
                  go_wp2_with fail
                  go_quiet (fail)
                  go_wp2_with fail
                  have HR := Lib.hid (HGO.out nq HLE.out)
                  go_roundg j
                  case measure => omega
                  case rel => exact ⟨_, by omega, by go_num, Lib.hid HR.out.1, Lib.hid HR.out.2.1, Lib.hid HR.out.2.2⟩
                · have b1 : decide ((pa : Int) > (X : Int)) = false := decide_eq_false (by omega)
                  have b2 : decide ((X : Int) < (pa : Int)) = false := decide_eq_false (by omega)
                  have b3 : decide (X < pa) = false := decide_eq_false hlt
                  by_cases heq : pa = X
                  · have e1 : ((pa : Int) == (X : Int)) = true := by rw [beq_iff_eq]; omega
                    have e2 : (pa == X) = true := by rw [beq_iff_eq]; omega
                    by_cases hn : lt t tp = true
                    · have HLE : Hid (leN ⟨pa, tp⟩ ⟨X, t⟩ = false) := Lib.hid (by
                        cases h : leN ⟨pa, tp⟩ ⟨X, t⟩ with
                        | false => rfl
                        | true =>
                          rcases (leN_iff _ _).1 h with h | h
                          · exact absurd h (by show ¬ pa < X; omega)
                          · have h2 : lt t tp = false := h.2
                            rw [hn] at h2; cases h2)
                      have c1 : Op.bytesLess tp t = false := lt_asymm hn
                      have c2 : (tp == t) = false := by rw [beq_eq_false_iff_ne]; rintro rfl; rw [lt_irrefl] at hn; cases hn
                      go_wp2_with fail
                      go_quiet (fail)
                      go_wp2_with fail
                      have HR := Lib.hid (HGO.out nq HLE.out)
                      subst heq
                      go_roundg j
                      case measure => omega
                      case rel => exact ⟨_, by omega, by go_num, Lib.hid HR.out.1, Lib.hid HR.out.2.1, Lib.hid HR.out.2.2⟩
                    · have hn' : lt t tp = false := by simpa using hn
                      have HLE : Hid (leN ⟨pa, tp⟩ ⟨X, t⟩ = true) := Lib.hid ((leN_iff _ _).2 (.inr ⟨heq, hn'⟩))
                      by_cases hq : tp = t
                      · have c2 : (tp == t) = true := by rw [beq_iff_eq]; exact hq
                        go_wp2_with fail
                        go_quiet (fail)
                        go_wp2_with fail
                        have HR := Lib.hid (HFIN.out _ ⟨nq, rfl⟩ (HST.out HLE.out))
                        go_roundg gm
                        case measure => omega
                        case rel => exact ⟨k + 1, _, _, c0, by omega, by go_num, by rw [HGL.out], HR⟩
                      · have c1 : Op.bytesLess tp t = true := by
                          show lt tp t = true
                          cases h : lt tp t with
                          | true => rfl
                          | false => exact absurd (lt_total h hn') hq
                        go_wp2_with fail
                        go_quiet (fail)
                        go_wp2_with fail
                        have HR := Lib.hid (HFIN.out _ ⟨nq, rfl⟩ (HST.out HLE.out))
                        go_roundg gm
                        case measure => omega
                        case rel => exact ⟨k + 1, _, _, c0, by omega, by go_num, by rw [HGL.out], HR⟩
                  · have HLE : Hid (leN ⟨pa, tp⟩ ⟨X, t⟩ = true) := Lib.hid ((leN_iff _ _).2 (.inl (by show pa < X; omega)))
                    have e1 : ((pa : Int) == (X : Int)) = false := by rw [beq_eq_false_iff_ne]; omega
                    have e2 : (pa == X) = false := by rw [beq_eq_false_iff_ne]; exact heq
                    go_wp2_with fail
                    go_quiet (fail)
                    go_wp2_with fail
                    have HR := Lib.hid (HFIN.out _ ⟨nq, rfl⟩ (HST.out HLE.out))
                    go_roundg gm
                    case measure => omega
                    case rel => exact ⟨k + 1, _, _, c0, by omega, by go_num, by rw [HGL.out], HR⟩
end Go.Proofs.YtkababeeikhifaaDoor.rng
