/- The contract of ring.New. Conditions: package variables (RT). -/
import Derived.Test.YtkababeeikhifaaDoorRi5
namespace Go.Proofs.YtkababeeikhifaaDoor.rng
open Go.RowKit
open Go.Proofs.YtkababeeikhifaaDoor.oct Go.Proofs.YtkababeeikhifaaDoor.ref Go.Proofs.YtkababeeikhifaaDoor.rows Go.Proofs.YtkababeeikhifaaDoor.rowg Go.Proofs.YtkababeeikhifaaDoor.trn
open Go.Proofs.YtkababeeikhifaaDoor.scp (tx senc senc_len InS ins_below ins_cell)

theorem ownI_at {n : Nat} {names : List T} {i k : Nat} (h : k < (ownI n names i).length) : (ownI n names i)[k] = ⟨plc (lbl (names.getD i []) k), i⟩ := by simp [ownI]
theorem new_any (n : Int) (P : Option Addr) (C : Nat) (ms : List T) (w : World) (hp : InS w P ms) (hl : ms.length ≤ 140737488355328) (hC : ms.length ≤ C) (h : rightB n ms = false) :
    Calls Tryd.prog 9 #[.int .i64 n, .slice P ms.length C] w fun e w' => e = .returned (.tuple #[.pointer none, .int .i64 1]) ∧ Below w.heap.size w w' := by
  have hb0 := (Below.refl w.heap.size w).alloc (Nat.le_refl _) (.cells #[.slice P ms.length C] 22)
  have HM := Lib.hid (maybe_c P C ms (w.alloc (.cells #[.slice P ms.length C] 22)) (ins_below hp hb0) hl hC)
  have HB := Lib.hid hb0
  by_cases hn1 : n < 1
  · have i1 : decide (n < 1) = true := decide_eq_true hn1
    obtain ⟨m, hm⟩ : ∃ m, ms.length = m := ⟨_, rfl⟩
    rw [hm] at HB ⊢
    clear hm hp hl hC h HM hb0 hn1
    go_enter Tryd.func9, Tryd.ntmps9
    go_wp2_with fail
    go_ret2
    exact ⟨rfl, HB.out⟩
  have i1 : decide (n < 1) = false := decide_eq_false hn1
  by_cases hn2 : 64 < n
  · have i2 : decide (64 < n) = true := decide_eq_true hn2
    obtain ⟨m, hm⟩ : ∃ m, ms.length = m := ⟨_, rfl⟩
    rw [hm] at HB ⊢
    clear hm hp hl hC h HM hb0 hn1 hn2
    go_enter Tryd.func9, Tryd.ntmps9
    go_wp2_with fail
    go_ret2
    exact ⟨rfl, HB.out⟩
  have i2 : decide (64 < n) = false := decide_eq_false hn2
  have hg : goodB ms = false := by
    cases hg : goodB ms with
    | false => rfl
    | true => rw [right_yes (by omega) (by omega) hg] at h; cases h
  rw [hg] at HM
  obtain ⟨m, hm⟩ : ∃ m, ms.length = m := ⟨_, rfl⟩
  rw [hm] at HB HM ⊢
  clear hm hp hl hC h hb0 hn1 hn2 hg
  go_enter Tryd.func9, Tryd.ntmps9
  go_wp2_with (go_at_call 23; (with_reducible refine HM.out.mono ?_); rintro e w' ⟨rfl, rfl⟩)
  go_ret2
  exact ⟨rfl, HB.out⟩
set_option maxRecDepth 100000 in
set_option maxHeartbeats 16000000 in
theorem new_yes (n : Nat) (P : Option Addr) (C : Nat) (ms : List T) (w : World) (hp : InS w P ms) (hC : ms.length ≤ C) (hg : Good ms) (h1 : 1 ≤ n) (h64 : n ≤ 64) (ht : RT w) :
    Calls Tryd.prog 9 #[.int .i64 (n : Int), .slice P ms.length C] w fun e w' => ∃ g, e = .returned (.tuple #[.pointer (some ⟨g, 0, none⟩), .int .i64 0]) ∧ Rg w' (fun k => w.heap.size ≤ k ∧ k < w'.heap.size) g n ms ∧ Below w.heap.size w w' := by
  have hg1 := hg.lo
  have hg8 := hg.hi
  have hb0 := (Below.refl w.heap.size w).alloc (Nat.le_refl _) (.cells #[.slice P ms.length C] 22)
  obtain ⟨w1, hw1⟩ : ∃ w1, w.alloc (.cells #[.slice P ms.length C] 22) = w1 := ⟨_, rfl⟩
  have hq0 : w1.cell? ⟨w.heap.size, 0, none⟩ = some (.slice P ms.length C) := by rw [← hw1, World.cell?_alloc_at _ _ _ _ (by simp)]; rfl
  have hsz1 : w1.heap.size = w.heap.size + 1 := by rw [← hw1, World.size_alloc]
  rw [hw1] at hb0
  have hP1 := ins_below hp hb0
  have HM := Lib.hid (maybe_c P C ms w1 hP1 (by omega) hC)
  rw [(goodB_iff ms).2 hg] at HM
  have HCL := Lib.hid (cloned_c P C ms.length ms w1 hP1 rfl (by omega) (fun x hx => by have := (hg.ok x hx).2; omega))
  have HB1 := Lib.hid hb0
  have HQ1 := Lib.hid hq0
  have HP1 := Lib.hid hP1
  have HT1 := Lib.hid (ht.below hb0)
  have HG := Lib.hid hg
  have HSZ1 := Lib.hid hsz1
  have i1 : decide ((n : Int) < 1) = false := decide_eq_false (by omega)
  have i2 : decide ((64 : Int) < (n : Int)) = false := decide_eq_false (by omega)
  have i3 : decide (n < 1) = false := decide_eq_false (by omega)
  have i4 : decide (64 < n) = false := decide_eq_false (by omega)
  obtain ⟨m, hm⟩ : ∃ m, ms.length = m := ⟨_, rfl⟩
  rw [hm] at HM HCL HQ1 hq0 hw1 hg1 hg8 hC ⊢
  have HLM := Lib.hid hm
  have HEL : ∀ i, i < m → Hid (∃ nm, ms.getD i [] = nm ∧ nm.length ≤ 64 ∧ ∀ wx, InS wx P ms → ∃ b o, P = some ⟨b, o, none⟩ ∧ wx.cell? ⟨b, o + i, none⟩ = some (.string ⟨nm.toArray⟩)) := fun i hi => Lib.hid (by
    have hi2 : i < ms.length := by rw [hm]; exact hi
    have e : ms.getD i [] = ms[i] := by simp [List.getD, List.getElem?_eq_getElem hi2]
    refine ⟨ms[i], e, (hg.ok _ (List.getElem_mem hi2)).2, fun wx hx => ?_⟩
    exact ins_cell hx i hi2)
  have HELH := Lib.hid HEL
  clear hm hp hg hb0 hP1 ht hsz1 HEL
  go_enter Tryd.func9, Tryd.ntmps9
  go_wp2_with (first
    | (go_at_call 23; (with_reducible refine HM.out.mono ?_); rintro e w' ⟨rfl, rfl⟩)
    | fail)
  refine HCL.out.mono ?_
  rintro e w2 ⟨vn, rfl, hn, hb⟩
  obtain ⟨pn, cn, rfl⟩ := cln.own_slice hn
  have HN2 := Lib.hid hn
  have HB2 := Lib.hid (bnext HB1.out hb)
  have q2 : w2.cell? ⟨w.heap.size, 0, none⟩ = some (.slice P m C) := (hb.cell (p := ⟨w.heap.size, 0, none⟩) (by rw [HSZ1.out]; exact Nat.lt_succ_self _)).trans HQ1.out
  have HTX : Hid (∀ wx, Below w2.heap.size w2 wx → RT wx) := Lib.hid fun wx hx => (HT1.out.below hb).below hx
  have HPX : Hid (∀ wx, Below w2.heap.size w2 wx → InS wx P ms) := Lib.hid fun wx hx => ins_below (ins_below HP1.out hb) hx
  have HQX : Hid (∀ wx, Below w2.heap.size w2 wx → wx.cell? ⟨w.heap.size, 0, none⟩ = some (.slice P m C)) := Lib.hid fun wx hx => (hx.cell (p := ⟨w.heap.size, 0, none⟩) (cell_lt q2)).trans q2
  obtain ⟨w3, hw3⟩ : ∃ w3, w2.alloc (.cells #[.int .i64 (n : Int), .slice pn m cn, .slice none 0 0] 54) = w3 := ⟨_, rfl⟩
  have hb3 : Below w2.heap.size w2 w3 := by rw [← hw3]; exact (Below.refl _ _).alloc (Nat.le_refl _) _
  have q3 := HQX.out w3 hb3
  have HNS0 : Hid (NS w2 n (.slice pn m cn) (rawI n ms 0) w3) := Lib.hid (by
    refine ⟨hb3, none, 0, ?_, World.ownsRow_nil _ _ _ _⟩
    rw [← hw3]
    exact blk_new w2 _ _ _ rfl)
  clear hn hb hb3 HM HCL hq0 hw1
  go_wp2_with fail
  clear q2 hw3
  go_loopg [28] m (fun g s28 wx => ∃ i : Nat, i + g = m ∧ s28 = .int .i64 (i : Int) ∧ Hid (NS w2 n (.slice pn m cn) (rawI n ms i) wx))
  case atStart => exact ⟨0, by omega, rfl, HNS0⟩
  case round =>
    clear q3 HNS0
    obtain ⟨i, hig, rfl, HNS⟩ := hrel
    rcases gk with _ | g
    · obtain rfl : i = m := by omega
      obtain ⟨hbel, p, c, hB, hO⟩ := HNS.out
      have hraw := rawI_len n ms i
      have hL1 : 1 ≤ i * n := Nat.mul_le_mul hg1 h1
      have hL2 : i * n ≤ 8 * 64 := Nat.mul_le_mul hg8 h64
      have hge : ∀ k, (Value.slice p (rawI n ms i).length c).ownBlock = some k → w2.heap.size + 1 ≤ k := fun k hk => (hO.lt k hk).1
      have hs12 := HB2.out.size
      have hw12 : w.heap.size < w2.heap.size := cell_lt (HQX.out w2 (Below.refl _ _))
      have HSO := sort_c w.heap.size C P ms hO rfl (by omega) (by omega) (fun q hq => by rw [HLM.out]; exact rawI_r hq) (by rw [HLM.out]; exact HQX.out wr hbel) (HPX.out wr hbel) (fun e => by have := hge _ e; omega) (fun b o x e e2 => by
        obtain ⟨b2, o2, e3, hc⟩ := ins_cell (HPX.out w2 (Below.refl _ _)) 0 (by rw [HLM.out]; omega)
        have h3 := cell_lt hc
        have h4 := hge _ e2
        rw [e] at e3
        injection e3 with e3
        injection e3 with e3
        have h3 : b2 < w2.heap.size := h3
        omega)
      have HFIN : Hid (∀ (w7 : World) (l' : List Pn), l'.Perm (rawI n ms i) → (l'.map (nm ms)).Pairwise (fun x y => leN x y = true) → w7.ownsRow (w2.heap.size + 1) 37 2 (.slice p (rawI n ms i).length c) (rawI n ms i).length (cells pnc l') → wr.grownBy w7 (Value.slice p (rawI n ms i).length c).ownBlock → Rg w7 (fun k => w.heap.size ≤ k ∧ k < w7.heap.size) w2.heap.size n ms ∧ Below w.heap.size w w7) := Lib.hid fun w7 l' e1 e2 e3 e4 => by
        have hrp : l' = rpts n ms := rpts_of HG.out.nd (by rw [HLM.out]; exact e1) e2
        have h7 : Below w.heap.size w w7 := (bnext HB2.out (hbel)).grown e4 (by have := hbel.size; omega) fun k hk => by have := hge k hk; omega
        have hs7 := e4.size
        have hsb := hbel.size
        have hn2 := own_belowG HN2.out hbel
        have hn7 := own_turn (S := fun k => (Value.slice p (rawI n ms i).length c).ownBlock = some k) hn2 (Turn.of_row e4 fun b hb => hb) fun b hb e => by
          have h5 := (HN2.out.lt b hb).2
          have h6 := hge b e
          omega
        refine ⟨⟨_, _, ⟨(e4.block _ hB.lt fun e => by have := hge _ e.symm; omega).trans hB, ?_, ?_, ?_, ?_, ?_, HG.out, h1, h64⟩⟩, h7⟩
        · rw [HLM.out]
          exact cln.own_base hn7 (Nat.zero_le _)
        · rw [HLM.out, ← hrp, ← hraw]
          exact cln.own_base e3 (Nat.zero_le _)
        · exact ⟨by omega, Nat.lt_of_lt_of_le hB.lt hs7⟩
        · intro k hk
          have h5 := HN2.out.lt k hk
          have h6 := HB1.out.size
          exact ⟨by omega, by omega⟩
        · intro k hk
          have h5 := e3.lt k hk
          exact ⟨by omega, h5.2⟩
      have HSH := Lib.hid HSO
      rw [hraw] at HSH HFIN hB
      have c2 : wr.cell? ⟨w2.heap.size, 2, none⟩ = some (.slice p (i * n) c) := hB.cell 2
      obtain ⟨L, hL⟩ : ∃ L, i * n = L := ⟨_, rfl⟩
      rw [hL] at HSH HFIN c2
      clear HSO hbel hB hO hraw hge hL hL1 hL2 HTX HPX HQX HELH hs12 hw12
      go_wp2_with fail
      refine HSH.out.mono ?_
      rintro e w7 ⟨rfl, l', e1, e2, e3, e4⟩
      have HR := Lib.hid (HFIN.out w7 l' e1 e2 e3 e4)
      clear e1 e2 e3 e4 HFIN
      go_wp2_with fail
      go_ret2
      exact ⟨w2.heap.size, rfl, HR.out.1, HR.out.2⟩
    · have hiI : (i : Int) < (m : Int) := by omega
      obtain ⟨nm, hnm, hnl, hnc⟩ := (HELH.out i (by omega)).out
      obtain ⟨b, o, hq, c0⟩ := hnc wr (HPX.out wr HNS.out.bel)
      subst hq
      have HNM := Lib.hid hnm
      clear hnm hnc
      go_wp2_with fail
      go_loopg [34] n (fun gg s34 wx => ∃ k : Nat, k + gg = n ∧ s34 = .int .i64 (k : Int) ∧ Hid (NS w2 n (.slice pn m cn) (rawI n ms i ++ (ownI n ms i).take k) wx))
      case atStart => exact ⟨0, by omega, rfl, by rw [List.take_zero, List.append_nil]; exact HNS⟩
      case round =>
        clear HNS c0
        obtain ⟨k, hkg, rfl, HNI⟩ := hrel
        rcases gk with _ | gi
        · obtain rfl : k = n := by omega
          have HR : Hid (NS w2 k (.slice pn m cn) (rawI k ms (i + 1)) wr) := Lib.hid (by
            have h := HNI.out
            rw [List.take_of_length_le (by rw [ownI_len]; exact Nat.le_refl _), ← rawI_succ] at h
            exact h)
          go_wp2_with fail
          go_roundg g
          case measure => omega
          case rel => exact ⟨i + 1, by omega, by go_num, HR⟩
        · have hkI : (k : Int) < (n : Int) := by omega
          have hkn : k < n := by omega
          have HTK : Hid (rawI n ms i ++ (ownI n ms i).take (k + 1) = (rawI n ms i ++ (ownI n ms i).take k) ++ [⟨plc (lbl nm k), i⟩]) := Lib.hid (by
            have h : k < (ownI n ms i).length := by rw [ownI_len]; exact hkn
            rw [List.take_succ_eq_append_getElem h, ← List.append_assoc]
            rw [ownI_at, HNM.out])
          have HLL : Hid ((rawI n ms i ++ (ownI n ms i).take k).length ≤ 600) := Lib.hid (by
            rw [List.length_append, rawI_len, List.length_take, ownI_len]
            have h2 : i * n ≤ 8 * 64 := Nat.mul_le_mul (by omega) h64
            omega)
          obtain ⟨l, hl⟩ : ∃ l, rawI n ms i ++ (ownI n ms i).take k = l := ⟨_, rfl⟩
          rw [hl] at HNI HTK HLL
          clear hl
          obtain ⟨hbel, p, c, hB, hO⟩ := HNI.out
          have HBEL := Lib.hid hbel
          have HIT : Hid (∀ W, Below wr.heap.size wr W → Calls Tryd.prog 26 #[.int .i64 (k : Int)] W fun e w' => e = .returned (.string ⟨(dec k).toArray⟩) ∧ Below W.heap.size W w') := Lib.hid fun W hW => itoa_c k (by omega) W ((HTX.out wr hbel).below hW)
          have HPL : Hid (∀ W, Below wr.heap.size wr W → Calls Tryd.prog 25 #[.string ((⟨nm.toArray⟩ : ByteArray) ++ (⟨#[35]⟩ : ByteArray) ++ (⟨(dec k).toArray⟩ : ByteArray))] W fun e w' => e = .returned (.int .u64 (plc (lbl nm k) : Nat)) ∧ Below W.heap.size W w') := Lib.hid fun W hW => by
            rw [lbl_tx]
            exact place_c (lbl nm k) W ((HTX.out wr hbel).below hW).dig (by have := lbl_len hnl (k := k) (by omega); omega)
          have hlen := HLL.out
          have hdl : (dec k).length ≤ 3 := jsn.natD_len 2 k (by omega)
          obtain ⟨D, hD⟩ : ∃ D, dec k = D := ⟨_, rfl⟩
          obtain ⟨X, hX⟩ : ∃ X, plc (lbl nm k) = X := ⟨_, rfl⟩
          rw [hD] at HIT HPL hdl
          rw [hX] at HPL HTK
          have HADD : Hid (∀ (w3 w4 : World) (o : Obj) (g2 cap : Nat), Below wr.heap.size wr w3 → (w3.alloc o).grownBy w4 (Value.slice p l.length c).ownBlock → w4.ownsRow (w2.heap.size + 1) 37 2 (.slice (some ⟨g2, 0, none⟩) (l.length + 1) cap) (l.length + 1) (cells pnc l ++ pnc ⟨X, i⟩) → NS w2 n (.slice pn m cn) (l ++ [⟨X, i⟩]) (w4.setCell ⟨w2.heap.size, 2, none⟩ (.slice (some ⟨g2, 0, none⟩) (l.length + 1) cap))) := Lib.hid fun w3 w4 o g2 cap e1 e2 e3 => ns_add hbel hB hO e1 e2 e3
          have HBX : Hid (∀ W, Below wr.heap.size wr W → Blk W w2.heap.size 54 [.int .i64 (n : Int), .slice pn m cn, .slice p l.length c]) := Lib.hid fun W hW => hB.below hW
          have HOX : Hid (∀ W, Below wr.heap.size wr W → W.ownsRow (w2.heap.size + 1) 37 2 (.slice p l.length c) l.length (cells pnc l)) := Lib.hid fun W hW => own_belowG hO hW
          have HNG : Hid ((Value.slice p l.length c).ownBlock ≠ some w2.heap.size) := Lib.hid fun e => by have := (hO.lt _ e).1; omega
          obtain ⟨L, hL⟩ : ∃ L, l.length = L := ⟨_, rfl⟩
          rw [hL] at HADD HBX HOX HNG hB hlen
          obtain ⟨j0, hj, hy0, hy1, hy2⟩ := info_parts infoPt
          have c2 : wr.cell? ⟨w2.heap.size, 2, none⟩ = some (.slice p L c) := hB.cell 2
          have hglt : w2.heap.size < wr.heap.size := hB.lt
          have HGLT := Lib.hid hglt
          have HB0 : Hid (Below wr.heap.size wr wr) := Lib.hid (Below.refl _ _)
          have hn1 : ¬ (9223372036854775807 < nm.length + 1) := by omega
          have hn2 : ¬ (9223372036854775807 < nm.length + 1 + D.length) := by omega
          clear hD hX hL HLL HBEL hbel hB hO HNI HTX HPX HQX HELH
          go_wp2_with fail
          go_region_law (first
            | (refine step_append_lies _ rfl (.tmp 41) (.tmp 50) 32 rfl (w2.heap.size + 1) 37 j0 (.agg #[.int .u64 0, .int .i64 0]) 2 16 Tryd.underlying32 hj hy0 hy1 hy2 rfl (by decide) _ _ _ rfl (HO5.out.alloc _) ⟨w5.heap.size, 0, none⟩ 1 1 (pnc ⟨X, i⟩) rfl rfl (p_new w5 ⟨X, i⟩ _ rfl) (pnc_one _) (by decide) (by unfold maxLen; omega) (by omega) (by have := HS5.out; simp; omega) _ rfl ?_; intro g2 cap w6 how hgr hg2 _; have HHOW := Lib.hid how; have HGR : Hid ((w5.alloc (.cells #[.int .u64 (X : Int), .int .i64 (i : Int)] 37)).grownBy w6 (Value.slice p L c).ownBlock) := Lib.hid hgr; have hb6 : Blk w6 w2.heap.size 54 _ := (hgr.block w2.heap.size (by have := HS5.out; simp; omega) (fun e => HNG.out e.symm)).trans (blk_old HBK.out _); have d6 := hb6.cell 2; have e6 := hb6.frozen 2; have hl6 := hb6.lt; clear how hgr hg2 hb6)
            | (go_simp; go_at_call 26; (with_reducible refine (HIT.out _ ?_).mono ?_); exact HB0.out.drew; rintro e w4 ⟨rfl, hb4⟩; have HB4 := Lib.hid (HB0.out.drew.trans (hb4.mono HB0.out.size)); have d4 := (HBX.out w4 HB4.out).cell 2; clear hb4)
            | (go_simp; go_at_call 25; (with_reducible refine (HPL.out _ HB4.out).mono ?_); rintro e w5 ⟨rfl, hb5⟩; have HB5 := Lib.hid (bnext HB4.out hb5); have HBK := Lib.hid (HBX.out w5 HB5.out); have HO5 := Lib.hid (HOX.out w5 HB5.out); have d5 := HBK.out.cell 2; have hs5 : w2.heap.size < w5.heap.size := HBK.out.lt; have HS5 := Lib.hid hs5; have hg5 : w2.heap.size ≠ w5.heap.size := Nat.ne_of_lt hs5; have hg6 : w5.heap.size ≠ w2.heap.size := Nat.ne_of_gt hs5; clear hb5))
          all_goals
            have HR := Lib.hid (HADD.out w5 w6 _ g2 cap HB5.out HGR.out HHOW.out)
            rw [← HTK.out] at HR
            go_wp2_with fail
            go_roundg gi
            case measure => omega
            case rel => exact ⟨k + 1, by omega, by go_num, HR⟩
end Go.Proofs.YtkababeeikhifaaDoor.rng
