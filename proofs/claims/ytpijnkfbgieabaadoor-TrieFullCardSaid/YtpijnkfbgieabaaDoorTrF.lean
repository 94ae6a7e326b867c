/- The developers' with: the walk. Condition: sha's package variables (Tabs). -/
import Derived.Test.YtpijnkfbgieabaaDoorTrE
namespace Go.Proofs.YtpijnkfbgieabaaDoor.tri
open Go.RowKit
open Go.Proofs.YtpijnkfbgieabaaDoor.oct Go.Proofs.YtpijnkfbgieabaaDoor.ref Go.Proofs.YtpijnkfbgieabaaDoor.rows Go.Proofs.YtpijnkfbgieabaaDoor.rowg Go.Proofs.YtpijnkfbgieabaaDoor.trn Go.Proofs.YtpijnkfbgieabaaDoor.qut
open Go.Proofs.YtpijnkfbgieabaaDoor.sha (digest digest_len dval Tabs step_store_blk)
open Go.Lib (byteCells)

theorem infoPz : (Tryd.prog.info? 44).map (·.size) = some 2 := by kernel_rfl
theorem blk_range0 {w : World} {g t : Nat} {X : List Value} (h : Blk w g t X) : w.rangeAt g 0 X := fun j v hj => by rw [Nat.zero_add, h.cell j]; exact hj
theorem range_below {w w' : World} {g t o : Nat} {X Y : List Value} (hl : Blk w g t Y) (h : w.rangeAt g o X) (hb : Below w.heap.size w w') : w'.rangeAt g o X := fun j v hj => (hb.cell (p := ⟨g, o + j, none⟩) hl.lt).trans (h j v hj)
set_option maxRecDepth 100000 in
set_option maxHeartbeats 16000000 in
theorem with_step (x : Pr) (hx : Fit x) (f : Nat) (IH : ∀ f', f' + 1 = f → ∀ (w : World) (F : Nat → Prop) (d : Nat) (p : Option Nat) (l : List Pr), WPre x w F f' d p l → WithC x w F f' d p l)
    (w : World) (F : Nat → Prop) (d : Nat) (p : Option Nat) (l : List Pr) (h : WPre x w F f d p l) : WithC x w F f d p l := by
  unfold WithC
  have hdl : (byteCells (digest x.n)).length = 32 := by rw [byteCells_len, digest_len]
  unfold dval
  obtain ⟨D, hD⟩ : ∃ D, byteCells (digest x.n) = D := ⟨_, rfl⟩
  rw [hD] at hdl ⊢
  have hDi : Hid ((Tryd.prog.info? 103).map (·.size) = some D.length) := by show _ = _; rw [hdl]; exact infoPath
  have hb1 := (Below.refl w.heap.size w).alloc (Nat.le_refl _) (.cells D.toArray 103)
  have hB1 := blk_new w D.toArray 103 D rfl
  have hb2 := hb1.alloc hb1.size (.cells #[.string ⟨x.n.toArray⟩, .string ⟨x.v.toArray⟩] 44)
  have hB2 := blk_new (w.alloc (.cells D.toArray 103)) #[.string ⟨x.n.toArray⟩, .string ⟨x.v.toArray⟩] 44 [.string ⟨x.n.toArray⟩, .string ⟨x.v.toArray⟩] rfl
  replace hB1 := blk_old hB1 (.cells #[.string ⟨x.n.toArray⟩, .string ⟨x.v.toArray⟩] 44)
  rw [show (w.alloc (.cells D.toArray 103)).heap.size = w.heap.size + 1 by simp] at hB2
  obtain ⟨w2, hw2⟩ : ∃ w2, (w.alloc (.cells D.toArray 103)).alloc (.cells #[.string ⟨x.n.toArray⟩, .string ⟨x.v.toArray⟩] 44) = w2 := ⟨_, rfl⟩
  rw [hw2] at hb2 hB1 hB2
  have cA : w2.cell? ⟨w.heap.size + 1, 0, none⟩ = some (.string ⟨x.n.toArray⟩) := hB2.cell 0
  have HBE := Lib.hid (besides_c (h.nd.below hb2) (by have := h.len; omega) x.n)
  unfold txt at HBE
  have HH := Lib.hid h
  have HB2 := Lib.hid hb2
  have HP5 := Lib.hid hB1
  have HP6 := Lib.hid hB2
  have HDD := Lib.hid hD
  have HIH := Lib.hid IH
  have HXF := Lib.hid hx
  have hszD : Hid (D.length = 32) := hdl
  clear h hD hb1 hb2 hB1 hB2 hdl IH hx
  have ep : penc x = [.string ⟨x.n.toArray⟩, .string ⟨x.v.toArray⟩] := rfl
  rw [ep]
  clear ep
  obtain ⟨P, hP⟩ : ∃ P, nptr p = P := ⟨_, rfl⟩
  rw [hP] at HBE ⊢
  have HPP := Lib.hid hP
  clear hP
  go_enter Tryd.func55, Tryd.ntmps55
  go_upto_region 1 with fail
  go_wp2_with fail
  refine HBE.out.mono ?_
  rintro e w3 ⟨v, rfl, HRO⟩
  obtain ⟨pv, cv, rfl⟩ := Go.Proofs.YtpijnkfbgieabaaDoor.cln.own_slice HRO.own
  have HE := Lib.hid (ends_c (HH.out.nd.below (bnext HB2.out HRO.bel)))
  obtain ⟨eb, heb⟩ : ∃ eb, endB f l = eb := ⟨_, rfl⟩
  rw [HPP.out, heb] at HE
  obtain ⟨R, hR⟩ : ∃ R, del (endL f l) x.n = R := ⟨_, rfl⟩
  rw [hR] at HRO ⊢
  have HO3 := Lib.hid HRO
  have HRR := Lib.hid hR
  have HEB := Lib.hid heb
  obtain ⟨m, hm⟩ : ∃ m, R.length = m := ⟨_, rfl⟩
  rw [hm] at HO3 HRO ⊢
  have HM := Lib.hid hm
  have hq5 := HP5.out.below HRO.bel
  have hq6 := HP6.out.below HRO.bel
  have HQ := Lib.hid (And.intro hq5 hq6)
  clear hR HRO heb hm HBE cA hw2 hq5 hq6
  go_upto_region 2 with fail
  go_cut [26] from 16 to 27 (fun s26 wx => s26 = .bool (eb && (m == 0 || d == 64)) ∧ wx = w3)
  case first =>
    cases eb with
    | false =>
      go_wp2_with fail
      refine HE.out.mono ?_
      rintro e w4 ⟨rfl, rfl⟩
      go_wp2_with fail
      go_meet
      exact ⟨rfl, rfl⟩
    | true =>
      by_cases hm0 : m = 0
      · have e0 : ((m : Int) == 0) = true := by rw [beq_iff_eq]; omega
        have E1 : Hid ((m == 0) = true) := by show _ = _; rw [beq_iff_eq]; omega
        clear hm0
        go_wp2_with fail
        refine HE.out.mono ?_
        rintro e w4 ⟨rfl, rfl⟩
        go_wp2_with fail
        go_meet
        exact ⟨by rw [E1.out]; rfl, rfl⟩
      · have e0 : ((m : Int) == 0) = false := by rw [beq_eq_false_iff_ne]; omega
        have E1 : Hid ((m == 0) = false) := by show _ = _; rw [beq_eq_false_iff_ne]; omega
        clear hm0
        by_cases hd0 : d = 64
        · have e2 : ((d : Int) == 64) = true := by rw [beq_iff_eq]; omega
          have E2 : Hid ((d == 64) = true) := by show _ = _; rw [beq_iff_eq]; omega
          clear hd0
          go_wp2_with fail
          refine HE.out.mono ?_
          rintro e w4 ⟨rfl, rfl⟩
          go_wp2_with fail
          go_meet
          exact ⟨by rw [E1.out, E2.out]; rfl, rfl⟩
        · have e2 : ((d : Int) == 64) = false := by rw [beq_eq_false_iff_ne]; omega
          have E2 : Hid ((d == 64) = false) := by show _ = _; rw [beq_eq_false_iff_ne]; omega
          clear hd0
          go_wp2_with fail
          refine HE.out.mono ?_
          rintro e w4 ⟨rfl, rfl⟩
          go_wp2_with fail
          go_meet
          exact ⟨by rw [E1.out, E2.out]; rfl, rfl⟩
  case rest =>
    obtain ⟨rfl, rfl⟩ := hcut
    obtain ⟨c, hc⟩ : ∃ c, (eb && (m == 0 || d == 64)) = c := ⟨_, rfl⟩
    rw [hc]
    cases c with
    | true =>
      have hcs : eb = true ∧ (m = 0 ∨ d = 64) := by simpa using hc
      obtain ⟨rfl, hmd⟩ := hcs
      have hRl : R = del l x.n := by
        rw [← HRR.out]
        unfold endL
        rw [HEB.out]
        rfl
      have hwe := with_end HH.out.srt HH.out.und HH.out.df (by
        rcases hmd with h | h
        · left; rw [← hRl]; exact List.eq_nil_of_length_eq_zero (HM.out.trans h)
        · exact Or.inr h)
      rw [← hRl] at hwe
      have hfit : ∀ y ∈ R ++ [x], Fit y := fun y hy => by
        rcases List.mem_append.1 hy with hy | hy
        · rw [hRl] at hy; exact HH.out.fit y (del_mem.1 hy).1
        · rw [List.mem_singleton.1 hy]; exact HXF.out
      have hml : m ≤ 4096 := by
        rw [← HM.out, hRl]
        exact Nat.le_trans (List.length_filter_le _ _) HH.out.len
      have hmI : (m : Int) ≤ 4096 := by omega
      have HWE := Lib.hid hwe
      have HFT := Lib.hid hfit
      have S0 : Blk wc.drew w.heap.size 103 D ∧ Blk wc.drew (w.heap.size + 1) 44 [.string ⟨x.n.toArray⟩, .string ⟨x.v.toArray⟩] := ⟨HQ.out.1.below (Below.refl _ _).drew, HQ.out.2.below (Below.refl _ _).drew⟩
      have A := HO3.out.below (Below.refl _ _).drew
      obtain ⟨j0, hj, hy0, hy1, hy2⟩ := info_parts infoPr
      clear hwe hfit hmd hRl hc
      go_upto_region 3 with fail
      refine wp_region_noPanic ?_
      refine wp_region_held_drew (S := fun W => Blk W w.heap.size 103 D ∧ Blk W (w.heap.size + 1) 44 [.string ⟨x.n.toArray⟩, .string ⟨x.v.toArray⟩]) (by kernel_rfl) S0 (fun hHeld => ?_)
      refine wpAnyH_take (i := 0) (oi := ⟨some 27, _, _, _, _, _⟩) rfl (by kernel_rfl) (by kernel_rfl) (by kernel_rfl) (fun _ _ _ h => h) (yieldsIf_load_mid (by rfl) _ _ rfl _ _ rfl D _ (fun w hSw => blk_range0 hSw.1) Tryd.underlying103 rfl hDi.out) (by assumption) ?_
      simp only [Act.put, List.setIfInBounds_toArray, List.set_cons_zero, List.set_cons_succ]
      refine wpAnyH_take (i := 1) (oi := ⟨some 28, _, _, _, _, _⟩) (v := ?_) rfl (by kernel_rfl) (by kernel_rfl) (by kernel_rfl) (fun _ _ _ h => h) (Or.inl ⟨by rfl, ?_⟩) (by assumption) ?_
      rotate_left
      · intro w hSw; (first | (go_simp; done) | (go_simp; with_reducible rfl))
      simp only [Act.put, List.setIfInBounds_toArray, List.set_cons_zero, List.set_cons_succ]
      refine wpAnyH_take (i := 2) (oi := ⟨some 29, _, _, _, _, _⟩) rfl (by kernel_rfl) (by kernel_rfl) (by kernel_rfl) (fun _ _ _ h => h) (yieldsIf_load_mid (by rfl) _ _ rfl _ _ rfl [.string ⟨x.n.toArray⟩, .string ⟨x.v.toArray⟩] _ (fun w hSw => blk_range0 hSw.2) Tryd.underlying44 rfl infoPz) (by assumption) ?_
      simp only [Act.put, List.setIfInBounds_toArray, List.set_cons_zero, List.set_cons_succ]
      obtain ⟨wx0, hwx⟩ : ∃ y0, y0 = wc.drew := ⟨_, rfl⟩
      rw [← hwx] at A hHeld ⊢
      clear hwx S0
      refine wpAnyH_ready (rs := [3]) (by kernel_rfl) (by simp) ?_
      refine AllReadyH.cons rfl (fun K hK => ?_) AllReadyH.nil
      have hbk := (Below.refl wx0.heap.size wx0).alloc (Nat.le_refl _) (.cells #[.string ⟨x.n.toArray⟩, .string ⟨x.v.toArray⟩] 44)
      have hB2 := blk_new wx0 #[.string ⟨x.n.toArray⟩, .string ⟨x.v.toArray⟩] 44 [.string ⟨x.n.toArray⟩, .string ⟨x.v.toArray⟩] rfl
      go_simp
      go_wp2_with fail
      refine hK.out _ _ ⟨hHeld.1.below hbk, hHeld.2.below hbk⟩ (fun hHeld => ?_)
      replace A := A.below hbk
      clear hK K hbk
      have hin := pair_new wx0 x 44
      change wpAnyH _ _ _ _ _ _ _ _ (wx0.alloc (.cells #[.string ⟨x.n.toArray⟩, .string ⟨x.v.toArray⟩] 44))
      obtain ⟨wx1, hwn⟩ : ∃ y0, y0 = wx0.alloc (.cells #[.string ⟨x.n.toArray⟩, .string ⟨x.v.toArray⟩] 44) := ⟨_, rfl⟩
      rw [← hwn] at A hHeld hB2 hin ⊢
      obtain ⟨g7, hg7⟩ : ∃ y0, y0 = wx0.heap.size := ⟨_, rfl⟩
      rw [← hg7] at hB2 hin ⊢
      clear hwn hg7
      have hsr := src_g penc_len (by decide) hin
      refine wpAnyH_ready (rs := [4]) (by kernel_rfl) (by simp) ?_
      refine AllReadyH.cons rfl (fun K hK => ?_) AllReadyH.nil
      refine step_append_lies wx1 rfl (.tmp 28) (.tmp 30) 25 rfl w2.heap.size 44 j0 (.agg #[.string ⟨#[]⟩, .string ⟨#[]⟩]) 2 32 Tryd.underlying25 hj hy0 hy1 hy2 rfl (by decide) (.slice pv m cv) m (cells penc R) rfl (by have h := A.own; rw [HM.out] at h; exact h) ⟨g7, 0, none⟩ 1 1 (cells penc [x]) rfl (by rw [cells_one]; rfl) hsr (by rw [cells_one]; exact penc_one x) (by decide) (by unfold maxLen; omega) (by omega) A.bel.size wx1.heap.size rfl ?_
      intro gg cap w6 r1 r2 r3 r4
      have ht : Turn (fun k => (Value.slice pv m cv).ownBlock = some k) wx1 w6 := Turn.of_row r2 fun b hb => hb
      have hno : ∀ k, k < w2.heap.size → ¬ (Value.slice pv m cv).ownBlock = some k := fun k hk e => by have := (A.own.lt k e).1; omega
      refine hK.out _ _ ⟨blk_turn hHeld.1 ht (hno _ HP5.out.lt), blk_turn hHeld.2 ht (hno _ HP6.out.lt)⟩ (fun hHeld => ?_)
      have hbel : Below w2.heap.size w2 w6 := A.bel.grown r2 A.bel.size fun k hk => (A.own.lt k hk).1
      have r5 : w6.ownsRow w2.heap.size 44 2 (.slice (some ⟨gg, 0, none⟩) (m + 1) cap) (m + 1) (cells penc (R ++ [x])) := by rw [cells_append]; exact r1
      have hce := ending_c (bnext HB2.out hbel) HB2.out.size r5 (by rw [List.length_append, HM.out]; rfl) HH.out.tabs HFT.out (digest_len x.n) HWE.out.1 HWE.out.2.1 (by omega) (by omega)
      rw [HDD.out] at hce
      have HCE := Lib.hid hce
      have hgg := (r5.lt gg rfl).1
      have HP5L := Lib.hid HP5.out.lt
      have HP6L := Lib.hid HP6.out.lt
      clear hK K A r1 r2 r3 r4 r5 ht hno hbel hce hsr hin hB2
      refine wpAnyH_ready (rs := [5]) (by kernel_rfl) (by simp) ?_
      refine AllReadyH.cons rfl (fun K hK => ?_) AllReadyH.nil
      go_simp
      go_wp2_with (go_at_call 78; refine HCE.out.mono ?_; rintro e w7 ⟨b, l', rfl, o1, o2, o3, o4, o5⟩)
      have hno2 : ∀ k, k < w2.heap.size → ¬ (Value.slice (some ⟨gg, 0, none⟩) (m + 1) cap).ownBlock = some k := fun k hk e => by
        injection e with e
        have e3 : gg = k := e
        omega
      refine hK.out _ _ ⟨blk_turn hHeld.1 o5 (hno2 _ HP5L.out), blk_turn hHeld.2 o5 (hno2 _ HP6L.out)⟩ (fun hHeld => ?_)
      have hl' := HWE.out.2.2.1 l' o1 o2
      subst hl'
      have hnd : Nd w7 (FN F w w7) f d (some b) (ins l x) := by
        have hlf : Leaf w7 (FN F w w7) b (ins l x) := o3.turn (S := fun _ => False) (Turn.refl _ w7) (fun _ _ => id) fun k hk => Or.inr hk
        rcases HWE.out.2.2.2 with h | h
        · subst h; exact Or.inr ⟨b, rfl, hlf⟩
        · exact Nd.one hlf h _ _
      have HND := Lib.hid (And.intro hnd o4)
      clear hK K o1 o2 o3 o4 o5 hnd hno2 HWE
      obtain ⟨N, hN⟩ : ∃ N, nptr (some b) = N := ⟨_, rfl⟩
      rw [hN]
      refine wpAnyH_take (i := 6) (oi := ⟨some 8, _, _, _, _, _⟩) (v := ?_) rfl (by kernel_rfl) (by kernel_rfl) (by kernel_rfl) (fun _ _ _ h => h) (Or.inl ⟨by rfl, ?_⟩) (by assumption) ?_
      rotate_left
      · intro w hSw; (first | (go_simp; done) | (go_simp; with_reducible rfl))
      simp only [Act.put, List.setIfInBounds_toArray, List.set_cons_zero, List.set_cons_succ]
      refine wpAnyH_done (by kernel_rfl) ?_ _
      refine NoPanic.normal ?_
      go_wp2_with fail
      go_ret
      exact ⟨some b, by rw [hN]; rfl, HND.out.1, HND.out.2⟩
    | false =>
      obtain ⟨f', rfl⟩ : ∃ f', f = f' + 1 := by
        rcases f with _ | f'
        · exfalso
          have h1 : eb = true := by rw [← HEB.out]; unfold endB; simp
          have h2 : d = 64 := by have := HH.out.df; omega
          rw [h1, h2] at hc
          simp at hc
        · exact ⟨f', rfl⟩
      have hd64 : d < 64 := by have := HH.out.df; omega
      obtain ⟨n0, hn0⟩ : ∃ n0, w.heap.size = n0 := ⟨_, rfl⟩
      have HN0 := Lib.hid hn0
      have hn02 : n0 ≤ w2.heap.size := by rw [← hn0]; exact HB2.out.size
      have HN02 := Lib.hid hn02
      have HSP : Hid (∀ W, Below w2.heap.size w2 W → ∃ c, SplitA W (Sm F n0) f' d l c ∧ Calls Tryd.prog 42 #[P, .int .i64 (d : Nat)] W fun e w' => e = .returned (.agg (kids c).toArray) ∧ Below W.heap.size W w') := fun W hb => by
        have h := split_c (HH.out.nd.small.below (bnext HB2.out hb)) hd64
        rw [HPP.out, hn0] at h
        exact h
      obtain ⟨k, hk⟩ : ∃ k, nib x.n d = k := ⟨_, rfl⟩
      have hk16 : k < 16 := by rw [← hk]; exact nibW_lt _ _
      have HK := Lib.hid hk
      have HAT : Hid (∀ W, Calls Tryd.prog 51 #[.agg D.toArray, .int .i64 (d : Nat)] W fun e w' => e = .returned (.int .i64 (k : Nat)) ∧ Below W.heap.size W w') := fun W => by
        have h := at_c (digest x.n) d W (digest_len _) hd64
        unfold dval at h
        rw [HDD.out, show nibW (digest x.n) d = k from hk] at h
        exact h
      have hz := zeroP
      have hzl := kids_len noKid
      obtain ⟨Z, hZ⟩ : ∃ Z, kids noKid = Z := ⟨_, rfl⟩
      rw [hZ] at hz hzl
      have HZL := Lib.hid hzl
      have S0 : Below w2.heap.size w2 wc.drew := HO3.out.bel.drew
      have HO4 := Lib.hid HO3.out.bel
      clear HE HO3 hc hn0 hn02 hd64 hk hzl hZ
      rw [HN0.out]
      go_upto_region 4 with fail
      go_cut [10, 11] from 33 to 39 (fun s10 s11 wx => ∃ (g10 : Nat) (c : Nat → Option Nat), s10 = .pointer (some ⟨g10, 0, none⟩) ∧ s11 = .int .i64 (k : Nat) ∧ Hid (SplitA wx (Sm F n0) f' d l c ∧ Blk wx g10 93 (kids c) ∧ Below w2.heap.size w2 wx ∧ w2.heap.size ≤ g10))
      case first =>
        refine wp_region_noPanic ?_
        refine wp_region_held_drew (S := fun W => Below w2.heap.size w2 W) (by kernel_rfl) S0 (fun hHeld => ?_)
        refine wpAnyH_take (i := 0) (oi := ⟨some 33, _, _, _, _, _⟩) (v := ?_) rfl (by kernel_rfl) (by kernel_rfl) (by kernel_rfl) (fun _ _ _ h => h) (Or.inl ⟨by rfl, ?_⟩) (by assumption) ?_
        rotate_left
        · intro w hSw; (first | (go_simp; done) | (go_simp; with_reducible rfl))
        simp only [Act.put, List.setIfInBounds_toArray, List.set_cons_zero, List.set_cons_succ]
        refine wpAnyH_take (i := 1) (oi := ⟨some 34, _, _, _, _, _⟩) (v := ?_) rfl (by kernel_rfl) (by kernel_rfl) (by kernel_rfl) (fun _ _ _ h => h) (Or.inl ⟨by rfl, ?_⟩) (by assumption) ?_
        rotate_left
        · intro w hSw; (first | (go_simp; done) | (go_simp; with_reducible rfl))
        simp only [Act.put, List.setIfInBounds_toArray, List.set_cons_zero, List.set_cons_succ]
        refine wpAnyH_take (i := 3) (oi := ⟨some 36, _, _, _, _, _⟩) rfl (by kernel_rfl) (by kernel_rfl) (by kernel_rfl) (fun _ _ _ h => h) (yieldsIf_load_mid (by rfl) _ _ rfl _ _ rfl D _ (fun w hSw => by have h := blk_range0 (HP5.out.below hSw); rw [HN0.out] at h; exact h) Tryd.underlying103 rfl hDi.out) (by assumption) ?_
        simp only [Act.put, List.setIfInBounds_toArray, List.set_cons_zero, List.set_cons_succ]
        refine wpAnyH_take (i := 4) (oi := ⟨some 37, _, _, _, _, _⟩) (v := ?_) rfl (by kernel_rfl) (by kernel_rfl) (by kernel_rfl) (fun _ _ _ h => h) (Or.inl ⟨by rfl, ?_⟩) (by assumption) ?_
        rotate_left
        · intro w hSw; (first | (go_simp; done) | (go_simp; with_reducible rfl))
        simp only [Act.put, List.setIfInBounds_toArray, List.set_cons_zero, List.set_cons_succ]
        obtain ⟨wx0, hwx⟩ : ∃ y0, y0 = wc.drew := ⟨_, rfl⟩
        rw [← hwx] at hHeld ⊢
        clear hwx S0
        refine wpAnyH_ready (rs := [2, 6]) (by kernel_rfl) (by simp) ?_
        refine AllReadyH.cons rfl (fun K hK => ?_) (AllReadyH.cons rfl (fun K hK => ?_) AllReadyH.nil)
        · skip
          obtain ⟨c, SA, hcall⟩ := HSP.out wx0 hHeld
          have HXE : Hid (kids c = kids c) := rfl
          have hxl := kids_len c
          have ho := kids_one c
          obtain ⟨X, hX⟩ : ∃ X, kids c = X := ⟨_, rfl⟩
          rw [hX] at hcall hxl ho
          go_simp
          go_wp2_with (go_at_call 42; refine hcall.mono ?_; rintro e wx1 ⟨rfl, hbk⟩)
          refine hK.out _ _ (bnext hHeld hbk) (fun hHeld2 => ?_)
          replace SA := splitA_keep SA hbk (Nat.le_trans HN02.out hHeld.size)
          clear hK K hbk hHeld hcall HXE
          have hHeld := hHeld2; clear hHeld2
          refine wpAnyH_ready (rs := [5, 6]) (by kernel_rfl) (by simp) ?_
          refine AllReadyH.cons rfl (fun K hK => ?_) (AllReadyH.cons rfl (fun K hK => ?_) AllReadyH.nil)
          · skip
            go_simp
            go_wp2_with (go_at_call 51; refine (HAT.out _).mono ?_; rintro e wx2 ⟨rfl, hbk⟩)
            refine hK.out _ _ (bnext hHeld hbk) (fun hHeld2 => ?_)
            replace SA := splitA_keep SA hbk (Nat.le_trans HN02.out hHeld.size)
            clear hK K hbk hHeld
            have hHeld := hHeld2; clear hHeld2
            refine wpAnyH_ready (rs := [6]) (by kernel_rfl) (by simp) ?_
            refine AllReadyH.cons rfl (fun K hK => ?_) AllReadyH.nil
            have hbk := (Below.refl wx2.heap.size wx2).alloc (Nat.le_refl _) (.cells Z.toArray 93)
            have B10 := blk_new wx2 Z.toArray 93 Z rfl
            have hle10 := hHeld.size
            go_simp
            go_wp2_with fail
            refine hK.out _ _ (bnext hHeld hbk) (fun hHeld2 => ?_)
            replace SA := splitA_keep SA hbk (Nat.le_trans HN02.out hHeld.size)
            clear hK K hHeld hbk
            have hHeld := hHeld2; clear hHeld2
            change wpAnyH _ _ _ _ _ _ _ _ (wx2.alloc (.cells Z.toArray 93))
            replace hHeld : Below w2.heap.size w2 (wx2.alloc (.cells Z.toArray 93)) := hHeld
            obtain ⟨wx3, hwn⟩ : ∃ y0, y0 = wx2.alloc (.cells Z.toArray 93) := ⟨_, rfl⟩
            rw [← hwn] at B10 hHeld SA ⊢
            obtain ⟨g10, hg10⟩ : ∃ y0, y0 = wx2.heap.size := ⟨_, rfl⟩
            rw [← hg10] at B10 hle10 ⊢
            clear hwn hg10
            refine wpAnyH_ready (rs := [7]) (by kernel_rfl) (by simp) ?_
            refine AllReadyH.cons rfl (fun K hK => ?_) AllReadyH.nil
            have hxi : Hid ((Tryd.prog.info? 93).map (·.size) = some X.length) := by show _ = _; rw [hxl]; exact infoP
            refine step_store_blk rfl 93 (.tmp 10) (.tmp 35) rfl g10 X Z 93 B10 rfl rfl hxi.out (by rw [HZL.out, hxl]) ho ?_
            intro wa hA hW
            have hbk : Below w2.heap.size wx3 wa := hW.below _ _ (Below.refl _ _) hle10
            refine hK.out _ _ (hW.below _ _ hHeld hle10) (fun hHeld => ?_)
            have HR := Lib.hid (And.intro (splitA_keep SA hbk HN02.out) (And.intro (hX.symm ▸ hA) (And.intro hHeld hle10)))
            clear hK K hW hbk SA B10 hA ho hxl hxi hle10
            refine wpAnyH_take (i := 8) (oi := ⟨some 11, _, _, _, _, _⟩) (v := ?_) rfl (by kernel_rfl) (by kernel_rfl) (by kernel_rfl) (fun _ _ _ h => h) (Or.inl ⟨by rfl, ?_⟩) (by assumption) ?_
            rotate_left
            · intro w hSw; (first | (go_simp; done) | (go_simp; with_reducible rfl))
            simp only [Act.put, List.setIfInBounds_toArray]
            refine wpAnyH_done (by kernel_rfl) ?_ _
            refine NoPanic.normal ?_
            go_wp2_with fail
            go_meet
            exact ⟨g10, c, rfl, rfl, HR⟩
          · skip
            have hbk := (Below.refl wx1.heap.size wx1).alloc (Nat.le_refl _) (.cells Z.toArray 93)
            have B10 := blk_new wx1 Z.toArray 93 Z rfl
            have hle10 := hHeld.size
            go_simp
            go_wp2_with fail
            refine hK.out _ _ (bnext hHeld hbk) (fun hHeld2 => ?_)
            replace SA := splitA_keep SA hbk (Nat.le_trans HN02.out hHeld.size)
            clear hK K hHeld hbk
            have hHeld := hHeld2; clear hHeld2
            change wpAnyH _ _ _ _ _ _ _ _ (wx1.alloc (.cells Z.toArray 93))
            replace hHeld : Below w2.heap.size w2 (wx1.alloc (.cells Z.toArray 93)) := hHeld
            obtain ⟨wx2, hwn⟩ : ∃ y0, y0 = wx1.alloc (.cells Z.toArray 93) := ⟨_, rfl⟩
            rw [← hwn] at B10 hHeld SA ⊢
            obtain ⟨g10, hg10⟩ : ∃ y0, y0 = wx1.heap.size := ⟨_, rfl⟩
            rw [← hg10] at B10 hle10 ⊢
            clear hwn hg10
            refine wpAnyH_ready (rs := [5]) (by kernel_rfl) (by simp) ?_
            refine AllReadyH.cons rfl (fun K hK => ?_) AllReadyH.nil
            go_simp
            go_wp2_with (go_at_call 51; refine (HAT.out _).mono ?_; rintro e wx3 ⟨rfl, hbk⟩)
            refine hK.out _ _ (bnext hHeld hbk) (fun hHeld2 => ?_)
            replace SA := splitA_keep SA hbk (Nat.le_trans HN02.out hHeld.size)
            replace B10 := B10.below hbk
            clear hK K hbk hHeld
            have hHeld := hHeld2; clear hHeld2
            refine wpAnyH_ready (rs := [7]) (by kernel_rfl) (by simp) ?_
            refine AllReadyH.cons rfl (fun K hK => ?_) AllReadyH.nil
            have hxi : Hid ((Tryd.prog.info? 93).map (·.size) = some X.length) := by show _ = _; rw [hxl]; exact infoP
            refine step_store_blk rfl 93 (.tmp 10) (.tmp 35) rfl g10 X Z 93 B10 rfl rfl hxi.out (by rw [HZL.out, hxl]) ho ?_
            intro wa hA hW
            have hbk : Below w2.heap.size wx3 wa := hW.below _ _ (Below.refl _ _) hle10
            refine hK.out _ _ (hW.below _ _ hHeld hle10) (fun hHeld => ?_)
            have HR := Lib.hid (And.intro (splitA_keep SA hbk HN02.out) (And.intro (hX.symm ▸ hA) (And.intro hHeld hle10)))
            clear hK K hW hbk SA B10 hA ho hxl hxi hle10
            refine wpAnyH_take (i := 8) (oi := ⟨some 11, _, _, _, _, _⟩) (v := ?_) rfl (by kernel_rfl) (by kernel_rfl) (by kernel_rfl) (fun _ _ _ h => h) (Or.inl ⟨by rfl, ?_⟩) (by assumption) ?_
            rotate_left
            · intro w hSw; (first | (go_simp; done) | (go_simp; with_reducible rfl))
            simp only [Act.put, List.setIfInBounds_toArray]
            refine wpAnyH_done (by kernel_rfl) ?_ _
            refine NoPanic.normal ?_
            go_wp2_with fail
            go_meet
            exact ⟨g10, c, rfl, rfl, HR⟩
        · skip
          have hbk := (Below.refl wx0.heap.size wx0).alloc (Nat.le_refl _) (.cells Z.toArray 93)
          have B10 := blk_new wx0 Z.toArray 93 Z rfl
          have hle10 := hHeld.size
          go_simp
          go_wp2_with fail
          refine hK.out _ _ (bnext hHeld hbk) (fun hHeld2 => ?_)
          clear hK K hHeld hbk
          have hHeld := hHeld2; clear hHeld2
          change wpAnyH _ _ _ _ _ _ _ _ (wx0.alloc (.cells Z.toArray 93))
          replace hHeld : Below w2.heap.size w2 (wx0.alloc (.cells Z.toArray 93)) := hHeld
          obtain ⟨wx1, hwn⟩ : ∃ y0, y0 = wx0.alloc (.cells Z.toArray 93) := ⟨_, rfl⟩
          rw [← hwn] at B10 hHeld ⊢
          obtain ⟨g10, hg10⟩ : ∃ y0, y0 = wx0.heap.size := ⟨_, rfl⟩
          rw [← hg10] at B10 hle10 ⊢
          clear hwn hg10
          refine wpAnyH_ready (rs := [2]) (by kernel_rfl) (by simp) ?_
          refine AllReadyH.cons rfl (fun K hK => ?_) AllReadyH.nil
          obtain ⟨c, SA, hcall⟩ := HSP.out wx1 hHeld
          have HXE : Hid (kids c = kids c) := rfl
          have hxl := kids_len c
          have ho := kids_one c
          obtain ⟨X, hX⟩ : ∃ X, kids c = X := ⟨_, rfl⟩
          rw [hX] at hcall hxl ho
          go_simp
          go_wp2_with (go_at_call 42; refine hcall.mono ?_; rintro e wx2 ⟨rfl, hbk⟩)
          refine hK.out _ _ (bnext hHeld hbk) (fun hHeld2 => ?_)
          replace SA := splitA_keep SA hbk (Nat.le_trans HN02.out hHeld.size)
          replace B10 := B10.below hbk
          clear hK K hbk hHeld hcall HXE
          have hHeld := hHeld2; clear hHeld2
          refine wpAnyH_ready (rs := [5]) (by kernel_rfl) (by simp) ?_
          refine AllReadyH.cons rfl (fun K hK => ?_) AllReadyH.nil
          go_simp
          go_wp2_with (go_at_call 51; refine (HAT.out _).mono ?_; rintro e wx3 ⟨rfl, hbk⟩)
          refine hK.out _ _ (bnext hHeld hbk) (fun hHeld2 => ?_)
          replace SA := splitA_keep SA hbk (Nat.le_trans HN02.out hHeld.size)
          replace B10 := B10.below hbk
          clear hK K hbk hHeld
          have hHeld := hHeld2; clear hHeld2
          refine wpAnyH_ready (rs := [7]) (by kernel_rfl) (by simp) ?_
          refine AllReadyH.cons rfl (fun K hK => ?_) AllReadyH.nil
          have hxi : Hid ((Tryd.prog.info? 93).map (·.size) = some X.length) := by show _ = _; rw [hxl]; exact infoP
          refine step_store_blk rfl 93 (.tmp 10) (.tmp 35) rfl g10 X Z 93 B10 rfl rfl hxi.out (by rw [HZL.out, hxl]) ho ?_
          intro wa hA hW
          have hbk : Below w2.heap.size wx3 wa := hW.below _ _ (Below.refl _ _) hle10
          refine hK.out _ _ (hW.below _ _ hHeld hle10) (fun hHeld => ?_)
          have HR := Lib.hid (And.intro (splitA_keep SA hbk HN02.out) (And.intro (hX.symm ▸ hA) (And.intro hHeld hle10)))
          clear hK K hW hbk SA B10 hA ho hxl hxi hle10
          refine wpAnyH_take (i := 8) (oi := ⟨some 11, _, _, _, _, _⟩) (v := ?_) rfl (by kernel_rfl) (by kernel_rfl) (by kernel_rfl) (fun _ _ _ h => h) (Or.inl ⟨by rfl, ?_⟩) (by assumption) ?_
          rotate_left
          · intro w hSw; (first | (go_simp; done) | (go_simp; with_reducible rfl))
          simp only [Act.put, List.setIfInBounds_toArray]
          refine wpAnyH_done (by kernel_rfl) ?_ _
          refine NoPanic.normal ?_
          go_wp2_with fail
          go_meet
          exact ⟨g10, c, rfl, rfl, HR⟩
      case rest =>
        obtain ⟨g10, c, rfl, rfl, HR⟩ := hcut
        have HIHC : Hid (∀ W, Below wc.heap.size wc W → WithC x W (Sm F n0) f' (d + 1) (c k) (sub l d k)) := fun W hb => by
          have hpre := wpre_sub (G := Sm F n0) (p2 := c k) HH.out (by rw [HK.out]; exact (HR.out.1 k hk16).below hb) (bnext HB2.out (bnext HR.out.2.2.1 hb))
          rw [HK.out] at hpre
          exact HIH.out f' rfl W (Sm F n0) (d + 1) (c k) (sub l d k) hpre
        unfold WithC dval at HIHC
        rw [HDD.out, show ((d + 1 : Nat) : Int) = (d : Int) + 1 by omega] at HIHC
        have hV := kids_at c hk16
        have HXS : Hid (∀ p', (kids c).set k (nptr p') = kids (setK c k p')) := fun p' => kids_set c k p'
        obtain ⟨V, hVe⟩ : ∃ V, nptr (c k) = V := ⟨_, rfl⟩
        rw [hVe] at hV HIHC
        have c10 : wc.cell? ⟨g10, k, none⟩ = some V := (HR.out.2.1.cell k).trans hV
        have HC10 : Hid (∀ W, Below wc.heap.size wc W → W.cell? ⟨g10, k, none⟩ = some V ∧ W.frozen? ⟨g10, k, none⟩ = false) := fun W hb => ⟨((HR.out.2.1.below hb).cell k).trans hV, (HR.out.2.1.below hb).frozen k⟩
        have hkI : (k : Int) < 16 := by omega
        have hwr : IntKind.i64.wrap ((d : Int) + 1) = ((d + 1 : Nat) : Int) := by rw [IntKind.wrap_i64]; have := HH.out.df; omega
        have S0 : Blk wc.drew n0 103 D ∧ Blk wc.drew (n0 + 1) 44 [.string ⟨x.n.toArray⟩, .string ⟨x.v.toArray⟩] := by
          have h1 := HP5.out.below (HR.out.2.2.1.drew)
          have h2 := HP6.out.below (HR.out.2.2.1.drew)
          rw [HN0.out] at h1 h2
          exact ⟨h1, h2⟩
        have c11 : wc.drew.cell? ⟨g10, k, none⟩ = some V := (HC10.out _ (Below.refl _ _).drew).1
        have hbd : Below wc.heap.size wc wc.drew := (Below.refl _ _).drew
        clear hV hVe c10 HO4 HSP HAT
        go_upto_region 5 with fail
        refine wp_region_noPanic ?_
        refine wp_region_held_drew (S := fun W => Blk W n0 103 D ∧ Blk W (n0 + 1) 44 [.string ⟨x.n.toArray⟩, .string ⟨x.v.toArray⟩]) (by kernel_rfl) S0 (fun hHeld => ?_)
        refine wpAnyH_take (i := 0) (oi := ⟨some 39, _, _, _, _, _⟩) (v := ?_) rfl (by kernel_rfl) (by kernel_rfl) (by kernel_rfl) (fun _ _ _ h => h) (Or.inl ⟨by rfl, ?_⟩) (by assumption) ?_
        rotate_left
        · intro w hSw; (first | (go_simp; done) | (go_simp; with_reducible rfl))
        simp only [Act.put, List.setIfInBounds_toArray, List.set_cons_zero, List.set_cons_succ]
        refine wpAnyH_take (i := 1) (oi := ⟨some 40, _, _, _, _, _⟩) (v := ?_) rfl (by kernel_rfl) (by kernel_rfl) (by kernel_rfl) (fun _ _ _ h => h) (Or.inl ⟨by rfl, ?_⟩) (by assumption) ?_
        rotate_left
        · intro w hSw; (first | (go_simp; done) | (go_simp; with_reducible rfl))
        simp only [Act.put, List.setIfInBounds_toArray, List.set_cons_zero, List.set_cons_succ]
        refine wpAnyH_take (i := 2) (oi := ⟨some 41, _, _, _, _, _⟩) (v := ?_) rfl (by kernel_rfl) (by kernel_rfl) (by kernel_rfl) (fun _ _ _ h => h) (Or.inl ⟨by rfl, ?_⟩) (by assumption) ?_
        rotate_left
        · intro w hSw; (first | (go_simp; done) | (go_simp; with_reducible rfl))
        simp only [Act.put, List.setIfInBounds_toArray, List.set_cons_zero, List.set_cons_succ]
        refine wpAnyH_take (i := 4) (oi := ⟨some 43, _, _, _, _, _⟩) rfl (by kernel_rfl) (by kernel_rfl) (by kernel_rfl) (fun _ _ _ h => h) (yieldsIf_load_mid (by rfl) _ _ rfl _ _ rfl D _ (fun w hSw => blk_range0 hSw.1) Tryd.underlying103 rfl hDi.out) (by assumption) ?_
        simp only [Act.put, List.setIfInBounds_toArray, List.set_cons_zero, List.set_cons_succ]
        refine wpAnyH_take (i := 5) (oi := ⟨some 44, _, _, _, _, _⟩) rfl (by kernel_rfl) (by kernel_rfl) (by kernel_rfl) (fun _ _ _ h => h) (yieldsIf_load_mid (by rfl) _ _ rfl _ _ rfl [.string ⟨x.n.toArray⟩, .string ⟨x.v.toArray⟩] _ (fun w hSw => blk_range0 hSw.2) Tryd.underlying44 rfl infoPz) (by assumption) ?_
        simp only [Act.put, List.setIfInBounds_toArray, List.set_cons_zero, List.set_cons_succ]
        refine wpAnyH_take (i := 6) (oi := ⟨some 45, _, _, _, _, _⟩) (v := ?_) rfl (by kernel_rfl) (by kernel_rfl) (by kernel_rfl) (fun _ _ _ h => h) (Or.inl ⟨by rfl, ?_⟩) (by assumption) ?_
        rotate_left
        · intro w hSw; (first | (go_simp; done) | (go_simp; with_reducible rfl))
        simp only [Act.put, List.setIfInBounds_toArray, List.set_cons_zero, List.set_cons_succ]
        refine wpAnyH_take (i := 7) (oi := ⟨some 46, _, _, _, _, _⟩) (v := ?_) rfl (by kernel_rfl) (by kernel_rfl) (by kernel_rfl) (fun _ _ _ h => h) (Or.inl ⟨by rfl, ?_⟩) (by assumption) ?_
        rotate_left
        · intro w hSw; (first | (go_simp; done) | (go_simp; with_reducible rfl))
        simp only [Act.put, List.setIfInBounds_toArray, List.set_cons_zero, List.set_cons_succ]
        obtain ⟨wx0, hwx⟩ : ∃ y0, y0 = wc.drew := ⟨_, rfl⟩
        rw [← hwx] at hHeld c11 hbd ⊢
        clear hwx S0
        refine wpAnyH_ready (rs := [3]) (by kernel_rfl) (by simp) ?_
        refine AllReadyH.cons rfl (fun K hK => ?_) AllReadyH.nil
        go_simp
        go_wp2_with fail
        refine hK.out _ _ hHeld (fun hHeld => ?_)
        clear hK K c11
        refine wpAnyH_ready (rs := [8]) (by kernel_rfl) (by simp) ?_
        refine AllReadyH.cons rfl (fun K hK => ?_) AllReadyH.nil
        go_simp
        go_wp2_with (go_at_call 55; refine (HIHC.out _ hbd).mono ?_; rintro e wy ⟨p', rfl, hnd, hbk⟩)
        refine hK.out _ _ ⟨hHeld.1.below hbk, hHeld.2.below hbk⟩ (fun hHeld => ?_)
        have hby := bnext hbd hbk
        have HRW := Lib.hid (And.intro hnd (And.intro hby hbd))
        obtain ⟨c12, f12⟩ := HC10.out _ hby
        obtain ⟨q, hN⟩ : ∃ q, nptr p' = .pointer q := by cases p' <;> exact ⟨_, rfl⟩
        rw [hN]
        have HNE := Lib.hid hN
        have hg10 := HR.out.2.2.2
        have hgl : g10 < wy.heap.size := Nat.lt_of_lt_of_le HR.out.2.1.lt hby.size
        clear hK K hnd hbk hby hbd hN
        refine wpAnyH_take (i := 9) (oi := ⟨some 48, _, _, _, _, _⟩) (v := ?_) rfl (by kernel_rfl) (by kernel_rfl) (by kernel_rfl) (fun _ _ _ h => h) (Or.inl ⟨by rfl, ?_⟩) (by assumption) ?_
        rotate_left
        · intro w hSw; (first | (go_simp; done) | (go_simp; with_reducible rfl))
        simp only [Act.put, List.setIfInBounds_toArray, List.set_cons_zero, List.set_cons_succ]
        refine wpAnyH_ready (rs := [10]) (by kernel_rfl) (by simp) ?_
        refine AllReadyH.cons rfl (fun K hK => ?_) AllReadyH.nil
        go_simp
        go_wp2_with fail
        have hbs : Below g10 wy (wy.setCell ⟨g10, k, none⟩ (.pointer q)) := (Below.refl g10 wy).setCell (p := ⟨g10, k, none⟩) (Nat.le_refl _) _
        have hts : Turn (fun i => i = g10) wy (wy.setCell ⟨g10, k, none⟩ (.pointer q)) := Turn.set (S := fun i => i = g10) _ _ _ _ rfl
        have hX1 := (HR.out.2.1.below HRW.out.2.1).set k (.pointer q)
        refine hK.out _ _ ⟨blk_turn hHeld.1 hts (by have := HP5.out.lt; rw [HN0.out] at this; omega), blk_turn hHeld.2 hts (by have := HP6.out.lt; rw [HN0.out] at this; omega)⟩ (fun hHeld => ?_)
        obtain ⟨w8, hw8⟩ : ∃ w8, wy.setCell ⟨g10, k, none⟩ (.pointer q) = w8 := ⟨_, rfl⟩
        change wpAnyH _ _ _ _ _ _ _ _ (wy.setCell ⟨g10, k, none⟩ (.pointer q))
        rw [hw8] at hbs hts hX1 hHeld ⊢
        have hsa : SplitA w8 (FN (Sm F n0) w w8) f' d (ins l x) (setK c k p') := by
          have h1 : SplitA w8 (Sm F n0) f' d l c := splitA_keep (splitA_keep HR.out.1 HRW.out.2.1 (by have := HR.out.2.2.1.size; have := HN02.out; omega)) hbs (by have := HN02.out; omega)
          have h2 : Nd w8 (FN (Sm F n0) wx0 wy) f' (d + 1) p' (ins (sub l d k) x) := HRW.out.1.turn hts (fun i hi e => by
            rcases hi with hi | hi
            · have := hi.2; have := HN02.out; omega
            · have := hi.1
              have := HR.out.2.1.lt
              have := HRW.out.2.2.size
              omega) (fun _ h => h)
          have h3 := splitA_with (x := x) (w := w) (w5 := wx0) (w6 := wy) (wz := w8) (F := Sm F n0) (p' := p') h1 HH.out.srt (by rw [HN0.out]; have := HR.out.2.2.1.size; have := HN02.out; have := HRW.out.2.2.size; omega) hts.size (by rw [HK.out]; exact h2)
          rw [HK.out] at h3
          exact h3
        have hbw : Below w.heap.size w w8 := bnext HB2.out (HR.out.2.2.1.trans (((HRW.out.2.1).mono HR.out.2.2.1.size).trans (hbs.mono hg10)))
        have hj := joined_c hsa (HH.out.tabs.below hbw) (by have := ins_len_le HH.out.srt x; have := HH.out.len; omega)
        have hXe := HXS.out p'
        rw [HNE.out] at hXe
        rw [hXe] at hX1
        have hxl := kids_len (setK c k p')
        obtain ⟨X, hX⟩ : ∃ X, kids (setK c k p') = X := ⟨_, rfl⟩
        rw [hX] at hj hX1 hxl
        have HJ := Lib.hid hj
        have HX1 := Lib.hid hX1
        have HBW := Lib.hid hbw
        have hix : Hid ((Tryd.prog.info? 93).map (·.size) = some X.length) := by show _ = _; rw [hxl]; exact infoP
        clear hK K hbs hts hX1 hsa hbw hj hXe hX hxl hw8 HR HRW HIH HIHC HC10 HXS c12 f12 HNE
        refine wpAnyH_done (by kernel_rfl) ?_ _
        refine NoPanic.normal ?_
        go_wp2_with (with_reducible refine wpList_load_blk rfl 93 (.tmp 10) rfl g10 X 93 HX1.out rfl _ Tryd.underlying93 rfl hix.out ?_)
        refine HJ.out.mono ?_
        rintro e w9 ⟨p9, rfl, hn9, hb9⟩
        have HN9 := Lib.hid (And.intro (hn9.mono (F2 := FN F w w9) fun i hi => by
          rcases hi with (hi | hi) | hi
          · exact Or.inl hi.1
          · exact Or.inr ⟨hi.1, Nat.lt_of_lt_of_le hi.2 hb9.size⟩
          · exact Or.inr ⟨Nat.le_trans HBW.out.size hi.1, hi.2⟩) (bnext HBW.out hb9))
        clear hn9 hb9
        obtain ⟨N9, hN9⟩ : ∃ N9, nptr p9 = N9 := ⟨_, rfl⟩
        rw [hN9]
        go_wp2_with fail
        go_ret
        exact ⟨p9, by rw [hN9]; rfl, HN9.out.1, HN9.out.2⟩
end Go.Proofs.YtpijnkfbgieabaaDoor.tri
