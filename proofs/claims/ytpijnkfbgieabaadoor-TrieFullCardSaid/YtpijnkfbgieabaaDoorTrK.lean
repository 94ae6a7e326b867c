/- The developers' without. Condition: sha's package variables (Tabs). -/
import Derived.Test.YtpijnkfbgieabaaDoorTrJ
namespace Go.Proofs.YtpijnkfbgieabaaDoor.tri
open Go.RowKit
open Go.Proofs.YtpijnkfbgieabaaDoor.oct Go.Proofs.YtpijnkfbgieabaaDoor.ref Go.Proofs.YtpijnkfbgieabaaDoor.rows Go.Proofs.YtpijnkfbgieabaaDoor.rowg Go.Proofs.YtpijnkfbgieabaaDoor.trn Go.Proofs.YtpijnkfbgieabaaDoor.qut
open Go.Proofs.YtpijnkfbgieabaaDoor.sha (digest digest_len dval Tabs step_store_blk)
open Go.Lib (byteCells)

theorem ending_nil (X : Array Value) (p : Option Addr) (cp : Nat) (w : World) : Calls Tryd.prog 78 #[.agg X, .slice p 0 cp] w fun e w' => e = .returned (.pointer none) ∧ Below w.heap.size w w' := by
  have HB := Lib.hid ((Below.refl w.heap.size w).alloc (Nat.le_refl _) (.cells X 103))
  go_enter Tryd.func78, Tryd.ntmps78
  go_wp2_with fail
  go_ret
  exact ⟨rfl, HB.out⟩
/-- what without asks -/
structure OPre (key : T) (w : World) (F : Nat → Prop) (f d : Nat) (p : Option Nat) (l : List Pr) : Prop where
  nd : Nd w F f d p l
  df : d + f = 64
  tabs : Tabs w
  srt : Srt l
  fit : ∀ y ∈ l, Fit y
  und : Und l (digest key) d
  len : l.length ≤ 4096
  is : ∃ y, y ∈ l ∧ y.n = key
def WithoutC (key : T) (w : World) (F : Nat → Prop) (f d : Nat) (p : Option Nat) (l : List Pr) : Prop :=
  Calls Tryd.prog 57 #[nptr p, dval (digest key), .string ⟨key.toArray⟩, .int .i64 (d : Nat)] w fun e w' => ∃ p', e = .returned (nptr p') ∧ Nd w' (FN F w w') f d p' (del l key) ∧ Below w.heap.size w w'
theorem opre_sub {key : T} {w wy : World} {F G : Nat → Prop} {f d : Nat} {p p2 : Option Nat} {l : List Pr} (h : OPre key w F (f + 1) d p l) (hn : Nd wy G f (d + 1) p2 (sub l d (nib key d))) (hb : Below w.heap.size w wy) :
    OPre key wy G f (d + 1) p2 (sub l d (nib key d)) :=
  ⟨hn, by have := h.df; omega, h.tabs.below hb, sub_srt h.srt _ _, fun y hy => h.fit y (sub_mem.1 hy).1, h.und.sub, Nat.le_trans (sub_len_le _ _ _) h.len, by
    obtain ⟨y, hy, e⟩ := h.is
    exact ⟨y, sub_mem.2 ⟨hy, by rw [e]⟩, e⟩⟩
theorem splitA_without {key : T} {w w5 w6 wz : World} {F : Nat → Prop} {f d : Nat} {l : List Pr} {c : Nat → Option Nat} {p' : Option Nat} (h : SplitA wz F f d l c) (h1 : w.heap.size ≤ w5.heap.size) (h6 : w6.heap.size ≤ wz.heap.size)
    (hn : Nd wz (FN F w5 w6) f (d + 1) p' (del (sub l d (nib key d)) key)) : SplitA wz (FN F w wz) f d (del l key) (setK c (nib key d) p') := fun k hk => by
  rw [sub_del]
  unfold setK
  by_cases e : k = nib key d
  · rw [if_pos e, if_pos e, e]
    exact hn.mono fun i hi => hi.imp id fun ⟨a, b⟩ => ⟨Nat.le_trans h1 a, Nat.lt_of_lt_of_le b h6⟩
  · rw [if_neg e, if_neg e]
    exact (h k hk).mono fun i hi => Or.inl hi
theorem del_len_le (l : List Pr) (key : T) : (del l key).length ≤ l.length := List.length_filter_le _ _
/-- where a way ends -/
theorem without_end {key : T} {w : World} {F : Nat → Prop} {f d : Nat} {p : Option Nat} {l : List Pr} (h : OPre key w F f d p l) (he : endB f l = true) : endL f l = l ∧ (del l key = [] ∨ f = 0 ∧ ∀ y ∈ del l key, digest y.n = digest key) := by
  refine ⟨by unfold endL; rw [he]; rfl, ?_⟩
  unfold endB at he
  rw [Bool.or_eq_true, decide_eq_true_iff, beq_iff_eq] at he
  rcases he with he | he
  · left
    obtain ⟨y, hy, e⟩ := h.is
    rcases l with _ | ⟨x, _ | ⟨z, l⟩⟩
    · cases hy
    · rw [List.mem_singleton.1 hy] at e
      unfold del
      simp [e]
    · simp at he
  · right
    refine ⟨he, fun y hy => ?_⟩
    have hd : d = 64 := by have := h.df; omega
    subst hd
    exact h.und.full (digest_len _) y (del_mem.1 hy).1
set_option maxRecDepth 100000 in
set_option maxHeartbeats 16000000 in
theorem without_step (key : T) (f : Nat) (IH : ∀ f', f' + 1 = f → ∀ (w : World) (F : Nat → Prop) (d : Nat) (p : Option Nat) (l : List Pr), OPre key w F f' d p l → WithoutC key w F f' d p l)
    (w : World) (F : Nat → Prop) (d : Nat) (p : Option Nat) (l : List Pr) (h : OPre key w F f d p l) : WithoutC key w F f d p l := by
  unfold WithoutC
  have hdl : (byteCells (digest key)).length = 32 := by rw [byteCells_len, digest_len]
  unfold dval
  obtain ⟨D, hD⟩ : ∃ D, byteCells (digest key) = D := ⟨_, rfl⟩
  rw [hD] at hdl ⊢
  have hDi : Hid ((Tryd.prog.info? 103).map (·.size) = some D.length) := by show _ = _; rw [hdl]; exact infoPath
  have hb2 := (Below.refl w.heap.size w).alloc (Nat.le_refl _) (.cells D.toArray 103)
  have hB1 := blk_new w D.toArray 103 D rfl
  obtain ⟨w2, hw2⟩ : ∃ w2, w.alloc (.cells D.toArray 103) = w2 := ⟨_, rfl⟩
  rw [hw2] at hb2 hB1
  have HE := Lib.hid (ends_c (h.nd.below hb2))
  have HH := Lib.hid h
  have HB2 := Lib.hid hb2
  have HP5 := Lib.hid hB1
  have HDD := Lib.hid hD
  have HIH := Lib.hid IH
  obtain ⟨P, hP⟩ : ∃ P, nptr p = P := ⟨_, rfl⟩
  obtain ⟨eb, heb⟩ : ∃ eb, endB f l = eb := ⟨_, rfl⟩
  rw [hP, heb] at HE
  rw [hP]
  have HPP := Lib.hid hP
  have HEB := Lib.hid heb
  clear h hD hb2 hB1 hdl IH hP heb
  cases eb with
  | true =>
    have HBE := Lib.hid (fun W (hb : Below w2.heap.size w2 W) => besides_c (HH.out.nd.below (bnext HB2.out hb)) (by have := HH.out.len; omega) key)
    have hwe := without_end HH.out HEB.out
    rw [hwe.1, HPP.out] at HBE
    unfold txt at HBE
    have HWE := Lib.hid hwe.2
    obtain ⟨R, hR⟩ : ∃ R, del l key = R := ⟨_, rfl⟩
    rw [hR] at HBE HWE
    have hRs : Srt R := by rw [← hR]; exact del_srt HH.out.srt _
    have hRf : ∀ y ∈ R, Fit y := fun y hy => by rw [← hR] at hy; exact HH.out.fit y (del_mem.1 hy).1
    have hRl : R.length ≤ 4096 := by rw [← hR]; exact Nat.le_trans (del_len_le _ _) HH.out.len
    have HRS := Lib.hid (And.intro hRs (And.intro hRf hRl))
    have HRR := Lib.hid hR
    have S0 : Blk w2.drew w.heap.size 103 D := HP5.out.below (Below.refl _ _).drew
    have hbd : Below w2.heap.size w2 w2.drew := (Below.refl _ _).drew
    clear hwe hR hRs hRf hRl
    rw [HRR.out]
    go_enter Tryd.func57, Tryd.ntmps57
    go_wp2_with fail
    refine HE.out.mono ?_
    rintro e w4 ⟨rfl, rfl⟩
    clear HE hw2
    go_upto_region 2 with fail
    refine wp_region_noPanic ?_
    refine wp_region_held_drew (S := fun W => Blk W w.heap.size 103 D) (by kernel_rfl) S0 (fun hHeld => ?_)
    refine wpAnyH_take (i := 0) (oi := ⟨some 13, _, _, _, _, _⟩) rfl (by kernel_rfl) (by kernel_rfl) (by kernel_rfl) (fun _ _ _ h => h) (yieldsIf_load_mid (by rfl) _ _ rfl _ _ rfl D _ (fun w hSw => blk_range0 hSw) Tryd.underlying103 rfl hDi.out) (by assumption) ?_
    simp only [Act.put, List.setIfInBounds_toArray, List.set_cons_zero, List.set_cons_succ]
    refine wpAnyH_take (i := 1) (oi := ⟨some 14, _, _, _, _, _⟩) (v := ?_) rfl (by kernel_rfl) (by kernel_rfl) (by kernel_rfl) (fun _ _ _ h => h) (Or.inl ⟨by rfl, ?_⟩) (by assumption) ?_
    rotate_left
    · intro w hSw; (first | (go_simp; done) | (go_simp; with_reducible rfl))
    simp only [Act.put, List.setIfInBounds_toArray, List.set_cons_zero, List.set_cons_succ]
    refine wpAnyH_take (i := 2) (oi := ⟨some 15, _, _, _, _, _⟩) (v := ?_) rfl (by kernel_rfl) (by kernel_rfl) (by kernel_rfl) (fun _ _ _ h => h) (Or.inl ⟨by rfl, ?_⟩) (by assumption) ?_
    rotate_left
    · intro w hSw; (first | (go_simp; done) | (go_simp; with_reducible rfl))
    simp only [Act.put, List.setIfInBounds_toArray, List.set_cons_zero, List.set_cons_succ]
    obtain ⟨wx0, hwx⟩ : ∃ y0, y0 = w2.drew := ⟨_, rfl⟩
    rw [← hwx] at hHeld hbd ⊢
    clear hwx S0
    refine wpAnyH_ready (rs := [3]) (by kernel_rfl) (by simp) ?_
    refine AllReadyH.cons rfl (fun K hK => ?_) AllReadyH.nil
    go_simp
    go_wp2_with (go_at_call 77; refine (HBE.out _ hbd).mono ?_; rintro e w3 ⟨v, rfl, HRO⟩)
    refine hK.out _ _ (hHeld.below HRO.bel) (fun hHeld => ?_)
    have hb3 := bnext (bnext HB2.out hbd) HRO.bel
    obtain ⟨pv, cv, rfl⟩ := Go.Proofs.YtpijnkfbgieabaaDoor.cln.own_slice HRO.own
    have hsz3 : w.heap.size ≤ wx0.heap.size := Nat.le_trans HB2.out.size hbd.size
    have hg5 : w.heap.size < wx0.heap.size := Nat.lt_of_lt_of_le HP5.out.lt hbd.size
    have HEN : Hid (Calls Tryd.prog 78 #[.agg D.toArray, .slice pv R.length cv] w3 fun e w' => ∃ p', e = .returned (nptr p') ∧ Nd w' (FN F w w') f d p' R ∧ Below w.heap.size w w' ∧ Blk w' w.heap.size 103 D) := by
      rcases Nat.eq_zero_or_pos R.length with h0 | h0
      · rw [h0]
        refine (ending_nil _ pv cv w3).mono ?_
        rintro e w' ⟨rfl, hb⟩
        rw [List.eq_nil_of_length_eq_zero h0]
        exact ⟨none, rfl, Nd.nil _ _ _ _, bnext hb3 hb, hHeld.below hb⟩
      · obtain ⟨hf0, hdg⟩ := HWE.out.resolve_left fun e => by rw [e] at h0; cases h0
        have hce := ending_c (w0 := w) (cp := cv) hb3 hsz3 HRO.own rfl HH.out.tabs HRS.out.2.1 (digest_len key) hdg (srt_ne HRS.out.1) h0 (by have := HRS.out.2.2; omega)
        rw [HDD.out] at hce
        refine hce.mono ?_
        rintro e w' ⟨b, l', rfl, o1, o2, o3, o4, o5⟩
        have hl' : l' = R := srt_ext o2 HRS.out.1 o1
        subst hl'
        subst hf0
        refine ⟨some b, rfl, Or.inr ⟨b, rfl, o3.turn (S := fun _ => False) (Turn.refl _ w') (fun _ _ => id) fun k hk => Or.inr hk⟩, o4, blk_turn hHeld o5 fun e => ?_⟩
        have := (HRO.own.lt _ e).1
        omega
    clear hK K HRO hb3 hbd hsz3 hg5 HBE
    refine wpAnyH_ready (rs := [4]) (by kernel_rfl) (by simp) ?_
    refine AllReadyH.cons rfl (fun K hK => ?_) AllReadyH.nil
    go_simp
    go_wp2_with (go_at_call 78; refine HEN.out.mono ?_; rintro e w7 ⟨p', rfl, o1, o2, o3⟩)
    refine hK.out _ _ o3 (fun hHeld => ?_)
    have HND := Lib.hid (And.intro o1 o2)
    clear hK K o1 o2 o3
    obtain ⟨N, hN⟩ : ∃ N, nptr p' = N := ⟨_, rfl⟩
    rw [hN]
    refine wpAnyH_take (i := 5) (oi := ⟨some 8, _, _, _, _, _⟩) (v := ?_) rfl (by kernel_rfl) (by kernel_rfl) (by kernel_rfl) (fun _ _ _ h => h) (Or.inl ⟨by rfl, ?_⟩) (by assumption) ?_
    rotate_left
    · intro w hSw; (first | (go_simp; done) | (go_simp; with_reducible rfl))
    simp only [Act.put, List.setIfInBounds_toArray, List.set_cons_zero, List.set_cons_succ]
    refine wpAnyH_done (by kernel_rfl) ?_ _
    refine NoPanic.normal ?_
    go_wp2_with fail
    go_ret
    exact ⟨p', by rw [hN]; rfl, HND.out.1, HND.out.2⟩
  | false =>
    rcases f with _ | f'
    · exfalso
      have h1 := HEB.out
      unfold endB at h1
      simp at h1
    have hd64 : d < 64 := by have := HH.out.df; omega
    obtain ⟨n0, hn0⟩ : ∃ n0, w.heap.size = n0 := ⟨_, rfl⟩
    have HN0 := Lib.hid hn0
    have hn02 : n0 ≤ w2.heap.size := by rw [← hn0]; exact HB2.out.size
    have HN02 := Lib.hid hn02
    have hfork : ∃ b c, p = some b ∧ (w.rangeAt b 66 (kids c) ∧ b < w.heap.size) ∧ SplitA w (Sm F n0) f' d l c := by
      rw [← hn0]
      rcases HH.out.nd.small with ⟨_, h2⟩ | ⟨b, _, _, h2⟩ | ⟨b, c, e, _, hnb, hkk⟩
      · exfalso; have h1 := HEB.out; unfold endB at h1; rw [h2] at h1; simp at h1
      · exfalso; have h1 := HEB.out; unfold endB at h1; rw [h2] at h1; simp at h1
      · exact ⟨b, c, e, ⟨hnb.kidR, hnb.lt⟩, hkk⟩
    obtain ⟨b, c, hpj, hkr, hkk⟩ := hfork
    have hPJ := HPP.out
    rw [hpj] at hPJ
    change Value.pointer (some ⟨b, 0, none⟩) = P at hPJ
    subst hPJ
    have HSA := Lib.hid hkk
    obtain ⟨k, hk⟩ : ∃ k, nib key d = k := ⟨_, rfl⟩
    have hk16 : k < 16 := by rw [← hk]; exact nibW_lt _ _
    have HK := Lib.hid hk
    have HAT : Hid (∀ W, Calls Tryd.prog 51 #[.agg D.toArray, .int .i64 (d : Nat)] W fun e w' => e = .returned (.int .i64 (k : Nat)) ∧ Below W.heap.size W w') := fun W => by
      have h := at_c (digest key) d W (digest_len _) hd64
      unfold dval at h
      rw [HDD.out, show nibW (digest key) d = k from hk] at h
      exact h
    have hz := zeroP
    have hzl := kids_len noKid
    obtain ⟨Z, hZ⟩ : ∃ Z, kids noKid = Z := ⟨_, rfl⟩
    rw [hZ] at hz hzl
    have HZL := Lib.hid hzl
    have hxl := kids_len c
    have ho := kids_one c
    have HKC := Lib.hid (kids_at c hk16)
    have HXS : Hid (∀ p', (kids c).set k (nptr p') = kids (setK c k p')) := fun p' => kids_set c k p'
    obtain ⟨X, hX⟩ : ∃ X, kids c = X := ⟨_, rfl⟩
    rw [hX] at hxl ho hkr HKC HXS
    have HKR : Hid (∀ W, Below w2.heap.size w2 W → W.rangeAt b 66 X) := fun W hb j v hj => ((bnext HB2.out hb).cell (p := ⟨b, 66 + j, none⟩) hkr.2).trans (hkr.1 j v hj)
    have HXL := Lib.hid hxl
    have HXO := Lib.hid ho
    have hxi : Hid ((Tryd.prog.info? 93).map (·.size) = some X.length) := by show _ = _; rw [hxl]; exact infoP
    have S0 : Below w2.heap.size w2 w2.drew := (Below.refl _ _).drew
    clear hn0 hn02 hd64 hk hzl hZ hkk hkr hpj HPP hxl ho hX
    go_enter Tryd.func57, Tryd.ntmps57
    go_wp2_with fail
    refine HE.out.mono ?_
    rintro e w4 ⟨rfl, rfl⟩
    clear HE hw2
    go_upto_region 3 with fail
    go_cut [9, 10] from 18 to 25 (fun s9 s10 wx => ∃ (g9 : Nat), s9 = .pointer (some ⟨g9, 0, none⟩) ∧ s10 = .int .i64 (k : Nat) ∧ Hid (SplitA wx (Sm F n0) f' d l c ∧ Blk wx g9 93 X ∧ Below w2.heap.size w2 wx ∧ w2.heap.size ≤ g9))
    case first =>
      refine wp_region_noPanic ?_
      refine wp_region_held_drew (S := fun W => Below w2.heap.size w2 W) (by kernel_rfl) S0 (fun hHeld => ?_)
      refine wpAnyH_take (i := 0) (oi := ⟨some 18, _, _, _, _, _⟩) (v := ?_) rfl (by kernel_rfl) (by kernel_rfl) (by kernel_rfl) (fun _ _ _ h => h) (Or.inl ⟨by rfl, ?_⟩) (by assumption) ?_
      rotate_left
      · intro w hSw; (first | (go_simp; done) | (go_simp; with_reducible rfl))
      simp only [Act.put, List.setIfInBounds_toArray, List.set_cons_zero, List.set_cons_succ]
      refine wpAnyH_take (i := 1) (oi := ⟨some 19, _, _, _, _, _⟩) (v := ?_) rfl (by kernel_rfl) (by kernel_rfl) (by kernel_rfl) (fun _ _ _ h => h) (Or.inl ⟨by rfl, ?_⟩) (by assumption) ?_
      rotate_left
      · intro w hSw; (first | (go_simp; done) | (go_simp; with_reducible rfl))
      simp only [Act.put, List.setIfInBounds_toArray, List.set_cons_zero, List.set_cons_succ]
      refine wpAnyH_take (i := 2) (oi := ⟨some 20, _, _, _, _, _⟩) (v := ?_) rfl (by kernel_rfl) (by kernel_rfl) (by kernel_rfl) (fun _ _ _ h => h) (Or.inl ⟨by rfl, ?_⟩) (by assumption) ?_
      rotate_left
      · intro w hSw; (first | (go_simp; done) | (go_simp; with_reducible rfl))
      simp only [Act.put, List.setIfInBounds_toArray, List.set_cons_zero, List.set_cons_succ]
      refine wpAnyH_take (i := 3) (oi := ⟨some 21, _, _, _, _, _⟩) rfl (by kernel_rfl) (by kernel_rfl) (by kernel_rfl) (fun _ _ _ h => h) (yieldsIf_load_mid (by rfl) _ _ rfl _ _ rfl X _ (fun w hSw => HKR.out _ hSw) Tryd.underlying93 rfl hxi.out) (by assumption) ?_
      simp only [Act.put, List.setIfInBounds_toArray, List.set_cons_zero, List.set_cons_succ]
      refine wpAnyH_take (i := 4) (oi := ⟨some 22, _, _, _, _, _⟩) rfl (by kernel_rfl) (by kernel_rfl) (by kernel_rfl) (fun _ _ _ h => h) (yieldsIf_load_mid (by rfl) _ _ rfl _ _ rfl D _ (fun w hSw => blk_range0 (HP5.out.below hSw)) Tryd.underlying103 rfl hDi.out) (by assumption) ?_
      simp only [Act.put, List.setIfInBounds_toArray, List.set_cons_zero, List.set_cons_succ]
      refine wpAnyH_take (i := 5) (oi := ⟨some 23, _, _, _, _, _⟩) (v := ?_) rfl (by kernel_rfl) (by kernel_rfl) (by kernel_rfl) (fun _ _ _ h => h) (Or.inl ⟨by rfl, ?_⟩) (by assumption) ?_
      rotate_left
      · intro w hSw; (first | (go_simp; done) | (go_simp; with_reducible rfl))
      simp only [Act.put, List.setIfInBounds_toArray, List.set_cons_zero, List.set_cons_succ]
      obtain ⟨wx0, hwx⟩ : ∃ y0, y0 = w2.drew := ⟨_, rfl⟩
      rw [← hwx] at hHeld ⊢
      clear hwx S0
      refine wpAnyH_ready (rs := [6, 7]) (by kernel_rfl) (by simp) ?_
      refine AllReadyH.cons rfl (fun K hK => ?_) (AllReadyH.cons rfl (fun K hK => ?_) AllReadyH.nil)
      · skip
        go_simp
        go_wp2_with (go_at_call 51; refine (HAT.out _).mono ?_; rintro e wx1 ⟨rfl, hbk⟩)
        refine hK.out _ _ (bnext hHeld hbk) (fun hHeld2 => ?_)
        clear hK K hbk hHeld
        have hHeld := hHeld2; clear hHeld2
        refine wpAnyH_ready (rs := [7]) (by kernel_rfl) (by simp) ?_
        refine AllReadyH.cons rfl (fun K hK => ?_) AllReadyH.nil
        have hbk := (Below.refl wx1.heap.size wx1).alloc (Nat.le_refl _) (.cells Z.toArray 93)
        have B10 := blk_new wx1 Z.toArray 93 Z rfl
        have hle10 := hHeld.size
        go_simp
        go_wp2_with fail
        refine hK.out _ _ (bnext hHeld hbk) (fun hHeld2 => ?_)
        clear hK K hHeld hbk
        have hHeld := hHeld2; clear hHeld2
        change wpAnyH _ _ _ _ _ _ _ _ (wx1.alloc (.cells Z.toArray 93))
        replace hHeld : Below w2.heap.size w2 (wx1.alloc (.cells Z.toArray 93)) := hHeld
        obtain ⟨wx2, hwn⟩ : ∃ y0, y0 = wx1.alloc (.cells Z.toArray 93) := ⟨_, rfl⟩
        rw [← hwn] at B10 hHeld ⊢
        obtain ⟨g10, hg10⟩ : ∃ y0, y0 = wx1.heap.size := ⟨_, rfl⟩
        rw [← hg10] at B10 hle10 ⊢
        clear hwn hg10
        refine wpAnyH_ready (rs := [8]) (by kernel_rfl) (by simp) ?_
        refine AllReadyH.cons rfl (fun K hK => ?_) AllReadyH.nil
        refine step_store_blk rfl 93 (.tmp 9) (.tmp 21) rfl g10 X Z 93 B10 rfl rfl hxi.out (by rw [HZL.out, HXL.out]) HXO.out ?_
        intro wa hA hW
        have hbw := hW.below _ _ hHeld hle10
        refine hK.out _ _ hbw (fun hHeld => ?_)
        have HR := Lib.hid (And.intro (splitA_keep HSA.out (bnext HB2.out hbw) (Nat.le_of_eq HN0.out.symm)) (And.intro hA (And.intro hbw hle10)))
        clear hK K hW B10 hA hle10 hbw
        refine wpAnyH_take (i := 9) (oi := ⟨some 10, _, _, _, _, _⟩) (v := ?_) rfl (by kernel_rfl) (by kernel_rfl) (by kernel_rfl) (fun _ _ _ h => h) (Or.inl ⟨by rfl, ?_⟩) (by assumption) ?_
        rotate_left
        · intro w hSw; (first | (go_simp; done) | (go_simp; with_reducible rfl))
        simp only [Act.put, List.setIfInBounds_toArray]
        refine wpAnyH_done (by kernel_rfl) ?_ _
        refine NoPanic.normal ?_
        go_wp2_with fail
        go_meet
        exact ⟨g10, rfl, rfl, HR⟩
      · skip
        have hbk := (Below.refl wx0.heap.size wx0).alloc (Nat.le_refl _) (.cells Z.toArray 93)
        have B10 := blk_new wx0 Z.toArray 93 Z rfl
        have hle10 := hHeld.size
        go_simp
        go_wp2_with fail
        refine hK.out _ _ (bnext hHeld hbk) (fun hHeld2 => ?_)
        clear hK K hHeld hbk
        have hHeld := hHeld2; clear hHeld2
        change wpAnyH _ _ _ _ _ _ _ _ (wx0.alloc (.cells Z.toArray 93))
        replace hHeld : Below w2.heap.size w2 (wx0.alloc (.cells Z.toArray 93)) := hHeld
        obtain ⟨wx1, hwn⟩ : ∃ y0, y0 = wx0.alloc (.cells Z.toArray 93) := ⟨_, rfl⟩
        rw [← hwn] at B10 hHeld ⊢
        obtain ⟨g10, hg10⟩ : ∃ y0, y0 = wx0.heap.size := ⟨_, rfl⟩
        rw [← hg10] at B10 hle10 ⊢
        clear hwn hg10
        refine wpAnyH_ready (rs := [6]) (by kernel_rfl) (by simp) ?_
        refine AllReadyH.cons rfl (fun K hK => ?_) AllReadyH.nil
        go_simp
        go_wp2_with (go_at_call 51; refine (HAT.out _).mono ?_; rintro e wx2 ⟨rfl, hbk⟩)
        refine hK.out _ _ (bnext hHeld hbk) (fun hHeld2 => ?_)
        replace B10 := B10.below hbk
        clear hK K hbk hHeld
        have hHeld := hHeld2; clear hHeld2
        refine wpAnyH_ready (rs := [8]) (by kernel_rfl) (by simp) ?_
        refine AllReadyH.cons rfl (fun K hK => ?_) AllReadyH.nil
        refine step_store_blk rfl 93 (.tmp 9) (.tmp 21) rfl g10 X Z 93 B10 rfl rfl hxi.out (by rw [HZL.out, HXL.out]) HXO.out ?_
        intro wa hA hW
        have hbw := hW.below _ _ hHeld hle10
        refine hK.out _ _ hbw (fun hHeld => ?_)
        have HR := Lib.hid (And.intro (splitA_keep HSA.out (bnext HB2.out hbw) (Nat.le_of_eq HN0.out.symm)) (And.intro hA (And.intro hbw hle10)))
        clear hK K hW B10 hA hle10 hbw
        refine wpAnyH_take (i := 9) (oi := ⟨some 10, _, _, _, _, _⟩) (v := ?_) rfl (by kernel_rfl) (by kernel_rfl) (by kernel_rfl) (fun _ _ _ h => h) (Or.inl ⟨by rfl, ?_⟩) (by assumption) ?_
        rotate_left
        · intro w hSw; (first | (go_simp; done) | (go_simp; with_reducible rfl))
        simp only [Act.put, List.setIfInBounds_toArray]
        refine wpAnyH_done (by kernel_rfl) ?_ _
        refine NoPanic.normal ?_
        go_wp2_with fail
        go_meet
        exact ⟨g10, rfl, rfl, HR⟩
    case rest =>
      obtain ⟨g10, rfl, rfl, HR⟩ := hcut
      have HIHC : Hid (∀ W, Below wc.heap.size wc W → WithoutC key W (Sm F n0) f' (d + 1) (c k) (sub l d k)) := fun W hb => by
        have hpre := opre_sub (G := Sm F n0) (p2 := c k) HH.out (by rw [HK.out]; exact (HR.out.1 k hk16).below hb) (bnext HB2.out (bnext HR.out.2.2.1 hb))
        rw [HK.out] at hpre
        exact HIH.out f' rfl W (Sm F n0) (d + 1) (c k) (sub l d k) hpre
      unfold WithoutC dval at HIHC
      rw [HDD.out, show ((d + 1 : Nat) : Int) = (d : Int) + 1 by omega] at HIHC
      have hV := HKC.out
      obtain ⟨V, hVe⟩ : ∃ V, nptr (c k) = V := ⟨_, rfl⟩
      rw [hVe] at hV HIHC
      have HC10 : Hid (∀ W, Below wc.heap.size wc W → W.cell? ⟨g10, k, none⟩ = some V ∧ W.frozen? ⟨g10, k, none⟩ = false) := fun W hb => ⟨((HR.out.2.1.below hb).cell k).trans hV, (HR.out.2.1.below hb).frozen k⟩
      have hkI : (k : Int) < 16 := by omega
      have hwr : IntKind.i64.wrap ((d : Int) + 1) = ((d + 1 : Nat) : Int) := by rw [IntKind.wrap_i64]; have := HH.out.df; omega
      have S0 : Blk wc.drew w.heap.size 103 D := HP5.out.below (HR.out.2.2.1.drew)
      have c11 : wc.drew.cell? ⟨g10, k, none⟩ = some V := (HC10.out _ (Below.refl _ _).drew).1
      have hbd : Below wc.heap.size wc wc.drew := (Below.refl _ _).drew
      clear hV hVe HAT HKC HKR HSA
      go_upto_region 4 with fail
      refine wp_region_noPanic ?_
      refine wp_region_held_drew (S := fun W => Blk W w.heap.size 103 D) (by kernel_rfl) S0 (fun hHeld => ?_)
      refine wpAnyH_take (i := 0) (oi := ⟨some 25, _, _, _, _, _⟩) (v := ?_) rfl (by kernel_rfl) (by kernel_rfl) (by kernel_rfl) (fun _ _ _ h => h) (Or.inl ⟨by rfl, ?_⟩) (by assumption) ?_
      rotate_left
      · intro w hSw; (first | (go_simp; done) | (go_simp; with_reducible rfl))
      simp only [Act.put, List.setIfInBounds_toArray, List.set_cons_zero, List.set_cons_succ]
      refine wpAnyH_take (i := 1) (oi := ⟨some 26, _, _, _, _, _⟩) (v := ?_) rfl (by kernel_rfl) (by kernel_rfl) (by kernel_rfl) (fun _ _ _ h => h) (Or.inl ⟨by rfl, ?_⟩) (by assumption) ?_
      rotate_left
      · intro w hSw; (first | (go_simp; done) | (go_simp; with_reducible rfl))
      simp only [Act.put, List.setIfInBounds_toArray, List.set_cons_zero, List.set_cons_succ]
      refine wpAnyH_take (i := 2) (oi := ⟨some 27, _, _, _, _, _⟩) (v := ?_) rfl (by kernel_rfl) (by kernel_rfl) (by kernel_rfl) (fun _ _ _ h => h) (Or.inl ⟨by rfl, ?_⟩) (by assumption) ?_
      rotate_left
      · intro w hSw; (first | (go_simp; done) | (go_simp; with_reducible rfl))
      simp only [Act.put, List.setIfInBounds_toArray, List.set_cons_zero, List.set_cons_succ]
      refine wpAnyH_take (i := 4) (oi := ⟨some 29, _, _, _, _, _⟩) rfl (by kernel_rfl) (by kernel_rfl) (by kernel_rfl) (fun _ _ _ h => h) (yieldsIf_load_mid (by rfl) _ _ rfl _ _ rfl D _ (fun w hSw => blk_range0 hSw) Tryd.underlying103 rfl hDi.out) (by assumption) ?_
      simp only [Act.put, List.setIfInBounds_toArray, List.set_cons_zero, List.set_cons_succ]
      refine wpAnyH_take (i := 5) (oi := ⟨some 30, _, _, _, _, _⟩) (v := ?_) rfl (by kernel_rfl) (by kernel_rfl) (by kernel_rfl) (fun _ _ _ h => h) (Or.inl ⟨by rfl, ?_⟩) (by assumption) ?_
      rotate_left
      · intro w hSw; (first | (go_simp; done) | (go_simp; with_reducible rfl))
      simp only [Act.put, List.setIfInBounds_toArray, List.set_cons_zero, List.set_cons_succ]
      refine wpAnyH_take (i := 6) (oi := ⟨some 31, _, _, _, _, _⟩) (v := ?_) rfl (by kernel_rfl) (by kernel_rfl) (by kernel_rfl) (fun _ _ _ h => h) (Or.inl ⟨by rfl, ?_⟩) (by assumption) ?_
      rotate_left
      · intro w hSw; (first | (go_simp; done) | (go_simp; with_reducible rfl))
      simp only [Act.put, List.setIfInBounds_toArray, List.set_cons_zero, List.set_cons_succ]
      refine wpAnyH_take (i := 7) (oi := ⟨some 32, _, _, _, _, _⟩) (v := ?_) rfl (by kernel_rfl) (by kernel_rfl) (by kernel_rfl) (fun _ _ _ h => h) (Or.inl ⟨by rfl, ?_⟩) (by assumption) ?_
      rotate_left
      · intro w hSw; (first | (go_simp; done) | (go_simp; with_reducible rfl))
      simp only [Act.put, List.setIfInBounds_toArray, List.set_cons_zero, List.set_cons_succ]
      obtain ⟨wx0, hwx⟩ : ∃ y0, y0 = wc.drew := ⟨_, rfl⟩
      rw [← hwx] at hHeld c11 hbd ⊢
      clear hwx S0
      refine wpAnyH_ready (rs := [3]) (by kernel_rfl) (by simp) ?_
      refine AllReadyH.cons rfl (fun K hK => ?_) AllReadyH.nil
      go_simp
      go_wp2_with fail
      refine hK.out _ _ hHeld (fun hHeld => ?_)
      clear hK K c11
      refine wpAnyH_ready (rs := [8]) (by kernel_rfl) (by simp) ?_
      refine AllReadyH.cons rfl (fun K hK => ?_) AllReadyH.nil
      go_simp
      go_wp2_with (go_at_call 57; refine (HIHC.out _ hbd).mono ?_; rintro e wy ⟨p', rfl, hnd, hbk⟩)
      refine hK.out _ _ (hHeld.below hbk) (fun hHeld => ?_)
      have hby := bnext hbd hbk
      have HRW := Lib.hid (And.intro hnd (And.intro hby hbd))
      obtain ⟨c12, f12⟩ := HC10.out _ hby
      obtain ⟨q, hN⟩ : ∃ q, nptr p' = .pointer q := by cases p' <;> exact ⟨_, rfl⟩
      rw [hN]
      have HNE := Lib.hid hN
      have hg10 := HR.out.2.2.2
      have hgl : g10 < wy.heap.size := Nat.lt_of_lt_of_le HR.out.2.1.lt hby.size
      clear hK K hnd hbk hby hbd hN
      refine wpAnyH_take (i := 9) (oi := ⟨some 34, _, _, _, _, _⟩) (v := ?_) rfl (by kernel_rfl) (by kernel_rfl) (by kernel_rfl) (fun _ _ _ h => h) (Or.inl ⟨by rfl, ?_⟩) (by assumption) ?_
      rotate_left
      · intro w hSw; (first | (go_simp; done) | (go_simp; with_reducible rfl))
      simp only [Act.put, List.setIfInBounds_toArray, List.set_cons_zero, List.set_cons_succ]
      refine wpAnyH_ready (rs := [10]) (by kernel_rfl) (by simp) ?_
      refine AllReadyH.cons rfl (fun K hK => ?_) AllReadyH.nil
      go_simp
      go_wp2_with fail
      have hbs : Below g10 wy (wy.setCell ⟨g10, k, none⟩ (.pointer q)) := (Below.refl g10 wy).setCell (p := ⟨g10, k, none⟩) (Nat.le_refl _) _
      have hts : Turn (fun i => i = g10) wy (wy.setCell ⟨g10, k, none⟩ (.pointer q)) := Turn.set (S := fun i => i = g10) _ _ _ _ rfl
      have hX1 := (HR.out.2.1.below HRW.out.2.1).set k (.pointer q)
      refine hK.out _ _ (blk_turn hHeld hts (by have := HP5.out.lt; omega)) (fun hHeld => ?_)
      obtain ⟨w8, hw8⟩ : ∃ w8, wy.setCell ⟨g10, k, none⟩ (.pointer q) = w8 := ⟨_, rfl⟩
      change wpAnyH _ _ _ _ _ _ _ _ (wy.setCell ⟨g10, k, none⟩ (.pointer q))
      rw [hw8] at hbs hts hX1 hHeld ⊢
      have hsa : SplitA w8 (FN (Sm F n0) w w8) f' d (del l key) (setK c k p') := by
        have h1 : SplitA w8 (Sm F n0) f' d l c := splitA_keep (splitA_keep HR.out.1 HRW.out.2.1 (by have := HR.out.2.2.1.size; have := HN02.out; omega)) hbs (by have := HN02.out; omega)
        have h2 : Nd w8 (FN (Sm F n0) wx0 wy) f' (d + 1) p' (del (sub l d k) key) := HRW.out.1.turn hts (fun i hi e => by
          rcases hi with hi | hi
          · have := hi.2; have := HN02.out; omega
          · have := hi.1
            have := HR.out.2.1.lt
            have := HRW.out.2.2.size
            omega) (fun _ h => h)
        have h3 := splitA_without (key := key) (w := w) (w5 := wx0) (w6 := wy) (wz := w8) (F := Sm F n0) (p' := p') h1 (by rw [HN0.out]; have := HR.out.2.2.1.size; have := HN02.out; have := HRW.out.2.2.size; omega) hts.size (by rw [HK.out]; exact h2)
        rw [HK.out] at h3
        exact h3
      have hbw : Below w.heap.size w w8 := bnext HB2.out (HR.out.2.2.1.trans (((HRW.out.2.1).mono HR.out.2.2.1.size).trans (hbs.mono hg10)))
      have hj := joined_c hsa (HH.out.tabs.below hbw) (by have := del_len_le l key; have := HH.out.len; omega)
      have hXe := HXS.out p'
      rw [HNE.out] at hXe
      rw [hXe] at hX1
      have hxl := kids_len (setK c k p')
      obtain ⟨Y, hY⟩ : ∃ Y, kids (setK c k p') = Y := ⟨_, rfl⟩
      rw [hY] at hj hX1 hxl
      have HJ := Lib.hid hj
      have HX1 := Lib.hid hX1
      have HBW := Lib.hid hbw
      have hix : Hid ((Tryd.prog.info? 93).map (·.size) = some Y.length) := by show _ = _; rw [hxl]; exact infoP
      clear hK K hbs hts hX1 hsa hbw hj hXe hY hxl hw8 HR HRW HIH HIHC HC10 HXS c12 f12 HNE
      refine wpAnyH_done (by kernel_rfl) ?_ _
      refine NoPanic.normal ?_
      go_wp2_with (with_reducible refine wpList_load_blk rfl 93 (.tmp 9) rfl g10 Y 93 HX1.out rfl _ Tryd.underlying93 rfl hix.out ?_)
      refine HJ.out.mono ?_
      rintro e w9 ⟨p9, rfl, hn9, hb9⟩
      have HN9 := Lib.hid (And.intro (hn9.mono (F2 := FN F w w9) fun i hi => by
        rcases hi with (hi | hi) | hi
        · exact Or.inl hi.1
        · exact Or.inr ⟨hi.1, Nat.lt_of_lt_of_le hi.2 hb9.size⟩
        · exact Or.inr ⟨Nat.le_trans HBW.out.size hi.1, hi.2⟩) (bnext HBW.out hb9))
      clear hn9 hb9
      obtain ⟨N9, hN9⟩ : ∃ N9, nptr p9 = N9 := ⟨_, rfl⟩
      rw [hN9]
      go_wp2_with fail
      go_ret
      exact ⟨p9, by rw [hN9]; rfl, HN9.out.1, HN9.out.2⟩
theorem without_c (key : T) : ∀ (f : Nat) (w : World) (F : Nat → Prop) (d : Nat) (p : Option Nat) (l : List Pr), OPre key w F f d p l → WithoutC key w F f d p l
  | 0 => without_step key 0 fun f' h => absurd h (by omega)
  | f + 1 => without_step key (f + 1) fun f' h => by
    obtain rfl : f' = f := by omega
    exact without_c key f'
end Go.Proofs.YtpijnkfbgieabaaDoor.tri
