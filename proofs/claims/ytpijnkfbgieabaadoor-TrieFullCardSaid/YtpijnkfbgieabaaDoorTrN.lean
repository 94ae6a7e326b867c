/- The developers' Del, Get. Condition: sha's package variables (Tabs). -/
import Derived.Test.YtpijnkfbgieabaaDoorTrM
namespace Go.Proofs.YtpijnkfbgieabaaDoor.tri
open Go.RowKit
open Go.Proofs.YtpijnkfbgieabaaDoor.oct Go.Proofs.YtpijnkfbgieabaaDoor.ref Go.Proofs.YtpijnkfbgieabaaDoor.rows Go.Proofs.YtpijnkfbgieabaaDoor.rowg Go.Proofs.YtpijnkfbgieabaaDoor.trn Go.Proofs.YtpijnkfbgieabaaDoor.qut
open Go.Proofs.YtpijnkfbgieabaaDoor.sha (digest digest_len dval Tabs step_store_blk)
open Go.Lib (byteCells)

def delN (l : List Pr) (k : T) : Nat := if (getP l k).isSome then 0 else 7
theorem del_same {l : List Pr} {k : T} (h : getP l k = none) : del l k = l := del_none (getP_none.1 h)
set_option maxRecDepth 100000 in
set_option maxHeartbeats 16000000 in
theorem del_c {w : World} {F : Nat → Prop} {g : Nat} {l : List Pr} (h : Tri w F g l) (ht : Tabs w) (k : T) (hk : k.length ≤ 140737488355328) :
    Calls Tryd.prog 28 #[.pointer (some ⟨g, 0, none⟩), txt k] w fun e w' => e = .returned (.int .i64 (delN l k : Nat)) ∧ Tri w' (FN F w w') g (del l k) ∧ Turn (fun i => i = g) w w' := by
  have HT := Lib.hid h
  have HTB := Lib.hid ht
  unfold txt
  obtain ⟨p, hB, hnd⟩ := h.nd
  have HB := Lib.hid hB
  have HND := Lib.hid hnd
  have HFI := Lib.hid (find_c hnd ht h.srt (by have := h.len; omega) h.ok k hk)
  unfold txt at HFI
  obtain ⟨o, ho⟩ : ∃ o, getP l k = o := ⟨_, rfl⟩
  have HO := Lib.hid ho
  rw [ho] at HFI
  obtain ⟨x1, x2, hx⟩ : ∃ x1 x2 : ByteArray, gotC o = [.string x1, .string x2] := by cases o <;> exact ⟨_, _, rfl⟩
  obtain ⟨bo, hbo⟩ : ∃ bo, o.isSome = bo := ⟨_, rfl⟩
  rw [hx, hbo] at HFI
  have HBO := Lib.hid hbo
  obtain ⟨P, hP⟩ : ∃ P, nptr p = P := ⟨_, rfl⟩
  rw [hP] at HFI hB
  have c0 : w.cell? ⟨g, 0, none⟩ = some P := hB.cell 0
  have HPP := Lib.hid hP
  have HKL := Lib.hid hk
  cases bo with
  | false =>
    have hn : getP l k = none := by
      rw [ho]
      cases o with
      | none => rfl
      | some y => cases hbo
    have hR : delN l k = 7 := by unfold delN; rw [hn]; rfl
    rw [hR, del_same hn]
    clear h ht hB hnd ho hx hbo hP hk hn hR
    go_enter Tryd.func28, Tryd.ntmps28
    go_wp2_with fail
    refine HFI.out.mono ?_
    rintro e w4 ⟨rfl, hb4⟩
    have HB5 := Lib.hid (hb4.alloc hb4.size (.cells #[.string x1, .string x2] 44))
    clear hb4
    go_wp2_with fail
    go_ret
    exact ⟨rfl, (HT.out.below HB5.out).mono HT.out.lt, Turn.of_below HB5.out⟩
  | true =>
    have his : ∃ y, y ∈ l ∧ y.n = k := by
      cases o with
      | none => cases hbo
      | some y => exact ⟨y, getP_some ho⟩
    have HIS := Lib.hid his
    have hR : delN l k = 0 := by unfold delN; rw [ho, hbo]; rfl
    rw [hR]
    clear h ht hB hnd ho hx hbo hP hk his hR
    go_enter Tryd.func28, Tryd.ntmps28
    go_wp2_with fail
    refine HFI.out.mono ?_
    rintro e w4 ⟨rfl, hb4⟩
    have hb5 := hb4.alloc hb4.size (.cells #[.string x1, .string x2] 44)
    have hc5 : (w4.alloc (.cells #[.string x1, .string x2] 44)).cell? ⟨g, 0, none⟩ = some P := (hb5.cell (p := ⟨g, 0, none⟩) HB.out.lt).trans c0
    have HC5 := Lib.hid hc5
    have HB5 := Lib.hid hb5
    clear hb4 hb5 hc5 c0 HFI
    go_upto_region 6 with fail
    obtain ⟨wc, hw5⟩ : ∃ w5, w4.alloc (.cells #[.string x1, .string x2] 44) = w5 := ⟨_, rfl⟩
    rw [hw5] at HC5 HB5 ⊢
    clear hw5
    have hpa : ∀ y : After wc, Calls Tryd.prog 50 #[.string ⟨k.toArray⟩] y.v fun e w' => e = .returned (dval (digest k)) ∧ Below y.v.heap.size y.v w' := fun y => pathOf_c k y.v ((HTB.out.below HB5.out).below y.below) (by obtain ⟨z, hz, ez⟩ := HIS.out; have h1 := (HT.out.fit z hz).1; rw [ez] at h1; omega)
    have hwi : ∀ y : After wc, WithoutC k y.v F 64 0 p l := fun y => without_c k 64 y.v F 0 p l ⟨(HND.out.below HB5.out).below y.below, rfl, (HTB.out.below HB5.out).below y.below, HT.out.srt, HT.out.fit, Und.zero _ _, HT.out.len, HIS.out⟩
    unfold WithoutC at hwi
    unfold dval at hpa hwi
    change ∀ y : After wc, Calls Tryd.prog 57 #[nptr p, .agg (byteCells (digest k)).toArray, .string ⟨k.toArray⟩, .int .i64 0] y.v _ at hwi
    rw [HPP.out] at hwi
    obtain ⟨D, hD⟩ : ∃ D, byteCells (digest k) = D := ⟨_, rfl⟩
    rw [hD] at hpa hwi
    have HWI := Lib.hid hwi
    have HPA := Lib.hid hpa
    have d0 : ∀ y : After wc, y.v.cell? ⟨g, 0, none⟩ = some P := fun y => (y.below.cell (p := ⟨g, 0, none⟩) (Nat.lt_of_lt_of_le HB.out.lt HB5.out.size)).trans HC5.out
    have HD0 := Lib.hid d0
    have hbd : Below wc.heap.size wc wc.drew := (Below.refl _ _).drew
    have HFIN : Hid (∀ (w8 : World) (p' q : Option _), nptr p' = .pointer q → Below w.heap.size w w8 → Nd w8 (FN F w w8) 64 0 p' (del l k) → Tri (w8.setCell ⟨g, 0, none⟩ (.pointer q)) (FN F w (w8.setCell ⟨g, 0, none⟩ (.pointer q))) g (del l k) ∧ Turn (fun i => i = g) w (w8.setCell ⟨g, 0, none⟩ (.pointer q))) := by
      intro w8 p' q hq hb hn
      have hts : Turn (fun i => i = g) w8 (w8.setCell ⟨g, 0, none⟩ (.pointer q)) := Turn.set (S := fun i => i = g) _ _ _ _ rfl
      have hB8 := (HB.out.below hb).set 0 (.pointer q)
      rw [← hq] at hB8 hts ⊢
      have hsz : (w8.setCell ⟨g, 0, none⟩ (nptr p')).heap.size = w8.heap.size := by simp
      have hn2 : Nd (w8.setCell ⟨g, 0, none⟩ (nptr p')) (FN F w (w8.setCell ⟨g, 0, none⟩ (nptr p'))) 64 0 p' (del l k) := hn.turn hts (fun i hi e => by
        subst e
        rcases hi with hi | hi
        · exact HT.out.apart hi
        · have := HB.out.lt; omega) (fun i hi => hi.imp id fun h => ⟨h.1, by rw [hsz]; exact h.2⟩)
      exact ⟨HT.out.of hB8 hn2 (del_srt HT.out.srt _) (fun x hx => HT.out.fit x (del_mem.1 hx).1) (fun x hx => HT.out.ok x (del_mem.1 hx).1) (Nat.le_trans (del_len_le _ _) HT.out.len), (Turn.of_below hb).next hts⟩
    clear hpa hwi hD d0
    refine wp_region_noPanic ?_
    refine wp_region_held_drew (S := fun _ => True) (by kernel_rfl) trivial (fun hHeld => ?_)
    refine wpAnyH_take (i := 0) (oi := ⟨some 20, _, _, _, _, _⟩) (v := ?_) rfl (by kernel_rfl) (by kernel_rfl) (by kernel_rfl) (fun _ _ _ h => h) (Or.inl ⟨by rfl, ?_⟩) (by assumption) ?_
    rotate_left
    · intro w hSw; (first | (go_simp; done) | (go_simp; with_reducible rfl))
    simp only [Act.put, List.setIfInBounds_toArray, List.set_cons_zero, List.set_cons_succ]
    refine wpAnyH_take (i := 1) (oi := ⟨some 21, _, _, _, _, _⟩) (v := ?_) rfl (by kernel_rfl) (by kernel_rfl) (by kernel_rfl) (fun _ _ _ h => h) (Or.inl ⟨by rfl, ?_⟩) (by assumption) ?_
    rotate_left
    · intro w hSw; (first | (go_simp; done) | (go_simp; with_reducible rfl))
    simp only [Act.put, List.setIfInBounds_toArray, List.set_cons_zero, List.set_cons_succ]
    refine wpAnyH_take (i := 2) (oi := ⟨some 22, _, _, _, _, _⟩) (v := ?_) rfl (by kernel_rfl) (by kernel_rfl) (by kernel_rfl) (fun _ _ _ h => h) (Or.inl ⟨by rfl, ?_⟩) (by assumption) ?_
    rotate_left
    · intro w hSw; (first | (go_simp; done) | (go_simp; with_reducible rfl))
    simp only [Act.put, List.setIfInBounds_toArray, List.set_cons_zero, List.set_cons_succ]
    refine wpAnyH_take (i := 3) (oi := ⟨some 23, _, _, _, _, _⟩) (v := ?_) rfl (by kernel_rfl) (by kernel_rfl) (by kernel_rfl) (fun _ _ _ h => h) (Or.inl ⟨by rfl, ?_⟩) (by assumption) ?_
    rotate_left
    · intro w hSw; (first | (go_simp; done) | (go_simp; with_reducible rfl))
    simp only [Act.put, List.setIfInBounds_toArray, List.set_cons_zero, List.set_cons_succ]
    refine wpAnyH_take (i := 5) (oi := ⟨some 25, _, _, _, _, _⟩) (v := ?_) rfl (by kernel_rfl) (by kernel_rfl) (by kernel_rfl) (fun _ _ _ h => h) (Or.inl ⟨by rfl, ?_⟩) (by assumption) ?_
    rotate_left
    · intro w hSw; (first | (go_simp; done) | (go_simp; with_reducible rfl))
    simp only [Act.put, List.setIfInBounds_toArray, List.set_cons_zero, List.set_cons_succ]
    refine wpAnyH_take (i := 7) (oi := ⟨some 27, _, _, _, _, _⟩) (v := ?_) rfl (by kernel_rfl) (by kernel_rfl) (by kernel_rfl) (fun _ _ _ h => h) (Or.inl ⟨by rfl, ?_⟩) (by assumption) ?_
    rotate_left
    · intro w hSw; (first | (go_simp; done) | (go_simp; with_reducible rfl))
    simp only [Act.put, List.setIfInBounds_toArray, List.set_cons_zero, List.set_cons_succ]
    obtain ⟨wx0, hwx⟩ : ∃ y0, y0 = wc.drew := ⟨_, rfl⟩
    rw [← hwx] at hbd ⊢
    clear hwx
    refine wpAnyH_ready (rs := [4, 6]) (by kernel_rfl) (by simp) ?_
    refine AllReadyH.cons rfl (fun K hK => ?_) (AllReadyH.cons rfl (fun K hK => ?_) AllReadyH.nil)
    · skip
      have c4 : wx0.cell? ⟨g, 0, none⟩ = some P := HD0.out ⟨wx0, hbd⟩
      go_simp
      go_wp2_with fail
      refine hK.out _ _ trivial (fun hHeld => ?_)
      clear hK K c4
      refine wpAnyH_ready (rs := [6]) (by kernel_rfl) (by simp) ?_
      refine AllReadyH.cons rfl (fun K hK => ?_) AllReadyH.nil
      go_simp
      go_wp2_with (go_at_call 50; refine (HPA.out ⟨wx0, hbd⟩).mono ?_; rintro e wx1 ⟨rfl, hbk⟩)
      refine hK.out _ _ trivial (fun hHeld => ?_)
      have hbd2 := bnext hbd hbk
      clear hK K hbk hbd
      have hbd := hbd2; clear hbd2
      refine wpAnyH_ready (rs := [8]) (by kernel_rfl) (by simp) ?_
      refine AllReadyH.cons rfl (fun K hK => ?_) AllReadyH.nil
      go_simp
      go_wp2_with (go_at_call 57; refine (HWI.out ⟨wx1, hbd⟩).mono ?_; rintro e w8 ⟨p', rfl, hn8, hbk⟩)
      refine hK.out _ _ trivial (fun hHeld => ?_)
      have hb8 : Below w.heap.size w w8 := bnext HB5.out (bnext hbd hbk)
      have hs8 : w.heap.size ≤ wx1.heap.size := Nat.le_trans HB5.out.size hbd.size
      have hn9 : Nd w8 (FN F w w8) 64 0 p' (del l k) := hn8.mono fun i hi => hi.imp id fun h => ⟨Nat.le_trans hs8 h.1, h.2⟩
      obtain ⟨q, hq⟩ : ∃ q, nptr p' = .pointer q := by cases p' <;> exact ⟨_, rfl⟩
      have HF8 := Lib.hid (HFIN.out w8 p' q hq hb8 hn9)
      have c8 : w8.cell? ⟨g, 0, none⟩ = some P := HD0.out ⟨w8, bnext hbd hbk⟩
      have f8 := (HB.out.below hb8).frozen 0
      rw [hq]
      clear hK K hn8 hbk hbd hb8 hs8 hn9 hq HFIN
      refine wpAnyH_take (i := 9) (oi := ⟨some 29, _, _, _, _, _⟩) (v := ?_) rfl (by kernel_rfl) (by kernel_rfl) (by kernel_rfl) (fun _ _ _ h => h) (Or.inl ⟨by rfl, ?_⟩) (by assumption) ?_
      rotate_left
      · intro w hSw; (first | (go_simp; done) | (go_simp; with_reducible rfl))
      simp only [Act.put, List.setIfInBounds_toArray, List.set_cons_zero, List.set_cons_succ]
      refine wpAnyH_take (i := 10) (oi := ⟨some 30, _, _, _, _, _⟩) (v := ?_) rfl (by kernel_rfl) (by kernel_rfl) (by kernel_rfl) (fun _ _ _ h => h) (Or.inl ⟨by rfl, ?_⟩) (by assumption) ?_
      rotate_left
      · intro w hSw; (first | (go_simp; done) | (go_simp; with_reducible rfl))
      simp only [Act.put, List.setIfInBounds_toArray, List.set_cons_zero, List.set_cons_succ]
      refine wpAnyH_ready (rs := [11]) (by kernel_rfl) (by simp) ?_
      refine AllReadyH.cons rfl (fun K hK => ?_) AllReadyH.nil
      go_simp
      go_wp2_with fail
      refine hK.out _ _ trivial (fun hHeld => ?_)
      refine wpAnyH_done (by kernel_rfl) ?_ _
      refine NoPanic.normal ?_
      go_wp2_with fail
      go_ret
      exact ⟨rfl, HF8.out.1, HF8.out.2⟩
    · skip
      go_simp
      go_wp2_with (go_at_call 50; refine (HPA.out ⟨wx0, hbd⟩).mono ?_; rintro e wx1 ⟨rfl, hbk⟩)
      refine hK.out _ _ trivial (fun hHeld => ?_)
      have hbd2 := bnext hbd hbk
      clear hK K hbk hbd
      have hbd := hbd2; clear hbd2
      refine wpAnyH_ready (rs := [4]) (by kernel_rfl) (by simp) ?_
      refine AllReadyH.cons rfl (fun K hK => ?_) AllReadyH.nil
      have c4 : wx1.cell? ⟨g, 0, none⟩ = some P := HD0.out ⟨wx1, hbd⟩
      go_simp
      go_wp2_with fail
      refine hK.out _ _ trivial (fun hHeld => ?_)
      clear hK K c4
      refine wpAnyH_ready (rs := [8]) (by kernel_rfl) (by simp) ?_
      refine AllReadyH.cons rfl (fun K hK => ?_) AllReadyH.nil
      go_simp
      go_wp2_with (go_at_call 57; refine (HWI.out ⟨wx1, hbd⟩).mono ?_; rintro e w8 ⟨p', rfl, hn8, hbk⟩)
      refine hK.out _ _ trivial (fun hHeld => ?_)
      have hb8 : Below w.heap.size w w8 := bnext HB5.out (bnext hbd hbk)
      have hs8 : w.heap.size ≤ wx1.heap.size := Nat.le_trans HB5.out.size hbd.size
      have hn9 : Nd w8 (FN F w w8) 64 0 p' (del l k) := hn8.mono fun i hi => hi.imp id fun h => ⟨Nat.le_trans hs8 h.1, h.2⟩
      obtain ⟨q, hq⟩ : ∃ q, nptr p' = .pointer q := by cases p' <;> exact ⟨_, rfl⟩
      have HF8 := Lib.hid (HFIN.out w8 p' q hq hb8 hn9)
      have c8 : w8.cell? ⟨g, 0, none⟩ = some P := HD0.out ⟨w8, bnext hbd hbk⟩
      have f8 := (HB.out.below hb8).frozen 0
      rw [hq]
      clear hK K hn8 hbk hbd hb8 hs8 hn9 hq HFIN
      refine wpAnyH_take (i := 9) (oi := ⟨some 29, _, _, _, _, _⟩) (v := ?_) rfl (by kernel_rfl) (by kernel_rfl) (by kernel_rfl) (fun _ _ _ h => h) (Or.inl ⟨by rfl, ?_⟩) (by assumption) ?_
      rotate_left
      · intro w hSw; (first | (go_simp; done) | (go_simp; with_reducible rfl))
      simp only [Act.put, List.setIfInBounds_toArray, List.set_cons_zero, List.set_cons_succ]
      refine wpAnyH_take (i := 10) (oi := ⟨some 30, _, _, _, _, _⟩) (v := ?_) rfl (by kernel_rfl) (by kernel_rfl) (by kernel_rfl) (fun _ _ _ h => h) (Or.inl ⟨by rfl, ?_⟩) (by assumption) ?_
      rotate_left
      · intro w hSw; (first | (go_simp; done) | (go_simp; with_reducible rfl))
      simp only [Act.put, List.setIfInBounds_toArray, List.set_cons_zero, List.set_cons_succ]
      refine wpAnyH_ready (rs := [11]) (by kernel_rfl) (by simp) ?_
      refine AllReadyH.cons rfl (fun K hK => ?_) AllReadyH.nil
      go_simp
      go_wp2_with fail
      refine hK.out _ _ trivial (fun hHeld => ?_)
      refine wpAnyH_done (by kernel_rfl) ?_ _
      refine NoPanic.normal ?_
      go_wp2_with fail
      go_ret
      exact ⟨rfl, HF8.out.1, HF8.out.2⟩
set_option maxRecDepth 100000 in
set_option maxHeartbeats 8000000 in
theorem get_c {w : World} {F : Nat → Prop} {g : Nat} {l : List Pr} (h : Tri w F g l) (ht : Tabs w) (k : T) (hk : k.length ≤ 140737488355328) :
    Calls Tryd.prog 27 #[.pointer (some ⟨g, 0, none⟩), txt k] w fun e w' => e = .returned (.tuple #[txt (match getP l k with | some y => y.v | none => []), .int .i64 (delN l k : Nat)]) ∧ Below w.heap.size w w' := by
  unfold txt
  obtain ⟨p, hB, hnd⟩ := h.nd
  have HFI := Lib.hid (find_c hnd ht h.srt (by have := h.len; omega) h.ok k hk)
  unfold txt at HFI
  obtain ⟨P, hP⟩ : ∃ P, nptr p = P := ⟨_, rfl⟩
  rw [hP] at HFI hB
  have c0 : w.cell? ⟨g, 0, none⟩ = some P := hB.cell 0
  unfold delN
  cases e : getP l k with
  | none =>
    rw [e] at HFI
    unfold gotC at HFI
    clear h ht hB hnd hP hk e
    go_enter Tryd.func27, Tryd.ntmps27
    go_wp2_with fail
    refine HFI.out.mono ?_
    rintro e w4 ⟨rfl, hb4⟩
    have HB5 := Lib.hid (hb4.alloc hb4.size (.cells #[.string ⟨#[]⟩, .string ⟨#[]⟩] 44))
    clear hb4
    go_wp2_with fail
    go_ret2
    exact ⟨rfl, HB5.out⟩
  | some y =>
    rw [e] at HFI
    unfold gotC at HFI
    have hfy := (h.fit y (getP_some e).1).2
    have hv := size_txt y.v
    dsimp only at HFI ⊢
    obtain ⟨sv, hsv⟩ : ∃ sv, (⟨y.v.toArray⟩ : ByteArray) = sv := ⟨_, rfl⟩
    rw [hsv] at hv HFI ⊢
    have HCL : Hid (∀ W, Calls Tryd.prog 47 #[.string sv] W fun e w' => e = .returned (.string sv) ∧ Below W.heap.size W w') := fun W => Go.Proofs.YtpijnkfbgieabaaDoor.cln.sclone_c sv W (by omega)
    clear h ht hB hnd hP hk e hfy hv hsv
    go_enter Tryd.func27, Tryd.ntmps27
    go_wp2_with fail
    refine HFI.out.mono ?_
    rintro e w4 ⟨rfl, hb4⟩
    have hb5 := hb4.alloc hb4.size (.cells #[.string ⟨y.n.toArray⟩, .string sv] 44)
    have HB5 := Lib.hid hb5
    clear hb4 hb5
    go_wp2_with fail
    refine (HCL.out _).mono ?_
    rintro e w6 ⟨rfl, hb6⟩
    have HB6 := Lib.hid (bnext HB5.out hb6)
    clear hb6
    go_wp2_with fail
    go_ret2
    exact ⟨rfl, HB6.out⟩
end Go.Proofs.YtpijnkfbgieabaaDoor.tri
