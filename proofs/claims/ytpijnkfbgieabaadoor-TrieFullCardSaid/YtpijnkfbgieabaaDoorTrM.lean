/- The developers' Put. Condition: sha's package variables (Tabs). -/
import Derived.Test.YtpijnkfbgieabaaDoorTrL
namespace Go.Proofs.YtpijnkfbgieabaaDoor.tri
open Go.RowKit
open Go.Proofs.YtpijnkfbgieabaaDoor.oct Go.Proofs.YtpijnkfbgieabaaDoor.ref Go.Proofs.YtpijnkfbgieabaaDoor.rows Go.Proofs.YtpijnkfbgieabaaDoor.rowg Go.Proofs.YtpijnkfbgieabaaDoor.trn Go.Proofs.YtpijnkfbgieabaaDoor.qut
open Go.Proofs.YtpijnkfbgieabaaDoor.sha (digest digest_len dval Tabs step_store_blk)
open Go.Lib (byteCells)

def putN (l : List Pr) (k v : T) : Nat := if refN k v ≠ 0 then refN k v else if getP l k = none ∧ l.length = 4096 then 8 else 0
def putL (l : List Pr) (k v : T) : List Pr := if putN l k v = 0 then ins l ⟨k, v⟩ else l
theorem ref_cases (k v : T) : refN k v = 0 ∧ okKey k = true ∧ Fit ⟨k, v⟩ ∨ refN k v = 1 ∨ refN k v = 2 := by
  unfold refN
  by_cases h : okKey k = true
  · rw [if_pos h]
    by_cases h2 : v.length ≤ 60000
    · rw [if_pos h2]
      refine Or.inl ⟨rfl, h, ?_, h2⟩
      unfold okKey at h
      simp at h
      exact h.2
    · rw [if_neg h2]; exact Or.inr (Or.inr rfl)
  · rw [if_neg h]; exact Or.inr (Or.inl rfl)
theorem del_len_lt {l : List Pr} {k : T} (h : getP l k ≠ none) : (del l k).length + 1 ≤ l.length := by
  cases e : getP l k with
  | none => exact absurd e h
  | some y =>
    have h1 := getP_some e
    unfold del
    have h2 : (l.filter fun x => !(x.n == k)).length < l.length := by
      rw [List.length_filter_lt_length_iff_exists]
      exact ⟨y, h1.1, by simp [h1.2]⟩
    omega
theorem Tri.of {w w' : World} {F : Nat → Prop} {g : Nat} {l l' : List Pr} {p' : Option Nat} (h : Tri w F g l) (hB : Blk w' g 90 [nptr p']) (hn : Nd w' (FN F w w') 64 0 p' l') (hs : Srt l') (hf : ∀ x ∈ l', Fit x) (ho : ∀ x ∈ l', okKey x.n = true) (hl : l'.length ≤ 4096) : Tri w' (FN F w w') g l' :=
  ⟨⟨p', hB, hn⟩, hs, hf, ho, hl, fun hk => by
    obtain ⟨p, h1, _⟩ := h.nd
    rcases hk with hk | hk
    · exact h.apart hk
    · have := h1.lt; omega⟩
theorem Tri.mono {w w' : World} {F : Nat → Prop} {g : Nat} {l : List Pr} (h : Tri w' F g l) (hg : g < w.heap.size) : Tri w' (FN F w w') g l := by
  obtain ⟨p, h1, h2⟩ := h.nd
  exact ⟨⟨p, h1, h2.mono fun k hk => Or.inl hk⟩, h.srt, h.fit, h.ok, h.len, fun hk => by
    rcases hk with hk | hk
    · exact h.apart hk
    · omega⟩
theorem Tri.lt {w : World} {F : Nat → Prop} {g : Nat} {l : List Pr} (h : Tri w F g l) : g < w.heap.size := by
  obtain ⟨p, h1, _⟩ := h.nd
  exact h1.lt
set_option maxRecDepth 100000 in
set_option maxHeartbeats 16000000 in
theorem put_c {w : World} {F : Nat → Prop} {g : Nat} {l : List Pr} (h : Tri w F g l) (ht : Tabs w) (k v : T) (hk : k.length ≤ 140737488355328) (hv : v.length ≤ 140737488355328) :
    Calls Tryd.prog 26 #[.pointer (some ⟨g, 0, none⟩), txt k, txt v] w fun e w' => e = .returned (.int .i64 (putN l k v : Nat)) ∧ Tri w' (FN F w w') g (putL l k v) ∧ Turn (fun i => i = g) w w' := by
  have HR := Lib.hid (refusal_c k v w hk hv)
  have HT := Lib.hid h
  have HTB := Lib.hid ht
  unfold txt at HR ⊢
  rcases ref_cases k v with ⟨r0, hok, hfit⟩ | hr12
  · rw [r0] at HR
    obtain ⟨p, hB, hnd⟩ := h.nd
    have HB := Lib.hid hB
    have HND := Lib.hid hnd
    have HFI := Lib.hid (find_c hnd ht h.srt (by have := h.len; omega) h.ok k hk)
    unfold txt at HFI
    obtain ⟨o, ho⟩ : ∃ o, getP l k = o := ⟨_, rfl⟩
    have HO := Lib.hid ho
    rw [ho] at HFI
    obtain ⟨x1, x2, hx⟩ : ∃ x1 x2 : ByteArray, gotC o = [.string x1, .string x2] := by cases o <;> exact ⟨_, _, rfl⟩
    obtain ⟨bo, hbo⟩ : ∃ bo, o.isSome = bo := ⟨_, rfl⟩
    rw [hx, hbo] at HFI
    have HBO := Lib.hid hbo
    obtain ⟨P, hP⟩ : ∃ P, nptr p = P := ⟨_, rfl⟩
    rw [hP] at HFI hB
    have c0 : w.cell? ⟨g, 0, none⟩ = some P := hB.cell 0
    have HPP := Lib.hid hP
    obtain ⟨N, hN⟩ : ∃ N, l.length = N := ⟨_, rfl⟩
    have HN := Lib.hid hN
    have HOK := Lib.hid hok
    have HFT := Lib.hid hfit
    have HR0 := Lib.hid r0
    have HKL := Lib.hid hk
    obtain ⟨R, hRe⟩ : ∃ R, putN l k v = R := ⟨_, rfl⟩
    obtain ⟨L, hLe⟩ : ∃ L, putL l k v = L := ⟨_, rfl⟩
    rw [hRe, hLe]
    have HRE := Lib.hid hRe
    have HLE := Lib.hid hLe
    have HP8 : Hid (R = if bo = false ∧ N = 4096 then 8 else 0) := by
      show R = _
      rw [← hRe, ← hbo, ← hN]
      unfold putN
      rw [if_neg (by rw [r0]; simp), ho]
      cases o <;> simp
    clear h ht hB hnd ho hx hbo hP hN hok hfit r0 hk hv hRe hLe
    go_enter Tryd.func26, Tryd.ntmps26
    go_wp2_with fail
    refine HR.out.mono ?_
    rintro e w3 ⟨rfl, rfl⟩
    go_wp2_with fail
    refine HFI.out.mono ?_
    rintro e w4 ⟨rfl, hb4⟩
    have hb5 := hb4.alloc hb4.size (.cells #[.string x1, .string x2] 44)
    have hc5 : (w4.alloc (.cells #[.string x1, .string x2] 44)).cell? ⟨g, 0, none⟩ = some P := (hb5.cell (p := ⟨g, 0, none⟩) HB.out.lt).trans c0
    have HC5 := Lib.hid hc5
    have HB5 := Lib.hid hb5
    clear hb4 hb5 hc5 c0 HR HFI
    go_upto_region 7 with fail
    obtain ⟨w5, hw5⟩ : ∃ w5, w4.alloc (.cells #[.string x1, .string x2] 44) = w5 := ⟨_, rfl⟩
    rw [hw5] at HC5 HB5 ⊢
    clear hw5
    have HCO := Lib.hid (count_c (HT.out.below HB5.out))
    rw [HN.out] at HCO
    go_cut [33] from 27 to 34 (fun s33 wx => s33 = .bool (!bo && decide (N = 4096)) ∧ wx = w5)
    case first =>
      cases bo with
      | true =>
        go_wp2_with fail
        go_meet
        exact ⟨rfl, rfl⟩
      | false =>
        by_cases h4 : N = 4096
        · have e0 : ((N : Int) == 4096) = true := by rw [beq_iff_eq]; omega
          have E1 : Hid (decide (N = 4096) = true) := decide_eq_true h4
          clear h4
          go_wp2_with fail
          refine HCO.out.mono ?_
          rintro e w6 ⟨rfl, rfl⟩
          go_wp2_with fail
          go_meet
          exact ⟨by rw [E1.out]; rfl, rfl⟩
        · have e0 : ((N : Int) == 4096) = false := by rw [beq_eq_false_iff_ne]; omega
          have E1 : Hid (decide (N = 4096) = false) := decide_eq_false h4
          clear h4
          go_wp2_with fail
          refine HCO.out.mono ?_
          rintro e w6 ⟨rfl, rfl⟩
          go_wp2_with fail
          go_meet
          exact ⟨by rw [E1.out]; rfl, rfl⟩
    case rest =>
      obtain ⟨rfl, rfl⟩ := hcut
      clear HCO
      obtain ⟨c, hc⟩ : ∃ c, (!bo && decide (N = 4096)) = c := ⟨_, rfl⟩
      rw [hc]
      cases c with
      | true =>
        have hcs : bo = false ∧ N = 4096 := by simpa using hc
        have hR8 : R = 8 := by rw [HP8.out, if_pos hcs]
        subst hR8
        have hLl : L = l := by rw [← HLE.out]; unfold putL; rw [HRE.out, if_neg (by decide)]
        subst hLl
        clear hcs hc
        go_wp2_with fail
        go_ret
        exact ⟨rfl, (HT.out.below HB5.out).mono HT.out.lt, Turn.of_below HB5.out⟩
      | false =>
        have hcs : ¬ (bo = false ∧ N = 4096) := by
          intro ⟨h1, h2⟩
          rw [h1, h2] at hc
          simp at hc
        have hR0 : R = 0 := by rw [HP8.out, if_neg hcs]
        subst hR0
        have hLl : L = ins l ⟨k, v⟩ := by rw [← HLE.out]; unfold putL; rw [if_pos HRE.out]
        have HLL := Lib.hid hLl
        have hlen : (ins l ⟨k, v⟩).length ≤ 4096 := by
          rw [ins_len HT.out.srt]
          cases bo with
          | true =>
            have h1 : getP l k ≠ none := fun e => by
              have h2 := HBO.out
              rw [← HO.out, e] at h2
              cases h2
            have := del_len_lt h1
            have := HT.out.len
            show (del l k).length + 1 ≤ 4096
            omega
          | false =>
            have h4 : N ≠ 4096 := fun e => hcs ⟨rfl, e⟩
            have := HN.out
            have := HT.out.len
            have := del_len_le l k
            show (del l k).length + 1 ≤ 4096
            omega
        have HLN := Lib.hid hlen
        have hpa : ∀ y : After wc, Calls Tryd.prog 50 #[.string ⟨k.toArray⟩] y.v fun e w' => e = .returned (dval (digest k)) ∧ Below y.v.heap.size y.v w' := fun y => pathOf_c k y.v ((HTB.out.below HB5.out).below y.below) (by have := HFT.out.1; have h64 : k.length ≤ 64 := this; omega)
        have hcl : ∀ y : After wc, Calls Tryd.prog 56 #[.agg #[.string ⟨k.toArray⟩, .string ⟨v.toArray⟩]] y.v fun e w' => e = .returned (.agg #[.string ⟨k.toArray⟩, .string ⟨v.toArray⟩]) ∧ Below y.v.heap.size y.v w' := fun y => cloned_c ⟨k, v⟩ y.v HFT.out
        have hwi : ∀ y : After wc, WithC ⟨k, v⟩ y.v F 64 0 p l := fun y => with_c ⟨k, v⟩ HFT.out 64 y.v F 0 p l ⟨(HND.out.below HB5.out).below y.below, rfl, (HTB.out.below HB5.out).below y.below, HT.out.srt, HT.out.fit, Und.zero _ _, HT.out.len⟩
        unfold WithC at hwi
        unfold dval at hpa hwi
        change ∀ y : After wc, Calls Tryd.prog 55 #[nptr p, .agg (byteCells (digest k)).toArray, .agg #[.string ⟨k.toArray⟩, .string ⟨v.toArray⟩], .int .i64 0] y.v _ at hwi
        rw [HPP.out] at hwi
        obtain ⟨D, hD⟩ : ∃ D, byteCells (digest k) = D := ⟨_, rfl⟩
        rw [hD] at hpa hwi
        have HWI := Lib.hid hwi
        have HPA := Lib.hid hpa
        have HCL := Lib.hid hcl
        have d0 : ∀ y : After wc, y.v.cell? ⟨g, 0, none⟩ = some P := fun y => (y.below.cell (p := ⟨g, 0, none⟩) (Nat.lt_of_lt_of_le HB.out.lt HB5.out.size)).trans HC5.out
        have HD0 := Lib.hid d0
        have hbd : Below wc.heap.size wc wc.drew := (Below.refl _ _).drew
        have HFIN : Hid (∀ (w8 : World) (p' q : Option _), nptr p' = .pointer q → Below w.heap.size w w8 → Nd w8 (FN F w w8) 64 0 p' (ins l ⟨k, v⟩) → Tri (w8.setCell ⟨g, 0, none⟩ (.pointer q)) (FN F w (w8.setCell ⟨g, 0, none⟩ (.pointer q))) g L ∧ Turn (fun i => i = g) w (w8.setCell ⟨g, 0, none⟩ (.pointer q))) := by
          intro w8 p' q hq hb hn
          have hts : Turn (fun i => i = g) w8 (w8.setCell ⟨g, 0, none⟩ (.pointer q)) := Turn.set (S := fun i => i = g) _ _ _ _ rfl
          have hB8 := (HB.out.below hb).set 0 (.pointer q)
          rw [← hq] at hB8 hts ⊢
          have hsz : (w8.setCell ⟨g, 0, none⟩ (nptr p')).heap.size = w8.heap.size := by simp
          have hn2 : Nd (w8.setCell ⟨g, 0, none⟩ (nptr p')) (FN F w (w8.setCell ⟨g, 0, none⟩ (nptr p'))) 64 0 p' (ins l ⟨k, v⟩) := hn.turn hts (fun i hi e => by
            subst e
            rcases hi with hi | hi
            · exact HT.out.apart hi
            · have := HB.out.lt; omega) (fun i hi => hi.imp id fun h => ⟨h.1, by rw [hsz]; exact h.2⟩)
          rw [HLL.out]
          refine ⟨HT.out.of hB8 hn2 (ins_srt HT.out.srt _) (fun x hx => ?_) (fun x hx => ?_) HLN.out, (Turn.of_below hb).next hts⟩
          · rcases ins_mem.1 hx with hx | rfl | hx
            · exact HT.out.fit x hx.1
            · exact HFT.out
            · exact HT.out.fit x hx.1
          · rcases ins_mem.1 hx with hx | rfl | hx
            · exact HT.out.ok x hx.1
            · exact HOK.out
            · exact HT.out.ok x hx.1
        clear hpa hcl hwi hD hcs hc hLl hlen d0
        go_upto_region 9 with fail
        refine wp_region_noPanic ?_
        refine wp_region_held_drew (S := fun _ => True) (by kernel_rfl) trivial (fun hHeld => ?_)
        refine wpAnyH_take (i := 0) (oi := ⟨some 34, _, _, _, _, _⟩) (v := ?_) rfl (by kernel_rfl) (by kernel_rfl) (by kernel_rfl) (fun _ _ _ h => h) (Or.inl ⟨by rfl, ?_⟩) (by assumption) ?_
        rotate_left
        · intro w hSw; (first | (go_simp; done) | (go_simp; with_reducible rfl))
        simp only [Act.put, List.setIfInBounds_toArray, List.set_cons_zero, List.set_cons_succ]
        refine wpAnyH_take (i := 1) (oi := ⟨some 35, _, _, _, _, _⟩) (v := ?_) rfl (by kernel_rfl) (by kernel_rfl) (by kernel_rfl) (fun _ _ _ h => h) (Or.inl ⟨by rfl, ?_⟩) (by assumption) ?_
        rotate_left
        · intro w hSw; (first | (go_simp; done) | (go_simp; with_reducible rfl))
        simp only [Act.put, List.setIfInBounds_toArray, List.set_cons_zero, List.set_cons_succ]
        refine wpAnyH_take (i := 2) (oi := ⟨some 36, _, _, _, _, _⟩) (v := ?_) rfl (by kernel_rfl) (by kernel_rfl) (by kernel_rfl) (fun _ _ _ h => h) (Or.inl ⟨by rfl, ?_⟩) (by assumption) ?_
        rotate_left
        · intro w hSw; (first | (go_simp; done) | (go_simp; with_reducible rfl))
        simp only [Act.put, List.setIfInBounds_toArray, List.set_cons_zero, List.set_cons_succ]
        refine wpAnyH_take (i := 3) (oi := ⟨some 37, _, _, _, _, _⟩) (v := ?_) rfl (by kernel_rfl) (by kernel_rfl) (by kernel_rfl) (fun _ _ _ h => h) (Or.inl ⟨by rfl, ?_⟩) (by assumption) ?_
        rotate_left
        · intro w hSw; (first | (go_simp; done) | (go_simp; with_reducible rfl))
        simp only [Act.put, List.setIfInBounds_toArray, List.set_cons_zero, List.set_cons_succ]
        refine wpAnyH_take (i := 5) (oi := ⟨some 39, _, _, _, _, _⟩) (v := ?_) rfl (by kernel_rfl) (by kernel_rfl) (by kernel_rfl) (fun _ _ _ h => h) (Or.inl ⟨by rfl, ?_⟩) (by assumption) ?_
        rotate_left
        · intro w hSw; (first | (go_simp; done) | (go_simp; with_reducible rfl))
        simp only [Act.put, List.setIfInBounds_toArray, List.set_cons_zero, List.set_cons_succ]
        refine wpAnyH_take (i := 7) (oi := ⟨some 41, _, _, _, _, _⟩) (v := ?_) rfl (by kernel_rfl) (by kernel_rfl) (by kernel_rfl) (fun _ _ _ h => h) (Or.inl ⟨by rfl, ?_⟩) (by assumption) ?_
        rotate_left
        · intro w hSw; (first | (go_simp; done) | (go_simp; with_reducible rfl))
        simp only [Act.put, List.setIfInBounds_toArray, List.set_cons_zero, List.set_cons_succ]
        refine wpAnyH_take (i := 8) (oi := ⟨some 42, _, _, _, _, _⟩) (v := ?_) rfl (by kernel_rfl) (by kernel_rfl) (by kernel_rfl) (fun _ _ _ h => h) (Or.inl ⟨by rfl, ?_⟩) (by assumption) ?_
        rotate_left
        · intro w hSw; (first | (go_simp; done) | (go_simp; with_reducible rfl))
        simp only [Act.put, List.setIfInBounds_toArray, List.set_cons_zero, List.set_cons_succ]
        refine wpAnyH_take (i := 9) (oi := ⟨some 43, _, _, _, _, _⟩) (v := ?_) rfl (by kernel_rfl) (by kernel_rfl) (by kernel_rfl) (fun _ _ _ h => h) (Or.inl ⟨by rfl, ?_⟩) (by assumption) ?_
        rotate_left
        · intro w hSw; (first | (go_simp; done) | (go_simp; with_reducible rfl))
        simp only [Act.put, List.setIfInBounds_toArray, List.set_cons_zero, List.set_cons_succ]
        obtain ⟨wx0, hwx⟩ : ∃ y0, y0 = wc.drew := ⟨_, rfl⟩
        rw [← hwx] at hbd ⊢
        clear hwx
        refine wpAnyH_ready (rs := [4, 6]) (by kernel_rfl) (by simp) ?_
        refine AllReadyH.cons rfl (fun K hK => ?_) (AllReadyH.cons rfl (fun K hK => ?_) AllReadyH.nil)
        · skip
          have c4 : wx0.cell? ⟨g, 0, none⟩ = some P := HD0.out ⟨wx0, hbd⟩
          go_simp
          go_wp2_with fail
          refine hK.out _ _ trivial (fun hHeld => ?_)
          clear hK K c4
          refine wpAnyH_ready (rs := [6]) (by kernel_rfl) (by simp) ?_
          refine AllReadyH.cons rfl (fun K hK => ?_) AllReadyH.nil
          go_simp
          go_wp2_with (go_at_call 50; refine (HPA.out ⟨wx0, hbd⟩).mono ?_; rintro e wx1 ⟨rfl, hbk⟩)
          refine hK.out _ _ trivial (fun hHeld => ?_)
          have hbd2 := bnext hbd hbk
          clear hK K hbk hbd
          have hbd := hbd2; clear hbd2
          refine wpAnyH_ready (rs := [10]) (by kernel_rfl) (by simp) ?_
          refine AllReadyH.cons rfl (fun K hK => ?_) AllReadyH.nil
          go_simp
          go_wp2_with (go_at_call 56; refine (HCL.out ⟨wx1, hbd⟩).mono ?_; rintro e wx2 ⟨rfl, hbk⟩)
          refine hK.out _ _ trivial (fun hHeld => ?_)
          have hbd2 := bnext hbd hbk
          clear hK K hbk hbd
          have hbd := hbd2; clear hbd2
          refine wpAnyH_ready (rs := [11]) (by kernel_rfl) (by simp) ?_
          refine AllReadyH.cons rfl (fun K hK => ?_) AllReadyH.nil
          go_simp
          go_wp2_with (go_at_call 55; refine (HWI.out ⟨wx2, hbd⟩).mono ?_; rintro e w8 ⟨p', rfl, hn8, hbk⟩)
          refine hK.out _ _ trivial (fun hHeld => ?_)
          have hb8 : Below w.heap.size w w8 := bnext HB5.out (bnext hbd hbk)
          have hs8 : w.heap.size ≤ wx2.heap.size := Nat.le_trans HB5.out.size hbd.size
          have hn9 : Nd w8 (FN F w w8) 64 0 p' (ins l ⟨k, v⟩) := hn8.mono fun i hi => hi.imp id fun h => ⟨Nat.le_trans hs8 h.1, h.2⟩
          obtain ⟨q, hq⟩ : ∃ q, nptr p' = .pointer q := by cases p' <;> exact ⟨_, rfl⟩
          have HF8 := Lib.hid (HFIN.out w8 p' q hq hb8 hn9)
          have c8 : w8.cell? ⟨g, 0, none⟩ = some P := HD0.out ⟨w8, bnext hbd hbk⟩
          have f8 := (HB.out.below hb8).frozen 0
          rw [hq]
          clear hK K hn8 hbk hbd hb8 hs8 hn9 hq HFIN
          refine wpAnyH_take (i := 12) (oi := ⟨some 46, _, _, _, _, _⟩) (v := ?_) rfl (by kernel_rfl) (by kernel_rfl) (by kernel_rfl) (fun _ _ _ h => h) (Or.inl ⟨by rfl, ?_⟩) (by assumption) ?_
          rotate_left
          · intro w hSw; (first | (go_simp; done) | (go_simp; with_reducible rfl))
          simp only [Act.put, List.setIfInBounds_toArray, List.set_cons_zero, List.set_cons_succ]
          refine wpAnyH_take (i := 13) (oi := ⟨some 47, _, _, _, _, _⟩) (v := ?_) rfl (by kernel_rfl) (by kernel_rfl) (by kernel_rfl) (fun _ _ _ h => h) (Or.inl ⟨by rfl, ?_⟩) (by assumption) ?_
          rotate_left
          · intro w hSw; (first | (go_simp; done) | (go_simp; with_reducible rfl))
          simp only [Act.put, List.setIfInBounds_toArray, List.set_cons_zero, List.set_cons_succ]
          refine wpAnyH_ready (rs := [14]) (by kernel_rfl) (by simp) ?_
          refine AllReadyH.cons rfl (fun K hK => ?_) AllReadyH.nil
          go_simp
          go_wp2_with fail
          refine hK.out _ _ trivial (fun hHeld => ?_)
          refine wpAnyH_done (by kernel_rfl) ?_ _
          refine NoPanic.normal ?_
          go_wp2_with fail
          go_ret
          exact ⟨rfl, HF8.out.1, HF8.out.2⟩
        · skip
          go_simp
          go_wp2_with (go_at_call 50; refine (HPA.out ⟨wx0, hbd⟩).mono ?_; rintro e wx1 ⟨rfl, hbk⟩)
          refine hK.out _ _ trivial (fun hHeld => ?_)
          have hbd2 := bnext hbd hbk
          clear hK K hbk hbd
          have hbd := hbd2; clear hbd2
          refine wpAnyH_ready (rs := [4, 10]) (by kernel_rfl) (by simp) ?_
          refine AllReadyH.cons rfl (fun K hK => ?_) (AllReadyH.cons rfl (fun K hK => ?_) AllReadyH.nil)
          · skip
            have c4 : wx1.cell? ⟨g, 0, none⟩ = some P := HD0.out ⟨wx1, hbd⟩
            go_simp
            go_wp2_with fail
            refine hK.out _ _ trivial (fun hHeld => ?_)
            clear hK K c4
            refine wpAnyH_ready (rs := [10]) (by kernel_rfl) (by simp) ?_
            refine AllReadyH.cons rfl (fun K hK => ?_) AllReadyH.nil
            go_simp
            go_wp2_with (go_at_call 56; refine (HCL.out ⟨wx1, hbd⟩).mono ?_; rintro e wx2 ⟨rfl, hbk⟩)
            refine hK.out _ _ trivial (fun hHeld => ?_)
            have hbd2 := bnext hbd hbk
            clear hK K hbk hbd
            have hbd := hbd2; clear hbd2
            refine wpAnyH_ready (rs := [11]) (by kernel_rfl) (by simp) ?_
            refine AllReadyH.cons rfl (fun K hK => ?_) AllReadyH.nil
            go_simp
            go_wp2_with (go_at_call 55; refine (HWI.out ⟨wx2, hbd⟩).mono ?_; rintro e w8 ⟨p', rfl, hn8, hbk⟩)
            refine hK.out _ _ trivial (fun hHeld => ?_)
            have hb8 : Below w.heap.size w w8 := bnext HB5.out (bnext hbd hbk)
            have hs8 : w.heap.size ≤ wx2.heap.size := Nat.le_trans HB5.out.size hbd.size
            have hn9 : Nd w8 (FN F w w8) 64 0 p' (ins l ⟨k, v⟩) := hn8.mono fun i hi => hi.imp id fun h => ⟨Nat.le_trans hs8 h.1, h.2⟩
            obtain ⟨q, hq⟩ : ∃ q, nptr p' = .pointer q := by cases p' <;> exact ⟨_, rfl⟩
            have HF8 := Lib.hid (HFIN.out w8 p' q hq hb8 hn9)
            have c8 : w8.cell? ⟨g, 0, none⟩ = some P := HD0.out ⟨w8, bnext hbd hbk⟩
            have f8 := (HB.out.below hb8).frozen 0
            rw [hq]
            clear hK K hn8 hbk hbd hb8 hs8 hn9 hq HFIN
            refine wpAnyH_take (i := 12) (oi := ⟨some 46, _, _, _, _, _⟩) (v := ?_) rfl (by kernel_rfl) (by kernel_rfl) (by kernel_rfl) (fun _ _ _ h => h) (Or.inl ⟨by rfl, ?_⟩) (by assumption) ?_
            rotate_left
            · intro w hSw; (first | (go_simp; done) | (go_simp; with_reducible rfl))
            simp only [Act.put, List.setIfInBounds_toArray, List.set_cons_zero, List.set_cons_succ]
            refine wpAnyH_take (i := 13) (oi := ⟨some 47, _, _, _, _, _⟩) (v := ?_) rfl (by kernel_rfl) (by kernel_rfl) (by kernel_rfl) (fun _ _ _ h => h) (Or.inl ⟨by rfl, ?_⟩) (by assumption) ?_
            rotate_left
            · intro w hSw; (first | (go_simp; done) | (go_simp; with_reducible rfl))
            simp only [Act.put, List.setIfInBounds_toArray, List.set_cons_zero, List.set_cons_succ]
            refine wpAnyH_ready (rs := [14]) (by kernel_rfl) (by simp) ?_
            refine AllReadyH.cons rfl (fun K hK => ?_) AllReadyH.nil
            go_simp
            go_wp2_with fail
            refine hK.out _ _ trivial (fun hHeld => ?_)
            refine wpAnyH_done (by kernel_rfl) ?_ _
            refine NoPanic.normal ?_
            go_wp2_with fail
            go_ret
            exact ⟨rfl, HF8.out.1, HF8.out.2⟩
          · skip
            go_simp
            go_wp2_with (go_at_call 56; refine (HCL.out ⟨wx1, hbd⟩).mono ?_; rintro e wx2 ⟨rfl, hbk⟩)
            refine hK.out _ _ trivial (fun hHeld => ?_)
            have hbd2 := bnext hbd hbk
            clear hK K hbk hbd
            have hbd := hbd2; clear hbd2
            refine wpAnyH_ready (rs := [4]) (by kernel_rfl) (by simp) ?_
            refine AllReadyH.cons rfl (fun K hK => ?_) AllReadyH.nil
            have c4 : wx2.cell? ⟨g, 0, none⟩ = some P := HD0.out ⟨wx2, hbd⟩
            go_simp
            go_wp2_with fail
            refine hK.out _ _ trivial (fun hHeld => ?_)
            clear hK K c4
            refine wpAnyH_ready (rs := [11]) (by kernel_rfl) (by simp) ?_
            refine AllReadyH.cons rfl (fun K hK => ?_) AllReadyH.nil
            go_simp
            go_wp2_with (go_at_call 55; refine (HWI.out ⟨wx2, hbd⟩).mono ?_; rintro e w8 ⟨p', rfl, hn8, hbk⟩)
            refine hK.out _ _ trivial (fun hHeld => ?_)
            have hb8 : Below w.heap.size w w8 := bnext HB5.out (bnext hbd hbk)
            have hs8 : w.heap.size ≤ wx2.heap.size := Nat.le_trans HB5.out.size hbd.size
            have hn9 : Nd w8 (FN F w w8) 64 0 p' (ins l ⟨k, v⟩) := hn8.mono fun i hi => hi.imp id fun h => ⟨Nat.le_trans hs8 h.1, h.2⟩
            obtain ⟨q, hq⟩ : ∃ q, nptr p' = .pointer q := by cases p' <;> exact ⟨_, rfl⟩
            have HF8 := Lib.hid (HFIN.out w8 p' q hq hb8 hn9)
            have c8 : w8.cell? ⟨g, 0, none⟩ = some P := HD0.out ⟨w8, bnext hbd hbk⟩
            have f8 := (HB.out.below hb8).frozen 0
            rw [hq]
            clear hK K hn8 hbk hbd hb8 hs8 hn9 hq HFIN
            refine wpAnyH_take (i := 12) (oi := ⟨some 46, _, _, _, _, _⟩) (v := ?_) rfl (by kernel_rfl) (by kernel_rfl) (by kernel_rfl) (fun _ _ _ h => h) (Or.inl ⟨by rfl, ?_⟩) (by assumption) ?_
            rotate_left
            · intro w hSw; (first | (go_simp; done) | (go_simp; with_reducible rfl))
            simp only [Act.put, List.setIfInBounds_toArray, List.set_cons_zero, List.set_cons_succ]
            refine wpAnyH_take (i := 13) (oi := ⟨some 47, _, _, _, _, _⟩) (v := ?_) rfl (by kernel_rfl) (by kernel_rfl) (by kernel_rfl) (fun _ _ _ h => h) (Or.inl ⟨by rfl, ?_⟩) (by assumption) ?_
            rotate_left
            · intro w hSw; (first | (go_simp; done) | (go_simp; with_reducible rfl))
            simp only [Act.put, List.setIfInBounds_toArray, List.set_cons_zero, List.set_cons_succ]
            refine wpAnyH_ready (rs := [14]) (by kernel_rfl) (by simp) ?_
            refine AllReadyH.cons rfl (fun K hK => ?_) AllReadyH.nil
            go_simp
            go_wp2_with fail
            refine hK.out _ _ trivial (fun hHeld => ?_)
            refine wpAnyH_done (by kernel_rfl) ?_ _
            refine NoPanic.normal ?_
            go_wp2_with fail
            go_ret
            exact ⟨rfl, HF8.out.1, HF8.out.2⟩
  · obtain ⟨r, hr⟩ : ∃ r, refN k v = r := ⟨_, rfl⟩
    have hL : putN l k v = r := by
      unfold putN
      rw [hr, if_pos]
      rcases hr12 with h | h <;> rw [hr] at h <;> rw [h] <;> decide
    have hLl : putL l k v = l := by
      unfold putL
      rw [hL, if_neg]
      rcases hr12 with h | h <;> rw [hr] at h <;> rw [h] <;> decide
    rw [hr] at HR hr12
    rw [hL, hLl]
    have hr0 : ((r : Int) == 0) = false := by rw [beq_eq_false_iff_ne]; omega
    clear hr hL hLl hr12 ht h
    go_enter Tryd.func26, Tryd.ntmps26
    go_wp2_with fail
    refine HR.out.mono ?_
    rintro e w3 ⟨rfl, rfl⟩
    go_wp2_with fail
    go_ret
    exact ⟨rfl, HT.out.mono HT.out.lt, Turn.refl _ _⟩
end Go.Proofs.YtpijnkfbgieabaaDoor.tri
