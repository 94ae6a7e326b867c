/- The developers' find. Condition: sha's package variables (Tabs). -/
import Derived.Test.YtpijnkfbgieabaaDoorTrI
namespace Go.Proofs.YtpijnkfbgieabaaDoor.tri
open Go.RowKit
open Go.Proofs.YtpijnkfbgieabaaDoor.oct Go.Proofs.YtpijnkfbgieabaaDoor.ref Go.Proofs.YtpijnkfbgieabaaDoor.rows Go.Proofs.YtpijnkfbgieabaaDoor.rowg Go.Proofs.YtpijnkfbgieabaaDoor.trn Go.Proofs.YtpijnkfbgieabaaDoor.qut
open Go.Proofs.YtpijnkfbgieabaaDoor.sha (digest digest_len dval Tabs)
open Go.Lib (byteCells)

theorem load_one {P : Program} {w : World} {b : Nat} {t t' : TypeId} {x : Value} (h : Blk w b t' [x]) (ha : (isAgg t).run P w = .ok false w) : (loadVar t ⟨b, 0, none⟩).run P w = .ok x w := by
  have hc := h.cell 0
  simp only [List.getElem?_cons_zero] at hc
  simp [loadVar, ha, go_sem, hc]
theorem results_rowcell {P : Program} {fn : Func} {p q : Tmp} {ty tz : TypeId} (h : fn.results = #[.cell p ty, .cell q tz]) (tmps : Array Value) (w : World) (g g2 : Nat) (t t2 : TypeId) (X : List Value) (y : Value) {d : TypeDesc}
    (hp : tmps.getD p undef = .pointer (some ⟨g, 0, none⟩)) (hq : tmps.getD q undef = .pointer (some ⟨g2, 0, none⟩)) (hB : Blk w g t X) (hB2 : Blk w g2 t2 [y])
    (hu : P.underlying ty = some d) (hd : (match d with | .struct _ | .array _ _ => true | _ => false) = true) (hi : (P.info? ty).map (·.size) = some X.length) (a2 : ∀ w, (isAgg tz).run P w = .ok false w) :
    (results fn tmps).run P w = .ok (.tuple #[.agg X.toArray, y]) w := by
  have hp' : tmps[p]?.getD undef = .pointer (some ⟨g, 0, none⟩) := by simpa using hp
  have hq' : tmps[q]?.getD undef = .pointer (some ⟨g2, 0, none⟩) := by simpa using hq
  have hl := run_loadVar_row (P := P) w g t ty X.toArray (0, 0) d hB hu hd (by simpa using hi)
  have hl2 := load_one hB2 (a2 w)
  simp [results, h, hp', hq', asAddr, hl, hl2]
theorem set_two {w : World} {g t : Nat} {a b a2 b2 : Value} (h : Blk w g t [a, b]) : Blk ((w.setCell ⟨g, 0, none⟩ a2).setCell ⟨g, 1, none⟩ b2) g t [a2, b2] := (h.set 0 _).set 1 _
/-- where find stands -/
structure FS (wL : World) (F : Nat → Prop) (gk j : Nat) (p : Option Nat) (lj l : List Pr) (key : T) (wy : World) : Prop where
  nd : Nd wL F gk j p lj
  srt : Srt lj
  got : getP lj key = getP l key
  len : lj.length ≤ 8192
  bel : Below wL.heap.size wL wy
set_option maxRecDepth 100000 in
set_option maxHeartbeats 16000000 in
theorem find_c {w : World} {F : Nat → Prop} {p : Option Nat} {l : List Pr} (h : Nd w F 64 0 p l) (ht : Tabs w) (hs : Srt l) (hn : l.length ≤ 8192) (hok : ∀ x ∈ l, okKey x.n = true) (key : T) (hk : key.length ≤ 140737488355328) :
    Calls Tryd.prog 54 #[nptr p, txt key] w fun e w' => e = .returned (.tuple #[.agg (gotC (getP l key)).toArray, .bool (getP l key).isSome]) ∧ Below w.heap.size w w' := by
  have hb1 := (Below.refl w.heap.size w).alloc (Nat.le_refl _) (.cells #[.string ⟨key.toArray⟩] 9)
  have hB1 := blk_new w #[.string ⟨key.toArray⟩] 9 [.string ⟨key.toArray⟩] rfl
  have hs1 : (w.alloc (.cells #[.string ⟨key.toArray⟩] 9)).heap.size = w.heap.size + 1 := by simp
  obtain ⟨w1, hw1⟩ : ∃ w1, w.alloc (.cells #[.string ⟨key.toArray⟩] 9) = w1 := ⟨_, rfl⟩
  rw [hw1] at hb1 hB1 hs1
  have hb2 := hb1.alloc hb1.size (.cells #[.string ⟨#[]⟩, .string ⟨#[]⟩] 44)
  have hB2 := blk_new w1 #[.string ⟨#[]⟩, .string ⟨#[]⟩] 44 [.string ⟨#[]⟩, .string ⟨#[]⟩] rfl
  have hB1' := blk_old hB1 (.cells #[.string ⟨#[]⟩, .string ⟨#[]⟩] 44)
  have hs2 : (w1.alloc (.cells #[.string ⟨#[]⟩, .string ⟨#[]⟩] 44)).heap.size = w1.heap.size + 1 := by simp
  obtain ⟨w2, hw2⟩ : ∃ w2, w1.alloc (.cells #[.string ⟨#[]⟩, .string ⟨#[]⟩] 44) = w2 := ⟨_, rfl⟩
  rw [hw2] at hb2 hB2 hB1' hs2
  have hb3 := hb2.alloc hb2.size (.cells #[.bool false] 4)
  have hB3 := blk_new w2 #[.bool false] 4 [.bool false] rfl
  have hB2' := blk_old hB2 (.cells #[.bool false] 4)
  have hB1'' := blk_old hB1' (.cells #[.bool false] 4)
  obtain ⟨w3, hw3⟩ : ∃ w3, w2.alloc (.cells #[.bool false] 4) = w3 := ⟨_, rfl⟩
  rw [hw3] at hb3 hB3 hB2' hB1''
  rw [hs1] at hB2' hs2
  rw [hs2] at hB3
  have cK : w3.cell? ⟨w.heap.size, 0, none⟩ = some (.string ⟨key.toArray⟩) := hB1''.cell 0
  have HIK := Lib.hid (isKey_c key w3 hk)
  have HB3 := Lib.hid hb3
  have HK1 := Lib.hid hB1''
  have HK2 := Lib.hid hB2'
  have HK3 := Lib.hid hB3
  have HN := Lib.hid h
  have HT := Lib.hid ht
  have HS := Lib.hid hs
  have HLE := Lib.hid hn
  have HOK := Lib.hid hok
  have HKL := Lib.hid hk
  obtain ⟨b, hb⟩ : ∃ b, okKey key = b := ⟨_, rfl⟩
  have HBK := Lib.hid hb
  rw [hb] at HIK
  obtain ⟨P, hP⟩ : ∃ P, nptr p = P := ⟨_, rfl⟩
  have HPP := Lib.hid hP
  rw [hP]
  unfold txt at HIK ⊢
  clear h ht hs hn hok hk hb hP hb1 hB1 hb2 hB2 hB1' hb3 hB3 hB2' hB1''
  cases b with
  | false =>
    have HG : Hid (getP l key = none) := getP_none.2 fun y hy e => by
      have h1 := HOK.out y hy
      rw [e, HBK.out] at h1
      cases h1
    have a0 : w3.cell? ⟨w.heap.size + 1, 0, none⟩ = some (.string ⟨#[]⟩) := HK2.out.cell 0
    have a1 : w3.cell? ⟨w.heap.size + 1, 1, none⟩ = some (.string ⟨#[]⟩) := HK2.out.cell 1
    have a2 : w3.cell? ⟨w.heap.size + 1 + 1, 0, none⟩ = some (.bool false) := HK3.out.cell 0
    have f0 := HK2.out.frozen 0
    have f1 := HK2.out.frozen 1
    have f2 := HK3.out.frozen 0
    rw [HG.out]
    go_enter Tryd.func54, Tryd.ntmps54
    go_wp2_with fail
    refine HIK.out.mono ?_
    rintro e w4 ⟨rfl, rfl⟩
    go_wp2_with fail
    have q1 := (set_two (a2 := .string ⟨#[]⟩) (b2 := .string ⟨#[]⟩) HK2.out).set_other (b := w.heap.size + 1 + 1) (by omega) 0 (.bool false)
    have q2 := ((HK3.out.set_other (b := w.heap.size + 1) (by omega) 0 (.string ⟨#[]⟩)).set_other (b := w.heap.size + 1) (by omega) 1 (.string ⟨#[]⟩)).set 0 (.bool false)
    have q3 := ((HB3.out.setCell (p := ⟨w.heap.size + 1, 0, none⟩) (Nat.le_succ _) (.string ⟨#[]⟩)).setCell (p := ⟨w.heap.size + 1, 1, none⟩) (Nat.le_succ _) (.string ⟨#[]⟩)).setCell (p := ⟨w.heap.size + 1 + 1, 0, none⟩) (by show _ ≤ w.heap.size + 1 + 1; omega) (.bool false)
    exact bodyPost_ret (v := .tuple #[.agg #[.string ⟨#[]⟩, .string ⟨#[]⟩], .bool false]) (results_rowcell Tryd.results54 _ _ (w.heap.size + 1) (w.heap.size + 1 + 1) 44 4 [.string ⟨#[]⟩, .string ⟨#[]⟩] (.bool false) rfl rfl q1 q2 Tryd.underlying44 rfl infoPz Tryd.isAgg4) rfl ⟨rfl, q3⟩
  | true =>
    obtain ⟨o, ho⟩ : ∃ o, getP l key = o := ⟨_, rfl⟩
    have HOO := Lib.hid ho
    rw [ho]
    obtain ⟨x1, x2, hx⟩ : ∃ x1 x2 : ByteArray, gotC o = [.string x1, .string x2] := by cases o <;> exact ⟨_, _, rfl⟩
    obtain ⟨bo, hbo⟩ : ∃ bo, o.isSome = bo := ⟨_, rfl⟩
    rw [hx, hbo]
    have HXO := Lib.hid (And.intro hx hbo)
    clear ho hx hbo
    have hz := zeroW
    have hzl : (byteCells zeros).length = 32 := by rfl
    obtain ⟨Z, hZ⟩ : ∃ Z, byteCells zeros = Z := ⟨_, rfl⟩
    rw [hZ] at hz hzl
    have hdl : (byteCells (digest key)).length = 32 := by rw [byteCells_len, digest_len]
    have ho := bytes_one (digest key)
    have HPO := Lib.hid (pathOf_c key w3 (HT.out.below HB3.out) (by have := okKey_len HBK.out; omega))
    unfold txt dval at HPO
    obtain ⟨D, hD⟩ : ∃ D, byteCells (digest key) = D := ⟨_, rfl⟩
    rw [hD] at hdl ho HPO
    have HDD := Lib.hid hD
    have HON := Lib.hid ho
    have hDi : Hid ((Tryd.prog.info? 103).map (·.size) = some D.length) := by show _ = _; rw [hdl]; exact infoPath
    have HZD : Hid (Z.length = D.length) := by show _ = _; rw [hzl, hdl]
    clear hZ hzl hdl ho hD
    go_enter Tryd.func54, Tryd.ntmps54
    go_wp2_with fail
    refine HIK.out.mono ?_
    rintro e w4 ⟨rfl, rfl⟩
    clear hw1 hw2 hw3 hs1 hs2
    go_wp2_with fail
    refine HPO.out.mono ?_
    rintro e w5 ⟨rfl, hb5⟩
    have hB6 := blk_new w5 Z.toArray 103 Z rfl
    have hb6 := hb5.alloc hb5.size (.cells Z.toArray 103)
    have HB6 := Lib.hid hB6
    have HB5 := Lib.hid hb5
    clear hB6 hb5 hb6
    go_wp2_with (with_reducible refine wpList_store_blk rfl 103 (.tmp 6) (.tmp 13) rfl w5.heap.size D Z 103 HB6.out rfl rfl hDi.out HZD.out HON.out ?_; intro w7 hR hW)
    have hl1 : w.heap.size < w5.heap.size := Nat.lt_of_lt_of_le HK1.out.lt HB5.out.size
    have hl2 : w.heap.size + 1 < w5.heap.size := Nat.lt_of_lt_of_le HK2.out.lt HB5.out.size
    have hl3 : w.heap.size + 1 + 1 < w5.heap.size := Nat.lt_of_lt_of_le HK3.out.lt HB5.out.size
    have hb6 := HB5.out.alloc HB5.out.size (.cells Z.toArray 103)
    have HB7 := Lib.hid (hW.below _ _ (bnext HB3.out hb6) (by omega))
    have HL1 := Lib.hid (hW.blk (HK1.out.below hb6) (by omega))
    have HL2 := Lib.hid (hW.blk (HK2.out.below hb6) (by omega))
    have HL3 := Lib.hid (hW.blk (HK3.out.below hb6) (by omega))
    have HL6 := Lib.hid hR
    have HG6 := Lib.hid hl3
    obtain ⟨g6, hg6⟩ : ∃ g6, w5.heap.size = g6 := ⟨_, rfl⟩
    rw [hg6] at HL6 HG6 ⊢
    clear hR hW hb6 hl1 hl2 hl3 hg6 HB6 HB5 HK1 HK2 HK3 HPO HIK cK
    have HF0 : Hid (FS w7 (Sm F w.heap.size) 64 0 p l l key w7) := ⟨HN.out.small.below HB7.out, HS.out, rfl, HLE.out, Below.refl _ _⟩
    rw [← HPP.out]
    go_wp2_with fail
    go_loopg [0, 7] 64 (fun gk s0 s7 wy => ∃ (j : Nat) (pj : Option Nat) (lj : List Pr), j + gk = 64 ∧ s0 = nptr pj ∧ s7 = .int .i64 (j : Int) ∧ Hid (FS w7 (Sm F w.heap.size) gk j pj lj l key wy))
    case atStart => exact ⟨0, p, l, rfl, rfl, rfl, HF0⟩
    case round =>
      obtain ⟨j, pj, lj, hjg, rfl, rfl, HFS⟩ := hrel
      clear HF0
      have HE := Lib.hid (ends_c (HFS.out.nd.below HFS.out.bel))
      obtain ⟨eb, heb⟩ : ∃ eb, endB gk lj = eb := ⟨_, rfl⟩
      have HEB := Lib.hid heb
      rw [heb] at HE
      obtain ⟨PJ, hPJ⟩ : ∃ PJ, nptr pj = PJ := ⟨_, rfl⟩
      have HPJ := Lib.hid hPJ
      rw [hPJ] at HE ⊢
      clear heb hPJ
      cases eb with
      | true =>
        go_wp2_with fail
        refine HE.out.mono ?_
        rintro e w8 ⟨rfl, rfl⟩
        clear HE
        go_wp2_with fail
        have hnd := HFS.out.nd.below HFS.out.bel
        have hD : Doer 76 #[.pointer (some ⟨w.heap.size, 0, none⟩), .pointer (some ⟨w.heap.size + 1, 0, none⟩), .pointer (some ⟨w.heap.size + 1 + 1, 0, none⟩)] wr (fun k => k = w.heap.size + 1 ∨ k = w.heap.size + 1 + 1) (FR wr w.heap.size (w.heap.size + 1) (w.heap.size + 1 + 1) key) :=
          ⟨enters_of Tryd.func76 (by kernel_rfl) rfl, fun done y W hr => find1_c y hr (by omega) (by omega) (by omega), fun done W W' hr hb => hr.below hb, fun done W hr => hr.turn⟩
        have hec := each_c hD (F := Sm F w.heap.size) (fun k hk h2 => by have := hk.2; omega) gk j pj lj [] wr hnd HFS.out.len ⟨Turn.refl _ _, HL1.out.below HFS.out.bel, HL2.out.below HFS.out.bel, HL3.out.below HFS.out.bel⟩
        unfold EachC at hec
        rw [HPJ.out, List.nil_append] at hec
        have HEC := Lib.hid hec
        have HLO := Lib.hid ((lastP_ord HFS.out.srt gk j key).trans HFS.out.got)
        have HBR := Lib.hid (bnext HB7.out HFS.out.bel)
        clear hnd hD hec HFS HL1 HL2 HL3 HL6
        refine HEC.out.mono ?_
        rintro e w9 ⟨rfl, hfr⟩
        have hgot := hfr.got
        have his := hfr.is
        rw [HLO.out, HOO.out, HXO.out.1] at hgot
        rw [HLO.out, HOO.out, HXO.out.2] at his
        have hb9 : Below w.heap.size w w9 := by
          have ht := hfr.turn
          exact ht.below HBR.out (fun k hk => by omega) HBR.out.size
        have HB9 := Lib.hid hb9
        have HGOT := Lib.hid hgot
        have HIS := Lib.hid his
        have S0 : Blk w9.drew (w.heap.size + 1) 44 [.string x1, .string x2] ∧ Blk w9.drew (w.heap.size + 1 + 1) 4 [.bool bo] ∧ Below w.heap.size w w9.drew := ⟨HGOT.out.below (Below.refl _ _).drew, HIS.out.below (Below.refl _ _).drew, HB9.out.drew⟩
        clear hfr hgot his hb9 HEC HLO HBR
        go_upto_region 9 with fail
        refine wp_region_noPanic ?_
        refine wp_region_held_drew (S := fun W => Blk W (w.heap.size + 1) 44 [.string x1, .string x2] ∧ Blk W (w.heap.size + 1 + 1) 4 [.bool bo] ∧ Below w.heap.size w W) (by kernel_rfl) S0 (fun hHeld => ?_)
        refine wpAnyH_take (i := 0) (oi := ⟨some 30, _, _, _, _, _⟩) rfl (by kernel_rfl) (by kernel_rfl) (by kernel_rfl) (fun _ _ _ h => h) (yieldsIf_load_mid (by rfl) _ _ rfl _ _ rfl [.string x1, .string x2] _ (fun w hSw => blk_range0 hSw.1) Tryd.underlying44 rfl infoPz) (by assumption) ?_
        simp only [Act.put, List.setIfInBounds_toArray, List.set_cons_zero, List.set_cons_succ]
        refine wpAnyH_take (i := 1) (oi := ⟨some 31, _, _, _, _, _⟩) (v := ?_) rfl (by kernel_rfl) (by kernel_rfl) (by kernel_rfl) (fun _ _ _ h => h) (Or.inl ⟨by rfl, ?_⟩) (by assumption) ?_
        rotate_left
        · intro W hSw; have hcA := hSw.2.1.cell 0; change W.cell? ⟨w.heap.size + 1 + 1, 0, none⟩ = some (.bool bo) at hcA; (first | (go_simp; done) | (go_simp; with_reducible rfl))
        simp only [Act.put, List.setIfInBounds_toArray, List.set_cons_zero, List.set_cons_succ]
        obtain ⟨wx0, hwx⟩ : ∃ y0, y0 = w9.drew := ⟨_, rfl⟩
        rw [← hwx] at hHeld ⊢
        clear hwx S0 HB9 HGOT HIS
        have HH0 := Lib.hid hHeld
        have a0 : wx0.cell? ⟨w.heap.size + 1, 0, none⟩ = some (.string x1) := hHeld.1.cell 0
        have a1 : wx0.cell? ⟨w.heap.size + 1, 1, none⟩ = some (.string x2) := hHeld.1.cell 1
        have f0 := hHeld.1.frozen 0
        have f1 := hHeld.1.frozen 1
        refine wpAnyH_ready (rs := [2]) (by kernel_rfl) (by simp) ?_
        refine AllReadyH.cons rfl (fun K hK => ?_) AllReadyH.nil
        go_simp
        go_wp2_with fail
        refine hK.out _ _ ⟨set_two HH0.out.1, (HH0.out.2.1.set_other (b := w.heap.size + 1) (by omega) 0 (.string x1)).set_other (b := w.heap.size + 1) (by omega) 1 (.string x2), (HH0.out.2.2.setCell (p := ⟨w.heap.size + 1, 0, none⟩) (Nat.le_succ _) (.string x1)).setCell (p := ⟨w.heap.size + 1, 1, none⟩) (Nat.le_succ _) (.string x2)⟩ (fun hHeld1 => ?_)
        clear hK K a0 a1 f0 f1 HH0 hHeld
        obtain ⟨wx1, hwx⟩ : ∃ y0, y0 = (wx0.setCell ⟨w.heap.size + 1, 0, none⟩ (.string x1)).setCell ⟨w.heap.size + 1, 1, none⟩ (.string x2) := ⟨_, rfl⟩
        change wpAnyH _ _ _ _ _ _ _ _ ((wx0.setCell ⟨w.heap.size + 1, 0, none⟩ (.string x1)).setCell ⟨w.heap.size + 1, 1, none⟩ (.string x2))
        rw [← hwx] at hHeld1 ⊢
        clear hwx
        have HH1 := Lib.hid hHeld1
        have a2 : wx1.cell? ⟨w.heap.size + 1 + 1, 0, none⟩ = some (.bool bo) := hHeld1.2.1.cell 0
        have f2 := hHeld1.2.1.frozen 0
        refine wpAnyH_ready (rs := [3]) (by kernel_rfl) (by simp) ?_
        refine AllReadyH.cons rfl (fun K hK => ?_) AllReadyH.nil
        go_simp
        go_wp2_with fail
        have q1 := HH1.out.1.set_other (b := w.heap.size + 1 + 1) (by omega) 0 (.bool bo)
        have q2 := HH1.out.2.1.set 0 (.bool bo)
        have q3 := HH1.out.2.2.setCell (p := ⟨w.heap.size + 1 + 1, 0, none⟩) (by show _ ≤ w.heap.size + 1 + 1; omega) (.bool bo)
        refine hK.out _ _ ⟨q1, q2, q3⟩ (fun hHeld2 => ?_)
        refine wpAnyH_done (by kernel_rfl) ?_ _
        refine NoPanic.normal ?_
        go_wp2_with fail
        exact bodyPost_ret (v := .tuple #[.agg #[.string x1, .string x2], .bool bo]) (results_rowcell Tryd.results54 _ _ (w.heap.size + 1) (w.heap.size + 1 + 1) 44 4 [.string x1, .string x2] (.bool bo) rfl rfl q1 q2 Tryd.underlying44 rfl infoPz Tryd.isAgg4) rfl ⟨rfl, q3⟩
      | false =>
        rcases gk with _ | gk'
        · exfalso
          have h1 := HEB.out
          unfold endB at h1
          simp at h1
        · have hj64 : j < 64 := by omega
          have hfork : ∃ b c, pj = some b ∧ (w7.rangeAt b 66 (kids c) ∧ b < w7.heap.size) ∧ ∀ k, k < 16 → Nd w7 (Sm F w.heap.size) gk' (j + 1) (c k) (sub lj j k) := by
            rcases HFS.out.nd with ⟨_, h2⟩ | ⟨b, _, _, h2⟩ | ⟨b, c, e, _, hnb, hkk⟩
            · exfalso; have h1 := HEB.out; unfold endB at h1; rw [h2] at h1; simp at h1
            · exfalso; have h1 := HEB.out; unfold endB at h1; rw [h2] at h1; simp at h1
            · exact ⟨b, c, e, ⟨hnb.kidR, hnb.lt⟩, hkk⟩
          obtain ⟨b, c, hpj, hkr, hkk⟩ := hfork
          have hPJ := HPJ.out
          rw [hpj] at hPJ
          change Value.pointer (some ⟨b, 0, none⟩) = PJ at hPJ
          subst hPJ
          obtain ⟨k, hk⟩ : ∃ k, nib key j = k := ⟨_, rfl⟩
          have hk16 : k < 16 := by rw [← hk]; exact nibW_lt _ _
          have hkI : (k : Int) < 16 := by omega
          have hat : ∀ y : After wr, Calls Tryd.prog 51 #[.agg D.toArray, .int .i64 (j : Nat)] y.v fun e w' => e = .returned (.int .i64 (k : Nat)) ∧ Below y.v.heap.size y.v w' := fun y => by
            have h := at_c (digest key) j y.v (digest_len _) hj64
            unfold dval at h
            rw [HDD.out, show nibW (digest key) j = k from hk] at h
            exact h
          have C3 := Lib.hid (fun y : After wr => after_of y (hat y))
          have hcell : ∀ y : After wr, y.v.cell? ⟨b, 66 + k, none⟩ = some (nptr (c k)) := fun y => ((bnext HFS.out.bel y.below).cell (p := ⟨b, 66 + k, none⟩) hkr.2).trans (hkr.1 k _ (kids_at c hk16))
          have HFS2 : Hid (∀ w', Below wr.heap.size wr w' → FS w7 (Sm F w.heap.size) gk' (j + 1) (c k) (sub lj j k) l key w') := fun w' hb =>
            ⟨hkk k hk16, sub_srt HFS.out.srt _ _, by rw [← hk, getP_sub]; exact HFS.out.got, Nat.le_trans (sub_len_le _ _ _) HFS.out.len, bnext HFS.out.bel hb⟩
          have hr : ∀ w', (∃ y : After wr, w' = y.v) → w'.rangeAt g6 0 D := fun w' ⟨y, e⟩ => by
            rw [e]
            exact blk_range0 (HL6.out.below (bnext HFS.out.bel y.below))
          have HR := Lib.hid hr
          obtain ⟨V, hV⟩ : ∃ V, nptr (c k) = V := ⟨_, rfl⟩
          rw [hV] at hcell
          have HVE := Lib.hid hV
          clear hkr hkk hk hat hr hV HFS hpj HPJ HEB
          go_wp2_with fail
          refine HE.out.mono ?_
          rintro e w8 ⟨rfl, rfl⟩
          clear HE
          go_upto_region 7 with fail
          refine wp_region_after (by kernel_rfl) (by kernel_rfl) ?_
          go_big_quiet_step (fail)
          refine wpQuiet_load_mid rfl 103 (.tmp 6) rfl g6 0 rfl D _ HR.out Tryd.underlying103 rfl hDi.out ?_
          simp only [Act.put, List.setIfInBounds_toArray, List.set_cons_zero, List.set_cons_succ]
          repeat (go_big_quiet_step (first
            | (rename_i y; go_at_call 51; with_reducible exact C3.out y)))
          refine wpQuiet_nil ?_
          rintro ⟨w9, hb9⟩
          dsimp only
          have HF9 := Lib.hid (HFS2.out w9 hb9)
          clear hb9 HFS2 C3 hcell HR
          go_wp2_with fail
          go_roundg gk'
          case measure => omega
          case rel => exact ⟨j + 1, c k, sub lj j k, by omega, by rw [HVE.out], by go_num, HF9⟩
end Go.Proofs.YtpijnkfbgieabaaDoor.tri
