/- The developers' sumOf of several pairs: the walk. Condition: sha's package variables (Tabs). -/
import Derived.Test.YtpijnkfbgieabaaDoorTrA
namespace Go.Proofs.YtpijnkfbgieabaaDoor.tri
open Go.RowKit
open Go.Proofs.YtpijnkfbgieabaaDoor.oct Go.Proofs.YtpijnkfbgieabaaDoor.ref Go.Proofs.YtpijnkfbgieabaaDoor.rows Go.Proofs.YtpijnkfbgieabaaDoor.rowg Go.Proofs.YtpijnkfbgieabaaDoor.trn Go.Proofs.YtpijnkfbgieabaaDoor.qut
open Go.Proofs.YtpijnkfbgieabaaDoor.sha (digest digest_len dval Tabs wpList_index_row all_c Part InP joined joined_snoc Rm own_rm step_store_blk)
open Go.Lib (byteCells)

/-- a pair that may be kept -/
def Fit (x : Pr) : Prop := x.n.length ≤ 64 ∧ x.v.length ≤ 60000
theorem sized_len (s : T) : (sized s).length = 4 + s.length := by unfold sized len4; simp; omega
theorem saidP_len {l : List Pr} (h : ∀ x ∈ l, Fit x) : ∀ i, i ≤ l.length → (saidP l i).length ≤ 1 + 60100 * i
  | 0, _ => by unfold saidP; simp
  | i + 1, hi => by
    have ih := saidP_len h i (by omega)
    have hx := h _ (List.getElem_mem (show i < l.length by omega))
    rw [saidP_succ (by omega), List.length_append, List.length_append, sized_len, sized_len]
    have := hx.1
    have := hx.2
    omega
theorem saidP_all {l : List Pr} (h : 2 ≤ l.length) : digest (saidP l l.length) = leafD l := by
  unfold saidP leafD
  rw [List.take_length]
  rcases l with _ | ⟨x, _ | ⟨y, l⟩⟩
  · simp at h
  · simp at h
  · rfl
theorem slot_row {w : World} {B n : Nat} {p : Option Addr} {c : Nat} {l : List Pr} (h : w.ownsRow B 44 2 (.slice p n c) n (cells penc l)) {b : Nat} (hb : (Value.slice p n c).ownBlock = some b) : p = some ⟨b, 0, none⟩ := by
  rcases h.2 with ⟨h1, _⟩ | ⟨gg, cap, cur, h1, _⟩
  · rw [h1] at hb; cases hb
  · injection h1 with h1
    subst h1
    injection hb with hb
    subst hb
    rfl
theorem one_own (W : World) (x : UInt8) : (W.alloc (.cells #[.int .u8 (x.toNat : Int)] 5)).ownsRow 0 5 1 (.slice (some ⟨W.heap.size, 0, none⟩) 1 1) 1 (byteCells [x]) :=
  ⟨by simp [byteCells], Or.inr ⟨W.heap.size, 1, _, rfl, Nat.zero_le _, heap_alloc_new W _, Nat.le_refl _, by decide, by simp, by simp [byteCells]⟩⟩
theorem one_said (W : World) (v : Value) : (W.alloc (.cells #[v] 66)).ownsRow W.heap.size 66 1 (.slice (some ⟨W.heap.size, 0, none⟩) 1 1) 1 [v] :=
  ⟨by simp, Or.inr ⟨W.heap.size, 1, _, rfl, Nat.le_refl _, heap_alloc_new W _, Nat.le_refl _, by decide, by simp, by simp⟩⟩
theorem SM.start {w w1 : World} {Z : List Value} (l : List Pr) (hb : Below w.heap.size w w1) (hz : Blk w1 w.heap.size 32 Z) :
    SM w w1 ((w1.alloc (.cells #[.int .u8 2] 5)).alloc (.cells #[.slice (some ⟨w1.heap.size, 0, none⟩) 1 1] 66)) Z l (.slice (some ⟨w1.heap.size + 1, 0, none⟩) 1 1) 0 [⟨some ⟨w1.heap.size, 0, none⟩, 1, [2]⟩] := by
  have hb1 := (Below.refl w1.heap.size w1).alloc (Nat.le_refl _) (.cells #[.int .u8 2] 5)
  have hb2 := hb1.alloc hb1.size (.cells #[.slice (some ⟨w1.heap.size, 0, none⟩) 1 1] 66)
  have h1 := one_own w1 2
  have h2 := one_said (w1.alloc (.cells #[.int .u8 2] 5)) (.slice (some ⟨w1.heap.size, 0, none⟩) 1 1)
  rw [show (w1.alloc (.cells #[.int .u8 2] 5)).heap.size = w1.heap.size + 1 by simp] at h2
  refine ⟨rfl, rfl, Go.Proofs.YtpijnkfbgieabaaDoor.cln.own_base h2 (Nat.le_succ _), fun x hx => ?_, bnext hb hb2, hb2.size, hz.below hb2⟩
  rw [List.mem_singleton.1 hx]
  exact own_belowG h1 ((Below.refl _ _).alloc (Nat.le_refl _) _)
set_option maxRecDepth 100000 in
set_option maxHeartbeats 16000000 in
theorem sumOf_many {w : World} {l : List Pr} {p : Option Addr} {cp B n : Nat} (h : w.ownsRow B 44 2 (.slice p n cp) n (cells penc l)) (hl : l.length = n) (ht : Tabs w) (hf : ∀ x ∈ l, Fit x) (h2 : 2 ≤ n) (hn : n ≤ 8192) :
    Calls Tryd.prog 100 #[.slice p n cp] w fun e w' => e = .returned (dval (leafD l)) ∧ Below w.heap.size w w' := by
  have hz := zeroD
  have hzl : (byteCells zeros).length = 32 := by rfl
  obtain ⟨Z, hZ⟩ : ∃ Z, byteCells zeros = Z := ⟨_, rfl⟩
  rw [hZ] at hz hzl
  have hb1 := (Below.refl w.heap.size w).alloc (Nat.le_refl _) (.cells Z.toArray 32)
  have hB1 := blk_new w Z.toArray 32 Z rfl
  have hs1 : (w.alloc (.cells Z.toArray 32)).heap.size = w.heap.size + 1 := by simp
  obtain ⟨w1, hw1⟩ : ∃ w1, w.alloc (.cells Z.toArray 32) = w1 := ⟨_, rfl⟩
  rw [hw1] at hb1 hB1 hs1
  have HS0 := Lib.hid (SM.start l hb1 hB1)
  have HW1 : Hid (w.heap.size < w1.heap.size) := by show _ < _; omega
  have HROW := Lib.hid h
  have HF := Lib.hid hf
  have HT := Lib.hid ht
  have HL := Lib.hid hl
  have HZL := Lib.hid hzl
  have i0 : ((n : Int) == 1) = false := by rw [beq_eq_false_iff_ne]; omega
  obtain ⟨j0, hj, hy0, hy1, hy2⟩ := info_parts infoSl
  clear h hl ht hf hzl hZ hb1 hB1 hs1
  go_enter Tryd.func100, Tryd.ntmps100
  go_wp2_with fail
  go_loopg [3, 5, 26] n (fun gk s3 _ s26 wy => ∃ (i : Nat) (ps : List Part), i + gk = n ∧ s26 = .int .i64 (i : Int) ∧ Hid (SM w w1 wy Z l s3 i ps))
  case atStart => exact ⟨0, _, by omega, rfl, HS0⟩
  case round =>
    obtain ⟨i, ps, hig, rfl, HS⟩ := hrel
    clear HS0
    rcases gk with _ | gk
    · obtain rfl : n = i := by omega
      obtain ⟨pp, cc, rfl, hinp⟩ := own_inp HS.out.own HS.out.len HS.out.parts
      have hall := all_c pp cc ps wr (HT.out.below HS.out.bel) hinp (by rw [HS.out.len]; omega) (by rw [HS.out.said]; have := saidP_len HF.out n (by rw [HL.out]; exact Nat.le_refl _); omega)
      have hdg : digest (saidP l n) = leafD l := by
        have h := saidP_all (l := l) (by rw [HL.out]; exact h2)
        rw [HL.out] at h
        exact h
      rw [HS.out.len, HS.out.said, hdg] at hall
      have hDl : (byteCells (leafD l)).length = 32 := by rw [byteCells_len, leafD_len]
      have hD1 := bytes_one (leafD l)
      unfold dval at hall
      obtain ⟨D, hD⟩ : ∃ D, byteCells (leafD l) = D := ⟨_, rfl⟩
      rw [hD] at hDl hD1 hall
      have HDE := Lib.hid hD
      have HDO := Lib.hid hD1
      have HALL := Lib.hid hall
      have hDi : Hid ((Tryd.prog.info? 32).map (·.size) = some D.length) := by show _ = _; rw [hDl]; exact infoDg
      have HZD : Hid (Z.length = D.length) := by show _ = _; rw [HZL.out, hDl]
      have HZ := Lib.hid HS.out.z
      have HB := Lib.hid HS.out.bel
      clear hinp hall hdg hD hDl hD1 HS
      go_wp2_with fail
      refine HALL.out.mono ?_
      rintro e w5 ⟨rfl, hb5⟩
      have HZ5 := Lib.hid (HZ.out.below hb5)
      have HB5 := Lib.hid (bnext HB.out hb5)
      clear hb5 HZ HB HALL
      go_wp2_with (with_reducible refine wpList_store_blk rfl 32 (.tmp 2) (.tmp 41) rfl w.heap.size D Z 32 HZ5.out rfl rfl hDi.out HZD.out HDO.out ?_; intro w7 hR hW)
      exact bodyPost_ret (v := .agg D.toArray) (results_blk Tryd.results100 _ _ w.heap.size 32 D _ rfl hR Tryd.underlying32 rfl hDi.out) rfl ⟨by unfold dval; rw [HDE.out], hW.below _ _ HB5.out (Nat.le_refl _)⟩
    · have hin : i < n := by omega
      have hinI : (i : Int) < n := by omega
      have hil : i < l.length := by rw [HL.out]; exact hin
      obtain ⟨b, e1, q1, q2⟩ := penc_at (l := l) (by rw [HL.out]; exact own_belowG HROW.out HS.out.bel) i hil
      have hp := slot_row HROW.out e1
      subst hp
      have hfx := HF.out _ (List.getElem_mem hil)
      obtain ⟨x, hx⟩ : ∃ x, l[i] = x := ⟨_, rfl⟩
      have HX := Lib.hid hx
      rw [hx] at q1 q2 hfx
      obtain ⟨hx1, hx2⟩ := hfx
      unfold txt at q1 q2
      clear hx e1
      go_upto_region 7 with fail
      have HM1 : Hid (∀ W, Calls Tryd.prog 112 #[.string ⟨x.n.toArray⟩] W fun e w' => ∃ p c, e = .returned (.slice p (sized x.n).length c) ∧ PartO w' ⟨p, c, sized x.n⟩ ∧ Below W.heap.size W w') := fun W => measured_o x.n W (by omega)
      have HM2 : Hid (∀ W, Calls Tryd.prog 112 #[.string ⟨x.v.toArray⟩] W fun e w' => ∃ p c, e = .returned (.slice p (sized x.v).length c) ∧ PartO w' ⟨p, c, sized x.v⟩ ∧ Below W.heap.size W w') := fun W => measured_o x.v W (by omega)
      have hbq := (Below.refl wr.heap.size wr).alloc (Nat.le_refl _) (.cells #[.string ⟨x.n.toArray⟩, .string ⟨x.v.toArray⟩] 44)
      have hBq := blk_new wr #[.string ⟨x.n.toArray⟩, .string ⟨x.v.toArray⟩] 44 [.string ⟨x.n.toArray⟩, .string ⟨x.v.toArray⟩] rfl
      have hsq := HS.out.below hbq
      have hob : ∀ k, u3.ownBlock = some k → k < wr.heap.size := fun k hk => (HS.out.own.lt k hk).2
      obtain ⟨wq, hwq⟩ : ∃ wq, wr.alloc (.cells #[.string ⟨x.n.toArray⟩, .string ⟨x.v.toArray⟩] 44) = wq := ⟨_, rfl⟩
      rw [hwq] at hbq hBq hsq ⊢
      obtain ⟨g5, hg5⟩ : ∃ g5, wr.heap.size = g5 := ⟨_, rfl⟩
      rw [hg5] at hBq hob ⊢
      have HOB := Lib.hid hob
      have hgl := hBq.lt
      have hd0 := (Below.refl wq.heap.size wq).drew
      have hS0 : wq.drew.cell? ⟨g5, 0, none⟩ = some (.string ⟨x.n.toArray⟩) ∧ wq.drew.cell? ⟨g5, 1, none⟩ = some (.string ⟨x.v.toArray⟩) := ⟨(hBq.below hd0).cell 0, (hBq.below hd0).cell 1⟩
      have A := hsq.below hd0
      have hgd : g5 < wq.drew.heap.size := hgl
      obtain ⟨wx0, hwx⟩ : ∃ wx0, wq.drew = wx0 := ⟨_, rfl⟩
      clear hwq hbq hBq hsq hg5 hob hgl hd0 q1 q2
      refine wp_region_noPanic ?_
      refine wp_region_held_drew (S := fun W => W.cell? ⟨g5, 0, none⟩ = some (.string ⟨x.n.toArray⟩) ∧ W.cell? ⟨g5, 1, none⟩ = some (.string ⟨x.v.toArray⟩)) (by kernel_rfl) hS0 (fun hHeld => ?_)
      refine wpAnyH_take (i := 0) (oi := ⟨some 30, _, _, _, _, _⟩) (v := ?_) rfl (by kernel_rfl) (by kernel_rfl) (by kernel_rfl) (fun _ _ _ h => h) (Or.inl ⟨by rfl, ?_⟩) (by assumption) ?_
      rotate_left
      · intro w hSw; have hcA := hSw.1; have hcB := hSw.2; (first | (go_simp; done) | (go_simp; with_reducible rfl))
      simp only [Act.put, List.setIfInBounds_toArray, List.set_cons_zero, List.set_cons_succ]
      refine wpAnyH_take (i := 1) (oi := ⟨some 31, _, _, _, _, _⟩) (v := ?_) rfl (by kernel_rfl) (by kernel_rfl) (by kernel_rfl) (fun _ _ _ h => h) (Or.inl ⟨by rfl, ?_⟩) (by assumption) ?_
      rotate_left
      · intro w hSw; have hcA := hSw.1; have hcB := hSw.2; (first | (go_simp; done) | (go_simp; with_reducible rfl))
      simp only [Act.put, List.setIfInBounds_toArray, List.set_cons_zero, List.set_cons_succ]
      refine wpAnyH_take (i := 2) (oi := ⟨some 32, _, _, _, _, _⟩) (v := ?_) rfl (by kernel_rfl) (by kernel_rfl) (by kernel_rfl) (fun _ _ _ h => h) (Or.inl ⟨by rfl, ?_⟩) (by assumption) ?_
      rotate_left
      · intro w hSw; have hcA := hSw.1; have hcB := hSw.2; (first | (go_simp; done) | (go_simp; with_reducible rfl))
      simp only [Act.put, List.setIfInBounds_toArray, List.set_cons_zero, List.set_cons_succ]
      refine wpAnyH_take (i := 4) (oi := ⟨some 34, _, _, _, _, _⟩) (v := ?_) rfl (by kernel_rfl) (by kernel_rfl) (by kernel_rfl) (fun _ _ _ h => h) (Or.inl ⟨by rfl, ?_⟩) (by assumption) ?_
      rotate_left
      · intro w hSw; have hcA := hSw.1; have hcB := hSw.2; (first | (go_simp; done) | (go_simp; with_reducible rfl))
      simp only [Act.put, List.setIfInBounds_toArray, List.set_cons_zero, List.set_cons_succ]
      refine wpAnyH_take (i := 5) (oi := ⟨some 35, _, _, _, _, _⟩) (v := ?_) rfl (by kernel_rfl) (by kernel_rfl) (by kernel_rfl) (fun _ _ _ h => h) (Or.inl ⟨by rfl, ?_⟩) (by assumption) ?_
      rotate_left
      · intro w hSw; have hcA := hSw.1; have hcB := hSw.2; (first | (go_simp; done) | (go_simp; with_reducible rfl))
      simp only [Act.put, List.setIfInBounds_toArray, List.set_cons_zero, List.set_cons_succ]
      rw [hwx] at A hHeld hgd ⊢
      clear hwx hS0
      refine wpAnyH_ready (rs := [3]) (by kernel_rfl) (by simp) ?_
      refine AllReadyH.cons rfl (fun K hK => ?_) AllReadyH.nil
      go_simp
      go_wp2_with (go_at_call 112; refine (HM1.out _).mono ?_; rintro e wx1 ⟨pa, ca, rfl, oa, hbk⟩)
      have hH1 : wx1.cell? ⟨g5, 0, none⟩ = some (.string ⟨x.n.toArray⟩) ∧ wx1.cell? ⟨g5, 1, none⟩ = some (.string ⟨x.v.toArray⟩) := ⟨(hbk.cell (p := ⟨g5, 0, none⟩) hgd).trans hHeld.1, (hbk.cell (p := ⟨g5, 1, none⟩) hgd).trans hHeld.2⟩
      refine hK.out _ _ hH1 (fun hHeld => ?_)
      replace A := A.below hbk
      replace hgd := Nat.lt_of_lt_of_le hgd hbk.size
      clear hK K hbk hH1
      refine wpAnyH_ready (rs := [6]) (by kernel_rfl) (by simp) ?_
      refine AllReadyH.cons rfl (fun K hK => ?_) AllReadyH.nil
      go_simp
      go_wp2_with (go_at_call 112; refine (HM2.out _).mono ?_; rintro e wx2 ⟨pb, cb, rfl, ob, hbk⟩)
      have hH1 : wx2.cell? ⟨g5, 0, none⟩ = some (.string ⟨x.n.toArray⟩) ∧ wx2.cell? ⟨g5, 1, none⟩ = some (.string ⟨x.v.toArray⟩) := ⟨(hbk.cell (p := ⟨g5, 0, none⟩) hgd).trans hHeld.1, (hbk.cell (p := ⟨g5, 1, none⟩) hgd).trans hHeld.2⟩
      refine hK.out _ _ hH1 (fun hHeld => ?_)
      replace A := A.below hbk
      replace oa := own_belowG oa hbk
      replace hgd := Nat.lt_of_lt_of_le hgd hbk.size
      clear hK K hbk hH1
      refine wpAnyH_ready (rs := [7]) (by kernel_rfl) (by simp) ?_
      refine AllReadyH.cons rfl (fun K hK => ?_) AllReadyH.nil
      have hbk := (Below.refl wx2.heap.size wx2).alloc (Nat.le_refl _) (.cells #[.slice pa (sized x.n).length ca, .slice pb (sized x.v).length cb] 66)
      have hB2 := blk_new wx2 #[.slice pa (sized x.n).length ca, .slice pb (sized x.v).length cb] 66 [.slice pa (sized x.n).length ca, .slice pb (sized x.v).length cb] rfl
      go_simp
      go_wp2_with fail
      have hH1 : (wx2.alloc (.cells #[.slice pa (sized x.n).length ca, .slice pb (sized x.v).length cb] 66)).cell? ⟨g5, 0, none⟩ = some (.string ⟨x.n.toArray⟩) ∧ (wx2.alloc (.cells #[.slice pa (sized x.n).length ca, .slice pb (sized x.v).length cb] 66)).cell? ⟨g5, 1, none⟩ = some (.string ⟨x.v.toArray⟩) := ⟨(hbk.cell (p := ⟨g5, 0, none⟩) hgd).trans hHeld.1, (hbk.cell (p := ⟨g5, 1, none⟩) hgd).trans hHeld.2⟩
      refine hK.out _ _ hH1 (fun hHeld => ?_)
      replace A := A.below hbk
      replace oa := own_belowG oa hbk
      replace ob := own_belowG ob hbk
      replace hgd := Nat.lt_of_lt_of_le hgd hbk.size
      clear hK K hbk hH1
      obtain ⟨wx3, hw3⟩ : ∃ wx3, wx2.alloc (.cells #[.slice pa (sized x.n).length ca, .slice pb (sized x.v).length cb] 66) = wx3 := ⟨_, rfl⟩
      obtain ⟨g7, hg7⟩ : ∃ g7, wx2.heap.size = g7 := ⟨_, rfl⟩
      change wpAnyH _ _ _ _ _ _ _ _ (wx2.alloc (.cells #[.slice pa (sized x.n).length ca, .slice pb (sized x.v).length cb] 66))
      rw [hw3] at A oa ob hgd hB2 hHeld ⊢
      rw [hg7] at hB2 ⊢
      clear hw3 hg7
      have hsr := two_src hB2
      have h1c := two_one pa (sized x.n).length ca pb (sized x.v).length cb
      refine wpAnyH_ready (rs := [8]) (by kernel_rfl) (by simp) ?_
      refine AllReadyH.cons rfl (fun K hK => ?_) AllReadyH.nil
      refine step_append_lies wx3 rfl (.tmp 30) (.tmp 37) 115 rfl w1.heap.size 66 j0 (.slice none 0 0) 1 24 Tryd.underlying115 hj hy0 hy1 hy2 rfl (by decide) u3 (1 + 2 * i) (ps.map Part.val) rfl A.own ⟨g7, 0, none⟩ 2 2 [.slice pa (sized x.n).length ca, .slice pb (sized x.v).length cb] rfl rfl hsr h1c (by decide) (by unfold maxLen; omega) (by omega) A.le wx3.heap.size rfl ?_
      intro gg cap w6 r1 r2 r3 r4
      have hst := A.step (a := ⟨pa, ca, sized x.n⟩) (b := ⟨pb, cb, sized x.v⟩) hil oa ob (by rw [HX.out]) (by rw [HX.out]) HW1.out r1 r2
      have hH1 : w6.cell? ⟨g5, 0, none⟩ = some (.string ⟨x.n.toArray⟩) ∧ w6.cell? ⟨g5, 1, none⟩ = some (.string ⟨x.v.toArray⟩) := by
        have ht : Turn (fun k => u3.ownBlock = some k) wx3 w6 := Turn.of_row r2 fun b hb => hb
        have hno : ¬ u3.ownBlock = some g5 := fun e => by have := HOB.out g5 e; omega
        exact ⟨(cell_turn ht hgd hno).trans hHeld.1, (cell_turn ht hgd hno).trans hHeld.2⟩
      refine hK.out _ _ hH1 (fun hHeld => ?_)
      have HST := Lib.hid hst
      clear hK K hH1 A oa ob r1 r2 r3 r4 hsr h1c hB2 hst hgd
      refine wpAnyH_take (i := 9) (oi := ⟨some 3, _, _, _, _, _⟩) (v := ?_) rfl (by kernel_rfl) (by kernel_rfl) (by kernel_rfl) (fun _ _ _ h => h) (Or.inl ⟨by rfl, ?_⟩) (by assumption) ?_
      rotate_left
      · intro w hSw; (first | (go_simp; done) | (go_simp; with_reducible rfl))
      simp only [Act.put, List.setIfInBounds_toArray]
      refine wpAnyH_done (by kernel_rfl) ?_ _
      refine NoPanic.normal ?_
      go_wp2_with fail
      go_roundg gk
      case measure => omega
      case rel => exact ⟨i + 1, _, by omega, by go_num, HST⟩
end Go.Proofs.YtpijnkfbgieabaaDoor.tri
