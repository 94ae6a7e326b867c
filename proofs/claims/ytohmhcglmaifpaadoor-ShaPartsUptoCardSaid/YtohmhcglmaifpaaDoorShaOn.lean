/- ShaOn: the walk of the law, by the interfaces (rows of up to 1048576 bytes each). -/
import Derived.Test.YtohmhcglmaifpaaDoorShaParts
import Derived.Deep.RegionHeld3
namespace Go.Proofs.YtohmhcglmaifpaaDoor.sha
open Go.RowKit
open Go.Proofs.YtohmhcglmaifpaaDoor.oct Go.Proofs.YtohmhcglmaifpaaDoor.ref Go.Proofs.YtohmhcglmaifpaaDoor.rows
open Go.Lib (byteCells)

theorem own_nil_cap {w : World} {B e n c : Nat} {p : Option Addr} {xs : List Value} (h : w.ownsRow B e 1 (.slice p n c) n xs) : p = none → c = 0 := by
  intro hz
  rcases h.2 with ⟨h, _⟩ | ⟨x, _, _, h, _⟩
  · injection h
  · rw [hz] at h; cases h

theorem InP.two' {w : World} {p r : Option Addr} {cp cr : Nat} {l m : List UInt8} (h : In8 (w.alloc (.cells #[.slice p l.length cp, .slice r m.length cr] 22)) p l) (hn : Rm p cp l.length)
    (k : In8 (w.alloc (.cells #[.slice p l.length cp, .slice r m.length cr] 22)) r m) (kn : Rm r cr m.length) :
    InP (w.alloc (.cells #[.slice p l.length cp, .slice r m.length cr] 22)) (some ⟨w.heap.size, 0, none⟩) [⟨p, cp, l⟩, ⟨r, cr, m⟩] := by
  refine ⟨fun _ => ⟨w.heap.size, 0, rfl, fun i hi => ?_⟩, ?_⟩
  · rw [World.cell?_alloc_at _ _ _ _ rfl]
    match i, hi with
    | 0, _ => rfl
    | 1, _ => rfl
  · intro x hx
    simp only [List.mem_cons, List.not_mem_nil, or_false] at hx
    rcases hx with rfl | rfl
    · exact ⟨h, hn⟩
    · exact ⟨k, kn⟩
/-- what the region holds to: behind this world, and two rows as they were -/
theorem two_next {w0 W W' : World} {g h : Nat} {D : List Value} (hb : Below W.heap.size W W') (k : Below w0.heap.size w0 W ∧ W.rangeAt g 0 D ∧ W.rangeAt h 0 D) : Below w0.heap.size w0 W' ∧ W'.rangeAt g 0 D ∧ W'.rangeAt h 0 D := by
  have go : ∀ x, W.rangeAt x 0 D → W'.rangeAt x 0 D := fun x hx j v hv => by
    have h1 := hx j v hv
    have h2 : W'.heap[x]? = W.heap[x]? := hb.block x (cell_lt h1)
    simpa [World.cell?, h2] using h1
  exact ⟨bnext k.1 hb, go g k.2.1, go h k.2.2⟩
theorem two_alloc {w0 W : World} {g h : Nat} {D : List Value} (k : Below w0.heap.size w0 W ∧ W.rangeAt g 0 D ∧ W.rangeAt h 0 D) (o : Obj) : Below w0.heap.size w0 (W.alloc o) ∧ (W.alloc o).rangeAt g 0 D ∧ (W.alloc o).rangeAt h 0 D :=
  two_next ((Below.refl _ _).alloc (Nat.le_refl _) o) k
theorem two_end {w w0 W : World} {g h : Nat} {D : List Value} (hb : Below w.heap.size w w0) (k : Below w0.heap.size w0 W ∧ W.rangeAt g 0 D ∧ W.rangeAt h 0 D) : Ending.returned (.bool true) = .returned (.bool true) ∧ Below w.heap.size w W := ⟨rfl, bnext hb k.1⟩

set_option maxHeartbeats 4000000 in
theorem law_on {T : World → Prop} {Has : World → Nat → List UInt8 → Prop} (X : Api T Has) (Y : Hashes T Has) (p : Option Addr) (cp : Nat) (a : List UInt8) (q : Option Addr) (cq : Nat) (b : List UInt8) (w : World)
    (hp : In8 w p a) (ha : a.length ≤ 1048576) (hpn : Rm p cp a.length) (hq : In8 w q b) (hb : b.length ≤ 1048576) (hqn : Rm q cq b.length) (ht : T w) :
    Calls Tryd.prog 6 #[.slice p a.length cp, .slice q b.length cq] w fun e w' => e = .returned (.bool true) ∧ Below w.heap.size w w' := by
  have HP := Lib.hid hp
  have HQ := Lib.hid hq
  have HT := Lib.hid ht
  have HX := Lib.hid X
  have HY := Lib.hid Y
  clear hp hq ht X Y
  have hacl : (a ++ b).length ≤ 2097152 := by rw [List.length_append]; omega
  have hj := joined_two p q cp cq a b
  have hlen : (a ++ b).length = a.length + b.length := List.length_append
  obtain ⟨AB, hAB⟩ : ∃ AB, a ++ b = AB := ⟨_, rfl⟩
  rw [hAB] at hacl hj hlen
  have HAB := Lib.hid hAB
  have HJ := Lib.hid hj
  have HLEN : Hid ((AB.length : Int) = (a.length : Int) + (b.length : Int)) := by show _ = _; omega
  have kE1 := fun w => agg_eq (digest a) w (digest_len _)
  have kE2 := fun w => agg_eq (digest AB) w (digest_len _)
  have hdl := digest_len a
  have hd1 := bytes_one (digest a)
  have hdi : Hid ((Tryd.prog.info? 26).map (·.size) = some (byteCells (digest a)).length) := by show _ = _; rw [byteCells_len, hdl]; exact infoDS
  have HDL2 : Hid (32 = (byteCells (digest a)).length) := by show _ = _; rw [byteCells_len, hdl]
  obtain ⟨D, hD⟩ : ∃ D, byteCells (digest a) = D := ⟨_, rfl⟩
  obtain ⟨B, hB⟩ : ∃ B, (byteCells (digest AB)).toArray = B := ⟨_, rfl⟩
  rw [hD] at kE1 hd1 hdi HDL2
  rw [hB] at kE2
  have HD : Hid (dval (digest a) = .agg D.toArray) := by show _ = _; unfold dval; rw [hD]
  have HB : Hid (dval (digest AB) = .agg B) := by show _ = _; unfold dval; rw [hB]
  clear hAB hj hlen hdl hD hB
  go_enter Tryd.func6, Tryd.ntmps6
  go_wp2_with fail
  refine (HY.out.new w HT.out).mono ?_
  rintro e w1 ⟨g, rfl, hg, h1, hb1⟩
  have HG := Lib.hid hg
  clear hg
  go_wp2_with fail
  refine (HY.out.write g [] p cp a w1 (HX.out.tbelow _ _ HT.out hb1) h1 (HP.out.below hb1) (fun hl => in8_block HP.out HG.out hl) hpn (by simp; omega)).mono ?_
  rintro e w2 ⟨⟨v2, rfl⟩, h2, hg2⟩
  have hb2 := grown_below hb1 hg2 HG.out hb1.size
  rw [List.nil_append] at h2
  clear h1 hb1 hg2
  go_wp2_with fail
  refine (HY.out.told g a w2 (HX.out.tbelow _ _ HT.out hb2) h2 (by omega)).mono ?_
  rintro e w3 ⟨rfl, hb3⟩
  rw [HD.out]
  have h3 := below_keep HX.out h2 hb3
  have hbw3 := bnext hb2 hb3
  clear h2 hb2 hb3
  go_wp2_with ((with_reducible refine wpList_store_new rfl 26 (.tmp 6) (.tmp 13) rfl D 26 _ rfl rfl hdi.out (Eq.trans (by decide) HDL2.out) hd1 ?_); intro w4 hS hSb hz; clear hz)
  have h4 := below_keep HX.out h3 hSb
  have hbw4 := bnext hbw3 hSb
  have hg3 : g ≠ w3.heap.size := by have := HX.out.lt _ _ _ h3; omega
  obtain ⟨g6, hg6⟩ : ∃ g6, g6 = w3.heap.size := ⟨_, rfl⟩
  rw [← hg6] at hS hg3 ⊢
  clear h3 hSb hbw3 hg6
  refine (HY.out.told g a w4 (HX.out.tbelow _ _ HT.out hbw4) h4 (by omega)).mono ?_
  rintro e w5 ⟨rfl, hb5⟩
  rw [HD.out]
  have hS5 := hS.below hb5
  have h5 := below_keep HX.out h4 hb5
  have hbw5 := bnext hbw4 hb5
  clear hS h4 hbw4 hb5
  go_wp2_with ((with_reducible refine wpList_store_new rfl 26 (.tmp 7) (.tmp 15) rfl D 26 _ rfl rfl hdi.out (Eq.trans (by decide) HDL2.out) hd1 ?_); intro w6 hU hUb hz; clear hz)
  have hS6 := hS5.below hUb
  have h6 := below_keep HX.out h5 hUb
  have hbw6 := bnext hbw5 hUb
  have hg5 : g ≠ w5.heap.size := by have := HX.out.lt _ _ _ h5; omega
  obtain ⟨g7, hg7⟩ : ∃ g7, g7 = w5.heap.size := ⟨_, rfl⟩
  rw [← hg7] at hU hg5 ⊢
  clear hS5 h5 hbw5 hUb hg7
  refine (HY.out.write g a q cq b w6 (HX.out.tbelow _ _ HT.out hbw6) h6 (HQ.out.below hbw6) (fun hl => in8_block HQ.out HG.out hl) hqn (by omega)).mono ?_
  rintro e w7 ⟨⟨v7, rfl⟩, h7, hgr7⟩
  rw [HAB.out] at h7
  have hbw7 := grown_below hbw6 hgr7 HG.out hbw6.size
  have hS7 : Blk w7 g6 26 D := (hgr7.block g6 hS6.lt (fun e => hg3 (by cases e; rfl))).trans hS6
  have hU7 : Blk w7 g7 26 D := (hgr7.block g7 hU.lt (fun e => hg5 (by cases e; rfl))).trans hU
  have HF : Hid (∀ W, (Below w7.heap.size w7 W ∧ W.rangeAt g6 0 D ∧ W.rangeAt g7 0 D) → T W ∧ In8 W p a ∧ In8 W q b ∧ Has W g AB) := fun W h =>
    ⟨HX.out.tbelow _ _ HT.out (bnext hbw7 h.1), HP.out.below (bnext hbw7 h.1), HQ.out.below (bnext hbw7 h.1), below_keep HX.out h7 h.1⟩
  have HB7 := Lib.hid hbw7
  have hd0 := (Below.refl w7.heap.size w7).drew
  have hr0 : w7.drew.rangeAt g6 0 D := fun j v hv => by
    have h := (hS7.below hd0).cell j
    rw [hv] at h
    simpa using h
  have hr1 : w7.drew.rangeAt g7 0 D := fun j v hv => by
    have h := (hU7.below hd0).cell j
    rw [hv] at h
    simpa using h
  have hun := Tryd.underlying26
  have hin := hdi.out
  clear hS6 hU h6 hbw6 hg3 hg5 hgr7 h7 hbw7 hS7 hU7
  go_wp2_with fail
  have kW : IntKind.i64.wrap ((a.length : Int) + (b.length : Int)) = (a.length : Int) + (b.length : Int) := by rw [IntKind.wrap_i64]; omega
  refine wp_region_noPanic ?_
  refine wp_region_held_drew (S := (fun W => Below w7.heap.size w7 W ∧ W.rangeAt g6 0 D ∧ W.rangeAt g7 0 D)) (by kernel_rfl) ⟨hd0, hr0, hr1⟩ (fun hHeld => ?_)
  refine wpAnyH_ready (rs := [0]) (by kernel_rfl) (by simp) ?_
  refine AllReadyH.cons rfl (fun K hK => ?_) AllReadyH.nil
  go_simp
  go_wp2_with (go_at_call 11; refine (known_c HX.out _ (HF.out _ (by assumption)).1).mono ?_; rintro e wk ⟨rfl, hbk⟩)
  refine hK.out _ _ ?_ (fun hHeld => ?_)
  · (try dsimp only); (first | exact two_next (by assumption) (by assumption) | exact two_alloc (by assumption) _)
  clear hK K
  refine wpAnyH_take (i := 1) (oi := ⟨some 20, _, _, _, _, _⟩) (v := ?_) rfl (by kernel_rfl) (by kernel_rfl) (by kernel_rfl) (fun _ _ _ h => h) (Or.inl ⟨by rfl, ?_⟩) (by assumption) ?_
  rotate_left
  · intro w hSw; (first | (go_simp; done) | (go_simp; with_reducible rfl))
  simp only [Act.put, List.setIfInBounds_toArray, List.set_cons_zero, List.set_cons_succ]
  refine wpAnyH_take (i := 2) (oi := ⟨some 21, _, _, _, _, _⟩) rfl (by kernel_rfl) (by kernel_rfl) (by kernel_rfl) (fun _ _ _ h => h) (yieldsIf_load_mid (by rfl) _ _ rfl _ _ rfl D _ (fun w hSw => hSw.2.1) hun rfl hin) (by assumption) ?_
  simp only [Act.put, List.setIfInBounds_toArray, List.set_cons_zero, List.set_cons_succ]
  refine wpAnyH_take (i := 3) (oi := ⟨some 22, _, _, _, _, _⟩) (v := ?_) rfl (by kernel_rfl) (by kernel_rfl) (by kernel_rfl) (fun _ _ _ h => h) (Or.inl ⟨by rfl, ?_⟩) (by assumption) ?_
  rotate_left
  · intro w hSw; (first | (go_simp; done) | (go_simp; with_reducible rfl))
  simp only [Act.put, List.setIfInBounds_toArray, List.set_cons_zero, List.set_cons_succ]
  refine wpAnyH_ready (rs := [4]) (by kernel_rfl) (by simp) ?_
  refine AllReadyH.cons rfl (fun K hK => ?_) AllReadyH.nil
  go_simp
  go_wp2_with (go_at_call_of 13 (Value.slice p a.length cp); refine (HX.out.sum p cp a _ (HF.out _ (by assumption)).1 (HF.out _ (by assumption)).2.1 (by omega) hpn).mono ?_; rintro e wa ⟨rfl, hba⟩; rw [HD.out])
  refine hK.out _ _ ?_ (fun hHeld => ?_)
  · (try dsimp only); (first | exact two_next (by assumption) (by assumption) | exact two_alloc (by assumption) _)
  clear hK K
  refine wpAnyH_take (i := 5) (oi := ⟨some 24, _, _, _, _, _⟩) (v := ?_) rfl (by kernel_rfl) (by kernel_rfl) (by kernel_rfl) (fun _ _ _ h => h) (Or.inl ⟨by rfl, ?_⟩) (by assumption) ?_
  rotate_left
  · intro w hSw; (first | (go_simp; done) | (go_simp; with_reducible rfl))
  simp only [Act.put, List.setIfInBounds_toArray, List.set_cons_zero, List.set_cons_succ]
  refine wpAnyH_take (i := 6) (oi := ⟨some 25, _, _, _, _, _⟩) (v := ?_) rfl (by kernel_rfl) (by kernel_rfl) (by kernel_rfl) (fun _ _ _ h => h) (Or.inl ⟨by rfl, ?_⟩) (by assumption) ?_
  rotate_left
  · intro w hSw; (first | (go_simp; done) | (go_simp; with_reducible rfl))
  simp only [Act.put, List.setIfInBounds_toArray, List.set_cons_zero, List.set_cons_succ]
  refine wpAnyH_take (i := 7) (oi := ⟨some 26, _, _, _, _, _⟩) (v := ?_) rfl (by kernel_rfl) (by kernel_rfl) (by kernel_rfl) (fun _ _ _ h => h) (Or.inl ⟨by rfl, ?_⟩) (by assumption) ?_
  rotate_left
  · intro w hSw; (first | (go_simp; done) | (go_simp; with_reducible rfl))
  simp only [Act.put, List.setIfInBounds_toArray, List.set_cons_zero, List.set_cons_succ]
  refine wpAnyH_take (i := 8) (oi := ⟨some 27, _, _, _, _, _⟩) rfl (by kernel_rfl) (by kernel_rfl) (by kernel_rfl) (fun _ _ _ h => h) (yieldsIf_load_mid (by rfl) _ _ rfl _ _ rfl D _ (fun w hSw => hSw.2.2) hun rfl hin) (by assumption) ?_
  simp only [Act.put, List.setIfInBounds_toArray, List.set_cons_zero, List.set_cons_succ]
  refine wpAnyH_take (i := 9) (oi := ⟨some 28, _, _, _, _, _⟩) rfl (by kernel_rfl) (by kernel_rfl) (by kernel_rfl) (fun _ _ _ h => h) (yieldsIf_load_mid (by rfl) _ _ rfl _ _ rfl D _ (fun w hSw => hSw.2.1) hun rfl hin) (by assumption) ?_
  simp only [Act.put, List.setIfInBounds_toArray, List.set_cons_zero, List.set_cons_succ]
  refine wpAnyH_take (i := 10) (oi := ⟨some 29, _, _, _, _, _⟩) (v := ?_) rfl (by kernel_rfl) (by kernel_rfl) (by kernel_rfl) (fun _ _ _ h => h) (Or.inl ⟨by rfl, ?_⟩) (by assumption) ?_
  rotate_left
  · intro w hSw; (first | (go_simp; done) | (go_simp; with_reducible rfl))
  simp only [Act.put, List.setIfInBounds_toArray, List.set_cons_zero, List.set_cons_succ]
  refine wpAnyH_take (i := 11) (oi := ⟨some 30, _, _, _, _, _⟩) (v := ?_) rfl (by kernel_rfl) (by kernel_rfl) (by kernel_rfl) (fun _ _ _ h => h) (Or.inl ⟨by rfl, ?_⟩) (by assumption) ?_
  rotate_left
  · intro w hSw; (first | (go_simp; done) | (go_simp; with_reducible rfl))
  simp only [Act.put, List.setIfInBounds_toArray, List.set_cons_zero, List.set_cons_succ]
  refine wpAnyH_take (i := 12) (oi := ⟨some 31, _, _, _, _, _⟩) (v := ?_) rfl (by kernel_rfl) (by kernel_rfl) (by kernel_rfl) (fun _ _ _ h => h) (Or.inl ⟨by rfl, ?_⟩) (by assumption) ?_
  rotate_left
  · intro w hSw; (first | (go_simp; done) | (go_simp; with_reducible rfl))
  simp only [Act.put, List.setIfInBounds_toArray, List.set_cons_zero, List.set_cons_succ]
  refine wpAnyH_take (i := 13) (oi := ⟨some 32, _, _, _, _, _⟩) (v := ?_) rfl (by kernel_rfl) (by kernel_rfl) (by kernel_rfl) (fun _ _ _ h => h) (Or.inl ⟨by rfl, ?_⟩) (by assumption) ?_
  rotate_left
  · intro w hSw; (first | (go_simp; done) | (go_simp; with_reducible rfl))
  simp only [Act.put, List.setIfInBounds_toArray, List.set_cons_zero, List.set_cons_succ]
  refine wpAnyH_take (i := 15) (oi := ⟨some 34, _, _, _, _, _⟩) (v := ?_) rfl (by kernel_rfl) (by kernel_rfl) (by kernel_rfl) (fun _ _ _ h => h) (Or.inl ⟨by rfl, ?_⟩) (by assumption) ?_
  rotate_left
  · intro w hSw; (first | (go_simp; done) | (go_simp; with_reducible rfl))
  simp only [Act.put, List.setIfInBounds_toArray, List.set_cons_zero, List.set_cons_succ]
  refine wpAnyH_take (i := 16) (oi := ⟨some 35, _, _, _, _, _⟩) (v := ?_) rfl (by kernel_rfl) (by kernel_rfl) (by kernel_rfl) (fun _ _ _ h => h) (Or.inl ⟨by rfl, ?_⟩) (by assumption) ?_
  rotate_left
  · intro w hSw; (first | (go_simp; done) | (go_simp; with_reducible rfl))
  simp only [Act.put, List.setIfInBounds_toArray, List.set_cons_zero, List.set_cons_succ]
  refine wpAnyH_ready (rs := [14, 17]) (by kernel_rfl) (by simp) ?_
  refine AllReadyH.cons rfl (fun K hK => ?_) (AllReadyH.cons rfl (fun K hK => ?_) AllReadyH.nil)
  · skip
    go_simp
    go_wp2_with (go_at_call 21; have hT := HF.out _ (by assumption); refine (HY.out.told g AB _ hT.1 hT.2.2.2 (by omega)).mono ?_; rintro e wt ⟨rfl, hbt⟩; rw [HB.out])
    refine hK.out _ _ ?_ (fun hHeld => ?_)
    · (try dsimp only); (first | exact two_next (by assumption) (by assumption) | exact two_alloc (by assumption) _)
    clear hK K
    refine wpAnyH_ready (rs := [17]) (by kernel_rfl) (by simp) ?_
    refine AllReadyH.cons rfl (fun K hK => ?_) AllReadyH.nil
    go_simp
    refine hK.out _ _ ?_ (fun hHeld => ?_)
    · (try dsimp only); (first | exact two_next (by assumption) (by assumption) | exact two_alloc (by assumption) _)
    clear hK K
    refine wpAnyH_ready (rs := [18]) (by kernel_rfl) (by simp) ?_
    refine AllReadyH.cons rfl (fun K hK => ?_) AllReadyH.nil
    go_simp
    go_wp2_with (go_at_call 17; refine (join_c _ 2 [⟨p, cp, a⟩, ⟨q, cq, b⟩] _ (by first | exact InP.two' (HF.out _ (by assumption)).2.1 hpn (HF.out _ (by assumption)).2.2.1 hqn | exact (InP.two' hT.2.1 hpn hT.2.2.1 hqn).below hbt) (by simp) (by rw [HJ.out]; omega)).mono ?_; rintro e wj ⟨vj, rfl, hown, hbj⟩; rw [HJ.out] at hown; obtain ⟨_, pj, cj, rfl, h8j⟩ := own_in8 hown; have hnj := own_rm hown; clear hown)
    refine hK.out _ _ ?_ (fun hHeld => ?_)
    · (try dsimp only); (first | exact two_next (by assumption) (by assumption) | exact two_alloc (by assumption) _)
    clear hK K
    refine wpAnyH_ready (rs := [19]) (by kernel_rfl) (by simp) ?_
    refine AllReadyH.cons rfl (fun K hK => ?_) AllReadyH.nil
    go_simp
    go_wp2_with (go_at_call_of 13 (Value.slice pj AB.length cj); refine (HX.out.sum pj cj AB _ (HF.out _ (by assumption)).1 h8j (by omega) hnj).mono ?_; rintro e ws ⟨rfl, hbs⟩; rw [HB.out])
    refine hK.out _ _ ?_ (fun hHeld => ?_)
    · (try dsimp only); (first | exact two_next (by assumption) (by assumption) | exact two_alloc (by assumption) _)
    clear hK K
    refine wpAnyH_take (i := 20) (oi := ⟨some 39, _, _, _, _, _⟩) (v := ?_) rfl (by kernel_rfl) (by kernel_rfl) (by kernel_rfl) (fun _ _ _ h => h) (Or.inl ⟨by rfl, ?_⟩) (by assumption) ?_
    rotate_left
    · intro w hSw; (first | (go_simp; done) | (go_simp; with_reducible rfl))
    simp only [Act.put, List.setIfInBounds_toArray, List.set_cons_zero, List.set_cons_succ]
    refine wpAnyH_take (i := 21) (oi := ⟨some 40, _, _, _, _, _⟩) (v := ?_) rfl (by kernel_rfl) (by kernel_rfl) (by kernel_rfl) (fun _ _ _ h => h) (Or.inl ⟨by rfl, ?_⟩) (by assumption) ?_
    rotate_left
    · intro w hSw; (first | (go_simp; done) | (go_simp; with_reducible rfl))
    simp only [Act.put, List.setIfInBounds_toArray, List.set_cons_zero, List.set_cons_succ]
    refine wpAnyH_take (i := 22) (oi := ⟨some 41, _, _, _, _, _⟩) (v := ?_) rfl (by kernel_rfl) (by kernel_rfl) (by kernel_rfl) (fun _ _ _ h => h) (Or.inl ⟨by rfl, ?_⟩) (by assumption) ?_
    rotate_left
    · intro w hSw; (first | (go_simp; done) | (go_simp; with_reducible rfl))
    simp only [Act.put, List.setIfInBounds_toArray, List.set_cons_zero, List.set_cons_succ]
    refine wpAnyH_take (i := 23) (oi := ⟨some 42, _, _, _, _, _⟩) (v := ?_) rfl (by kernel_rfl) (by kernel_rfl) (by kernel_rfl) (fun _ _ _ h => h) (Or.inl ⟨by rfl, ?_⟩) (by assumption) ?_
    rotate_left
    · intro w hSw; (first | (go_simp; done) | (go_simp; with_reducible rfl))
    simp only [Act.put, List.setIfInBounds_toArray, List.set_cons_zero, List.set_cons_succ]
    refine wpAnyH_take (i := 25) (oi := ⟨some 44, _, _, _, _, _⟩) (v := ?_) rfl (by kernel_rfl) (by kernel_rfl) (by kernel_rfl) (fun _ _ _ h => h) (Or.inl ⟨by rfl, ?_⟩) (by assumption) ?_
    rotate_left
    · intro w hSw; (first | (go_simp; done) | (go_simp; with_reducible rfl))
    simp only [Act.put, List.setIfInBounds_toArray, List.set_cons_zero, List.set_cons_succ]
    refine wpAnyH_take (i := 27) (oi := ⟨some 46, _, _, _, _, _⟩) (v := ?_) rfl (by kernel_rfl) (by kernel_rfl) (by kernel_rfl) (fun _ _ _ h => h) (Or.inl ⟨by rfl, ?_⟩) (by assumption) ?_
    rotate_left
    · intro w hSw; (first | (go_simp; done) | (go_simp; with_reducible rfl))
    simp only [Act.put, List.setIfInBounds_toArray, List.set_cons_zero, List.set_cons_succ]
    refine wpAnyH_take (i := 26) (oi := ⟨some 45, _, _, _, _, _⟩) (v := ?_) rfl (by kernel_rfl) (by kernel_rfl) (by kernel_rfl) (fun _ _ _ h => h) (Or.inl ⟨by rfl, ?_⟩) (by assumption) ?_
    rotate_left
    · intro w hSw; (first | (go_simp; done) | (go_simp; with_reducible rfl))
    simp only [Act.put, List.setIfInBounds_toArray, List.set_cons_zero, List.set_cons_succ]
    refine wpAnyH_take (i := 28) (oi := ⟨some 47, _, _, _, _, _⟩) (v := ?_) rfl (by kernel_rfl) (by kernel_rfl) (by kernel_rfl) (fun _ _ _ h => h) (Or.inl ⟨by rfl, ?_⟩) (by assumption) ?_
    rotate_left
    · intro w hSw; (first | (go_simp; done) | (go_simp; with_reducible rfl))
    simp only [Act.put, List.setIfInBounds_toArray, List.set_cons_zero, List.set_cons_succ]
    refine wpAnyH_take (i := 29) (oi := ⟨some 48, _, _, _, _, _⟩) (v := ?_) rfl (by kernel_rfl) (by kernel_rfl) (by kernel_rfl) (fun _ _ _ h => h) (Or.inl ⟨by rfl, ?_⟩) (by assumption) ?_
    rotate_left
    · intro w hSw; (first | (go_simp; done) | (go_simp; with_reducible rfl))
    simp only [Act.put, List.setIfInBounds_toArray, List.set_cons_zero, List.set_cons_succ]
    refine wpAnyH_ready (rs := [24]) (by kernel_rfl) (by simp) ?_
    refine AllReadyH.cons rfl (fun K hK => ?_) AllReadyH.nil
    go_simp
    go_wp2_with (go_at_call 20; refine (HY.out.len g AB _ (HF.out _ (by assumption)).1 (HF.out _ (by assumption)).2.2.2 (by omega)).mono ?_; rintro e wl ⟨rfl, hbl⟩; rw [HLEN.out])
    refine hK.out _ _ ?_ (fun hHeld => ?_)
    · (try dsimp only); (first | exact two_next (by assumption) (by assumption) | exact two_alloc (by assumption) _)
    clear hK K
    refine wpAnyH_take (i := 30) (oi := ⟨some 49, _, _, _, _, _⟩) (v := ?_) rfl (by kernel_rfl) (by kernel_rfl) (by kernel_rfl) (fun _ _ _ h => h) (Or.inl ⟨by rfl, ?_⟩) (by assumption) ?_
    rotate_left
    · intro w hSw; (first | (go_simp; done) | (go_simp; with_reducible rfl))
    simp only [Act.put, List.setIfInBounds_toArray, List.set_cons_zero, List.set_cons_succ]
    refine wpAnyH_take (i := 31) (oi := ⟨some 50, _, _, _, _, _⟩) (v := ?_) rfl (by kernel_rfl) (by kernel_rfl) (by kernel_rfl) (fun _ _ _ h => h) (Or.inl ⟨by rfl, ?_⟩) (by assumption) ?_
    rotate_left
    · intro w hSw; (first | (go_simp; done) | (go_simp; with_reducible rfl))
    simp only [Act.put, List.setIfInBounds_toArray, List.set_cons_zero, List.set_cons_succ]
    refine wpAnyH_take (i := 32) (oi := ⟨some 4, _, _, _, _, _⟩) (v := ?_) rfl (by kernel_rfl) (by kernel_rfl) (by kernel_rfl) (fun _ _ _ h => h) (Or.inl ⟨by rfl, ?_⟩) (by assumption) ?_
    rotate_left
    · intro w hSw; (first | (go_simp; done) | (go_simp; with_reducible rfl))
    simp only [Act.put, List.setIfInBounds_toArray, List.set_cons_zero, List.set_cons_succ]
    refine wpAnyH_done (by kernel_rfl) ?_ _
    refine NoPanic.normal ?_
    go_wp2_with fail
    go_ret
    exact two_end HB7.out (by assumption)
  · skip
    go_simp
    refine hK.out _ _ ?_ (fun hHeld => ?_)
    · (try dsimp only); (first | exact two_next (by assumption) (by assumption) | exact two_alloc (by assumption) _)
    clear hK K
    refine wpAnyH_ready (rs := [14]) (by kernel_rfl) (by simp) ?_
    refine AllReadyH.cons rfl (fun K hK => ?_) AllReadyH.nil
    go_simp
    go_wp2_with (go_at_call 21; have hT := HF.out _ (by assumption); refine (HY.out.told g AB _ hT.1 hT.2.2.2 (by omega)).mono ?_; rintro e wt ⟨rfl, hbt⟩; rw [HB.out])
    refine hK.out _ _ ?_ (fun hHeld => ?_)
    · (try dsimp only); (first | exact two_next (by assumption) (by assumption) | exact two_alloc (by assumption) _)
    clear hK K
    refine wpAnyH_ready (rs := [18]) (by kernel_rfl) (by simp) ?_
    refine AllReadyH.cons rfl (fun K hK => ?_) AllReadyH.nil
    go_simp
    go_wp2_with (go_at_call 17; refine (join_c _ 2 [⟨p, cp, a⟩, ⟨q, cq, b⟩] _ (by first | exact InP.two' (HF.out _ (by assumption)).2.1 hpn (HF.out _ (by assumption)).2.2.1 hqn | exact (InP.two' hT.2.1 hpn hT.2.2.1 hqn).below hbt) (by simp) (by rw [HJ.out]; omega)).mono ?_; rintro e wj ⟨vj, rfl, hown, hbj⟩; rw [HJ.out] at hown; obtain ⟨_, pj, cj, rfl, h8j⟩ := own_in8 hown; have hnj := own_rm hown; clear hown)
    refine hK.out _ _ ?_ (fun hHeld => ?_)
    · (try dsimp only); (first | exact two_next (by assumption) (by assumption) | exact two_alloc (by assumption) _)
    clear hK K
    refine wpAnyH_ready (rs := [19]) (by kernel_rfl) (by simp) ?_
    refine AllReadyH.cons rfl (fun K hK => ?_) AllReadyH.nil
    go_simp
    go_wp2_with (go_at_call_of 13 (Value.slice pj AB.length cj); refine (HX.out.sum pj cj AB _ (HF.out _ (by assumption)).1 h8j (by omega) hnj).mono ?_; rintro e ws ⟨rfl, hbs⟩; rw [HB.out])
    refine hK.out _ _ ?_ (fun hHeld => ?_)
    · (try dsimp only); (first | exact two_next (by assumption) (by assumption) | exact two_alloc (by assumption) _)
    clear hK K
    refine wpAnyH_take (i := 20) (oi := ⟨some 39, _, _, _, _, _⟩) (v := ?_) rfl (by kernel_rfl) (by kernel_rfl) (by kernel_rfl) (fun _ _ _ h => h) (Or.inl ⟨by rfl, ?_⟩) (by assumption) ?_
    rotate_left
    · intro w hSw; (first | (go_simp; done) | (go_simp; with_reducible rfl))
    simp only [Act.put, List.setIfInBounds_toArray, List.set_cons_zero, List.set_cons_succ]
    refine wpAnyH_take (i := 21) (oi := ⟨some 40, _, _, _, _, _⟩) (v := ?_) rfl (by kernel_rfl) (by kernel_rfl) (by kernel_rfl) (fun _ _ _ h => h) (Or.inl ⟨by rfl, ?_⟩) (by assumption) ?_
    rotate_left
    · intro w hSw; (first | (go_simp; done) | (go_simp; with_reducible rfl))
    simp only [Act.put, List.setIfInBounds_toArray, List.set_cons_zero, List.set_cons_succ]
    refine wpAnyH_take (i := 22) (oi := ⟨some 41, _, _, _, _, _⟩) (v := ?_) rfl (by kernel_rfl) (by kernel_rfl) (by kernel_rfl) (fun _ _ _ h => h) (Or.inl ⟨by rfl, ?_⟩) (by assumption) ?_
    rotate_left
    · intro w hSw; (first | (go_simp; done) | (go_simp; with_reducible rfl))
    simp only [Act.put, List.setIfInBounds_toArray, List.set_cons_zero, List.set_cons_succ]
    refine wpAnyH_take (i := 23) (oi := ⟨some 42, _, _, _, _, _⟩) (v := ?_) rfl (by kernel_rfl) (by kernel_rfl) (by kernel_rfl) (fun _ _ _ h => h) (Or.inl ⟨by rfl, ?_⟩) (by assumption) ?_
    rotate_left
    · intro w hSw; (first | (go_simp; done) | (go_simp; with_reducible rfl))
    simp only [Act.put, List.setIfInBounds_toArray, List.set_cons_zero, List.set_cons_succ]
    refine wpAnyH_take (i := 25) (oi := ⟨some 44, _, _, _, _, _⟩) (v := ?_) rfl (by kernel_rfl) (by kernel_rfl) (by kernel_rfl) (fun _ _ _ h => h) (Or.inl ⟨by rfl, ?_⟩) (by assumption) ?_
    rotate_left
    · intro w hSw; (first | (go_simp; done) | (go_simp; with_reducible rfl))
    simp only [Act.put, List.setIfInBounds_toArray, List.set_cons_zero, List.set_cons_succ]
    refine wpAnyH_take (i := 27) (oi := ⟨some 46, _, _, _, _, _⟩) (v := ?_) rfl (by kernel_rfl) (by kernel_rfl) (by kernel_rfl) (fun _ _ _ h => h) (Or.inl ⟨by rfl, ?_⟩) (by assumption) ?_
    rotate_left
    · intro w hSw; (first | (go_simp; done) | (go_simp; with_reducible rfl))
    simp only [Act.put, List.setIfInBounds_toArray, List.set_cons_zero, List.set_cons_succ]
    refine wpAnyH_take (i := 26) (oi := ⟨some 45, _, _, _, _, _⟩) (v := ?_) rfl (by kernel_rfl) (by kernel_rfl) (by kernel_rfl) (fun _ _ _ h => h) (Or.inl ⟨by rfl, ?_⟩) (by assumption) ?_
    rotate_left
    · intro w hSw; (first | (go_simp; done) | (go_simp; with_reducible rfl))
    simp only [Act.put, List.setIfInBounds_toArray, List.set_cons_zero, List.set_cons_succ]
    refine wpAnyH_take (i := 28) (oi := ⟨some 47, _, _, _, _, _⟩) (v := ?_) rfl (by kernel_rfl) (by kernel_rfl) (by kernel_rfl) (fun _ _ _ h => h) (Or.inl ⟨by rfl, ?_⟩) (by assumption) ?_
    rotate_left
    · intro w hSw; (first | (go_simp; done) | (go_simp; with_reducible rfl))
    simp only [Act.put, List.setIfInBounds_toArray, List.set_cons_zero, List.set_cons_succ]
    refine wpAnyH_take (i := 29) (oi := ⟨some 48, _, _, _, _, _⟩) (v := ?_) rfl (by kernel_rfl) (by kernel_rfl) (by kernel_rfl) (fun _ _ _ h => h) (Or.inl ⟨by rfl, ?_⟩) (by assumption) ?_
    rotate_left
    · intro w hSw; (first | (go_simp; done) | (go_simp; with_reducible rfl))
    simp only [Act.put, List.setIfInBounds_toArray, List.set_cons_zero, List.set_cons_succ]
    refine wpAnyH_ready (rs := [24]) (by kernel_rfl) (by simp) ?_
    refine AllReadyH.cons rfl (fun K hK => ?_) AllReadyH.nil
    go_simp
    go_wp2_with (go_at_call 20; refine (HY.out.len g AB _ (HF.out _ (by assumption)).1 (HF.out _ (by assumption)).2.2.2 (by omega)).mono ?_; rintro e wl ⟨rfl, hbl⟩; rw [HLEN.out])
    refine hK.out _ _ ?_ (fun hHeld => ?_)
    · (try dsimp only); (first | exact two_next (by assumption) (by assumption) | exact two_alloc (by assumption) _)
    clear hK K
    refine wpAnyH_take (i := 30) (oi := ⟨some 49, _, _, _, _, _⟩) (v := ?_) rfl (by kernel_rfl) (by kernel_rfl) (by kernel_rfl) (fun _ _ _ h => h) (Or.inl ⟨by rfl, ?_⟩) (by assumption) ?_
    rotate_left
    · intro w hSw; (first | (go_simp; done) | (go_simp; with_reducible rfl))
    simp only [Act.put, List.setIfInBounds_toArray, List.set_cons_zero, List.set_cons_succ]
    refine wpAnyH_take (i := 31) (oi := ⟨some 50, _, _, _, _, _⟩) (v := ?_) rfl (by kernel_rfl) (by kernel_rfl) (by kernel_rfl) (fun _ _ _ h => h) (Or.inl ⟨by rfl, ?_⟩) (by assumption) ?_
    rotate_left
    · intro w hSw; (first | (go_simp; done) | (go_simp; with_reducible rfl))
    simp only [Act.put, List.setIfInBounds_toArray, List.set_cons_zero, List.set_cons_succ]
    refine wpAnyH_take (i := 32) (oi := ⟨some 4, _, _, _, _, _⟩) (v := ?_) rfl (by kernel_rfl) (by kernel_rfl) (by kernel_rfl) (fun _ _ _ h => h) (Or.inl ⟨by rfl, ?_⟩) (by assumption) ?_
    rotate_left
    · intro w hSw; (first | (go_simp; done) | (go_simp; with_reducible rfl))
    simp only [Act.put, List.setIfInBounds_toArray, List.set_cons_zero, List.set_cons_succ]
    refine wpAnyH_done (by kernel_rfl) ?_ _
    refine NoPanic.normal ?_
    go_wp2_with fail
    go_ret
    exact two_end HB7.out (by assumption)
end Go.Proofs.YtohmhcglmaifpaaDoor.sha
