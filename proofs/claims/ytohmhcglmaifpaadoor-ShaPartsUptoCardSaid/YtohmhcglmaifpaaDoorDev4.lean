/- The contract of Hash.take: a block is taken. Condition: the two tables hold what the program's text lays. -/
import Derived.Test.YtohmhcglmaifpaaDoorDev3
import Derived.Deep.RegionHeld3
import Derived.Deep.DeepCutAuto
import Derived.StillTailTactics
namespace Go.Proofs.YtohmhcglmaifpaaDoor.sha
open Go.RowKit
open Go.Proofs.YtohmhcglmaifpaaDoor.oct Go.Proofs.YtohmhcglmaifpaaDoor.ref Go.Proofs.YtohmhcglmaifpaaDoor.rows
open Go.Lib (byteCells)

theorem not_xor (e : Nat) (he : e < 4294967296) : 4294967295 ^^^ e = 4294967295 - e := by
  have h := BitVec.toNat_not (x := BitVec.ofNat 32 e)
  rw [← BitVec.allOnes_xor] at h
  simp only [BitVec.toNat_xor, BitVec.toNat_allOnes, BitVec.toNat_ofNat] at h
  rw [Nat.mod_eq_of_lt (show e < 2 ^ 32 from he)] at h
  simpa using h
theorem wp_store_blk {P : Program} {o : Oper} {a : Act} {w : World} {K : Act → World → Prop} {Q : Exit → Act → World → Prop} (ty : TypeId) (x y : Operand) (ho : o.op = .store ty x y)
    (g : Nat) (X old : List Value) (t : TypeId) (hB : Blk w g t old) (hx : a.eval x = .pointer (some ⟨g, 0, none⟩)) (hy : a.eval y = .agg X.toArray) (hi : (P.info? ty).map (·.size) = some X.length)
    (hold : old.length = X.length) (h1 : ∀ v ∈ X, v.oneCell' = true)
    (h : ∀ w1, Blk w1 g t X → Wrote w w1 g → K (a.put o.dst undef) w1) : o.wp P a w K Q := by
  refine wp_store_row ty x y ho g X.toArray hx hy t old.toArray hB (by rw [hi, List.size_toArray]) (by rw [List.size_toArray, List.size_toArray, hold]) (by rw [Array.all_eq_true]; intro i hi2; exact h1 _ (by simp)) ?_
  exact h _ (setRow_heap _ _ _ _ _ _ hB) ⟨by simp, fun k hk => setRow_other _ _ _ _ hk, fun B w0 hb hg => below_setRow hb hg _⟩
theorem step_store_blk {P : Program} {ops : Array Oper} {o : Oper} {a : Act} {w : World} {K : Act → World → Prop} {Q : Exit → Act → World → Prop} {E : Prop} (hgd : o.guard = none) (ty : TypeId) (x y : Operand) (ho : o.op = .store ty x y)
    (g : Nat) (X old : List Value) (t : TypeId) (hB : Blk w g t old) (hx : a.eval x = .pointer (some ⟨g, 0, none⟩)) (hy : a.eval y = .agg X.toArray) (hi : (P.info? ty).map (·.size) = some X.length)
    (hold : old.length = X.length) (h1 : ∀ v ∈ X, v.oneCell' = true)
    (h : ∀ w1, Blk w1 g t X → Wrote w w1 g → K (a.put o.dst undef) w1) : if Region.wanted o (yielded ops a.tmps) = true then Oper.wp P o a w K Q else E := by
  have hw : Region.wanted o (yielded ops a.tmps) = true := by simp [Region.wanted, hgd]
  rw [if_pos hw]
  exact wp_store_blk ty x y ho g X old t hB hx hy hi hold h1 h
theorem ch_val2 (e f g : Nat) (he : e < 4294967296) (hf : f < 4294967296) (hg : g < 4294967296) :
    bits .xor .u32 (bits .and .u32 (e : Int) (f : Int)) (bits .and .u32 (bits .xor .u32 (if IntKind.u32.signed = true then -1 else IntKind.u32.max) (e : Int)) (g : Int)) = ((ch e f g : Nat) : Int) := by
  have h : bits .xor .u32 (if IntKind.u32.signed = true then -1 else IntKind.u32.max) (e : Int) = 4294967295 - (e : Int) := by
    rw [show (if IntKind.u32.signed = true then (-1 : Int) else IntKind.u32.max) = ((4294967295 : Nat) : Int) from by decide, xor_u32 _ e (by decide) he]
    have hx : 4294967295 ^^^ e = 4294967295 - e := not_xor e he
    rw [hx]; omega
  rw [h]
  exact ch_val e f g he hf hg
theorem grown_of_below {w w' : World} (g : Nat) (h : Below w.heap.size w w') : w.grownBy w' (some g) := ⟨h.os, h.tape, h.output, h.size, fun i hi _ => h.block i hi⟩
theorem grown_set {w w' : World} {g : Nat} (h : w.grownBy w' (some g)) (i : Nat) (v : Value) : w.grownBy (w'.drew.setCell ⟨g, i, none⟩ v) (some g) :=
  ⟨h.os, h.tape, h.output, by simpa [World.setCell] using h.size, fun k hk hr => by
    rw [Below.heap_setCell _ _ _ _ (fun e => hr (congrArg some e))]
    exact h.block k hk hr⟩
/-- eight words, as a state -/
def stOf (h : Nat → Nat) : St := ⟨h 0, h 1, h 2, h 3, h 4, h 5, h 6, h 7⟩
theorem stOf_at (h : Nat → Nat) (j : Nat) (hj : j < 8) : (stOf h).at j = h j := by
  match j, hj with
  | 0, _ => rfl
  | 1, _ => rfl
  | 2, _ => rfl
  | 3, _ => rfl
  | 4, _ => rfl
  | 5, _ => rfl
  | 6, _ => rfl
  | 7, _ => rfl
theorem stOf_ok {h : Nat → Nat} (k : ∀ i, i < 8 → h i < 4294967296) : (stOf h).ok :=
  ⟨k 0 (by decide), k 1 (by decide), k 2 (by decide), k 3 (by decide), k 4 (by decide), k 5 (by decide), k 6 (by decide), k 7 (by decide)⟩
theorem wsum_lt (f : Nat → Nat) (i : Nat) : wsum f i < 4294967296 := Nat.mod_lt _ (by decide)
/-- what the words have been moved on by, behind the block -/
def moved (f : Nat → Nat) (b : Nat → UInt8) (i : Nat) : Nat := (f i + (rnds (stOf (wsum f)) (brow 64 b) 64).at i) % 4294967296
theorem moved_lt (f b i) : moved f b i < 4294967296 := Nat.mod_lt _ (by decide)
theorem moved_sum (f : Nat → Nat) (b : Nat → UInt8) : stOf (wsum (moved f b)) = takeB (stOf (wsum f)) (brow 64 b) := by
  have e : ∀ j, j < 8 → wsum (moved f b) j = (takeB (stOf (wsum f)) (brow 64 b)).at j := by
    intro j hj
    unfold takeB
    rw [plus_at _ _ _ hj, stOf_at _ _ hj]
    unfold wsum moved
    unfold wsum
    omega
  generalize takeB (stOf (wsum f)) (brow 64 b) = T at e ⊢
  unfold stOf
  rw [e 0 (by decide), e 1 (by decide), e 2 (by decide), e 3 (by decide), e 4 (by decide), e 5 (by decide), e 6 (by decide), e 7 (by decide)]
  cases T
  rfl
/-- what take's first statement holds to -/
theorem one_next {w0 W W' : World} {g o : Nat} {D : List Value} (hb : Below W.heap.size W W') (k : Below w0.heap.size w0 W ∧ W.rangeAt g o D) : Below w0.heap.size w0 W' ∧ W'.rangeAt g o D := by
  refine ⟨bnext k.1 hb, fun j v hv => ?_⟩
  have h1 := k.2 j v hv
  have h2 : W'.heap[g]? = W.heap[g]? := hb.block g (cell_lt h1)
  simpa [World.cell?, h2] using h1
theorem one_alloc {w0 W : World} {g o : Nat} {D : List Value} (k : Below w0.heap.size w0 W ∧ W.rangeAt g o D) (ob : Obj) : Below w0.heap.size w0 (W.alloc ob) ∧ (W.alloc ob).rangeAt g o D :=
  one_next ((Below.refl _ _).alloc (Nat.le_refl _) ob) k
theorem one_wrote {w0 W W' : World} {g o h : Nat} {D : List Value} (k : Below w0.heap.size w0 W ∧ W.rangeAt g o D) (hw : Wrote W W' h) (hg : g < w0.heap.size) (hh : w0.heap.size ≤ h) : Below w0.heap.size w0 W' ∧ W'.rangeAt g o D := by
  refine ⟨hw.below _ _ k.1 hh, fun j v hv => ?_⟩
  have h1 := k.2 j v hv
  have h2 : W'.heap[g]? = W.heap[g]? := hw.other g (by omega)
  simpa [World.cell?, h2] using h1
theorem info50 : (Tryd.prog.info? 50).map (·.size) = some 64 := by kernel_rfl

set_option maxRecDepth 100000 in
set_option maxHeartbeats 4000000 in
theorem htake_c (g : Nat) (f : Nat → Nat) (b : Nat → UInt8) (n : Nat) (w : World) (ht : Tabs w) (hf : ∀ i, i < 8 → f i < 4294967296) (hB : Blk w g 52 (hrow f b n)) :
    Calls Tryd.prog 30 #[.pointer (some ⟨g, 0, none⟩)] w fun e w' => (∃ v, e = .returned v) ∧ Blk w' g 52 (hrow (moved f b) b n) ∧ w.grownBy w' (some g) := by
  have HT := Lib.hid ht
  have HF := Lib.hid hf
  have HB := Lib.hid hB
  have HS : Hid ((stOf (wsum f)).ok) := stOf_ok fun i _ => wsum_lt f i
  have HMV : Hid (∀ i, i < 8 → moved f b i = (f i + (rnds (stOf (wsum f)) (brow 64 b) 64).at i) % 4294967296) := fun i _ => rfl
  have HAT : Hid (∀ i, i < 8 → wsum f i = (stOf (wsum f)).at i) := fun i hi => (stOf_at _ i hi).symm
  obtain ⟨v, hv⟩ : ∃ v, stOf (wsum f) = v := ⟨_, rfl⟩
  have HWS : Hid (row 8 (wsum f) = row 8 v.at) := by show _ = _; rw [← hv]; exact row_eq fun i hi => (stOf_at _ i hi).symm
  rw [hv] at HS HMV HAT
  have HL : Hid ((brow 64 b).length = 64) := brow_len 64 b
  obtain ⟨l, hl⟩ : ∃ l, brow 64 b = l := ⟨_, rfl⟩
  have HRB : Hid (∀ W, Below w.heap.size w W → W.rangeAt g 8 (byteCells l)) := fun W hb => hl ▸ range_bytes (hB.below hb)
  rw [hl] at HMV HL
  have hD0 : w.drew.rangeAt g 8 (byteCells l) := HRB.out _ (Below.refl _ _).drew
  have hin : (Tryd.prog.info? 50).map (·.size) = some (byteCells l).length := by rw [byteCells_len, HL.out]; exact info50
  have hun := Tryd.underlying50
  have hgl := Blk.lt hB
  have hd0 := (Below.refl w.heap.size w).drew
  obtain ⟨D, hD⟩ : ∃ D, byteCells l = D := ⟨_, rfl⟩
  rw [hD] at hD0 hin
  have HD := Lib.hid hD
  have hXl := row_len 8 v.at
  have hX1 := row_one 8 v.at
  have hXi : Hid ((Tryd.prog.info? 46).map (·.size) = some (wcells (row 8 v.at)).length) := by show _ = _; rw [hXl]; exact info8
  have hWl := row_len 64 (wd l)
  have hW1 := row_one 64 (wd l)
  have hWi : Hid ((Tryd.prog.info? 57).map (·.size) = some (wcells (row 64 (wd l))).length) := by show _ = _; rw [hWl]; exact info64
  obtain ⟨X, hXe⟩ : ∃ X, wcells (row 8 v.at) = X := ⟨_, rfl⟩
  obtain ⟨Y, hYe⟩ : ∃ Y, wcells (row 64 (wd l)) = Y := ⟨_, rfl⟩
  rw [hXe] at hXl hX1 hXi
  rw [hYe] at hWl hW1 hWi
  have HXl := Lib.hid hXl
  have HX1 := Lib.hid hX1
  have HWl := Lib.hid hWl
  have HW1 := Lib.hid hW1
  have HXE := Lib.hid hXe
  have HYE := Lib.hid hYe
  have CW : Hid (∀ W, Below w.heap.size w W → Calls Tryd.prog 32 #[.pointer (some ⟨g, 0, none⟩)] W fun e w' => e = .returned (.agg X.toArray) ∧ Below W.heap.size W w') := fun W hb => by
    have h := hwords_c g f b n W (ht.below hb) hf (hB.below hb)
    rw [HWS.out, hXe] at h
    exact h
  have CS : Hid (∀ W, Calls Tryd.prog 36 #[.agg D.toArray] W fun e w' => e = .returned (.agg Y.toArray) ∧ Below W.heap.size W w') := fun W => by
    have h := spread_c l W HL.out
    rw [hD, hYe] at h
    exact h
  clear ht hf hB hv hl hD hXe hYe hXl hX1 hWl hW1
  go_enter Tryd.func30, Tryd.ntmps30
  go_upto_region 0 with fail
  go_cut [2, 3] from 20 to 26 (fun s2 s3 wx => ∃ g2 g3 : Nat, s2 = .pointer (some ⟨g2, 0, none⟩) ∧ s3 = .pointer (some ⟨g3, 0, none⟩) ∧ Hid (w.heap.size ≤ g2 ∧ w.heap.size ≤ g3 ∧ g2 ≠ g3) ∧ Blk wx g2 46 X ∧ Blk wx g3 57 Y ∧ Below w.heap.size w wx)
  case first =>
    refine wp_region_noPanic ?_
    refine wp_region_held_drew (S := (fun W => Below w.heap.size w W ∧ W.rangeAt g 8 D)) (by kernel_rfl) ⟨hd0, hD0⟩ (fun hHeld => ?_)
    refine wpAnyH_take (i := 0) (oi := ⟨some 20, _, _, _, _, _⟩) (v := ?_) rfl (by kernel_rfl) (by kernel_rfl) (by kernel_rfl) (fun _ _ _ h => h) (Or.inl ⟨by rfl, ?_⟩) (by assumption) ?_
    rotate_left
    · intro w hSw; (first | (go_simp; done) | (go_simp; with_reducible rfl))
    simp only [Act.put, List.setIfInBounds_toArray, List.set_cons_zero, List.set_cons_succ]
    refine wpAnyH_take (i := 2) (oi := ⟨some 22, _, _, _, _, _⟩) (v := ?_) rfl (by kernel_rfl) (by kernel_rfl) (by kernel_rfl) (fun _ _ _ h => h) (Or.inl ⟨by rfl, ?_⟩) (by assumption) ?_
    rotate_left
    · intro w hSw; (first | (go_simp; done) | (go_simp; with_reducible rfl))
    simp only [Act.put, List.setIfInBounds_toArray, List.set_cons_zero, List.set_cons_succ]
    refine wpAnyH_take (i := 3) (oi := ⟨some 23, _, _, _, _, _⟩) (v := ?_) rfl (by kernel_rfl) (by kernel_rfl) (by kernel_rfl) (fun _ _ _ h => h) (Or.inl ⟨by rfl, ?_⟩) (by assumption) ?_
    rotate_left
    · intro w hSw; (first | (go_simp; done) | (go_simp; with_reducible rfl))
    simp only [Act.put, List.setIfInBounds_toArray, List.set_cons_zero, List.set_cons_succ]
    refine wpAnyH_take (i := 4) (oi := ⟨some 24, _, _, _, _, _⟩) (v := ?_) rfl (by kernel_rfl) (by kernel_rfl) (by kernel_rfl) (fun _ _ _ h => h) (Or.inl ⟨by rfl, ?_⟩) (by assumption) ?_
    rotate_left
    · intro w hSw; (first | (go_simp; done) | (go_simp; with_reducible rfl))
    simp only [Act.put, List.setIfInBounds_toArray, List.set_cons_zero, List.set_cons_succ]
    refine wpAnyH_take (i := 5) (oi := ⟨some 25, _, _, _, _, _⟩) rfl (by kernel_rfl) (by kernel_rfl) (by kernel_rfl) (fun _ _ _ h => h) (yieldsIf_load_mid (by rfl) _ _ rfl _ _ rfl D _ (fun w hSw => hSw.2) hun rfl hin) (by assumption) ?_
    simp only [Act.put, List.setIfInBounds_toArray, List.set_cons_zero, List.set_cons_succ]
    obtain ⟨wx0, hwx⟩ : ∃ x, x = w.drew := ⟨_, rfl⟩
    rw [← hwx] at hHeld ⊢
    clear hwx hd0 hD0
    refine wpAnyH_ready (rs := [1, 7, 8]) (by kernel_rfl) (by simp) ?_
    refine AllReadyH.cons rfl (fun K hK => ?_) (AllReadyH.cons rfl (fun K hK => ?_) (AllReadyH.cons rfl (fun K hK => ?_) AllReadyH.nil))
    · skip
      go_simp
      go_wp2_with (go_at_call 32; refine (CW.out _ hHeld.1).mono ?_; rintro e wx1 ⟨rfl, hbk⟩)
      refine hK.out _ _ (one_next hbk hHeld) (fun hHeld => ?_)
      clear hK K hbk
      refine wpAnyH_ready (rs := [6, 7, 8]) (by kernel_rfl) (by simp) ?_
      refine AllReadyH.cons rfl (fun K hK => ?_) (AllReadyH.cons rfl (fun K hK => ?_) (AllReadyH.cons rfl (fun K hK => ?_) AllReadyH.nil))
      · skip
        go_simp
        go_wp2_with (go_at_call 36; refine (CS.out _).mono ?_; rintro e wx2 ⟨rfl, hbk⟩)
        refine hK.out _ _ (one_next hbk hHeld) (fun hHeld => ?_)
        clear hK K hbk
        refine wpAnyH_ready (rs := [7, 8]) (by kernel_rfl) (by simp) ?_
        refine AllReadyH.cons rfl (fun K hK => ?_) (AllReadyH.cons rfl (fun K hK => ?_) AllReadyH.nil)
        · skip
          have hle2 := hHeld.1.size
          go_simp
          go_wp2_with fail
          refine hK.out _ _ (one_alloc hHeld _) (fun hHeld => ?_)
          clear hK K
          have A2 := blk_new wx2 _ 46 (wcells (row 8 fun _ => 0)) rfl
          change wpAnyH _ _ _ _ _ _ _ _ (wx2.alloc (.cells (wcells (row 8 fun _ => 0)).toArray 46))
          replace hHeld : Below w.heap.size w (wx2.alloc (.cells (wcells (row 8 fun _ => 0)).toArray 46)) ∧ World.rangeAt (wx2.alloc (.cells (wcells (row 8 fun _ => 0)).toArray 46)) g 8 D := hHeld
          obtain ⟨wx3, hwn⟩ : ∃ x, x = wx2.alloc (.cells (wcells (row 8 fun _ => 0)).toArray 46) := ⟨_, rfl⟩
          rw [← hwn] at A2 hHeld ⊢
          obtain ⟨g2, hg2⟩ : ∃ x, x = wx2.heap.size := ⟨_, rfl⟩
          rw [← hg2] at A2 hle2 ⊢
          clear hwn hg2
          refine wpAnyH_ready (rs := [8]) (by kernel_rfl) (by simp) ?_
          refine AllReadyH.cons rfl (fun K hK => ?_) AllReadyH.nil
          have hle3 := hHeld.1.size
          go_simp
          go_wp2_with fail
          refine hK.out _ _ (one_alloc hHeld _) (fun hHeld => ?_)
          clear hK K
          have A3 := blk_new wx3 _ 57 (wcells (row 64 fun _ => 0)) rfl
          have hlt := A2.lt
          replace A2 := blk_old A2 (.cells (wcells (row 64 fun _ => 0)).toArray 57)
          change wpAnyH _ _ _ _ _ _ _ _ (wx3.alloc (.cells (wcells (row 64 fun _ => 0)).toArray 57))
          replace hHeld : Below w.heap.size w (wx3.alloc (.cells (wcells (row 64 fun _ => 0)).toArray 57)) ∧ World.rangeAt (wx3.alloc (.cells (wcells (row 64 fun _ => 0)).toArray 57)) g 8 D := hHeld
          obtain ⟨wx4, hwn⟩ : ∃ x, x = wx3.alloc (.cells (wcells (row 64 fun _ => 0)).toArray 57) := ⟨_, rfl⟩
          rw [← hwn] at A2 A3 hHeld ⊢
          obtain ⟨g3, hg3⟩ : ∃ x, x = wx3.heap.size := ⟨_, rfl⟩
          rw [← hg3] at A3 hle3 ⊢
          rw [← hg3] at hlt
          clear hwn hg3
          have hne : g2 ≠ g3 := by omega
          refine wpAnyH_ready (rs := [9]) (by kernel_rfl) (by simp) ?_
          refine AllReadyH.cons rfl (fun K hK => ?_) AllReadyH.nil
          refine step_store_blk rfl 46 (.tmp 2) (.tmp 21) rfl g2 X (wcells (row 8 fun _ => 0)) 46 A2 rfl rfl hXi.out (by rw [row_len]; exact HXl.out.symm) HX1.out ?_
          intro wa hA hW
          refine hK.out _ _ (one_wrote hHeld hW hgl hle2) (fun hHeld => ?_)
          replace A3 := hW.blk A3 hne.symm
          clear hK K hW A2
          refine wpAnyH_ready (rs := [10]) (by kernel_rfl) (by simp) ?_
          refine AllReadyH.cons rfl (fun K hK => ?_) AllReadyH.nil
          refine step_store_blk rfl 57 (.tmp 3) (.tmp 26) rfl g3 Y (wcells (row 64 fun _ => 0)) 57 A3 rfl rfl hWi.out (by rw [row_len]; exact HWl.out.symm) HW1.out ?_
          intro wb hC hW
          refine hK.out _ _ (one_wrote hHeld hW hgl hle3) (fun hHeld => ?_)
          replace hA := hW.blk hA hne
          clear hK K hW A3
          refine wpAnyH_done (by kernel_rfl) ?_ _
          refine NoPanic.normal ?_
          go_wp2_with fail
          go_meet
          exact ⟨g2, g3, rfl, rfl, ⟨hle2, hle3, hne⟩, hA, hC, hHeld.1⟩
        · skip
          have hle3 := hHeld.1.size
          go_simp
          go_wp2_with fail
          refine hK.out _ _ (one_alloc hHeld _) (fun hHeld => ?_)
          clear hK K
          have A3 := blk_new wx2 _ 57 (wcells (row 64 fun _ => 0)) rfl
          change wpAnyH _ _ _ _ _ _ _ _ (wx2.alloc (.cells (wcells (row 64 fun _ => 0)).toArray 57))
          replace hHeld : Below w.heap.size w (wx2.alloc (.cells (wcells (row 64 fun _ => 0)).toArray 57)) ∧ World.rangeAt (wx2.alloc (.cells (wcells (row 64 fun _ => 0)).toArray 57)) g 8 D := hHeld
          obtain ⟨wx3, hwn⟩ : ∃ x, x = wx2.alloc (.cells (wcells (row 64 fun _ => 0)).toArray 57) := ⟨_, rfl⟩
          rw [← hwn] at A3 hHeld ⊢
          obtain ⟨g3, hg3⟩ : ∃ x, x = wx2.heap.size := ⟨_, rfl⟩
          rw [← hg3] at A3 hle3 ⊢
          clear hwn hg3
          refine wpAnyH_ready (rs := [7]) (by kernel_rfl) (by simp) ?_
          refine AllReadyH.cons rfl (fun K hK => ?_) AllReadyH.nil
          have hle2 := hHeld.1.size
          go_simp
          go_wp2_with fail
          refine hK.out _ _ (one_alloc hHeld _) (fun hHeld => ?_)
          clear hK K
          have A2 := blk_new wx3 _ 46 (wcells (row 8 fun _ => 0)) rfl
          have hlt := A3.lt
          replace A3 := blk_old A3 (.cells (wcells (row 8 fun _ => 0)).toArray 46)
          change wpAnyH _ _ _ _ _ _ _ _ (wx3.alloc (.cells (wcells (row 8 fun _ => 0)).toArray 46))
          replace hHeld : Below w.heap.size w (wx3.alloc (.cells (wcells (row 8 fun _ => 0)).toArray 46)) ∧ World.rangeAt (wx3.alloc (.cells (wcells (row 8 fun _ => 0)).toArray 46)) g 8 D := hHeld
          obtain ⟨wx4, hwn⟩ : ∃ x, x = wx3.alloc (.cells (wcells (row 8 fun _ => 0)).toArray 46) := ⟨_, rfl⟩
          rw [← hwn] at A2 A3 hHeld ⊢
          obtain ⟨g2, hg2⟩ : ∃ x, x = wx3.heap.size := ⟨_, rfl⟩
          rw [← hg2] at A2 hle2 ⊢
          rw [← hg2] at hlt
          clear hwn hg2
          have hne : g2 ≠ g3 := by omega
          refine wpAnyH_ready (rs := [9]) (by kernel_rfl) (by simp) ?_
          refine AllReadyH.cons rfl (fun K hK => ?_) AllReadyH.nil
          refine step_store_blk rfl 46 (.tmp 2) (.tmp 21) rfl g2 X (wcells (row 8 fun _ => 0)) 46 A2 rfl rfl hXi.out (by rw [row_len]; exact HXl.out.symm) HX1.out ?_
          intro wa hA hW
          refine hK.out _ _ (one_wrote hHeld hW hgl hle2) (fun hHeld => ?_)
          replace A3 := hW.blk A3 hne.symm
          clear hK K hW A2
          refine wpAnyH_ready (rs := [10]) (by kernel_rfl) (by simp) ?_
          refine AllReadyH.cons rfl (fun K hK => ?_) AllReadyH.nil
          refine step_store_blk rfl 57 (.tmp 3) (.tmp 26) rfl g3 Y (wcells (row 64 fun _ => 0)) 57 A3 rfl rfl hWi.out (by rw [row_len]; exact HWl.out.symm) HW1.out ?_
          intro wb hC hW
          refine hK.out _ _ (one_wrote hHeld hW hgl hle3) (fun hHeld => ?_)
          replace hA := hW.blk hA hne
          clear hK K hW A3
          refine wpAnyH_done (by kernel_rfl) ?_ _
          refine NoPanic.normal ?_
          go_wp2_with fail
          go_meet
          exact ⟨g2, g3, rfl, rfl, ⟨hle2, hle3, hne⟩, hA, hC, hHeld.1⟩
      · skip
        have hle2 := hHeld.1.size
        go_simp
        go_wp2_with fail
        refine hK.out _ _ (one_alloc hHeld _) (fun hHeld => ?_)
        clear hK K
        have A2 := blk_new wx1 _ 46 (wcells (row 8 fun _ => 0)) rfl
        change wpAnyH _ _ _ _ _ _ _ _ (wx1.alloc (.cells (wcells (row 8 fun _ => 0)).toArray 46))
        replace hHeld : Below w.heap.size w (wx1.alloc (.cells (wcells (row 8 fun _ => 0)).toArray 46)) ∧ World.rangeAt (wx1.alloc (.cells (wcells (row 8 fun _ => 0)).toArray 46)) g 8 D := hHeld
        obtain ⟨wx2, hwn⟩ : ∃ x, x = wx1.alloc (.cells (wcells (row 8 fun _ => 0)).toArray 46) := ⟨_, rfl⟩
        rw [← hwn] at A2 hHeld ⊢
        obtain ⟨g2, hg2⟩ : ∃ x, x = wx1.heap.size := ⟨_, rfl⟩
        rw [← hg2] at A2 hle2 ⊢
        clear hwn hg2
        refine wpAnyH_ready (rs := [6, 8]) (by kernel_rfl) (by simp) ?_
        refine AllReadyH.cons rfl (fun K hK => ?_) (AllReadyH.cons rfl (fun K hK => ?_) AllReadyH.nil)
        · skip
          go_simp
          go_wp2_with (go_at_call 36; refine (CS.out _).mono ?_; rintro e wx3 ⟨rfl, hbk⟩)
          refine hK.out _ _ (one_next hbk hHeld) (fun hHeld => ?_)
          replace A2 := A2.below hbk
          clear hK K hbk
          refine wpAnyH_ready (rs := [8]) (by kernel_rfl) (by simp) ?_
          refine AllReadyH.cons rfl (fun K hK => ?_) AllReadyH.nil
          have hle3 := hHeld.1.size
          go_simp
          go_wp2_with fail
          refine hK.out _ _ (one_alloc hHeld _) (fun hHeld => ?_)
          clear hK K
          have A3 := blk_new wx3 _ 57 (wcells (row 64 fun _ => 0)) rfl
          have hlt := A2.lt
          replace A2 := blk_old A2 (.cells (wcells (row 64 fun _ => 0)).toArray 57)
          change wpAnyH _ _ _ _ _ _ _ _ (wx3.alloc (.cells (wcells (row 64 fun _ => 0)).toArray 57))
          replace hHeld : Below w.heap.size w (wx3.alloc (.cells (wcells (row 64 fun _ => 0)).toArray 57)) ∧ World.rangeAt (wx3.alloc (.cells (wcells (row 64 fun _ => 0)).toArray 57)) g 8 D := hHeld
          obtain ⟨wx4, hwn⟩ : ∃ x, x = wx3.alloc (.cells (wcells (row 64 fun _ => 0)).toArray 57) := ⟨_, rfl⟩
          rw [← hwn] at A2 A3 hHeld ⊢
          obtain ⟨g3, hg3⟩ : ∃ x, x = wx3.heap.size := ⟨_, rfl⟩
          rw [← hg3] at A3 hle3 ⊢
          rw [← hg3] at hlt
          clear hwn hg3
          have hne : g2 ≠ g3 := by omega
          refine wpAnyH_ready (rs := [9]) (by kernel_rfl) (by simp) ?_
          refine AllReadyH.cons rfl (fun K hK => ?_) AllReadyH.nil
          refine step_store_blk rfl 46 (.tmp 2) (.tmp 21) rfl g2 X (wcells (row 8 fun _ => 0)) 46 A2 rfl rfl hXi.out (by rw [row_len]; exact HXl.out.symm) HX1.out ?_
          intro wa hA hW
          refine hK.out _ _ (one_wrote hHeld hW hgl hle2) (fun hHeld => ?_)
          replace A3 := hW.blk A3 hne.symm
          clear hK K hW A2
          refine wpAnyH_ready (rs := [10]) (by kernel_rfl) (by simp) ?_
          refine AllReadyH.cons rfl (fun K hK => ?_) AllReadyH.nil
          refine step_store_blk rfl 57 (.tmp 3) (.tmp 26) rfl g3 Y (wcells (row 64 fun _ => 0)) 57 A3 rfl rfl hWi.out (by rw [row_len]; exact HWl.out.symm) HW1.out ?_
          intro wb hC hW
          refine hK.out _ _ (one_wrote hHeld hW hgl hle3) (fun hHeld => ?_)
          replace hA := hW.blk hA hne
          clear hK K hW A3
          refine wpAnyH_done (by kernel_rfl) ?_ _
          refine NoPanic.normal ?_
          go_wp2_with fail
          go_meet
          exact ⟨g2, g3, rfl, rfl, ⟨hle2, hle3, hne⟩, hA, hC, hHeld.1⟩
        · skip
          have hle3 := hHeld.1.size
          go_simp
          go_wp2_with fail
          refine hK.out _ _ (one_alloc hHeld _) (fun hHeld => ?_)
          clear hK K
          have A3 := blk_new wx2 _ 57 (wcells (row 64 fun _ => 0)) rfl
          have hlt := A2.lt
          replace A2 := blk_old A2 (.cells (wcells (row 64 fun _ => 0)).toArray 57)
          change wpAnyH _ _ _ _ _ _ _ _ (wx2.alloc (.cells (wcells (row 64 fun _ => 0)).toArray 57))
          replace hHeld : Below w.heap.size w (wx2.alloc (.cells (wcells (row 64 fun _ => 0)).toArray 57)) ∧ World.rangeAt (wx2.alloc (.cells (wcells (row 64 fun _ => 0)).toArray 57)) g 8 D := hHeld
          obtain ⟨wx3, hwn⟩ : ∃ x, x = wx2.alloc (.cells (wcells (row 64 fun _ => 0)).toArray 57) := ⟨_, rfl⟩
          rw [← hwn] at A2 A3 hHeld ⊢
          obtain ⟨g3, hg3⟩ : ∃ x, x = wx2.heap.size := ⟨_, rfl⟩
          rw [← hg3] at A3 hle3 ⊢
          rw [← hg3] at hlt
          clear hwn hg3
          refine wpAnyH_ready (rs := [6]) (by kernel_rfl) (by simp) ?_
          refine AllReadyH.cons rfl (fun K hK => ?_) AllReadyH.nil
          go_simp
          go_wp2_with (go_at_call 36; refine (CS.out _).mono ?_; rintro e wx4 ⟨rfl, hbk⟩)
          refine hK.out _ _ (one_next hbk hHeld) (fun hHeld => ?_)
          replace A2 := A2.below hbk
          replace A3 := A3.below hbk
          clear hK K hbk
          have hne : g2 ≠ g3 := by omega
          refine wpAnyH_ready (rs := [9]) (by kernel_rfl) (by simp) ?_
          refine AllReadyH.cons rfl (fun K hK => ?_) AllReadyH.nil
          refine step_store_blk rfl 46 (.tmp 2) (.tmp 21) rfl g2 X (wcells (row 8 fun _ => 0)) 46 A2 rfl rfl hXi.out (by rw [row_len]; exact HXl.out.symm) HX1.out ?_
          intro wa hA hW
          refine hK.out _ _ (one_wrote hHeld hW hgl hle2) (fun hHeld => ?_)
          replace A3 := hW.blk A3 hne.symm
          clear hK K hW A2
          refine wpAnyH_ready (rs := [10]) (by kernel_rfl) (by simp) ?_
          refine AllReadyH.cons rfl (fun K hK => ?_) AllReadyH.nil
          refine step_store_blk rfl 57 (.tmp 3) (.tmp 26) rfl g3 Y (wcells (row 64 fun _ => 0)) 57 A3 rfl rfl hWi.out (by rw [row_len]; exact HWl.out.symm) HW1.out ?_
          intro wb hC hW
          refine hK.out _ _ (one_wrote hHeld hW hgl hle3) (fun hHeld => ?_)
          replace hA := hW.blk hA hne
          clear hK K hW A3
          refine wpAnyH_done (by kernel_rfl) ?_ _
          refine NoPanic.normal ?_
          go_wp2_with fail
          go_meet
          exact ⟨g2, g3, rfl, rfl, ⟨hle2, hle3, hne⟩, hA, hC, hHeld.1⟩
      · skip
        have hle3 := hHeld.1.size
        go_simp
        go_wp2_with fail
        refine hK.out _ _ (one_alloc hHeld _) (fun hHeld => ?_)
        clear hK K
        have A3 := blk_new wx1 _ 57 (wcells (row 64 fun _ => 0)) rfl
        change wpAnyH _ _ _ _ _ _ _ _ (wx1.alloc (.cells (wcells (row 64 fun _ => 0)).toArray 57))
        replace hHeld : Below w.heap.size w (wx1.alloc (.cells (wcells (row 64 fun _ => 0)).toArray 57)) ∧ World.rangeAt (wx1.alloc (.cells (wcells (row 64 fun _ => 0)).toArray 57)) g 8 D := hHeld
        obtain ⟨wx2, hwn⟩ : ∃ x, x = wx1.alloc (.cells (wcells (row 64 fun _ => 0)).toArray 57) := ⟨_, rfl⟩
        rw [← hwn] at A3 hHeld ⊢
        obtain ⟨g3, hg3⟩ : ∃ x, x = wx1.heap.size := ⟨_, rfl⟩
        rw [← hg3] at A3 hle3 ⊢
        clear hwn hg3
        refine wpAnyH_ready (rs := [6, 7]) (by kernel_rfl) (by simp) ?_
        refine AllReadyH.cons rfl (fun K hK => ?_) (AllReadyH.cons rfl (fun K hK => ?_) AllReadyH.nil)
        · skip
          go_simp
          go_wp2_with (go_at_call 36; refine (CS.out _).mono ?_; rintro e wx3 ⟨rfl, hbk⟩)
          refine hK.out _ _ (one_next hbk hHeld) (fun hHeld => ?_)
          replace A3 := A3.below hbk
          clear hK K hbk
          refine wpAnyH_ready (rs := [7]) (by kernel_rfl) (by simp) ?_
          refine AllReadyH.cons rfl (fun K hK => ?_) AllReadyH.nil
          have hle2 := hHeld.1.size
          go_simp
          go_wp2_with fail
          refine hK.out _ _ (one_alloc hHeld _) (fun hHeld => ?_)
          clear hK K
          have A2 := blk_new wx3 _ 46 (wcells (row 8 fun _ => 0)) rfl
          have hlt := A3.lt
          replace A3 := blk_old A3 (.cells (wcells (row 8 fun _ => 0)).toArray 46)
          change wpAnyH _ _ _ _ _ _ _ _ (wx3.alloc (.cells (wcells (row 8 fun _ => 0)).toArray 46))
          replace hHeld : Below w.heap.size w (wx3.alloc (.cells (wcells (row 8 fun _ => 0)).toArray 46)) ∧ World.rangeAt (wx3.alloc (.cells (wcells (row 8 fun _ => 0)).toArray 46)) g 8 D := hHeld
          obtain ⟨wx4, hwn⟩ : ∃ x, x = wx3.alloc (.cells (wcells (row 8 fun _ => 0)).toArray 46) := ⟨_, rfl⟩
          rw [← hwn] at A2 A3 hHeld ⊢
          obtain ⟨g2, hg2⟩ : ∃ x, x = wx3.heap.size := ⟨_, rfl⟩
          rw [← hg2] at A2 hle2 ⊢
          rw [← hg2] at hlt
          clear hwn hg2
          have hne : g2 ≠ g3 := by omega
          refine wpAnyH_ready (rs := [9]) (by kernel_rfl) (by simp) ?_
          refine AllReadyH.cons rfl (fun K hK => ?_) AllReadyH.nil
          refine step_store_blk rfl 46 (.tmp 2) (.tmp 21) rfl g2 X (wcells (row 8 fun _ => 0)) 46 A2 rfl rfl hXi.out (by rw [row_len]; exact HXl.out.symm) HX1.out ?_
          intro wa hA hW
          refine hK.out _ _ (one_wrote hHeld hW hgl hle2) (fun hHeld => ?_)
          replace A3 := hW.blk A3 hne.symm
          clear hK K hW A2
          refine wpAnyH_ready (rs := [10]) (by kernel_rfl) (by simp) ?_
          refine AllReadyH.cons rfl (fun K hK => ?_) AllReadyH.nil
          refine step_store_blk rfl 57 (.tmp 3) (.tmp 26) rfl g3 Y (wcells (row 64 fun _ => 0)) 57 A3 rfl rfl hWi.out (by rw [row_len]; exact HWl.out.symm) HW1.out ?_
          intro wb hC hW
          refine hK.out _ _ (one_wrote hHeld hW hgl hle3) (fun hHeld => ?_)
          replace hA := hW.blk hA hne
          clear hK K hW A3
          refine wpAnyH_done (by kernel_rfl) ?_ _
          refine NoPanic.normal ?_
          go_wp2_with fail
          go_meet
          exact ⟨g2, g3, rfl, rfl, ⟨hle2, hle3, hne⟩, hA, hC, hHeld.1⟩
        · skip
          have hle2 := hHeld.1.size
          go_simp
          go_wp2_with fail
          refine hK.out _ _ (one_alloc hHeld _) (fun hHeld => ?_)
          clear hK K
          have A2 := blk_new wx2 _ 46 (wcells (row 8 fun _ => 0)) rfl
          have hlt := A3.lt
          replace A3 := blk_old A3 (.cells (wcells (row 8 fun _ => 0)).toArray 46)
          change wpAnyH _ _ _ _ _ _ _ _ (wx2.alloc (.cells (wcells (row 8 fun _ => 0)).toArray 46))
          replace hHeld : Below w.heap.size w (wx2.alloc (.cells (wcells (row 8 fun _ => 0)).toArray 46)) ∧ World.rangeAt (wx2.alloc (.cells (wcells (row 8 fun _ => 0)).toArray 46)) g 8 D := hHeld
          obtain ⟨wx3, hwn⟩ : ∃ x, x = wx2.alloc (.cells (wcells (row 8 fun _ => 0)).toArray 46) := ⟨_, rfl⟩
          rw [← hwn] at A2 A3 hHeld ⊢
          obtain ⟨g2, hg2⟩ : ∃ x, x = wx2.heap.size := ⟨_, rfl⟩
          rw [← hg2] at A2 hle2 ⊢
          rw [← hg2] at hlt
          clear hwn hg2
          refine wpAnyH_ready (rs := [6]) (by kernel_rfl) (by simp) ?_
          refine AllReadyH.cons rfl (fun K hK => ?_) AllReadyH.nil
          go_simp
          go_wp2_with (go_at_call 36; refine (CS.out _).mono ?_; rintro e wx4 ⟨rfl, hbk⟩)
          refine hK.out _ _ (one_next hbk hHeld) (fun hHeld => ?_)
          replace A2 := A2.below hbk
          replace A3 := A3.below hbk
          clear hK K hbk
          have hne : g2 ≠ g3 := by omega
          refine wpAnyH_ready (rs := [9]) (by kernel_rfl) (by simp) ?_
          refine AllReadyH.cons rfl (fun K hK => ?_) AllReadyH.nil
          refine step_store_blk rfl 46 (.tmp 2) (.tmp 21) rfl g2 X (wcells (row 8 fun _ => 0)) 46 A2 rfl rfl hXi.out (by rw [row_len]; exact HXl.out.symm) HX1.out ?_
          intro wa hA hW
          refine hK.out _ _ (one_wrote hHeld hW hgl hle2) (fun hHeld => ?_)
          replace A3 := hW.blk A3 hne.symm
          clear hK K hW A2
          refine wpAnyH_ready (rs := [10]) (by kernel_rfl) (by simp) ?_
          refine AllReadyH.cons rfl (fun K hK => ?_) AllReadyH.nil
          refine step_store_blk rfl 57 (.tmp 3) (.tmp 26) rfl g3 Y (wcells (row 64 fun _ => 0)) 57 A3 rfl rfl hWi.out (by rw [row_len]; exact HWl.out.symm) HW1.out ?_
          intro wb hC hW
          refine hK.out _ _ (one_wrote hHeld hW hgl hle3) (fun hHeld => ?_)
          replace hA := hW.blk hA hne
          clear hK K hW A3
          refine wpAnyH_done (by kernel_rfl) ?_ _
          refine NoPanic.normal ?_
          go_wp2_with fail
          go_meet
          exact ⟨g2, g3, rfl, rfl, ⟨hle2, hle3, hne⟩, hA, hC, hHeld.1⟩
    · skip
      have hle2 := hHeld.1.size
      go_simp
      go_wp2_with fail
      refine hK.out _ _ (one_alloc hHeld _) (fun hHeld => ?_)
      clear hK K
      have A2 := blk_new wx0 _ 46 (wcells (row 8 fun _ => 0)) rfl
      change wpAnyH _ _ _ _ _ _ _ _ (wx0.alloc (.cells (wcells (row 8 fun _ => 0)).toArray 46))
      replace hHeld : Below w.heap.size w (wx0.alloc (.cells (wcells (row 8 fun _ => 0)).toArray 46)) ∧ World.rangeAt (wx0.alloc (.cells (wcells (row 8 fun _ => 0)).toArray 46)) g 8 D := hHeld
      obtain ⟨wx1, hwn⟩ : ∃ x, x = wx0.alloc (.cells (wcells (row 8 fun _ => 0)).toArray 46) := ⟨_, rfl⟩
      rw [← hwn] at A2 hHeld ⊢
      obtain ⟨g2, hg2⟩ : ∃ x, x = wx0.heap.size := ⟨_, rfl⟩
      rw [← hg2] at A2 hle2 ⊢
      clear hwn hg2
      refine wpAnyH_ready (rs := [1, 8]) (by kernel_rfl) (by simp) ?_
      refine AllReadyH.cons rfl (fun K hK => ?_) (AllReadyH.cons rfl (fun K hK => ?_) AllReadyH.nil)
      · skip
        go_simp
        go_wp2_with (go_at_call 32; refine (CW.out _ hHeld.1).mono ?_; rintro e wx2 ⟨rfl, hbk⟩)
        refine hK.out _ _ (one_next hbk hHeld) (fun hHeld => ?_)
        replace A2 := A2.below hbk
        clear hK K hbk
        refine wpAnyH_ready (rs := [6, 8]) (by kernel_rfl) (by simp) ?_
        refine AllReadyH.cons rfl (fun K hK => ?_) (AllReadyH.cons rfl (fun K hK => ?_) AllReadyH.nil)
        · skip
          go_simp
          go_wp2_with (go_at_call 36; refine (CS.out _).mono ?_; rintro e wx3 ⟨rfl, hbk⟩)
          refine hK.out _ _ (one_next hbk hHeld) (fun hHeld => ?_)
          replace A2 := A2.below hbk
          clear hK K hbk
          refine wpAnyH_ready (rs := [8]) (by kernel_rfl) (by simp) ?_
          refine AllReadyH.cons rfl (fun K hK => ?_) AllReadyH.nil
          have hle3 := hHeld.1.size
          go_simp
          go_wp2_with fail
          refine hK.out _ _ (one_alloc hHeld _) (fun hHeld => ?_)
          clear hK K
          have A3 := blk_new wx3 _ 57 (wcells (row 64 fun _ => 0)) rfl
          have hlt := A2.lt
          replace A2 := blk_old A2 (.cells (wcells (row 64 fun _ => 0)).toArray 57)
          change wpAnyH _ _ _ _ _ _ _ _ (wx3.alloc (.cells (wcells (row 64 fun _ => 0)).toArray 57))
          replace hHeld : Below w.heap.size w (wx3.alloc (.cells (wcells (row 64 fun _ => 0)).toArray 57)) ∧ World.rangeAt (wx3.alloc (.cells (wcells (row 64 fun _ => 0)).toArray 57)) g 8 D := hHeld
          obtain ⟨wx4, hwn⟩ : ∃ x, x = wx3.alloc (.cells (wcells (row 64 fun _ => 0)).toArray 57) := ⟨_, rfl⟩
          rw [← hwn] at A2 A3 hHeld ⊢
          obtain ⟨g3, hg3⟩ : ∃ x, x = wx3.heap.size := ⟨_, rfl⟩
          rw [← hg3] at A3 hle3 ⊢
          rw [← hg3] at hlt
          clear hwn hg3
          have hne : g2 ≠ g3 := by omega
          refine wpAnyH_ready (rs := [9]) (by kernel_rfl) (by simp) ?_
          refine AllReadyH.cons rfl (fun K hK => ?_) AllReadyH.nil
          refine step_store_blk rfl 46 (.tmp 2) (.tmp 21) rfl g2 X (wcells (row 8 fun _ => 0)) 46 A2 rfl rfl hXi.out (by rw [row_len]; exact HXl.out.symm) HX1.out ?_
          intro wa hA hW
          refine hK.out _ _ (one_wrote hHeld hW hgl hle2) (fun hHeld => ?_)
          replace A3 := hW.blk A3 hne.symm
          clear hK K hW A2
          refine wpAnyH_ready (rs := [10]) (by kernel_rfl) (by simp) ?_
          refine AllReadyH.cons rfl (fun K hK => ?_) AllReadyH.nil
          refine step_store_blk rfl 57 (.tmp 3) (.tmp 26) rfl g3 Y (wcells (row 64 fun _ => 0)) 57 A3 rfl rfl hWi.out (by rw [row_len]; exact HWl.out.symm) HW1.out ?_
          intro wb hC hW
          refine hK.out _ _ (one_wrote hHeld hW hgl hle3) (fun hHeld => ?_)
          replace hA := hW.blk hA hne
          clear hK K hW A3
          refine wpAnyH_done (by kernel_rfl) ?_ _
          refine NoPanic.normal ?_
          go_wp2_with fail
          go_meet
          exact ⟨g2, g3, rfl, rfl, ⟨hle2, hle3, hne⟩, hA, hC, hHeld.1⟩
        · skip
          have hle3 := hHeld.1.size
          go_simp
          go_wp2_with fail
          refine hK.out _ _ (one_alloc hHeld _) (fun hHeld => ?_)
          clear hK K
          have A3 := blk_new wx2 _ 57 (wcells (row 64 fun _ => 0)) rfl
          have hlt := A2.lt
          replace A2 := blk_old A2 (.cells (wcells (row 64 fun _ => 0)).toArray 57)
          change wpAnyH _ _ _ _ _ _ _ _ (wx2.alloc (.cells (wcells (row 64 fun _ => 0)).toArray 57))
          replace hHeld : Below w.heap.size w (wx2.alloc (.cells (wcells (row 64 fun _ => 0)).toArray 57)) ∧ World.rangeAt (wx2.alloc (.cells (wcells (row 64 fun _ => 0)).toArray 57)) g 8 D := hHeld
          obtain ⟨wx3, hwn⟩ : ∃ x, x = wx2.alloc (.cells (wcells (row 64 fun _ => 0)).toArray 57) := ⟨_, rfl⟩
          rw [← hwn] at A2 A3 hHeld ⊢
          obtain ⟨g3, hg3⟩ : ∃ x, x = wx2.heap.size := ⟨_, rfl⟩
          rw [← hg3] at A3 hle3 ⊢
          rw [← hg3] at hlt
          clear hwn hg3
          refine wpAnyH_ready (rs := [6]) (by kernel_rfl) (by simp) ?_
          refine AllReadyH.cons rfl (fun K hK => ?_) AllReadyH.nil
          go_simp
          go_wp2_with (go_at_call 36; refine (CS.out _).mono ?_; rintro e wx4 ⟨rfl, hbk⟩)
          refine hK.out _ _ (one_next hbk hHeld) (fun hHeld => ?_)
          replace A2 := A2.below hbk
          replace A3 := A3.below hbk
          clear hK K hbk
          have hne : g2 ≠ g3 := by omega
          refine wpAnyH_ready (rs := [9]) (by kernel_rfl) (by simp) ?_
          refine AllReadyH.cons rfl (fun K hK => ?_) AllReadyH.nil
          refine step_store_blk rfl 46 (.tmp 2) (.tmp 21) rfl g2 X (wcells (row 8 fun _ => 0)) 46 A2 rfl rfl hXi.out (by rw [row_len]; exact HXl.out.symm) HX1.out ?_
          intro wa hA hW
          refine hK.out _ _ (one_wrote hHeld hW hgl hle2) (fun hHeld => ?_)
          replace A3 := hW.blk A3 hne.symm
          clear hK K hW A2
          refine wpAnyH_ready (rs := [10]) (by kernel_rfl) (by simp) ?_
          refine AllReadyH.cons rfl (fun K hK => ?_) AllReadyH.nil
          refine step_store_blk rfl 57 (.tmp 3) (.tmp 26) rfl g3 Y (wcells (row 64 fun _ => 0)) 57 A3 rfl rfl hWi.out (by rw [row_len]; exact HWl.out.symm) HW1.out ?_
          intro wb hC hW
          refine hK.out _ _ (one_wrote hHeld hW hgl hle3) (fun hHeld => ?_)
          replace hA := hW.blk hA hne
          clear hK K hW A3
          refine wpAnyH_done (by kernel_rfl) ?_ _
          refine NoPanic.normal ?_
          go_wp2_with fail
          go_meet
          exact ⟨g2, g3, rfl, rfl, ⟨hle2, hle3, hne⟩, hA, hC, hHeld.1⟩
      · skip
        have hle3 := hHeld.1.size
        go_simp
        go_wp2_with fail
        refine hK.out _ _ (one_alloc hHeld _) (fun hHeld => ?_)
        clear hK K
        have A3 := blk_new wx1 _ 57 (wcells (row 64 fun _ => 0)) rfl
        have hlt := A2.lt
        replace A2 := blk_old A2 (.cells (wcells (row 64 fun _ => 0)).toArray 57)
        change wpAnyH _ _ _ _ _ _ _ _ (wx1.alloc (.cells (wcells (row 64 fun _ => 0)).toArray 57))
        replace hHeld : Below w.heap.size w (wx1.alloc (.cells (wcells (row 64 fun _ => 0)).toArray 57)) ∧ World.rangeAt (wx1.alloc (.cells (wcells (row 64 fun _ => 0)).toArray 57)) g 8 D := hHeld
        obtain ⟨wx2, hwn⟩ : ∃ x, x = wx1.alloc (.cells (wcells (row 64 fun _ => 0)).toArray 57) := ⟨_, rfl⟩
        rw [← hwn] at A2 A3 hHeld ⊢
        obtain ⟨g3, hg3⟩ : ∃ x, x = wx1.heap.size := ⟨_, rfl⟩
        rw [← hg3] at A3 hle3 ⊢
        rw [← hg3] at hlt
        clear hwn hg3
        refine wpAnyH_ready (rs := [1]) (by kernel_rfl) (by simp) ?_
        refine AllReadyH.cons rfl (fun K hK => ?_) AllReadyH.nil
        go_simp
        go_wp2_with (go_at_call 32; refine (CW.out _ hHeld.1).mono ?_; rintro e wx3 ⟨rfl, hbk⟩)
        refine hK.out _ _ (one_next hbk hHeld) (fun hHeld => ?_)
        replace A2 := A2.below hbk
        replace A3 := A3.below hbk
        clear hK K hbk
        refine wpAnyH_ready (rs := [6]) (by kernel_rfl) (by simp) ?_
        refine AllReadyH.cons rfl (fun K hK => ?_) AllReadyH.nil
        go_simp
        go_wp2_with (go_at_call 36; refine (CS.out _).mono ?_; rintro e wx4 ⟨rfl, hbk⟩)
        refine hK.out _ _ (one_next hbk hHeld) (fun hHeld => ?_)
        replace A2 := A2.below hbk
        replace A3 := A3.below hbk
        clear hK K hbk
        have hne : g2 ≠ g3 := by omega
        refine wpAnyH_ready (rs := [9]) (by kernel_rfl) (by simp) ?_
        refine AllReadyH.cons rfl (fun K hK => ?_) AllReadyH.nil
        refine step_store_blk rfl 46 (.tmp 2) (.tmp 21) rfl g2 X (wcells (row 8 fun _ => 0)) 46 A2 rfl rfl hXi.out (by rw [row_len]; exact HXl.out.symm) HX1.out ?_
        intro wa hA hW
        refine hK.out _ _ (one_wrote hHeld hW hgl hle2) (fun hHeld => ?_)
        replace A3 := hW.blk A3 hne.symm
        clear hK K hW A2
        refine wpAnyH_ready (rs := [10]) (by kernel_rfl) (by simp) ?_
        refine AllReadyH.cons rfl (fun K hK => ?_) AllReadyH.nil
        refine step_store_blk rfl 57 (.tmp 3) (.tmp 26) rfl g3 Y (wcells (row 64 fun _ => 0)) 57 A3 rfl rfl hWi.out (by rw [row_len]; exact HWl.out.symm) HW1.out ?_
        intro wb hC hW
        refine hK.out _ _ (one_wrote hHeld hW hgl hle3) (fun hHeld => ?_)
        replace hA := hW.blk hA hne
        clear hK K hW A3
        refine wpAnyH_done (by kernel_rfl) ?_ _
        refine NoPanic.normal ?_
        go_wp2_with fail
        go_meet
        exact ⟨g2, g3, rfl, rfl, ⟨hle2, hle3, hne⟩, hA, hC, hHeld.1⟩
    · skip
      have hle3 := hHeld.1.size
      go_simp
      go_wp2_with fail
      refine hK.out _ _ (one_alloc hHeld _) (fun hHeld => ?_)
      clear hK K
      have A3 := blk_new wx0 _ 57 (wcells (row 64 fun _ => 0)) rfl
      change wpAnyH _ _ _ _ _ _ _ _ (wx0.alloc (.cells (wcells (row 64 fun _ => 0)).toArray 57))
      replace hHeld : Below w.heap.size w (wx0.alloc (.cells (wcells (row 64 fun _ => 0)).toArray 57)) ∧ World.rangeAt (wx0.alloc (.cells (wcells (row 64 fun _ => 0)).toArray 57)) g 8 D := hHeld
      obtain ⟨wx1, hwn⟩ : ∃ x, x = wx0.alloc (.cells (wcells (row 64 fun _ => 0)).toArray 57) := ⟨_, rfl⟩
      rw [← hwn] at A3 hHeld ⊢
      obtain ⟨g3, hg3⟩ : ∃ x, x = wx0.heap.size := ⟨_, rfl⟩
      rw [← hg3] at A3 hle3 ⊢
      clear hwn hg3
      refine wpAnyH_ready (rs := [1, 7]) (by kernel_rfl) (by simp) ?_
      refine AllReadyH.cons rfl (fun K hK => ?_) (AllReadyH.cons rfl (fun K hK => ?_) AllReadyH.nil)
      · skip
        go_simp
        go_wp2_with (go_at_call 32; refine (CW.out _ hHeld.1).mono ?_; rintro e wx2 ⟨rfl, hbk⟩)
        refine hK.out _ _ (one_next hbk hHeld) (fun hHeld => ?_)
        replace A3 := A3.below hbk
        clear hK K hbk
        refine wpAnyH_ready (rs := [6, 7]) (by kernel_rfl) (by simp) ?_
        refine AllReadyH.cons rfl (fun K hK => ?_) (AllReadyH.cons rfl (fun K hK => ?_) AllReadyH.nil)
        · skip
          go_simp
          go_wp2_with (go_at_call 36; refine (CS.out _).mono ?_; rintro e wx3 ⟨rfl, hbk⟩)
          refine hK.out _ _ (one_next hbk hHeld) (fun hHeld => ?_)
          replace A3 := A3.below hbk
          clear hK K hbk
          refine wpAnyH_ready (rs := [7]) (by kernel_rfl) (by simp) ?_
          refine AllReadyH.cons rfl (fun K hK => ?_) AllReadyH.nil
          have hle2 := hHeld.1.size
          go_simp
          go_wp2_with fail
          refine hK.out _ _ (one_alloc hHeld _) (fun hHeld => ?_)
          clear hK K
          have A2 := blk_new wx3 _ 46 (wcells (row 8 fun _ => 0)) rfl
          have hlt := A3.lt
          replace A3 := blk_old A3 (.cells (wcells (row 8 fun _ => 0)).toArray 46)
          change wpAnyH _ _ _ _ _ _ _ _ (wx3.alloc (.cells (wcells (row 8 fun _ => 0)).toArray 46))
          replace hHeld : Below w.heap.size w (wx3.alloc (.cells (wcells (row 8 fun _ => 0)).toArray 46)) ∧ World.rangeAt (wx3.alloc (.cells (wcells (row 8 fun _ => 0)).toArray 46)) g 8 D := hHeld
          obtain ⟨wx4, hwn⟩ : ∃ x, x = wx3.alloc (.cells (wcells (row 8 fun _ => 0)).toArray 46) := ⟨_, rfl⟩
          rw [← hwn] at A2 A3 hHeld ⊢
          obtain ⟨g2, hg2⟩ : ∃ x, x = wx3.heap.size := ⟨_, rfl⟩
          rw [← hg2] at A2 hle2 ⊢
          rw [← hg2] at hlt
          clear hwn hg2
          have hne : g2 ≠ g3 := by omega
          refine wpAnyH_ready (rs := [9]) (by kernel_rfl) (by simp) ?_
          refine AllReadyH.cons rfl (fun K hK => ?_) AllReadyH.nil
          refine step_store_blk rfl 46 (.tmp 2) (.tmp 21) rfl g2 X (wcells (row 8 fun _ => 0)) 46 A2 rfl rfl hXi.out (by rw [row_len]; exact HXl.out.symm) HX1.out ?_
          intro wa hA hW
          refine hK.out _ _ (one_wrote hHeld hW hgl hle2) (fun hHeld => ?_)
          replace A3 := hW.blk A3 hne.symm
          clear hK K hW A2
          refine wpAnyH_ready (rs := [10]) (by kernel_rfl) (by simp) ?_
          refine AllReadyH.cons rfl (fun K hK => ?_) AllReadyH.nil
          refine step_store_blk rfl 57 (.tmp 3) (.tmp 26) rfl g3 Y (wcells (row 64 fun _ => 0)) 57 A3 rfl rfl hWi.out (by rw [row_len]; exact HWl.out.symm) HW1.out ?_
          intro wb hC hW
          refine hK.out _ _ (one_wrote hHeld hW hgl hle3) (fun hHeld => ?_)
          replace hA := hW.blk hA hne
          clear hK K hW A3
          refine wpAnyH_done (by kernel_rfl) ?_ _
          refine NoPanic.normal ?_
          go_wp2_with fail
          go_meet
          exact ⟨g2, g3, rfl, rfl, ⟨hle2, hle3, hne⟩, hA, hC, hHeld.1⟩
        · skip
          have hle2 := hHeld.1.size
          go_simp
          go_wp2_with fail
          refine hK.out _ _ (one_alloc hHeld _) (fun hHeld => ?_)
          clear hK K
          have A2 := blk_new wx2 _ 46 (wcells (row 8 fun _ => 0)) rfl
          have hlt := A3.lt
          replace A3 := blk_old A3 (.cells (wcells (row 8 fun _ => 0)).toArray 46)
          change wpAnyH _ _ _ _ _ _ _ _ (wx2.alloc (.cells (wcells (row 8 fun _ => 0)).toArray 46))
          replace hHeld : Below w.heap.size w (wx2.alloc (.cells (wcells (row 8 fun _ => 0)).toArray 46)) ∧ World.rangeAt (wx2.alloc (.cells (wcells (row 8 fun _ => 0)).toArray 46)) g 8 D := hHeld
          obtain ⟨wx3, hwn⟩ : ∃ x, x = wx2.alloc (.cells (wcells (row 8 fun _ => 0)).toArray 46) := ⟨_, rfl⟩
          rw [← hwn] at A2 A3 hHeld ⊢
          obtain ⟨g2, hg2⟩ : ∃ x, x = wx2.heap.size := ⟨_, rfl⟩
          rw [← hg2] at A2 hle2 ⊢
          rw [← hg2] at hlt
          clear hwn hg2
          refine wpAnyH_ready (rs := [6]) (by kernel_rfl) (by simp) ?_
          refine AllReadyH.cons rfl (fun K hK => ?_) AllReadyH.nil
          go_simp
          go_wp2_with (go_at_call 36; refine (CS.out _).mono ?_; rintro e wx4 ⟨rfl, hbk⟩)
          refine hK.out _ _ (one_next hbk hHeld) (fun hHeld => ?_)
          replace A2 := A2.below hbk
          replace A3 := A3.below hbk
          clear hK K hbk
          have hne : g2 ≠ g3 := by omega
          refine wpAnyH_ready (rs := [9]) (by kernel_rfl) (by simp) ?_
          refine AllReadyH.cons rfl (fun K hK => ?_) AllReadyH.nil
          refine step_store_blk rfl 46 (.tmp 2) (.tmp 21) rfl g2 X (wcells (row 8 fun _ => 0)) 46 A2 rfl rfl hXi.out (by rw [row_len]; exact HXl.out.symm) HX1.out ?_
          intro wa hA hW
          refine hK.out _ _ (one_wrote hHeld hW hgl hle2) (fun hHeld => ?_)
          replace A3 := hW.blk A3 hne.symm
          clear hK K hW A2
          refine wpAnyH_ready (rs := [10]) (by kernel_rfl) (by simp) ?_
          refine AllReadyH.cons rfl (fun K hK => ?_) AllReadyH.nil
          refine step_store_blk rfl 57 (.tmp 3) (.tmp 26) rfl g3 Y (wcells (row 64 fun _ => 0)) 57 A3 rfl rfl hWi.out (by rw [row_len]; exact HWl.out.symm) HW1.out ?_
          intro wb hC hW
          refine hK.out _ _ (one_wrote hHeld hW hgl hle3) (fun hHeld => ?_)
          replace hA := hW.blk hA hne
          clear hK K hW A3
          refine wpAnyH_done (by kernel_rfl) ?_ _
          refine NoPanic.normal ?_
          go_wp2_with fail
          go_meet
          exact ⟨g2, g3, rfl, rfl, ⟨hle2, hle3, hne⟩, hA, hC, hHeld.1⟩
      · skip
        have hle2 := hHeld.1.size
        go_simp
        go_wp2_with fail
        refine hK.out _ _ (one_alloc hHeld _) (fun hHeld => ?_)
        clear hK K
        have A2 := blk_new wx1 _ 46 (wcells (row 8 fun _ => 0)) rfl
        have hlt := A3.lt
        replace A3 := blk_old A3 (.cells (wcells (row 8 fun _ => 0)).toArray 46)
        change wpAnyH _ _ _ _ _ _ _ _ (wx1.alloc (.cells (wcells (row 8 fun _ => 0)).toArray 46))
        replace hHeld : Below w.heap.size w (wx1.alloc (.cells (wcells (row 8 fun _ => 0)).toArray 46)) ∧ World.rangeAt (wx1.alloc (.cells (wcells (row 8 fun _ => 0)).toArray 46)) g 8 D := hHeld
        obtain ⟨wx2, hwn⟩ : ∃ x, x = wx1.alloc (.cells (wcells (row 8 fun _ => 0)).toArray 46) := ⟨_, rfl⟩
        rw [← hwn] at A2 A3 hHeld ⊢
        obtain ⟨g2, hg2⟩ : ∃ x, x = wx1.heap.size := ⟨_, rfl⟩
        rw [← hg2] at A2 hle2 ⊢
        rw [← hg2] at hlt
        clear hwn hg2
        refine wpAnyH_ready (rs := [1]) (by kernel_rfl) (by simp) ?_
        refine AllReadyH.cons rfl (fun K hK => ?_) AllReadyH.nil
        go_simp
        go_wp2_with (go_at_call 32; refine (CW.out _ hHeld.1).mono ?_; rintro e wx3 ⟨rfl, hbk⟩)
        refine hK.out _ _ (one_next hbk hHeld) (fun hHeld => ?_)
        replace A2 := A2.below hbk
        replace A3 := A3.below hbk
        clear hK K hbk
        refine wpAnyH_ready (rs := [6]) (by kernel_rfl) (by simp) ?_
        refine AllReadyH.cons rfl (fun K hK => ?_) AllReadyH.nil
        go_simp
        go_wp2_with (go_at_call 36; refine (CS.out _).mono ?_; rintro e wx4 ⟨rfl, hbk⟩)
        refine hK.out _ _ (one_next hbk hHeld) (fun hHeld => ?_)
        replace A2 := A2.below hbk
        replace A3 := A3.below hbk
        clear hK K hbk
        have hne : g2 ≠ g3 := by omega
        refine wpAnyH_ready (rs := [9]) (by kernel_rfl) (by simp) ?_
        refine AllReadyH.cons rfl (fun K hK => ?_) AllReadyH.nil
        refine step_store_blk rfl 46 (.tmp 2) (.tmp 21) rfl g2 X (wcells (row 8 fun _ => 0)) 46 A2 rfl rfl hXi.out (by rw [row_len]; exact HXl.out.symm) HX1.out ?_
        intro wa hA hW
        refine hK.out _ _ (one_wrote hHeld hW hgl hle2) (fun hHeld => ?_)
        replace A3 := hW.blk A3 hne.symm
        clear hK K hW A2
        refine wpAnyH_ready (rs := [10]) (by kernel_rfl) (by simp) ?_
        refine AllReadyH.cons rfl (fun K hK => ?_) AllReadyH.nil
        refine step_store_blk rfl 57 (.tmp 3) (.tmp 26) rfl g3 Y (wcells (row 64 fun _ => 0)) 57 A3 rfl rfl hWi.out (by rw [row_len]; exact HWl.out.symm) HW1.out ?_
        intro wb hC hW
        refine hK.out _ _ (one_wrote hHeld hW hgl hle3) (fun hHeld => ?_)
        replace hA := hW.blk hA hne
        clear hK K hW A3
        refine wpAnyH_done (by kernel_rfl) ?_ _
        refine NoPanic.normal ?_
        go_wp2_with fail
        go_meet
        exact ⟨g2, g3, rfl, rfl, ⟨hle2, hle3, hne⟩, hA, hC, hHeld.1⟩
  case rest =>
    obtain ⟨g2, g3, rfl, rfl, HG, hA, hC, hbx⟩ := hcut
    have AT : Hid (∀ i, i < 8 → wc.cell? ⟨g2, i, none⟩ = some (.int .u32 ((v.at i : Nat) : Int))) := fun i hi => (hA.cell i).trans (by rw [← HXE.out]; exact row_at _ hi)
    have c0 : wc.cell? ⟨g2, 0, none⟩ = some (.int .u32 (v.a : Int)) := AT.out 0 (by decide)
    have c1 : wc.cell? ⟨g2, 1, none⟩ = some (.int .u32 (v.b : Int)) := AT.out 1 (by decide)
    have c2 : wc.cell? ⟨g2, 2, none⟩ = some (.int .u32 (v.c : Int)) := AT.out 2 (by decide)
    have c3 : wc.cell? ⟨g2, 3, none⟩ = some (.int .u32 (v.d : Int)) := AT.out 3 (by decide)
    have c4 : wc.cell? ⟨g2, 4, none⟩ = some (.int .u32 (v.e : Int)) := AT.out 4 (by decide)
    have c5 : wc.cell? ⟨g2, 5, none⟩ = some (.int .u32 (v.f : Int)) := AT.out 5 (by decide)
    have c6 : wc.cell? ⟨g2, 6, none⟩ = some (.int .u32 (v.g : Int)) := AT.out 6 (by decide)
    have c7 : wc.cell? ⟨g2, 7, none⟩ = some (.int .u32 (v.i : Int)) := AT.out 7 (by decide)
    have HCC := Lib.hid hC
    have HBX := Lib.hid hbx
    clear AT hA hC hbx
    go_wp2_with fail
    go_quiet (fail)
    have hC := HCC.out.drewN nq
    have hbx := below_drewN HBX.out nq
    have d4 : (wc.drewN nq).cell? ⟨g2, 4, none⟩ = some (.int .u32 (v.e : Int)) := c4
    have d5 : (wc.drewN nq).cell? ⟨g2, 5, none⟩ = some (.int .u32 (v.f : Int)) := c5
    have d6 : (wc.drewN nq).cell? ⟨g2, 6, none⟩ = some (.int .u32 (v.g : Int)) := c6
    have d7 : (wc.drewN nq).cell? ⟨g2, 7, none⟩ = some (.int .u32 (v.i : Int)) := c7
    obtain ⟨wd1, hwd⟩ : ∃ x, x = wc.drewN nq := ⟨_, rfl⟩
    rw [← hwd] at hC hbx d4 d5 d6 d7 ⊢
    clear hwd c0 c1 c2 c3 c4 c5 c6 c7 HCC HBX
    have HCC := Lib.hid hC
    have HBX := Lib.hid hbx
    clear hC hbx
    go_wp2_with fail
    go_quiet (fail)
    have hC := HCC.out.drewN nq
    have hbx := below_drewN HBX.out nq
    obtain ⟨wD, hwd⟩ : ∃ x, x = wd1.drewN nq := ⟨_, rfl⟩
    rw [← hwd] at hC hbx ⊢
    clear hwd d4 d5 d6 d7 HCC HBX hd0 hD0 hin hun
    have HCC := Lib.hid hC
    have HBX := Lib.hid hbx
    have HTD := Lib.hid (HT.out.below hbx)
    have YAT : Hid (∀ i, i < 64 → Y[i]? = some (.int .u32 ((wd l i : Nat) : Int))) := fun i hi => by rw [← HYE.out]; exact row_at _ hi
    clear hC hbx
    go_wp2_with (with_reducible refine wpList_load_blk rfl 57 (.tmp 3) rfl g3 Y 57 HCC.out rfl _ Tryd.underlying57 rfl hWi.out ?_)
    go_loop [4, 5, 6, 7, 8, 9, 10, 11, 44] (fun s4 s5 s6 s7 s8 s9 s10 s11 s44 => ∃ t : Nat, t ≤ 64 ∧ s44 = .int .i64 t ∧ s4 = .int .u32 ((rnds v l t).a : Nat) ∧ s5 = .int .u32 ((rnds v l t).b : Nat) ∧ s6 = .int .u32 ((rnds v l t).c : Nat) ∧ s7 = .int .u32 ((rnds v l t).d : Nat) ∧ s8 = .int .u32 ((rnds v l t).e : Nat) ∧ s9 = .int .u32 ((rnds v l t).f : Nat) ∧ s10 = .int .u32 ((rnds v l t).g : Nat) ∧ s11 = .int .u32 ((rnds v l t).i : Nat)) (fun _ _ _ _ _ _ _ _ i => 64 - (intOf i).toNat)
    case atStart => exact ⟨0, by omega, rfl, rfl, rfl, rfl, rfl, rfl, rfl, rfl, rfl⟩
    case round =>
      obtain ⟨t, ht, rfl, rfl, rfl, rfl, rfl, rfl, rfl, rfl, rfl⟩ := hrel
      by_cases hlt : t < 64
      · have htI : (t : Int) < 64 := by omega
        have hok := rnds_ok HS.out l t
        have HR : Hid (rnds v l (t + 1) = rnd (rnds v l t) (kt.getD t 0) (wd l t)) := rfl
        obtain ⟨u, hu⟩ : ∃ u, rnds v l t = u := ⟨_, rfl⟩
        rw [hu] at hok HR ⊢
        clear hu
        obtain ⟨a, b', c, d, e, f', g', i'⟩ := u
        obtain ⟨o1, o2, o3, o4, o5, o6, o7, o8⟩ := hok
        simp only at o1 o2 o3 o4 o5 o6 o7 o8
        dsimp only
        have hYt := Lib.hid (YAT.out t hlt)
        have ck := HTD.out.k t hlt
        have hKl := kt_lt t hlt
        have hWl := wd_lt l t
        obtain ⟨K, hK⟩ : ∃ K, kt.getD t 0 = K := ⟨_, rfl⟩
        obtain ⟨Wt, hWt⟩ : ∃ Wt, wd l t = Wt := ⟨_, rfl⟩
        rw [hK] at hKl HR ck
        rw [hWt] at hWl HR hYt
        clear hK hWt
        have z1 := Lib.hid (turned_c e 6 6 rfl o5 turnOk_all.2.1 wD)
        have z2 := Lib.hid (turned_c e 11 11 rfl o5 turnOk_all.2.2.2.1 wD)
        have z3 := Lib.hid (turned_c e 25 25 rfl o5 turnOk_all.2.2.2.2.2.2.2.2.2 wD)
        have z4 := Lib.hid (turned_c a 2 2 rfl o1 turnOk_all.1 wD)
        have z5 := Lib.hid (turned_c a 13 13 rfl o1 turnOk_all.2.2.2.2.1 wD)
        have z6 := Lib.hid (turned_c a 22 22 rfl o1 turnOk_all.2.2.2.2.2.2.2.2.1 wD)
        have x1 := xor3 _ _ _ (rotN_lt 6 o5) (rotN_lt 11 o5) (rotN_lt 25 o5)
        rw [show rotN 6 e ^^^ rotN 11 e ^^^ rotN 25 e = S1 e from rfl] at x1
        have y1 := xor3 _ _ _ (rotN_lt 2 o1) (rotN_lt 13 o1) (rotN_lt 22 o1)
        rw [show rotN 2 a ^^^ rotN 13 a ^^^ rotN 22 a = S0 a from rfl] at y1
        have y2 := maj_val a b' c o1 o2 o3
        have X2 := Lib.hid (ch_val2 e f' g' o5 o6 o7)
        go_wp2_with (with_reducible refine wpList_index_row rfl 57 (.tmp 43) (.tmp 44) rfl 45 64 _ Y t _ rfl rfl Tryd.underlying57 Tryd.underlying45 rfl infoW hlt hYt.out ?_)
        refine z1.out.mono ?_
        rintro e' w' ⟨rfl, rfl⟩
        go_wp2_with fail
        refine z2.out.mono ?_
        rintro e' w' ⟨rfl, rfl⟩
        go_wp2_with fail
        refine z3.out.mono ?_
        rintro e' w' ⟨rfl, rfl⟩
        go_wp2_with fail
        refine z4.out.mono ?_
        rintro e' w' ⟨rfl, rfl⟩
        go_wp2_with fail
        refine z5.out.mono ?_
        rintro e' w' ⟨rfl, rfl⟩
        go_wp2_with fail
        refine z6.out.mono ?_
        rintro e' w' ⟨rfl, rfl⟩
        go_wp2_with fail
        go_round
        case rel =>
          refine ⟨t + 1, by omega, by go_num, ?_⟩
          rw [HR.out, X2.out]
          refine ⟨int_val ?_, rfl, rfl, rfl, int_val ?_, rfl, rfl, rfl⟩
          · show _ = ((((one ⟨a, b', c, d, e, f', g', i'⟩ K Wt + two ⟨a, b', c, d, e, f', g', i'⟩) % 4294967296 : Nat)) : Int)
            unfold one two
            dsimp only
            omega
          · show _ = (((d + one ⟨a, b', c, d, e, f', g', i'⟩ K Wt) % 4294967296 : Nat) : Int)
            unfold one
            dsimp only
            omega
        case measure => simp [intOf]; omega
      · obtain rfl : t = 64 := by omega
        have hv2 := rnds_ok HS.out l 64
        obtain ⟨u, hu⟩ : ∃ u, rnds v l 64 = u := ⟨_, rfl⟩
        rw [hu] at hv2 HMV ⊢
        have UAT : Hid (∀ i, i < 8 → (wcells u.list)[i]? = some (.int .u32 ((u.at i : Nat) : Int))) := fun i hi => row_at u.at hi
        have HBD := Lib.hid (HB.out.below HBX.out)
        have HGD := Lib.hid (grown_of_below g HBX.out)
        clear hu
        go_wp2_with fail
        go_loopg [117] 8 (fun k s wy => ∃ (i : Nat) (h : Nat → Nat), i + k = 8 ∧ s = .int .i64 i ∧ Hid ((∀ j, j < i → h j = moved f b j) ∧ (∀ j, i ≤ j → h j = f j)) ∧ Blk wy g 52 (hrow h b n) ∧ w.grownBy wy (some g))
        case atStart => exact ⟨0, f, rfl, rfl, ⟨fun j h => by omega, fun j _ => rfl⟩, HBD.out, HGD.out⟩
        case round =>
          obtain ⟨i, h, hik, rfl, HH, hS, hgr⟩ := hrel
          rcases gk with _ | k
          · obtain rfl : i = 8 := by omega
            have he : row 8 h = row 8 (moved f b) := row_eq HH.out.1
            have hfin : Blk wr g 52 (hrow (moved f b) b n) := by
              have h1 := hS
              unfold hrow at h1 ⊢
              rw [he] at h1
              exact h1
            have HFN := Lib.hid hfin
            have HGR := Lib.hid hgr
            clear hS hgr HH he hfin
            go_wp2_with fail
            go_end0
            exact ⟨⟨_, rfl⟩, HFN.out, HGR.out⟩
          · have hi8 : i < 8 := by omega
            have hiI : (i : Int) < 8 := by omega
            have c1 := (hS.cell i).trans (hrow_word h b n hi8)
            have f1 := hS.frozen i
            rw [HH.out.2 i (Nat.le_refl _)] at c1
            have k1 := HF.out i hi8
            have k2 := st_at hv2 i hi8
            have HUI := Lib.hid (UAT.out i hi8)
            have HMI := Lib.hid (HMV.out i hi8)
            have HS1 : Hid (∀ j, j < i + 1 → upd h i (moved f b i) j = moved f b j) := by
              intro j hj
              by_cases he : j = i
              · rw [he, upd_at]
              · rw [upd_ne he]; exact HH.out.1 j (by omega)
            have HS2 : Hid (∀ j, i + 1 ≤ j → upd h i (moved f b i) j = f j) := fun j hj => by rw [upd_ne (by omega)]; exact HH.out.2 j (by omega)
            obtain ⟨x, hx⟩ : ∃ x, f i = x := ⟨_, rfl⟩
            obtain ⟨y, hy⟩ : ∃ y, u.at i = y := ⟨_, rfl⟩
            rw [hx] at c1 k1 HMI
            rw [hy] at k2 HUI HMI
            obtain ⟨A, q, hA⟩ := add32 k1 k2
            have HWA : Hid (moved f b i = A) := by show _ = _; rw [HMI.out, hA.2]
            rw [HWA.out] at HS1 HS2
            clear hx hy hA HMI
            have HSET : Hid (Blk (wr.drew.setCell ⟨g, i, none⟩ (.int .u32 (A : Int))) g 52 (hrow (upd h i A) b n)) := by
              have h := Blk.set (w := wr.drew) hS i (.int .u32 (A : Int))
              rw [hrow_setw _ _ _ hi8] at h
              exact h
            have HGR : Hid (w.grownBy (wr.drew.setCell ⟨g, i, none⟩ (.int .u32 (A : Int))) (some g)) := grown_set hgr i _
            have d1 : wr.drew.cell? ⟨g, i, none⟩ = some (.int .u32 (x : Int)) := c1
            have f3 : wr.drew.frozen? ⟨g, i, none⟩ = false := f1
            clear hS hgr HH HWA
            go_wp2_with (refine wpList_index_row rfl 46 (.tmp 116) (.tmp 117) rfl 45 8 _ (wcells u.list) i _ rfl rfl Tryd.underlying46 Tryd.underlying45 rfl infoW hi8 HUI.out ?_)
            go_still_tail 11, (by kernel_rfl)
            change wpList _ _ _ _ _ wr.drew
            obtain ⟨wd', hwd⟩ : ∃ wd', wd' = wr.drew := ⟨_, rfl⟩
            rw [← hwd] at HSET HGR d1 f3 ⊢
            clear hwd c1 f1
            go_wp2_with fail
            go_roundg k
            case measure => omega
            case rel => exact ⟨i + 1, _, by omega, by go_num, ⟨HS1.out, HS2.out⟩, HSET.out, HGR.out⟩
end Go.Proofs.YtohmhcglmaifpaaDoor.sha
