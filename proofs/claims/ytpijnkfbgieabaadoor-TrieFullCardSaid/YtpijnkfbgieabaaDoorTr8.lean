/- The developers' joined. Condition: sha's package variables (Tabs). -/
import Derived.Test.YtpijnkfbgieabaaDoorTr7
import Derived.Test.YtpijnkfbgieabaaDoorQuT
import Derived.WalkKit
namespace Go.Proofs.YtpijnkfbgieabaaDoor.tri
open Go.RowKit
open Go.Proofs.YtpijnkfbgieabaaDoor.oct Go.Proofs.YtpijnkfbgieabaaDoor.ref Go.Proofs.YtpijnkfbgieabaaDoor.rows Go.Proofs.YtpijnkfbgieabaaDoor.rowg Go.Proofs.YtpijnkfbgieabaaDoor.trn Go.Proofs.YtpijnkfbgieabaaDoor.qut
open Go.Proofs.YtpijnkfbgieabaaDoor.sha (digest digest_len dval Tabs wpList_index_row)
open Go.Lib (byteCells)

/-- blocks that have come to be are theirs too -/
def FN (F : Nat → Prop) (w w' : World) (k : Nat) : Prop := F k ∨ (w.heap.size ≤ k ∧ k < w'.heap.size)
def cntP (l : List Pr) (d i : Nat) : Nat := ((List.range i).map fun k => (sub l d k).length).sum
theorem cntP_succ (l : List Pr) (d i : Nat) : cntP l d (i + 1) = cntP l d i + (sub l d i).length := by
  unfold cntP
  rw [List.range_succ, List.map_append, List.sum_append]
  simp
theorem cntP_all (l : List Pr) (d : Nat) : cntP l d 16 = l.length := sub_sum l d
theorem cntP_le (l : List Pr) (d : Nat) {i : Nat} (h : i ≤ 16) : cntP l d i ≤ l.length := by
  rw [← cntP_all l d]
  have : ∀ k, cntP l d i ≤ cntP l d (i + k) := fun k => by
    induction k with
    | zero => exact Nat.le_refl _
    | succ k ih => rw [← Nat.add_assoc, cntP_succ]; omega
  have h2 := this (16 - i)
  rwa [show i + (16 - i) = 16 by omega] at h2
def lastK (c : Nat → Option Nat) : Nat → Option Nat
  | 0 => none
  | i + 1 => match c i with | some b => some b | none => lastK c i
theorem lastK_of {c : Nat → Option Nat} {k0 : Nat} (h : ∀ k, k < 16 → k ≠ k0 → c k = none) : ∀ i, i ≤ 16 → lastK c i = if k0 < i then c k0 else none
  | 0, _ => by rw [if_neg (by omega)]; rfl
  | i + 1, hi => by
    have ih := lastK_of h i (by omega)
    by_cases e : i = k0
    · subst e
      rw [if_pos (by omega)]
      unfold lastK
      cases hc : c i with
      | some b => rfl
      | none =>
        rw [ih, if_neg (by omega)]
    · have hn := h i (by omega) e
      unfold lastK
      rw [hn]
      dsimp only
      rw [ih]
      by_cases h1 : k0 < i
      · rw [if_pos h1, if_pos (by omega)]
      · rw [if_neg h1, if_neg (by omega)]
theorem Nd.none_nil {w : World} {F : Nat → Prop} {f d : Nat} {l : List Pr} (h : Nd w F f d none l) : l = [] := by
  rcases h.cases with ⟨_, h⟩ | ⟨b, v, way, e, _⟩ | ⟨f', b, c, _, e, _⟩
  · exact h
  · cases e
  · cases e
theorem Nd.nil_none {w : World} {F : Nat → Prop} {f d : Nat} {p : Option Nat} (h : Nd w F f d p []) : p = none := by
  rcases h.cases with ⟨h, _⟩ | ⟨b, v, way, _, h, _⟩ | ⟨f', b, c, _, _, h, _⟩
  · exact h
  · have := h.pos; simp at this
  · simp at h
theorem Nd.some_count {w : World} {F : Nat → Prop} {f d b : Nat} {l : List Pr} (h : Nd w F f d (some b) l) : w.cell? ⟨b, 32, none⟩ = some (.int .i64 (l.length : Nat)) ∧ 1 ≤ l.length := by
  rcases h.cases with ⟨h, _⟩ | ⟨b', v, way, e, h, _⟩ | ⟨f', b', c, _, e, h2, hn, _⟩
  · cases h
  · injection e with e
    subst e
    exact ⟨h.nb.count, h.pos⟩
  · injection e with e
    subst e
    exact ⟨hn.count, by omega⟩
/-- where at most one pair is, the last node that is there is that of all -/
theorem last_nd {w : World} {F : Nat → Prop} {f d : Nat} {l : List Pr} {c : Nat → Option Nat} (h : SplitA w F f d l c) (hl : l.length ≤ 1) : Nd w F (f + 1) d (lastK c 16) l := by
  rcases l with _ | ⟨x, _ | ⟨y, l⟩⟩
  · have h0 : ∀ k, k < 16 → c k = none := fun k hk => (h k hk).nil_none
    have h1 := lastK_of (c := c) (k0 := 16) (fun k hk _ => h0 k hk) 16 (Nat.le_refl _)
    rw [if_neg (by omega)] at h1
    rw [h1]
    exact Nd.nil _ _ _ _
  · have h0 : ∀ k, k < 16 → k ≠ nib x.n d → c k = none := fun k hk hne => by
      have h2 := h k hk
      rw [sub_one, if_neg (fun e => hne e.symm)] at h2
      exact h2.nil_none
    have hk := nibW_lt (digest x.n) d
    have h1 := lastK_of h0 16 (Nat.le_refl _)
    rw [if_pos hk] at h1
    have h2 := h _ hk
    rw [sub_one, if_pos rfl] at h2
    rw [h1]
    rcases h2.cases with ⟨_, e⟩ | ⟨b, v, way, e, hlf, _⟩ | ⟨f', b, c', _, _, h3, _⟩
    · cases e
    · rw [e]
      exact Nd.one ⟨v, way, hlf⟩ rfl _ _
    · simp at h3
  · simp at hl
theorem infoP16 : (Tryd.prog.info? 93).map (·.size) = some 16 := infoP
set_option maxRecDepth 100000 in
set_option maxHeartbeats 8000000 in
theorem joined_c {w : World} {F : Nat → Prop} {f d : Nat} {l : List Pr} {c : Nat → Option Nat} (h : SplitA w F f d l c) (ht : Tabs w) (hl : l.length ≤ 1048576) :
    Calls Tryd.prog 52 #[.agg (kids c).toArray] w fun e w' => ∃ p, e = .returned (nptr p) ∧ Nd w' (FN F w w') (f + 1) d p l ∧ Below w.heap.size w w' := by
  have HS := Lib.hid h
  have HT := Lib.hid ht
  have hxl := kids_len c
  have HXI : Hid (∀ i, i < 16 → (kids c)[i]? = some (nptr (c i))) := fun i hi => kids_at c hi
  have HXE : Hid (kids c = kids c) := rfl
  obtain ⟨X, hX⟩ : ∃ X, kids c = X := ⟨_, rfl⟩
  rw [hX] at hxl HXI ⊢
  have HXD := Lib.hid hX
  have hix : Hid ((Tryd.prog.info? 93).map (·.size) = some X.length) := by show _ = _; rw [hxl]; exact infoP
  have hb1 := (Below.refl w.heap.size w).alloc (Nat.le_refl _) (.cells X.toArray 93)
  have hB1 := blk_new w X.toArray 93 X rfl
  obtain ⟨w1, hw1⟩ : ∃ w1, w.alloc (.cells X.toArray 93) = w1 := ⟨_, rfl⟩
  rw [hw1] at hb1 hB1
  have HB1 := Lib.hid hb1
  have HX1 := Lib.hid hB1
  have HBB := Lib.hid hb1
  clear h ht hxl hX hb1 hB1 HXE
  go_enter Tryd.func52, Tryd.ntmps52
  go_wp2_with (with_reducible refine wpList_load_blk rfl 93 (.tmp 1) rfl w.heap.size X 93 HX1.out rfl _ Tryd.underlying93 rfl hix.out ?_)
  go_loopg [3, 4, 6, 8] 16 (fun k s3 s4 s6 s8 wy => ∃ i : Nat, i + k = 16 ∧ s8 = .int .i64 (i : Int) ∧ s3 = .int .i64 (cntP l d i : Nat) ∧ s4 = nptr (lastK c i) ∧ wy = w1)
  case atStart => exact ⟨0, rfl, rfl, rfl, rfl, rfl⟩
  case round =>
    obtain ⟨i, hik, rfl, rfl, rfl, rfl⟩ := hrel
    rcases gk with _ | k
    · obtain rfl : i = 16 := by omega
      rw [cntP_all]
      by_cases h1 : l.length ≤ 1
      · have HN := Lib.hid (((last_nd HS.out h1).below HB1.out).mono (F2 := FN F w wr) fun k hk => Or.inl hk)
        have hI : (l.length : Int) ≤ 1 := by omega
        obtain ⟨v, hv⟩ : ∃ v, nptr (lastK c 16) = v := ⟨_, rfl⟩
        have HV := Lib.hid hv
        rw [hv]
        clear hv h1
        go_wp2_with fail
        go_ret
        exact ⟨_, HV.out ▸ rfl, HN.out, HB1.out⟩
      · have hI : ¬ ((l.length : Int) ≤ 1) := by omega
        have hC : ∀ y : After wr, Calls Tryd.prog 75 #[.agg X.toArray] y.v fun e w' => e = .returned (dval (digP (f + 1) d l)) ∧ Below y.v.heap.size y.v w' := fun y => by
          have h2 := psum_c (w := y.v) (c := c) (fun k hk => ((HS.out k hk).below HB1.out).below y.below) ((HT.out.below HB1.out).below y.below)
          rw [HXD.out, preP_dig f d (by omega)] at h2
          exact h2
        have hr : ∀ w', (∃ y : After wr, w' = y.v) → w'.rangeAt w.heap.size 0 X := fun w' ⟨y, e⟩ j v hj => by
          rw [e, Nat.zero_add, (HX1.out.below y.below).cell j]
          exact hj
        have hdl : (digP (f + 1) d l).length = 32 := digP_len _ _ _
        have hbd := built_fork (digP (f + 1) d l) l.length c hdl
        rw [HXD.out] at hbd
        have HNB : Hid (∀ (W W2 : World) (b : Nat), Below wr.heap.size wr W → b = W.heap.size → W2 = W.alloc (.cells (ncells (digP (f + 1) d l) l.length (.slice none 0 0) zeros c).toArray 114) → Nd W2 (FN F w W2) (f + 1) d (some b) l ∧ Below w.heap.size w W2) := by
          intro W W2 b hb e1 e2
          subst e1
          subst e2
          have h5 := bnext HB1.out hb
          have h6 := h5.alloc h5.size (.cells (ncells (digP (f + 1) d l) l.length (.slice none 0 0) zeros c).toArray 114)
          refine ⟨Or.inr (Or.inr ⟨_, c, rfl, by omega, ⟨blk_new W _ _ _ rfl, hdl, rfl, Or.inr ⟨h5.size, by simp⟩⟩, fun k hk => ((HS.out k hk).below h6).mono fun i hi => Or.inl hi⟩), h6⟩
        obtain ⟨lv, hlv⟩ : ∃ lv, nptr (lastK c 16) = lv := ⟨_, rfl⟩
        rw [hlv]
        clear hlv
        obtain ⟨Y, hY⟩ : ∃ Y, ncells (digP (f + 1) d l) l.length (.slice none 0 0) zeros c = Y := ⟨_, rfl⟩
        rw [hY] at hbd HNB
        unfold dval at hC
        obtain ⟨D, hD⟩ : ∃ D, byteCells (digP (f + 1) d l) = D := ⟨_, rfl⟩
        rw [hD] at hbd hC
        have HBD := Lib.hid hbd
        have C3 := Lib.hid (fun y : After wr => after_of y (hC y))
        have HR := Lib.hid hr
        clear hC hr hbd hdl hY hD h1
        go_upto_region 12 with fail
        refine wp_region_tail 4 (by kernel_rfl) (by kernel_rfl) ?_
        simp only [List.take_succ_cons, List.take_zero, List.drop_succ_cons, List.drop_zero]
        refine wpQuiet_load_mid rfl 93 (.tmp 1) rfl w.heap.size 0 rfl X _ HR.out Tryd.underlying93 rfl hix.out ?_
        simp only [Act.put, List.setIfInBounds_toArray, List.set_cons_zero, List.set_cons_succ]
        repeat (go_big_quiet_step (first
          | (rename_i y; go_at_call 75; with_reducible exact C3.out y)))
        refine wpQuiet_load_mid rfl 93 (.tmp 1) rfl w.heap.size 0 rfl X _ HR.out Tryd.underlying93 rfl hix.out ?_
        simp only [Act.put, List.setIfInBounds_toArray, List.set_cons_zero, List.set_cons_succ]
        refine wpQuiet_nil ?_
        rintro ⟨w7, hb7⟩
        dsimp only
        have HB7 := Lib.hid hb7
        clear hb7 C3 HR
        refine wpList_build_to rfl 114 _ rfl Y.toArray (by simp only [List.map_toArray, List.map_cons, List.map_nil]; exact HBD.out) ?_
        go_wp2_with fail
        go_ret
        have hn := HNB.out w7 _ _ HB7.out rfl rfl
        exact ⟨some w7.heap.size, rfl, hn.1, hn.2⟩
    · have hi16 : i < 16 := by omega
      have hiI : (i : Int) < 16 := by omega
      have hxi := HXI.out i hi16
      have hnd := (HS.out i hi16).below HB1.out
      have hcs := cntP_succ l d i
      have hcl := cntP_le l d (show i + 1 ≤ 16 by omega)
      have HLK : Hid (lastK c (i + 1) = match c i with | some b => some b | none => lastK c i) := rfl
      obtain ⟨n1, hn1⟩ : ∃ n1, cntP l d i = n1 := ⟨_, rfl⟩
      obtain ⟨n2, hn2⟩ : ∃ n2, cntP l d (i + 1) = n2 := ⟨_, rfl⟩
      rw [hn1, hn2] at hcs
      rw [hn2] at hcl
      rw [hn1]
      have HN2 := Lib.hid hn2
      obtain ⟨lk, hlk⟩ : ∃ lk, lastK c i = lk := ⟨_, rfl⟩
      rw [hlk] at HLK ⊢
      cases hc : c i with
      | none =>
        rw [hc] at hxi hnd HLK
        have h0 := hnd.none_nil
        have HE : Hid (n2 = n1) := by show _ = _; rw [hcs, h0]; rfl
        unfold nptr at hxi
        clear hnd hcs hcl hn1 hn2 hlk hc h0
        go_wp2_with (with_reducible refine wpList_index_row rfl 93 (.tmp 7) (.tmp 8) rfl 82 16 _ X i _ rfl rfl Tryd.underlying93 Tryd.underlying82 rfl infoPt hi16 hxi ?_)
        go_roundg k
        case measure => omega
        case rel => exact ⟨i + 1, by omega, by go_num, by rw [HN2.out, HE.out], by rw [HLK.out], rfl⟩
      | some b =>
        rw [hc] at hxi hnd HLK
        obtain ⟨c0, hpos⟩ := hnd.some_count
        obtain ⟨m, hm⟩ : ∃ m, (sub l d i).length = m := ⟨_, rfl⟩
        rw [hm] at c0 hcs hpos
        have hwr : IntKind.i64.wrap ((n1 : Int) + (m : Int)) = (n2 : Int) := by rw [IntKind.wrap_i64]; omega
        unfold nptr at hxi
        clear hnd hn1 hn2 hlk hc hm hcs
        go_wp2_with (with_reducible refine wpList_index_row rfl 93 (.tmp 7) (.tmp 8) rfl 82 16 _ X i _ rfl rfl Tryd.underlying93 Tryd.underlying82 rfl infoPt hi16 hxi ?_)
        go_roundg k
        case measure => omega
        case rel => exact ⟨i + 1, by omega, by go_num, by rw [HN2.out], by rw [HLK.out]; rfl, rfl⟩
end Go.Proofs.YtpijnkfbgieabaaDoor.tri
