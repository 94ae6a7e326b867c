/- The developers' ending. Condition: sha's package variables (Tabs). -/
import Derived.Test.YtpijnkfbgieabaaDoorTrB
import Derived.Test.YtpijnkfbgieabaaDoorShTrj
namespace Go.Proofs.YtpijnkfbgieabaaDoor.tri
open Go.RowKit
open Go.Proofs.YtpijnkfbgieabaaDoor.oct Go.Proofs.YtpijnkfbgieabaaDoor.ref Go.Proofs.YtpijnkfbgieabaaDoor.rows Go.Proofs.YtpijnkfbgieabaaDoor.rowg Go.Proofs.YtpijnkfbgieabaaDoor.trn Go.Proofs.YtpijnkfbgieabaaDoor.qut
open Go.Proofs.YtpijnkfbgieabaaDoor.sha (digest digest_len dval Tabs)
open Go.Lib (byteCells)

theorem sumOf_c {w : World} {l : List Pr} {p : Option Addr} {cp B n : Nat} (h : w.ownsRow B 44 2 (.slice p n cp) n (cells penc l)) (hl : l.length = n) (ht : Tabs w) (hf : ∀ x ∈ l, Fit x) (h1 : 1 ≤ n) (hn : n ≤ 8192) :
    Calls Tryd.prog 100 #[.slice p n cp] w fun e w' => e = .returned (dval (leafD l)) ∧ Below w.heap.size w w' := by
  by_cases h2 : 2 ≤ n
  · exact sumOf_many h hl ht hf h2 hn
  · obtain rfl : n = 1 := by omega
    rcases l with _ | ⟨x, _ | ⟨y, l⟩⟩
    · cases hl
    · have hx := hf x (List.mem_cons_self ..)
      exact sumOf_one h ht hx.1 hx.2
    · cases hl
/-- blocks from n0 on -/
def From (n0 : Nat) (w : World) (k : Nat) : Prop := n0 ≤ k ∧ k < w.heap.size
set_option maxRecDepth 100000 in
set_option maxHeartbeats 8000000 in
theorem ending_c {w0 w : World} {way : T} {l : List Pr} {p : Option Addr} {cp B n : Nat} (hb : Below w0.heap.size w0 w) (hB : w0.heap.size ≤ B) (h : w.ownsRow B 44 2 (.slice p n cp) n (cells penc l)) (hl : l.length = n) (ht : Tabs w0) (hf : ∀ x ∈ l, Fit x) (hw : way.length = 32)
    (hd : ∀ x ∈ l, digest x.n = way) (hne : l.Pairwise fun x y => x.n ≠ y.n) (h1 : 1 ≤ n) (hn : n ≤ 8192) :
    Calls Tryd.prog 78 #[.agg (byteCells way).toArray, .slice p n cp] w fun e w' => ∃ b l', e = .returned (nptr (some b)) ∧ l'.Perm l ∧ Srt l' ∧ Leaf w' (From w0.heap.size w') b l' ∧ Below w0.heap.size w0 w' ∧ Turn (fun k => (Value.slice p n cp).ownBlock = some k) w w' := by
  have hdl : (byteCells way).length = 32 := by rw [byteCells_len, hw]
  obtain ⟨D, hD⟩ : ∃ D, byteCells way = D := ⟨_, rfl⟩
  rw [hD] at hdl ⊢
  have hDi : Hid ((Tryd.prog.info? 103).map (·.size) = some D.length) := by show _ = _; rw [hdl]; exact infoPath
  have hb1 := (Below.refl w.heap.size w).alloc (Nat.le_refl _) (.cells D.toArray 103)
  have hB1 := blk_new w D.toArray 103 D rfl
  obtain ⟨w1, hw1⟩ : ∃ w1, w.alloc (.cells D.toArray 103) = w1 := ⟨_, rfl⟩
  rw [hw1] at hb1 hB1
  have HSC := Lib.hid (sort_c (own_belowG h hb1) hl h1 (by omega))
  have hob : ∀ k, (Value.slice p n cp).ownBlock = some k → B ≤ k ∧ k < w.heap.size := fun k hk => h.lt k hk
  have HB1 := Lib.hid hb1
  have HBK := Lib.hid hB1
  have HB := Lib.hid (bnext hb hb1)
  have HF := Lib.hid hf
  have HT := Lib.hid ht
  have HL := Lib.hid hl
  have HD := Lib.hid hd
  have HDD := Lib.hid hD
  have HNE := Lib.hid hne
  have HW := Lib.hid hw
  have HO := Lib.hid hob
  have HBW := Lib.hid hb
  have i0 : ((n : Int) == 0) = false := by rw [beq_eq_false_iff_ne]; omega
  clear h hl ht hf hD hd hne hw hob hb1 hB1 hb
  go_enter Tryd.func78, Tryd.ntmps78
  go_wp2_with fail
  refine HSC.out.mono ?_
  rintro e w2 ⟨rfl, l', hp, hs, ho, hg⟩
  have hl2 : l'.length = n := hp.length_eq.trans HL.out
  have hb2 : Below w0.heap.size w0 w2 := HB.out.grown hg HB.out.size fun k hk => by have := (HO.out k hk).1; omega
  have hturn : Turn (fun k => (Value.slice p n cp).ownBlock = some k) w1 w2 := Turn.of_row hg fun b hb => hb
  have hpb : Blk w2 w.heap.size 103 D := blk_turn HBK.out hturn fun e => by have := (HO.out _ e).2; omega
  have hC : ∀ y : After w2, Calls Tryd.prog 100 #[.slice p n cp] y.v fun e w' => e = .returned (dval (leafD l')) ∧ Below y.v.heap.size y.v w' := fun y =>
    sumOf_c (own_belowG ho y.below) hl2 ((HT.out.below hb2).below y.below) (fun x hx => HF.out x (hp.mem_iff.1 hx)) h1 hn
  have hr : ∀ w', (∃ y : After w2, w' = y.v) → w'.rangeAt w.heap.size 0 D := fun w' ⟨y, e⟩ j v hj => by
    rw [e, Nat.zero_add, (hpb.below y.below).cell j]
    exact hj
  have hbd := built_leaf (leafD l') n (.slice p n cp) way rfl (leafD_len l') HW.out
  rw [HDD.out] at hbd
  have HNB : Hid (∀ (W W2 : World) (b : Nat), Below w2.heap.size w2 W → b = W.heap.size → W2 = W.alloc (.cells (ncells (leafD l') n (.slice p n cp) way noKid).toArray 114) → Leaf W2 (From w0.heap.size W2) b l' ∧ Below w0.heap.size w0 W2 ∧ Turn (fun k => (Value.slice p n cp).ownBlock = some k) w W2) := by
    intro W W2 b hb e1 e2
    subst e1
    subst e2
    have h5 := bnext hb2 hb
    have h6 := (Below.refl W.heap.size W).alloc (Nat.le_refl _) (.cells (ncells (leafD l') n (.slice p n cp) way noKid).toArray 114)
    have h7 := bnext h5 h6
    refine ⟨⟨.slice p n cp, way, ⟨?_, leafD_len _, HW.out, h5.size, by simp⟩, ?_, fun k hk => ⟨?_, ?_⟩, fun x hx => HD.out x (hp.mem_iff.1 hx), by omega⟩, h7, (Turn.of_below HB1.out).next (hturn.next ((Turn.of_below hb).next (Turn.of_below h6)))⟩
    · rw [hl2]; exact blk_new W _ _ _ rfl
    · rw [hl2]; exact Go.Proofs.YtpijnkfbgieabaaDoor.cln.own_base (own_belowG (own_belowG ho hb) h6) (Nat.zero_le _)
    · have := (HO.out k hk).1; omega
    · have := (HO.out k hk).2
      have := HBW.out.size
      have := HB1.out.size
      have := hturn.size
      have := hb.size
      have := h6.size
      omega
  have HPS := Lib.hid (And.intro hp (perm_srt hp hs HNE.out))
  obtain ⟨Y, hY⟩ : ∃ Y, ncells (leafD l') n (.slice p n cp) way noKid = Y := ⟨_, rfl⟩
  rw [hY] at hbd HNB
  unfold dval at hC
  obtain ⟨E, hE⟩ : ∃ E, byteCells (leafD l') = E := ⟨_, rfl⟩
  rw [hE] at hbd hC
  have HBD := Lib.hid hbd
  have C3 := Lib.hid (fun y : After w2 => after_of y (hC y))
  have HR := Lib.hid hr
  clear hp hs ho hg hl2 hb2 hturn hpb hC hr hbd hY hE HSC
  go_upto_region 4 with fail
  refine wp_region_tail 6 (by kernel_rfl) (by kernel_rfl) ?_
  simp only [List.take_succ_cons, List.take_zero, List.drop_succ_cons, List.drop_zero]
  repeat (go_big_quiet_step (first
    | (rename_i y; go_at_call 100; with_reducible exact C3.out y)))
  refine wpQuiet_load_mid rfl 103 (.tmp 2) rfl w.heap.size 0 rfl D _ HR.out Tryd.underlying103 rfl hDi.out ?_
  simp only [Act.put, List.setIfInBounds_toArray, List.set_cons_zero, List.set_cons_succ]
  refine wpQuiet_nil ?_
  rintro ⟨w7, hb7⟩
  dsimp only
  have HB7 := Lib.hid hb7
  clear hb7 C3 HR
  refine wpList_build_to rfl 114 _ rfl Y.toArray (by simp only [List.map_toArray, List.map_cons, List.map_nil]; exact HBD.out) ?_
  go_wp2_with fail
  go_ret
  have hn := HNB.out w7 _ _ HB7.out rfl rfl
  exact ⟨w7.heap.size, l', rfl, HPS.out.1, HPS.out.2, hn.1, hn.2.1, hn.2.2⟩
end Go.Proofs.YtpijnkfbgieabaaDoor.tri
