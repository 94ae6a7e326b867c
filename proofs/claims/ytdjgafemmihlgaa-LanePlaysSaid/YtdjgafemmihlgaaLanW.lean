/- The reference's Heal, Drop, Take. -/
import Derived.Test.YtdjgafemmihlgaaLanU
import Derived.Deep.MidRow
namespace Go.Proofs.Ytdjgafemmihlgaa.lan
open Go.RowKit
open Go.Proofs.Ytdjgafemmihlgaa.oct Go.Proofs.Ytdjgafemmihlgaa.ref Go.Proofs.Ytdjgafemmihlgaa.rows Go.Proofs.Ytdjgafemmihlgaa.rowg Go.Proofs.Ytdjgafemmihlgaa.trn
open Go.Lib (byteCells)

theorem blk_setCells : ∀ (l A old : List Value) (w : World) (g e : Nat), Blk w g e (A ++ old) → l.length = old.length → Blk (w.setCells g A.length l) g e (A ++ l)
  | [], A, [], _, _, _, h, _ => h
  | [], _, _ :: _, _, _, _, _, hl => by simp at hl
  | _ :: _, _, [], _, _, _, _, hl => by simp at hl
  | v :: r, A, x :: os, w, g, e, h, hl => by
    have h1 := h.set A.length v
    rw [set_at] at h1
    have h2 := blk_setCells r (A ++ [v]) os (w.setCell ⟨g, A.length, none⟩ v) g e (by rw [List.append_assoc]; exact h1) (by simpa using hl)
    rw [List.length_append, List.length_singleton, List.append_assoc] at h2
    exact h2
theorem turn_setCells (g : Nat) : ∀ (l : List Value) (o : Nat) (w : World), Turn (fun k => k = g) w (w.setCells g o l)
  | [], _, w => Turn.refl _ w
  | v :: r, o, w => (Turn.set (S := fun k => k = g) w g o v rfl).next (turn_setCells g r (o + 1) (w.setCell ⟨g, o, none⟩ v))
def zshut : List Value := shc (fun _ _ => false)
theorem zshut_len : zshut.length = 1024 := by unfold zshut shc; rw [List.length_map, List.length_range]
theorem zshut_one : ∀ v ∈ zshut, v.oneCell' = true := by
  intro v hv
  unfold zshut shc at hv
  obtain ⟨i, _, rfl⟩ := List.mem_map.1 hv
  rfl
theorem zero_shut (w : World) : (zeroValue 31).run Try.prog w = .ok (.agg zshut.toArray) w := by kernel_rfl
theorem info_shut : (Try.prog.info? 31).map (·.size) = some 1024 := by kernel_rfl
theorem RM.byg {w w' : World} {R : Nat → Prop} {g n n2 : Nat} {v : Value} {qs : List Qk} {f f2 : Nat → Nat → Bool} (h : RM w R g v qs n f) (ht : Turn (fun k => k = g) w w') (hB : Blk w' g 33 (rcells n2 v f2)) : RM w' R g v qs n2 f2 :=
  ⟨h.mem, fun k hk => Nat.lt_of_lt_of_le (h.lt k hk) ht.size, hB, ⟨own_turn h.way.own ht fun b hb e => own_blk h.way.own h.blk (by decide) hb e, h.way.foot, fun z hz => ⟨own_turn (h.way.each z hz).own ht fun b hb e => own_blk (h.way.each z hz).own h.blk (by decide) hb e, (h.way.each z hz).foot⟩⟩⟩
set_option maxRecDepth 100000 in
set_option maxHeartbeats 4000000 in
theorem rheal_c {w : World} {R : Nat → Prop} {g : Nat} {s : LS} (h : RA w R g s) :
    Calls Try.prog 35 #[ptr g] w fun e w' => e = .returned (.tuple #[]) ∧ RTo w w' R g (healP s) := by
  obtain ⟨v, qs, hM, hqs⟩ := h
  have hB := hM.blk
  have hth : w.there g 2 1024 := fun j hj => by
    have h1 := hB.cell (2 + j)
    have h2 : (2 + j) < (rcells s.n v s.sh).length := by rw [rcells_len]; omega
    rw [List.getElem?_eq_getElem h2] at h1
    exact ⟨by rw [h1]; rfl, hB.frozen _⟩
  have HT : Hid (RTo w (w.setCells g 2 zshut) R g (healP s)) := by
    have hb2 : Blk (w.setCells g 2 zshut) g 33 (rcells s.n v (fun _ _ => false)) :=
      blk_setCells zshut [.int .i64 (s.n : Nat), v] (shc s.sh) w g _ hB (by rw [zshut_len]; unfold shc; rw [List.length_map, List.length_range])
    exact ⟨R, ⟨v, qs, hM.byg (turn_setCells g zshut 2 w) hb2, hqs⟩, (turn_setCells g zshut 2 w).mono fun k _ e => e ▸ hM.mem, Grown.refl R w⟩
  have hst : (storeCells ⟨g, 2, none⟩ zshut).run Try.prog w = .ok () (w.setCells g 2 zshut) := by
    have h := run_storeCells_cells (P := Try.prog) g 2 zshut 0 w (fun j hj => (hth j (by rw [zshut_len] at hj; exact hj)).1) (fun j hj => (hth j (by rw [zshut_len] at hj; exact hj)).2) zshut_one
    exact h
  have hzl := zshut_len
  have hzv := zero_shut
  obtain ⟨Z, hZ⟩ : ∃ Z, zshut = Z := ⟨_, rfl⟩
  rw [hZ] at HT hst hzv hzl
  have hlt := hB.lt
  clear hM hqs hB hth hZ
  go_enter Try.func35, Try.ntmps35
  go_wp2_with fail
  go_end0
  exact ⟨rfl, HT.out⟩
/-- a row that is new takes the old one's place -/
theorem RM.fresh {w w1 : World} {R : Nat → Prop} {g n : Nat} {v v2 : Value} {qs ys : List Qk} {f : Nat → Nat → Bool} (h : RM w R g v qs n f) (hb : Below w.heap.size w w1) (how : w1.ownsRow w.heap.size 44 3 v2 ys.length (cells qenc ys)) (hsub : ∀ x ∈ ys, x ∈ qs) :
    ∃ R', RM (w1.setCell ⟨g, 1, none⟩ v2) R' g v2 ys n f ∧ Turn R w (w1.setCell ⟨g, 1, none⟩ v2) ∧ Grown R R' w := by
  have t1 : Turn (fun k => k = g) w w1 := Turn.of_below hb
  have t2 : Turn (fun k => k = g) w1 (w1.setCell ⟨g, 1, none⟩ v2) := Turn.set _ _ _ _ rfl
  have ht := t1.next t2
  have hB1 : Blk w1 g 33 (rcells n v f) := h.blk.below hb
  refine ⟨fun k => R k ∨ (w.heap.size ≤ k ∧ k < (w1.setCell ⟨g, 1, none⟩ v2).heap.size), ⟨Or.inl h.mem, ?_, ?_, ⟨own_turn (own_base how (Nat.zero_le _)) t2 fun b hb e => own_blk how hB1 (by decide) hb e, fun b e => Or.inr ?_, fun x hx => ?_⟩⟩, ht.mono fun k _ e => e ▸ h.mem, fun k hk => hk.imp id fun e => e.1⟩
  · rintro k (hk | hk)
    · exact Nat.lt_of_lt_of_le (h.lt k hk) ht.size
    · exact hk.2
  · rw [← rcells_set1 n v v2 f]; exact hB1.set 1 v2
  · have := how.lt b e
    exact ⟨this.1, by simpa using this.2⟩
  · have h3 := h.way.each x (hsub x hx)
    exact ⟨own_turn h3.own ht fun b hb e => own_blk h3.own h.blk (by decide) hb e, fun b e => Or.inl (h3.foot b e)⟩
def dropK (qs : List Qk) (k i : Nat) : List Qk := (qs.take i).eraseIdx k
theorem dropK_all (qs : List Qk) (k : Nat) : dropK qs k qs.length = qs.eraseIdx k := by unfold dropK; rw [List.take_length]
theorem dropK_same (qs : List Qk) (i : Nat) (hi : i < qs.length) : dropK qs i (i + 1) = dropK qs i i := by
  unfold dropK
  have hl : (qs.take i).length = i := by rw [List.length_take]; omega
  rw [List.take_succ_eq_append_getElem hi, List.eraseIdx_append_of_length_le (by omega), hl, Nat.sub_self, List.eraseIdx_cons_zero, List.append_nil, List.eraseIdx_of_length_le (by omega)]
theorem dropK_more (qs : List Qk) (k i : Nat) (hi : i < qs.length) (hne : i ≠ k) : dropK qs k (i + 1) = dropK qs k i ++ [qs[i]] := by
  unfold dropK
  have hl : (qs.take i).length = i := by rw [List.length_take]; omega
  rw [List.take_succ_eq_append_getElem hi]
  by_cases h : k < i
  · rw [List.eraseIdx_append_of_lt_length (by omega)]
  · rw [List.eraseIdx_append_of_length_le (by omega), List.eraseIdx_of_length_le (l := qs.take i) (by omega), List.eraseIdx_of_length_le (by simp; omega)]
theorem dropK_len (qs : List Qk) (k i : Nat) : (dropK qs k i).length ≤ qs.length := by
  unfold dropK
  exact Nat.le_trans (List.length_eraseIdx_le _ _) (by rw [List.length_take]; omega)
theorem dropK_sub (qs : List Qk) (k i : Nat) : ∀ x ∈ dropK qs k i, x ∈ qs := fun _ hx => List.take_subset _ _ ((List.eraseIdx_sublist _ _).subset hx)
/-- the row that Drop makes -/
def DInv (w wx : World) (v : Value) (qs : List Qk) (k i : Nat) : Prop := wx.ownsRow w.heap.size 44 3 v (dropK qs k i).length (cells qenc (dropK qs k i)) ∧ Below w.heap.size w wx
set_option maxRecDepth 100000 in
set_option maxHeartbeats 8000000 in
theorem rdrop_c {w : World} {R : Nat → Prop} {g : Nat} {s : LS} (h : RA w R g s) (hw : Wf s) (k : Int) (hk : I64 k) :
    Calls Try.prog 31 #[ptr g, .int .i64 k] w fun e w' => e = .returned (err (dropP s k).1) ∧ RTo w w' R g (dropP s k).2 ∧ w.grownBy w' (some g) := by
  have HH := Lib.hid h
  have a1 := hk.1
  have a2 := hk.2
  have b2 := hw.few
  obtain ⟨v, qs, hM, hqs⟩ := h
  have hl := map_len hqs
  obtain ⟨p, c, rfl, _, _, hat⟩ := hM.way.at
  have hB := hM.blk
  have hlt := hB.lt
  obtain ⟨L, hL⟩ : ∃ L, qs.length = L := ⟨_, rfl⟩
  have c1 : w.cell? ⟨g, 1, none⟩ = some (.slice p L c) := by rw [← hL]; exact hB.cell 1
  have f1 := hB.frozen 1
  have hL4 : L ≤ 4096 := by omega
  have hsl : s.ps.length = L := by omega
  unfold dropP
  cases ha : atP s k with
  | none =>
    dsimp only
    have hn := atP_none ha
    rw [hsl] at hn
    rcases (show k < 0 ∨ (0 ≤ k ∧ (L : Int) ≤ k) by omega) with h1 | ⟨h1, h2⟩
    · clear ha hw hM hqs hB hn hsl hat hl
      go_enter Try.func31, Try.ntmps31
      go_wp2_with fail
      go_ret
      exact ⟨rfl, RTo.refl HH.out, World.grownBy.refl _ _⟩
    · have h3 : ¬ (k < 0) := by omega
      clear ha hw hM hqs hB hn hsl hat hl
      go_enter Try.func31, Try.ntmps31
      go_wp2_with fail
      go_ret
      exact ⟨rfl, RTo.refl HH.out, World.grownBy.refl _ _⟩
  | some i =>
    dsimp only
    obtain ⟨_, rfl, hi⟩ := atP_some ha
    have hiL : i < L := by omega
    have i1 : ¬ ((i : Int) < 0) := by omega
    have i2 : ¬ ((L : Int) ≤ i) := by omega
    have HAT := Lib.hid hat
    have HLL := Lib.hid hL
    have HFIN : Hid (∀ (wx : World) (v2 : Value), DInv w wx v2 qs i L → RTo w (wx.setCell ⟨g, 1, none⟩ v2) R g (gone s i) ∧ w.grownBy (wx.setCell ⟨g, 1, none⟩ v2) (some g)) := by
      intro wx v2 hd
      have hd1 := hd.1
      rw [← hL, dropK_all] at hd1
      obtain ⟨R', r1, r2, r3⟩ := hM.fresh hd.2 hd1 fun _ hx => (List.eraseIdx_sublist _ _).subset hx
      refine ⟨⟨R', ⟨v2, _, r1, ?_⟩, r2, r3⟩, ?_⟩
      · unfold lan.gone
        dsimp only
        rw [← hqs, List.eraseIdx_eq_take_drop_succ, List.eraseIdx_eq_take_drop_succ, List.map_append, List.map_take, List.map_drop]
      · have hb := hd.2
        exact grown_trans ⟨hb.os, hb.tape, hb.output, hb.size, fun k hk _ => hb.block k hk⟩ (grownSet _ _ _)
    have HC1 : Hid (∀ wx, Below w.heap.size w wx → wx.cell? ⟨g, 1, none⟩ = some (.slice p L c) ∧ wx.frozen? ⟨g, 1, none⟩ = false ∧ g < wx.heap.size) := fun wx hb => ⟨(hb.cell (p := ⟨g, 1, none⟩) hlt).trans c1, (hB.below hb).frozen 1, Nat.lt_of_lt_of_le hlt hb.size⟩
    obtain ⟨j0, hj, hy0, hy1, hy2⟩ := info_parts infoPks
    have h0 : Hid (DInv w w (.slice none 0 0) qs i 0) := ⟨by rw [show dropK qs i 0 = [] by unfold dropK; rfl]; exact World.ownsRow_nil _ _ _ _, Below.refl _ _⟩
    clear ha hw hM hqs hB hsl hat hl hL hi
    go_enter Try.func31, Try.ntmps31
    go_wp2_with fail
    clear c1 f1
    go_loopg [5, 6] L (fun gk s5 s6 wx => ∃ t : Nat, t + gk = L ∧ s6 = .int .i64 (t : Int) ∧ Hid (DInv w wx s5 qs i t))
    case atStart => exact ⟨0, by omega, rfl, h0⟩
    case round =>
      obtain ⟨t, htg, rfl, HX⟩ := hrel
      obtain ⟨d1, d2, d3⟩ := HC1.out wr HX.out.2
      rcases gk with _ | gk
      · obtain rfl : L = t := by omega
        have HF := Lib.hid (HFIN.out wr u5 HX.out)
        obtain ⟨p5, c5, rfl⟩ := own_slice HX.out.1
        have k1 : ¬ ((L : Int) < L) := by omega
        go_wp2_with fail
        go_ret
        exact ⟨rfl, HF.out.1, HF.out.2⟩
      · have ht : t < L := by omega
        have htI : (t : Int) < L := by omega
        by_cases hti : t = i
        · have e0 : ((t : Int) != (i : Int)) = false := by rw [hti]; simp
          have HN : Hid (DInv w wr u5 qs i (t + 1)) := by
            have h := HX.out
            subst hti
            unfold DInv at h ⊢
            rw [dropK_same qs t (by rw [HLL.out]; exact ht)]
            exact h
          clear hti
          go_wp2_with fail
          go_roundg gk
          case measure => omega
          case rel => exact ⟨t + 1, by omega, by go_num, HN⟩
        · have e0 : ((t : Int) != (i : Int)) = true := by rw [bne_iff_ne]; omega
          obtain ⟨b, rfl, g0, g1, g2, _⟩ := HAT.out t (by rw [HLL.out]; exact ht)
          have hbl := cell_lt g0
          have q0 := (HX.out.2.cell (p := ⟨b, t * 3, none⟩) hbl).trans g0
          have q1 := (HX.out.2.cell (p := ⟨b, t * 3 + 1, none⟩) hbl).trans g1
          have q2 := (HX.out.2.cell (p := ⟨b, t * 3 + 2, none⟩) hbl).trans g2
          have HM := Lib.hid (dropK_more qs i t (by rw [HLL.out]; exact ht) hti)
          obtain ⟨x, hx⟩ : ∃ x, qs[t]'(by rw [HLL.out]; exact ht) = x := ⟨_, rfl⟩
          rw [hx] at q0 q1 q2 HM
          unfold Qk.v at q2
          have hlen : (dropK qs i t).length ≤ 4096 := by have := dropK_len qs i t; rw [HLL.out] at this; omega
          have HNX : Hid (∀ (gg cap : Nat) (w6 : World), w6.ownsRow w.heap.size 44 3 (.slice (some ⟨gg, 0, none⟩) ((dropK qs i t).length + 1) cap) ((dropK qs i t).length + 1) (cells qenc (dropK qs i t) ++ qenc x) → (wr.alloc (.cells #[.int .i64 (x.a : Nat), .int .i64 (x.b : Nat), .slice x.p x.d.length x.c] 44)).grownBy w6 u5.ownBlock → DInv w w6 (.slice (some ⟨gg, 0, none⟩) ((dropK qs i t).length + 1) cap) qs i (t + 1)) := by
            intro gg cap w6 r1 r2
            refine ⟨?_, ?_⟩
            · rw [HM.out, cells_append, cells_one, List.length_append, List.length_singleton]
              exact r1
            · exact (HX.out.2.alloc HX.out.2.size _).grown r2 (by have := HX.out.2.size; simp; omega) fun k hk => (HX.out.1.lt k hk).1
          have HOW := Lib.hid HX.out.1
          have HBS : Hid (w.heap.size ≤ wr.heap.size) := HX.out.2.size
          obtain ⟨nd, hnd⟩ : ∃ nd, dropK qs i t = nd := ⟨_, rfl⟩
          rw [hnd] at HNX HOW hlen
          clear g0 g1 g2 hx hti HM hnd hbl
          go_wp2_with (
            refine wpList_append_lies _ rfl (.tmp 30) (.tmp 38) 29 rfl w.heap.size 44 j0 (.agg #[.int .i64 0, .int .i64 0, .slice none 0 0]) 3 40 Try.underlying29 hj hy0 hy1 hy2 rfl (by decide) u5 nd.length (cells qenc nd) rfl (HOW.out.alloc _) ⟨wr.heap.size, 0, none⟩ 1 1 (qenc x) rfl rfl (q_new wr x _ rfl) (qenc_one _) (by decide) (by unfold maxLen; omega) (by omega) (by have := HBS.out; simp; omega) _ rfl ?_
            intro gg cap w6 r1 r2 r3 r4; have HF := Lib.hid (HNX.out gg cap w6 r1 r2); clear r1 r2 r3)
          go_roundg gk
          case measure => omega
          case rel => exact ⟨t + 1, by omega, by go_num, HF⟩
end Go.Proofs.Ytdjgafemmihlgaa.lan
