/- The reference's Arm and lay. -/
import Derived.Test.YtggcdlhgmikemaaPlt4
namespace Go.Proofs.Ytggcdlhgmikemaa.plt
open Go.RowKit
open Go.Proofs.Ytggcdlhgmikemaa.oct Go.Proofs.Ytggcdlhgmikemaa.ref Go.Proofs.Ytggcdlhgmikemaa.rows Go.Proofs.Ytggcdlhgmikemaa.rowg Go.Proofs.Ytggcdlhgmikemaa.trn
open Go.Proofs.Ytggcdlhgmikemaa.scp (lt)
open Go.Lib (byteCells)

set_option maxRecDepth 100000 in
set_option maxHeartbeats 4000000 in
theorem rarm_c {R : Nat → Prop} {w : World} {g : Nat} {st : PS} (h : RP w R g st) (n : Int) (h1 : -9223372036854775808 ≤ n) (h2 : n ≤ 9223372036854775807) :
    Calls Try.prog 32 #[.pointer (some ⟨g, 0, none⟩), .int .i64 n] w fun e w' => e = .returned (.tuple #[]) ∧ RP w' R g (armP st n) ∧ w.grownBy w' (some g) := by
  obtain ⟨P, c, fs, k, hM, hfs, hk, hk1, hk2⟩ := h
  have hB := hM.blk
  have c4 : w.cell? ⟨g, 4, none⟩ = some (.bool st.down) := hB.cell 4
  have c2 := hB.cell 2
  have c3 := hB.cell 3
  have f3 := hB.frozen 3
  have f2 := hB.frozen 2
  have hlt := hB.lt
  have HB := Lib.hid hB
  have HM := Lib.hid hM
  have HFS := Lib.hid hfs
  have HSAME : Hid (RP w R g st) := ⟨P, c, fs, k, hM, hfs, hk, hk1, hk2⟩
  cases hd : st.down with
  | true =>
    have HE : Hid (armP st n = st) := by show _ = _; unfold armP; rw [hd, if_pos rfl]
    rw [HE.out]
    rw [hd] at c4
    clear hM hB hfs hk hd HE
    go_enter Try.func32, Try.ntmps32
    go_wp2_with fail
    go_end0
    exact ⟨rfl, HSAME.out, World.grownBy.refl w _⟩
  | false =>
    rw [hd] at c4
    by_cases hn : n < 0
    · have HE : Hid (armP st n = { st with left := none }) := by show _ = _; unfold armP; rw [hd, if_neg (by simp), if_pos hn]
      rw [HE.out]
      have i1 : ¬ (n ≥ 0) := by omega
      have HR : Hid (RP ((w.setCell ⟨g, 2, none⟩ (.bool false)).setCell ⟨g, 3, none⟩ (.int .i64 n)) R g { st with left := none }) :=
        ⟨P, c, fs, n, HM.out.other (grown_trans (grownSet _ _ _) (grownSet _ _ _)) ((HB.out.set 2 (.bool false)).set 3 (.int .i64 n)), hfs, (fun x e => by cases e), h1, h2⟩
      clear hM hB hfs hk hd HE hn
      go_enter Try.func32, Try.ntmps32
      go_wp2_with fail
      go_end0
      exact ⟨rfl, HR.out, grown_trans (grownSet _ _ _) (grownSet _ _ _)⟩
    · have HE : Hid (armP st n = { st with left := some n.toNat }) := by show _ = _; unfold armP; rw [hd, if_neg (by simp), if_neg hn]
      rw [HE.out]
      have i1 : n ≥ 0 := by omega
      have HR : Hid (RP ((w.setCell ⟨g, 2, none⟩ (.bool true)).setCell ⟨g, 3, none⟩ (.int .i64 n)) R g { st with left := some n.toNat }) :=
        ⟨P, c, fs, n, HM.out.other (grown_trans (grownSet _ _ _) (grownSet _ _ _)) ((HB.out.set 2 (.bool true)).set 3 (.int .i64 n)), hfs, (fun x e => by injection e with e; omega), h1, h2⟩
      clear hM hB hfs hk hd HE hn
      go_enter Try.func32, Try.ntmps32
      go_wp2_with fail
      go_end0
      exact ⟨rfl, HR.out, grown_trans (grownSet _ _ _) (grownSet _ _ _)⟩
/-- R, and what is new -/
def Rx (R : Nat → Prop) (w w' : World) (k : Nat) : Prop := R k ∨ (w.heap.size ≤ k ∧ k < w'.heap.size)
theorem Rx.old {R : Nat → Prop} {w w' : World} {k : Nat} (h : R k) : Rx R w w' k := Or.inl h
theorem Rx.lt {R : Nat → Prop} {w w' : World} (h : ∀ k, R k → k < w.heap.size) (hs : w.heap.size ≤ w'.heap.size) : ∀ k, Rx R w w' k → k < w'.heap.size := fun k hk => hk.elim (fun h2 => Nat.lt_of_lt_of_le (h k h2) hs) (fun h2 => h2.2)
theorem Rx.not {R : Nat → Prop} {w w' : World} {g : Nat} (h : ¬ R g) (hg : g < w.heap.size) : ¬ Rx R w w' g := fun h2 => h2.elim h (fun h3 => by omega)
theorem RM.mono {R R2 : Nat → Prop} {w : World} {g c room : Nat} {P : Option Addr} {fs : List FA} {arm down : Bool} {k : Int} (h : RM w R g P c fs room arm k down) (hs : ∀ k, R k → R2 k) (hl : ∀ k, R2 k → k < w.heap.size) (hg : ¬ R2 g) : RM w R2 g P c fs room arm k down :=
  ⟨hl, hg, h.blk, h.row, h.nil, h.cap, fun b o e => hs b (h.foot b o e), fun x hx => (h.files x hx).mono hs⟩
theorem ing_new (W : World) (x : FA) (e : Nat) : InG fenc 3 (W.alloc (.cells #[.string ⟨x.n.toArray⟩, .slice x.p x.b.length x.c, .int .i64 (x.s : Nat)] e)) (some ⟨W.heap.size, 0, none⟩) [x] := fun _ =>
  ⟨W.heap.size, 0, rfl, fun i hi j hj => by
    rw [List.length_singleton] at hi
    obtain rfl : i = 0 := by omega
    rw [World.cell?_alloc_at _ _ _ _ rfl]
    have hj2 : j = 0 ∨ j = 1 ∨ j = 2 := by omega
    rcases hj2 with rfl | rfl | rfl <;> rfl⟩
theorem infoFiles : (Try.prog.info? 68).map (fun i => (i.zero, i.size, i.bytes)) = some (some (.agg #[.string ⟨#[]⟩, .slice none 0 0, .int .i64 0]), 3, 48) := by kernel_rfl
/-- the row of files that lay makes (ys), beside the box of what it is to lay (x) -/
structure LQ (w wx : World) (x : FA) (v : Value) (ys : List FA) : Prop where
  own : wx.ownsRow (w.heap.size + 1) 68 3 v ys.length (cells fenc ys)
  blk : Blk wx w.heap.size 68 (fenc x)
  bel : Below w.heap.size w wx
  sz : w.heap.size + 1 ≤ wx.heap.size
  len : ys.length ≤ 1000000002
theorem LQ.drew {w wx : World} {x : FA} {v : Value} {ys : List FA} (h : LQ w wx x v ys) (n : Nat) : LQ w (wx.drewN n) x v ys := ⟨h.own, h.blk, below_drewN h.bel n, h.sz, h.len⟩
theorem LQ.app {w w1 w2 : World} {x y : FA} {v v2 : Value} {ys : List FA} {o : Obj} (h : LQ w w1 x v ys) (hg : (w1.alloc o).grownBy w2 v.ownBlock) (ho : w2.ownsRow (w.heap.size + 1) 68 3 v2 (ys.length + 1) (cells fenc ys ++ cells fenc [y])) (hl : ys.length + 1 ≤ 1000000002) : LQ w w2 x v2 (ys ++ [y]) := by
  have hs := h.sz
  have hv := fun k hk => (h.own.lt k hk).1
  refine ⟨?_, ?_, (h.bel.alloc (by omega) o).grown hg (by simp; omega) (fun k hk => by have := hv k hk; omega), Nat.le_trans (by simp; omega) hg.size, by rw [List.length_append, List.length_singleton]; exact hl⟩
  · rw [cells_append, List.length_append, List.length_singleton]
    exact ho
  · have hb : Blk (w1.alloc o) w.heap.size 68 (fenc x) := blk_old h.blk o
    exact (hg.block w.heap.size hb.lt (fun e => by have := hv w.heap.size e.symm; omega)).trans hb
theorem own_sl3 {w : World} {B e k n : Nat} {v : Value} {xs : List Value} (h : w.ownsRow B e k v n xs) : ∃ p c, v = .slice p n c := by
  rcases h.2 with ⟨h1, h2⟩ | ⟨g, cap, cur, h1, _⟩
  · exact ⟨none, 0, by rw [h1, h2]⟩
  · exact ⟨_, _, h1⟩
/-- what is known of a round of lay -/
def LR (w wx : World) (fs : List FA) (x : FA) (v : Value) (put : Bool) (j : Nat) : Prop :=
  ∃ ys : List FA, LQ w wx x v ys ∧ (ys.map FA.f, put) = layK (fs.map FA.f) x.f j ∧ (∀ y ∈ ys, y = x ∨ y ∈ fs) ∧ ys.length ≤ j + put.toNat
/-- the end of lay: the row is the plate's -/
theorem lay_fin {R : Nat → Prop} {w wx : World} {g c room : Nat} {P : Option Addr} {fs ys : List FA} {arm down : Bool} {k : Int} {x : FA} {v : Value} (hlt : ∀ k, R k → k < w.heap.size) (hg : g < w.heap.size) (hx : FileOK w R x) (hsrc : ∀ y ∈ ys, y = x ∨ y ∈ fs) (h : LQ w wx x v ys) (hM : RM wx R g P c fs room arm k down) {L : List F} (hE : ys.map FA.f = L) :
    (∃ P' c' fs', RM (wx.setCell ⟨g, 0, none⟩ v) (Rx R w (wx.setCell ⟨g, 0, none⟩ v)) g P' c' fs' room arm k down ∧ fs'.map FA.f = L) ∧ w.grownBy (wx.setCell ⟨g, 0, none⟩ v) (some g) := by
  obtain ⟨p, cp, rfl, h1, h2, h3⟩ := own_g fenc_len (by decide) h.own
  have hb := h.bel
  have hgr : w.grownBy (wx.setCell ⟨g, 0, none⟩ (.slice p ys.length cp)) (some g) :=
    grown_trans ⟨hb.os, hb.tape, hb.output, hb.size, fun k hk _ => hb.block k hk⟩ (grownSet _ _ _)
  have hT : Turn (fun i => i = g) wx (wx.setCell ⟨g, 0, none⟩ (.slice p ys.length cp)) := Turn.of_grown (grownSet _ _ _) rfl
  have hsz : (wx.setCell ⟨g, 0, none⟩ (.slice p ys.length cp)).heap.size = wx.heap.size := by simp
  have hps : ∀ b o, p = some ⟨b, o, none⟩ → w.heap.size ≤ b ∧ b < wx.heap.size := fun b o e => by
    subst e
    have := h.own.lt b rfl
    omega
  refine ⟨⟨p, cp, ys, ⟨?_, Rx.not hM.own hg, hM.blk.set 0 _, ?_, h2, h1, ?_, ?_⟩, hE⟩, hgr⟩
  · exact Rx.lt hlt hgr.size
  · exact ing_turnR fenc_len (by decide) h3 hT (fun b o e hh => by have := (hps b o e).1; omega)
  · exact fun b o e => Or.inr (by rw [hsz]; exact hps b o e)
  · intro y hy
    rcases hsrc y hy with rfl | hf
    · exact ((hx.turn (S := fun _ => False) (Turn.of_below hb) (fun _ _ => id)).turn hT (fun k hk e => by have := hlt k hk; exact hM.own (e ▸ hk))).mono fun k hk => Or.inl hk
    · exact ((hM.files y hf).turn hT (fun k hk e => hM.own (e ▸ hk))).mono fun k hk => Or.inl hk
set_option maxRecDepth 100000 in
set_option maxHeartbeats 8000000 in
theorem rlay_c {R : Nat → Prop} {w : World} {g c room : Nat} {P : Option Addr} {fs : List FA} {arm down : Bool} {k : Int} (h : RM w R g P c fs room arm k down) (x : FA) (hx : FileOK w R x) (hs : Srt (fs.map FA.f)) (hl : fs.length ≤ 1000000000) :
    Calls Try.prog 44 #[.pointer (some ⟨g, 0, none⟩), .agg (fenc x).toArray] w fun e w' => e = .returned (.tuple #[]) ∧ (∃ P' c' fs', RM w' (Rx R w w') g P' c' fs' room arm k down ∧ fs'.map FA.f = layP (fs.map FA.f) x.f) ∧ w.grownBy w' (some g) := by
  have hglt := h.blk.lt
  have HLT := Lib.hid h.lt
  have HM := Lib.hid (fun wx (hb : Below w.heap.size w wx) => h.turn (S := fun _ => False) (Turn.of_below hb) (fun _ _ => id) id)
  have HX := Lib.hid hx
  have HALL := Lib.hid (lay_all hs x.f)
  obtain ⟨j0, hj0, hy0, hy1, hy2⟩ := info_parts infoFiles
  have hb0 := (Below.refl w.heap.size w).alloc (Nat.le_refl _) (.cells (fenc x).toArray 68)
  have hB0 : Blk (w.alloc (.cells (fenc x).toArray 68)) w.heap.size 68 (fenc x) := blk_new w _ _ _ rfl
  have HL0 : Hid (LR w (w.alloc (.cells (fenc x).toArray 68)) fs x (.slice none 0 0) (decide (x.b = [])) 0) :=
    ⟨[], ⟨World.ownsRow_nil _ _ _ _, hB0, hb0, by simp, by simp⟩, rfl, (fun y hy => by cases hy), by simp⟩
  have c1 := hB0.cell 1
  clear h hx hb0 hB0
  have e0 : ((x.b.length : Int) == 0) = decide (x.b = []) := by
    rw [Bool.eq_iff_iff, beq_iff_eq, decide_eq_true_iff]
    exact ⟨fun h => List.length_eq_zero_iff.1 (by omega), fun h => by rw [h]; rfl⟩
  unfold fenc at c1 HL0 ⊢
  go_enter Try.func44, Try.ntmps44
  go_wp2_with fail
  go_loopg [4, 5, 6] fs.length (fun gk s4 s5 s6 wx => ∃ (j : Nat) (put : Bool), j + gk = fs.length ∧ s6 = .int .i64 (j : Int) ∧ s5 = .bool put ∧ LR w wx fs x s4 put j)
  case atStart => exact ⟨0, _, by omega, rfl, rfl, HL0.out⟩
  case round =>
    obtain ⟨j, put, hjg, rfl, rfl, ys, h0, hlay, hsrc, hyl⟩ := hrel
    have H0 := Lib.hid h0
    have HLY := Lib.hid hlay
    have HSRC := Lib.hid hsrc
    have HYL := Lib.hid hyl
    clear h0 hlay hsrc hyl HL0 c1
    rcases gk with _ | gk
    · obtain rfl : j = fs.length := by omega
      have hM := HM.out wr H0.out.bel
      have c0 : wr.cell? ⟨g, 0, none⟩ = some (.slice P fs.length c) := hM.blk.cell 0
      have d0 := H0.out.blk.cell 0
      have d1 := H0.out.blk.cell 1
      have d2 := H0.out.blk.cell 2
      unfold fenc at d0 d1 d2
      have HRB := Lib.hid hM
      clear hM
      cases put with
      | true =>
        have HFIN := Lib.hid (lay_fin (L := layP (fs.map FA.f) x.f) HLT.out hglt HX.out HSRC.out H0.out HRB.out (by have h := HALL.out; rw [List.length_map, ← HLY.out] at h; unfold layE at h; simpa using h))
        obtain ⟨pv, cv, hv⟩ := own_sl3 H0.out.own
        have f0 := HRB.out.blk.frozen 0
        have hlt := HRB.out.blk.lt
        subst hv
        clear HRB
        go_wp2_with fail
        go_end0
        exact ⟨rfl, HFIN.out.1, HFIN.out.2⟩
      | false =>
        have HY : Hid (∀ y ∈ ys ++ [x], y = x ∨ y ∈ fs) := by
          show ∀ y ∈ _, _
          intro y hy
          simp only [List.mem_append, List.mem_singleton] at hy
          rcases hy with hy | hy
          · exact HSRC.out y hy
          · exact Or.inl hy
        have HE : Hid ((ys ++ [x]).map FA.f = layP (fs.map FA.f) x.f) := by
          have h := HALL.out
          rw [List.length_map, ← HLY.out] at h
          show _ = _
          rw [← h]
          unfold layE
          simp
        go_wp2_with (at_builtin; (refine wpList_append_g fenc_len (by decide) fenc_one rfl (.tmp 62) (.tmp 64) 29 68 rfl Try.underlying29 hj0 hy0 hy1 hy2 rfl (w.heap.size + 1) _ (ys).length _ rfl (H0.out.own.alloc _) _ 1 1 [x] rfl (ing_new _ x _) rfl (fun h => by cases h) (by have := H0.out.len; unfold maxLen; omega) (by have := H0.out.len; omega) (by have := H0.out.sz; simp; omega) ?_); intro v2 w2 q1 q2; have H2 := Lib.hid (H0.out.app q2 q1 (by have := HYL.out; simp at this ⊢; omega)); clear q1 q2; have HFIN := Lib.hid (lay_fin HLT.out hglt HX.out HY.out H2.out (HM.out w2 H2.out.bel) HE.out); obtain ⟨pv, cv, hv⟩ := own_sl3 H2.out.own; have hM2 := HM.out w2 H2.out.bel; have c0 : w2.cell? ⟨g, 0, none⟩ = some (.slice P fs.length c) := hM2.blk.cell 0; have f0 := hM2.blk.frozen 0; have hlt := hM2.blk.lt; clear hM2; subst hv)
        go_end0
        have hfin := HFIN.out
        simp only [List.length_append, List.length_singleton] at hfin
        exact ⟨rfl, hfin.1, hfin.2⟩
    · have hj : j < fs.length := by omega
      have hjI : (j : Int) < (fs.length : Int) := by omega
      obtain ⟨z, hz⟩ : ∃ z, fs[j] = z := ⟨_, rfl⟩
      have HZE := Lib.hid hz
      have HLS : Hid (layK (fs.map FA.f) x.f (j + 1) = layS x.f (ys.map FA.f, put) z.f) := by
        show _ = _
        rw [layK_succ (fs.map FA.f) x.f (by rw [List.length_map]; exact hj), ← HLY.out, List.getElem_map, hz]
      have HZ : Hid (z ∈ fs) := by show _ ∈ _; rw [← hz]; exact List.getElem_mem hj
      clear hz
      cases put with
      | true =>
        by_cases hneB : z.n = x.n
        · have HLF : Hid (((ys).map FA.f, true) = layK (fs.map FA.f) x.f (j + 1)) := by
            show _ = _
            rw [HLS.out]
            unfold layS
            dsimp only
            rw [if_neg (by simp), if_pos (show z.f.name = x.f.name from hneB), Bool.true_or]
            simp
          have HSR : Hid (∀ y ∈ ys, y = x ∨ y ∈ fs) := by
            show ∀ y ∈ _, _
            intro y hy
            exact HSRC.out y hy
          have e9 : (z.n == x.n) = true := by rw [beq_iff_eq]; exact hneB
          clear hneB
          have hM := HM.out wr H0.out.bel
          obtain ⟨b, o, hPe, a0, a1, a2⟩ := hM.at j hj
          rw [HZE.out] at a0 a1 a2
          subst hPe
          have c0 : wr.cell? ⟨g, 0, none⟩ = some (.slice (some ⟨b, o, none⟩) fs.length c) := hM.blk.cell 0
          have d0 := H0.out.blk.cell 0
          have d1 := H0.out.blk.cell 1
          have d2 := H0.out.blk.cell 2
          unfold fenc at d0 d1 d2
          clear hM
          go_wp2_with fail
          go_quiet (fail)
          have H1 := Lib.hid (H0.out.drew nq)
          obtain ⟨w1, hw1⟩ : ∃ w1, wr.drewN nq = w1 := ⟨_, rfl⟩
          rw [hw1] at H1 ⊢
          clear hw1
          clear a0 a1 a2 c0 d0 d1 d2
          have hM := HM.out w1 H1.out.bel
          have c0 : w1.cell? ⟨g, 0, none⟩ = some (.slice (some ⟨b, o, none⟩) fs.length c) := hM.blk.cell 0
          obtain ⟨b', o', hPe, a0, a1, a2⟩ := hM.at j hj
          rw [HZE.out] at a0 a1 a2
          injection hPe with hPe
          injection hPe with hPe1 hPe2
          subst hPe1 hPe2
          have d0 := H1.out.blk.cell 0
          have d1 := H1.out.blk.cell 1
          have d2 := H1.out.blk.cell 2
          unfold fenc at d0 d1 d2
          clear hM
          go_wp2_with fail
          go_quiet (fail)
          have H3 := Lib.hid (H1.out.drew nq)
          obtain ⟨w3, hw3⟩ : ∃ w3, w1.drewN nq = w3 := ⟨_, rfl⟩
          rw [hw3] at H3 ⊢
          clear hw3
          clear a0 a1 a2 c0 d0 d1 d2
          have hM := HM.out w3 H3.out.bel
          have c0 : w3.cell? ⟨g, 0, none⟩ = some (.slice (some ⟨b, o, none⟩) fs.length c) := hM.blk.cell 0
          obtain ⟨b', o', hPe, a0, a1, a2⟩ := hM.at j hj
          rw [HZE.out] at a0 a1 a2
          injection hPe with hPe
          injection hPe with hPe1 hPe2
          subst hPe1 hPe2
          have d0 := H3.out.blk.cell 0
          have d1 := H3.out.blk.cell 1
          have d2 := H3.out.blk.cell 2
          unfold fenc at d0 d1 d2
          clear hM
          go_wp2_with fail
          go_roundg gk
          case measure => omega
          case rel =>
            exact ⟨j + 1, true, by omega, by go_num, rfl, ys, H3.out, HLF.out, HSR.out, by have := HYL.out; simp at this ⊢; omega⟩
        · have HLF : Hid (((ys ++ [z]).map FA.f, true) = layK (fs.map FA.f) x.f (j + 1)) := by
            show _ = _
            rw [HLS.out]
            unfold layS
            dsimp only
            rw [if_neg (by simp), if_neg (show ¬ z.f.name = x.f.name from hneB), Bool.true_or]
            simp
          have HSR : Hid (∀ y ∈ ys ++ [z], y = x ∨ y ∈ fs) := by
            show ∀ y ∈ _, _
            intro y hy
            simp only [List.mem_append, List.mem_singleton] at hy
            rcases hy with hy | hy
            · exact HSRC.out y hy
            · exact Or.inr (hy ▸ HZ.out)
          have e9 : (z.n == x.n) = false := by rw [beq_eq_false_iff_ne]; exact hneB
          clear hneB
          have hM := HM.out wr H0.out.bel
          obtain ⟨b, o, hPe, a0, a1, a2⟩ := hM.at j hj
          rw [HZE.out] at a0 a1 a2
          subst hPe
          have c0 : wr.cell? ⟨g, 0, none⟩ = some (.slice (some ⟨b, o, none⟩) fs.length c) := hM.blk.cell 0
          have d0 := H0.out.blk.cell 0
          have d1 := H0.out.blk.cell 1
          have d2 := H0.out.blk.cell 2
          unfold fenc at d0 d1 d2
          clear hM
          go_wp2_with fail
          go_quiet (fail)
          have H1 := Lib.hid (H0.out.drew nq)
          obtain ⟨w1, hw1⟩ : ∃ w1, wr.drewN nq = w1 := ⟨_, rfl⟩
          rw [hw1] at H1 ⊢
          clear hw1
          clear a0 a1 a2 c0 d0 d1 d2
          have hM := HM.out w1 H1.out.bel
          have c0 : w1.cell? ⟨g, 0, none⟩ = some (.slice (some ⟨b, o, none⟩) fs.length c) := hM.blk.cell 0
          obtain ⟨b', o', hPe, a0, a1, a2⟩ := hM.at j hj
          rw [HZE.out] at a0 a1 a2
          injection hPe with hPe
          injection hPe with hPe1 hPe2
          subst hPe1 hPe2
          have d0 := H1.out.blk.cell 0
          have d1 := H1.out.blk.cell 1
          have d2 := H1.out.blk.cell 2
          unfold fenc at d0 d1 d2
          clear hM
          go_wp2_with fail
          go_quiet (fail)
          have H3 := Lib.hid (H1.out.drew nq)
          obtain ⟨w3, hw3⟩ : ∃ w3, w1.drewN nq = w3 := ⟨_, rfl⟩
          rw [hw3] at H3 ⊢
          clear hw3
          clear a0 a1 a2 c0 d0 d1 d2
          have hM := HM.out w3 H3.out.bel
          have c0 : w3.cell? ⟨g, 0, none⟩ = some (.slice (some ⟨b, o, none⟩) fs.length c) := hM.blk.cell 0
          obtain ⟨b', o', hPe, a0, a1, a2⟩ := hM.at j hj
          rw [HZE.out] at a0 a1 a2
          injection hPe with hPe
          injection hPe with hPe1 hPe2
          subst hPe1 hPe2
          have d0 := H3.out.blk.cell 0
          have d1 := H3.out.blk.cell 1
          have d2 := H3.out.blk.cell 2
          unfold fenc at d0 d1 d2
          clear hM
          go_wp2_with (at_builtin; (refine wpList_append_g fenc_len (by decide) fenc_one rfl (.tmp 50) (.tmp 58) 29 68 rfl Try.underlying29 hj0 hy0 hy1 hy2 rfl (w.heap.size + 1) _ (ys).length _ rfl (H3.out.own.alloc _) _ 1 1 [z] rfl (ing_new _ z _) rfl (fun h => by cases h) (by have := H3.out.len; unfold maxLen; omega) (by have := H3.out.len; omega) (by have := H3.out.sz; simp; omega) ?_); intro v4 w4 q1 q2; have H4 := Lib.hid (H3.out.app q2 q1 (by have := HYL.out; simp at this ⊢; omega)); clear q1 q2)
          go_roundg gk
          case measure => omega
          case rel =>
            exact ⟨j + 1, true, by omega, by go_num, rfl, (ys) ++ [z], H4.out, HLF.out, HSR.out, by have := HYL.out; simp at this ⊢; omega⟩
      | false =>
        cases hleB : leB x.n z.n with
        | true =>
          by_cases hneB : z.n = x.n
          · have HLF : Hid (((ys ++ [x]).map FA.f, true) = layK (fs.map FA.f) x.f (j + 1)) := by
              show _ = _
              rw [HLS.out]
              unfold layS
              dsimp only
              rw [if_pos ⟨rfl, hleB⟩, if_pos (show z.f.name = x.f.name from hneB), show leB x.f.name z.f.name = true from hleB]
              simp
            have HSR : Hid (∀ y ∈ ys ++ [x], y = x ∨ y ∈ fs) := by
              show ∀ y ∈ _, _
              intro y hy
              simp only [List.mem_append, List.mem_singleton] at hy
              rcases hy with hy | hy
              · exact HSRC.out y hy
              · exact Or.inl hy
            have e9 : (z.n == x.n) = true := by rw [beq_iff_eq]; exact hneB
            have e8 : (Go.Op.bytesLess x.n z.n || x.n == z.n) = true := hleB
            clear hneB hleB
            have hM := HM.out wr H0.out.bel
            obtain ⟨b, o, hPe, a0, a1, a2⟩ := hM.at j hj
            rw [HZE.out] at a0 a1 a2
            subst hPe
            have c0 : wr.cell? ⟨g, 0, none⟩ = some (.slice (some ⟨b, o, none⟩) fs.length c) := hM.blk.cell 0
            have d0 := H0.out.blk.cell 0
            have d1 := H0.out.blk.cell 1
            have d2 := H0.out.blk.cell 2
            unfold fenc at d0 d1 d2
            clear hM
            go_wp2_with fail
            go_quiet (fail)
            have H1 := Lib.hid (H0.out.drew nq)
            obtain ⟨w1, hw1⟩ : ∃ w1, wr.drewN nq = w1 := ⟨_, rfl⟩
            rw [hw1] at H1 ⊢
            clear hw1
            clear a0 a1 a2 c0 d0 d1 d2
            have hM := HM.out w1 H1.out.bel
            have c0 : w1.cell? ⟨g, 0, none⟩ = some (.slice (some ⟨b, o, none⟩) fs.length c) := hM.blk.cell 0
            obtain ⟨b', o', hPe, a0, a1, a2⟩ := hM.at j hj
            rw [HZE.out] at a0 a1 a2
            injection hPe with hPe
            injection hPe with hPe1 hPe2
            subst hPe1 hPe2
            have d0 := H1.out.blk.cell 0
            have d1 := H1.out.blk.cell 1
            have d2 := H1.out.blk.cell 2
            unfold fenc at d0 d1 d2
            clear hM
            go_wp2_with (at_builtin; (refine wpList_append_g fenc_len (by decide) fenc_one rfl (.tmp 35) (.tmp 37) 29 68 rfl Try.underlying29 hj0 hy0 hy1 hy2 rfl (w.heap.size + 1) _ (ys).length _ rfl (H1.out.own.alloc _) _ 1 1 [x] rfl (ing_new _ x _) rfl (fun h => by cases h) (by have := H1.out.len; unfold maxLen; omega) (by have := H1.out.len; omega) (by have := H1.out.sz; simp; omega) ?_); intro v2 w2 q1 q2; have H2 := Lib.hid (H1.out.app q2 q1 (by have := HYL.out; simp at this ⊢; omega)); clear q1 q2; clear a0 a1 a2 c0 d0 d1 d2; have hM := HM.out w2 H2.out.bel; have c0 : w2.cell? ⟨g, 0, none⟩ = some (.slice (some ⟨b, o, none⟩) fs.length c) := hM.blk.cell 0; obtain ⟨b', o', hPe, a0, a1, a2⟩ := hM.at j hj; rw [HZE.out] at a0 a1 a2; injection hPe with hPe; injection hPe with hPe1 hPe2; subst hPe1 hPe2; have d0 := H2.out.blk.cell 0; have d1 := H2.out.blk.cell 1; have d2 := H2.out.blk.cell 2; unfold fenc at d0 d1 d2; clear hM)
            go_quiet (fail)
            have H3 := Lib.hid (H2.out.drew nq)
            obtain ⟨w3, hw3⟩ : ∃ w3, w2.drewN nq = w3 := ⟨_, rfl⟩
            rw [hw3] at H3 ⊢
            clear hw3
            clear a0 a1 a2 c0 d0 d1 d2
            have hM := HM.out w3 H3.out.bel
            have c0 : w3.cell? ⟨g, 0, none⟩ = some (.slice (some ⟨b, o, none⟩) fs.length c) := hM.blk.cell 0
            obtain ⟨b', o', hPe, a0, a1, a2⟩ := hM.at j hj
            rw [HZE.out] at a0 a1 a2
            injection hPe with hPe
            injection hPe with hPe1 hPe2
            subst hPe1 hPe2
            have d0 := H3.out.blk.cell 0
            have d1 := H3.out.blk.cell 1
            have d2 := H3.out.blk.cell 2
            unfold fenc at d0 d1 d2
            clear hM
            go_wp2_with fail
            go_roundg gk
            case measure => omega
            case rel =>
              exact ⟨j + 1, true, by omega, by go_num, rfl, ys ++ [x], H3.out, HLF.out, HSR.out, by have := HYL.out; simp at this ⊢; omega⟩
          · have HLF : Hid ((((ys ++ [x]) ++ [z]).map FA.f, true) = layK (fs.map FA.f) x.f (j + 1)) := by
              show _ = _
              rw [HLS.out]
              unfold layS
              dsimp only
              rw [if_pos ⟨rfl, hleB⟩, if_neg (show ¬ z.f.name = x.f.name from hneB), show leB x.f.name z.f.name = true from hleB]
              simp
            have HSR : Hid (∀ y ∈ (ys ++ [x]) ++ [z], y = x ∨ y ∈ fs) := by
              show ∀ y ∈ _, _
              intro y hy
              simp only [List.mem_append, List.mem_singleton] at hy
              rcases hy with (hy | hy) | hy
              · exact HSRC.out y hy
              · exact Or.inl hy
              · exact Or.inr (hy ▸ HZ.out)
            have e9 : (z.n == x.n) = false := by rw [beq_eq_false_iff_ne]; exact hneB
            have e8 : (Go.Op.bytesLess x.n z.n || x.n == z.n) = true := hleB
            clear hneB hleB
            have hM := HM.out wr H0.out.bel
            obtain ⟨b, o, hPe, a0, a1, a2⟩ := hM.at j hj
            rw [HZE.out] at a0 a1 a2
            subst hPe
            have c0 : wr.cell? ⟨g, 0, none⟩ = some (.slice (some ⟨b, o, none⟩) fs.length c) := hM.blk.cell 0
            have d0 := H0.out.blk.cell 0
            have d1 := H0.out.blk.cell 1
            have d2 := H0.out.blk.cell 2
            unfold fenc at d0 d1 d2
            clear hM
            go_wp2_with fail
            go_quiet (fail)
            have H1 := Lib.hid (H0.out.drew nq)
            obtain ⟨w1, hw1⟩ : ∃ w1, wr.drewN nq = w1 := ⟨_, rfl⟩
            rw [hw1] at H1 ⊢
            clear hw1
            clear a0 a1 a2 c0 d0 d1 d2
            have hM := HM.out w1 H1.out.bel
            have c0 : w1.cell? ⟨g, 0, none⟩ = some (.slice (some ⟨b, o, none⟩) fs.length c) := hM.blk.cell 0
            obtain ⟨b', o', hPe, a0, a1, a2⟩ := hM.at j hj
            rw [HZE.out] at a0 a1 a2
            injection hPe with hPe
            injection hPe with hPe1 hPe2
            subst hPe1 hPe2
            have d0 := H1.out.blk.cell 0
            have d1 := H1.out.blk.cell 1
            have d2 := H1.out.blk.cell 2
            unfold fenc at d0 d1 d2
            clear hM
            go_wp2_with (at_builtin; (refine wpList_append_g fenc_len (by decide) fenc_one rfl (.tmp 35) (.tmp 37) 29 68 rfl Try.underlying29 hj0 hy0 hy1 hy2 rfl (w.heap.size + 1) _ (ys).length _ rfl (H1.out.own.alloc _) _ 1 1 [x] rfl (ing_new _ x _) rfl (fun h => by cases h) (by have := H1.out.len; unfold maxLen; omega) (by have := H1.out.len; omega) (by have := H1.out.sz; simp; omega) ?_); intro v2 w2 q1 q2; have H2 := Lib.hid (H1.out.app q2 q1 (by have := HYL.out; simp at this ⊢; omega)); clear q1 q2; clear a0 a1 a2 c0 d0 d1 d2; have hM := HM.out w2 H2.out.bel; have c0 : w2.cell? ⟨g, 0, none⟩ = some (.slice (some ⟨b, o, none⟩) fs.length c) := hM.blk.cell 0; obtain ⟨b', o', hPe, a0, a1, a2⟩ := hM.at j hj; rw [HZE.out] at a0 a1 a2; injection hPe with hPe; injection hPe with hPe1 hPe2; subst hPe1 hPe2; have d0 := H2.out.blk.cell 0; have d1 := H2.out.blk.cell 1; have d2 := H2.out.blk.cell 2; unfold fenc at d0 d1 d2; clear hM)
            go_quiet (fail)
            have H3 := Lib.hid (H2.out.drew nq)
            obtain ⟨w3, hw3⟩ : ∃ w3, w2.drewN nq = w3 := ⟨_, rfl⟩
            rw [hw3] at H3 ⊢
            clear hw3
            clear a0 a1 a2 c0 d0 d1 d2
            have hM := HM.out w3 H3.out.bel
            have c0 : w3.cell? ⟨g, 0, none⟩ = some (.slice (some ⟨b, o, none⟩) fs.length c) := hM.blk.cell 0
            obtain ⟨b', o', hPe, a0, a1, a2⟩ := hM.at j hj
            rw [HZE.out] at a0 a1 a2
            injection hPe with hPe
            injection hPe with hPe1 hPe2
            subst hPe1 hPe2
            have d0 := H3.out.blk.cell 0
            have d1 := H3.out.blk.cell 1
            have d2 := H3.out.blk.cell 2
            unfold fenc at d0 d1 d2
            clear hM
            go_wp2_with (at_builtin; (refine wpList_append_g fenc_len (by decide) fenc_one rfl (.tmp 50) (.tmp 58) 29 68 rfl Try.underlying29 hj0 hy0 hy1 hy2 rfl (w.heap.size + 1) _ (ys ++ [x]).length _ rfl (H3.out.own.alloc _) _ 1 1 [z] rfl (ing_new _ z _) rfl (fun h => by cases h) (by have := H3.out.len; unfold maxLen; omega) (by have := H3.out.len; omega) (by have := H3.out.sz; simp; omega) ?_); intro v4 w4 q1 q2; have H4 := Lib.hid (H3.out.app q2 q1 (by have := HYL.out; simp at this ⊢; omega)); clear q1 q2)
            go_roundg gk
            case measure => omega
            case rel =>
              exact ⟨j + 1, true, by omega, by go_num, rfl, (ys ++ [x]) ++ [z], H4.out, HLF.out, HSR.out, by have := HYL.out; simp at this ⊢; omega⟩
        | false =>
          by_cases hneB : z.n = x.n
          · have HLF : Hid (((ys).map FA.f, false) = layK (fs.map FA.f) x.f (j + 1)) := by
              show _ = _
              rw [HLS.out]
              unfold layS
              dsimp only
              rw [if_neg (fun h => by rw [show leB x.f.name z.f.name = leB x.n z.n from rfl, hleB] at h; cases h.2), if_pos (show z.f.name = x.f.name from hneB), show leB x.f.name z.f.name = false from hleB]
              simp
            have HSR : Hid (∀ y ∈ ys, y = x ∨ y ∈ fs) := by
              show ∀ y ∈ _, _
              intro y hy
              exact HSRC.out y hy
            have e9 : (z.n == x.n) = true := by rw [beq_iff_eq]; exact hneB
            have e8 : (Go.Op.bytesLess x.n z.n || x.n == z.n) = false := hleB
            clear hneB hleB
            have hM := HM.out wr H0.out.bel
            obtain ⟨b, o, hPe, a0, a1, a2⟩ := hM.at j hj
            rw [HZE.out] at a0 a1 a2
            subst hPe
            have c0 : wr.cell? ⟨g, 0, none⟩ = some (.slice (some ⟨b, o, none⟩) fs.length c) := hM.blk.cell 0
            have d0 := H0.out.blk.cell 0
            have d1 := H0.out.blk.cell 1
            have d2 := H0.out.blk.cell 2
            unfold fenc at d0 d1 d2
            clear hM
            go_wp2_with fail
            go_quiet (fail)
            have H1 := Lib.hid (H0.out.drew nq)
            obtain ⟨w1, hw1⟩ : ∃ w1, wr.drewN nq = w1 := ⟨_, rfl⟩
            rw [hw1] at H1 ⊢
            clear hw1
            clear a0 a1 a2 c0 d0 d1 d2
            have hM := HM.out w1 H1.out.bel
            have c0 : w1.cell? ⟨g, 0, none⟩ = some (.slice (some ⟨b, o, none⟩) fs.length c) := hM.blk.cell 0
            obtain ⟨b', o', hPe, a0, a1, a2⟩ := hM.at j hj
            rw [HZE.out] at a0 a1 a2
            injection hPe with hPe
            injection hPe with hPe1 hPe2
            subst hPe1 hPe2
            have d0 := H1.out.blk.cell 0
            have d1 := H1.out.blk.cell 1
            have d2 := H1.out.blk.cell 2
            unfold fenc at d0 d1 d2
            clear hM
            go_wp2_with fail
            go_quiet (fail)
            have H3 := Lib.hid (H1.out.drew nq)
            obtain ⟨w3, hw3⟩ : ∃ w3, w1.drewN nq = w3 := ⟨_, rfl⟩
            rw [hw3] at H3 ⊢
            clear hw3
            clear a0 a1 a2 c0 d0 d1 d2
            have hM := HM.out w3 H3.out.bel
            have c0 : w3.cell? ⟨g, 0, none⟩ = some (.slice (some ⟨b, o, none⟩) fs.length c) := hM.blk.cell 0
            obtain ⟨b', o', hPe, a0, a1, a2⟩ := hM.at j hj
            rw [HZE.out] at a0 a1 a2
            injection hPe with hPe
            injection hPe with hPe1 hPe2
            subst hPe1 hPe2
            have d0 := H3.out.blk.cell 0
            have d1 := H3.out.blk.cell 1
            have d2 := H3.out.blk.cell 2
            unfold fenc at d0 d1 d2
            clear hM
            go_wp2_with fail
            go_roundg gk
            case measure => omega
            case rel =>
              exact ⟨j + 1, false, by omega, by go_num, rfl, ys, H3.out, HLF.out, HSR.out, by have := HYL.out; simp at this ⊢; omega⟩
          · have HLF : Hid (((ys ++ [z]).map FA.f, false) = layK (fs.map FA.f) x.f (j + 1)) := by
              show _ = _
              rw [HLS.out]
              unfold layS
              dsimp only
              rw [if_neg (fun h => by rw [show leB x.f.name z.f.name = leB x.n z.n from rfl, hleB] at h; cases h.2), if_neg (show ¬ z.f.name = x.f.name from hneB), show leB x.f.name z.f.name = false from hleB]
              simp
            have HSR : Hid (∀ y ∈ ys ++ [z], y = x ∨ y ∈ fs) := by
              show ∀ y ∈ _, _
              intro y hy
              simp only [List.mem_append, List.mem_singleton] at hy
              rcases hy with hy | hy
              · exact HSRC.out y hy
              · exact Or.inr (hy ▸ HZ.out)
            have e9 : (z.n == x.n) = false := by rw [beq_eq_false_iff_ne]; exact hneB
            have e8 : (Go.Op.bytesLess x.n z.n || x.n == z.n) = false := hleB
            clear hneB hleB
            have hM := HM.out wr H0.out.bel
            obtain ⟨b, o, hPe, a0, a1, a2⟩ := hM.at j hj
            rw [HZE.out] at a0 a1 a2
            subst hPe
            have c0 : wr.cell? ⟨g, 0, none⟩ = some (.slice (some ⟨b, o, none⟩) fs.length c) := hM.blk.cell 0
            have d0 := H0.out.blk.cell 0
            have d1 := H0.out.blk.cell 1
            have d2 := H0.out.blk.cell 2
            unfold fenc at d0 d1 d2
            clear hM
            go_wp2_with fail
            go_quiet (fail)
            have H1 := Lib.hid (H0.out.drew nq)
            obtain ⟨w1, hw1⟩ : ∃ w1, wr.drewN nq = w1 := ⟨_, rfl⟩
            rw [hw1] at H1 ⊢
            clear hw1
            clear a0 a1 a2 c0 d0 d1 d2
            have hM := HM.out w1 H1.out.bel
            have c0 : w1.cell? ⟨g, 0, none⟩ = some (.slice (some ⟨b, o, none⟩) fs.length c) := hM.blk.cell 0
            obtain ⟨b', o', hPe, a0, a1, a2⟩ := hM.at j hj
            rw [HZE.out] at a0 a1 a2
            injection hPe with hPe
            injection hPe with hPe1 hPe2
            subst hPe1 hPe2
            have d0 := H1.out.blk.cell 0
            have d1 := H1.out.blk.cell 1
            have d2 := H1.out.blk.cell 2
            unfold fenc at d0 d1 d2
            clear hM
            go_wp2_with fail
            go_quiet (fail)
            have H3 := Lib.hid (H1.out.drew nq)
            obtain ⟨w3, hw3⟩ : ∃ w3, w1.drewN nq = w3 := ⟨_, rfl⟩
            rw [hw3] at H3 ⊢
            clear hw3
            clear a0 a1 a2 c0 d0 d1 d2
            have hM := HM.out w3 H3.out.bel
            have c0 : w3.cell? ⟨g, 0, none⟩ = some (.slice (some ⟨b, o, none⟩) fs.length c) := hM.blk.cell 0
            obtain ⟨b', o', hPe, a0, a1, a2⟩ := hM.at j hj
            rw [HZE.out] at a0 a1 a2
            injection hPe with hPe
            injection hPe with hPe1 hPe2
            subst hPe1 hPe2
            have d0 := H3.out.blk.cell 0
            have d1 := H3.out.blk.cell 1
            have d2 := H3.out.blk.cell 2
            unfold fenc at d0 d1 d2
            clear hM
            go_wp2_with (at_builtin; (refine wpList_append_g fenc_len (by decide) fenc_one rfl (.tmp 50) (.tmp 58) 29 68 rfl Try.underlying29 hj0 hy0 hy1 hy2 rfl (w.heap.size + 1) _ (ys).length _ rfl (H3.out.own.alloc _) _ 1 1 [z] rfl (ing_new _ z _) rfl (fun h => by cases h) (by have := H3.out.len; unfold maxLen; omega) (by have := H3.out.len; omega) (by have := H3.out.sz; simp; omega) ?_); intro v4 w4 q1 q2; have H4 := Lib.hid (H3.out.app q2 q1 (by have := HYL.out; simp at this ⊢; omega)); clear q1 q2)
            go_roundg gk
            case measure => omega
            case rel =>
              exact ⟨j + 1, false, by omega, by go_num, rfl, (ys) ++ [z], H4.out, HLF.out, HSR.out, by have := HYL.out; simp at this ⊢; omega⟩
end Go.Proofs.Ytggcdlhgmikemaa.plt
