/- The reference's Crash. -/
import Derived.Test.YtggcdlhgmikemaaPlt8
import Derived.Test.YtggcdlhgmikemaaPlp
import Derived.Test.YtggcdlhgmikemaaPds
import Derived.Deep.CutRange
import Derived.Deep.CutBlock
namespace Go.Proofs.Ytggcdlhgmikemaa.plt
open Go.RowKit
open Go.Proofs.Ytggcdlhgmikemaa.oct Go.Proofs.Ytggcdlhgmikemaa.ref Go.Proofs.Ytggcdlhgmikemaa.rows Go.Proofs.Ytggcdlhgmikemaa.rowg Go.Proofs.Ytggcdlhgmikemaa.trn
open Go.Lib (byteCells)

/-- what stands in a round of Crash: the old row and its files; the new row v with its files, in blocks that are new since w -/
structure CW (w wx : World) (R : Nat → Prop) (g room : Nat) (P : Option Addr) (fs : List FA) (ks : List Int) (arm down : Bool) (k : Int) (i : Nat) (v : Value) (ys : List FA) : Prop where
  old : InG fenc 3 wx P fs
  each : ∀ x ∈ fs, FileOK wx R x
  own : wx.ownsRow w.heap.size 68 3 v ys.length (cells fenc ys)
  blk : Blk wx g 31 [v, .int .i64 (room : Nat), .bool arm, .int .i64 k, .bool down]
  new : ∀ y ∈ ys, wx.ownsRow w.heap.size 5 1 (.slice y.p y.b.length y.c) y.b.length (byteCells y.b)
  is : ys.map FA.f = crashF ((fs.take i).map FA.f) ks
  few : ys.length ≤ i
  bel : w.grownBy wx (some g)
theorem row_objR {w : World} {B e z n k : Nat} {v : Value} {xs : List Value} (h : w.ownsRow B e z v n xs) (hk : v.ownBlock = some k) : ∃ X, w.heap[k]? = some (.cells X e (0, 0)) := by
  rcases h.2 with ⟨h1, _⟩ | ⟨g, cap, cur, h1, _, h3, _⟩
  · rw [h1] at hk; cases hk
  · rw [h1] at hk
    injection hk with hk
    subst hk
    exact ⟨_, h3⟩
/-- two rows of unlike elements are in no block together -/
theorem rows_unlike {w : World} {B B2 e e2 z z2 n n2 k : Nat} {v v2 : Value} {xs xs2 : List Value} (h : w.ownsRow B e z v n xs) (h2 : w.ownsRow B2 e2 z2 v2 n2 xs2) (hne : e ≠ e2) (hk : v.ownBlock = some k) (hk2 : v2.ownBlock = some k) : False := by
  obtain ⟨X, h3⟩ := row_objR h hk
  obtain ⟨Y, h4⟩ := row_objR h2 hk2
  rw [h3] at h4
  injection h4 with h4
  injection h4 with _ h4
  exact hne h4
theorem FileOK.below {R : Nat → Prop} {w w' : World} {x : FA} (h : FileOK w R x) (hb : Below w.heap.size w w') : FileOK w' R x := h.turn (S := fun _ => False) (Turn.of_below hb) fun _ _ => id
theorem Rx.more {R : Nat → Prop} {w w1 w2 : World} (hs : w1.heap.size ≤ w2.heap.size) : ∀ k, Rx R w w1 k → Rx R w w2 k := fun _ hk => hk.imp id fun h => ⟨h.1, Nat.lt_of_lt_of_le h.2 hs⟩
theorem CW.below {w wx w2 : World} {R : Nat → Prop} {g room : Nat} {P : Option Addr} {fs : List FA} {ks : List Int} {arm down : Bool} {k : Int} {i : Nat} {v : Value} {ys : List FA} (h : CW w wx R g room P fs ks arm down k i v ys) (hb : Below wx.heap.size wx w2) : CW w w2 R g room P fs ks arm down k i v ys :=
  ⟨InG.below fenc_len (by decide) h.old hb, fun x hx => (h.each x hx).below hb, own_belowG h.own hb, h.blk.below hb, fun y hy => own_belowG (h.new y hy) hb, h.is, h.few, grown_trans h.bel (grown_below hb)⟩
theorem take_map_succ (fs : List FA) (ks : List Int) {i : Nat} (hi : i < fs.length) : crashF ((fs.take (i + 1)).map FA.f) ks = crashF ((fs.take i).map FA.f) ks ++ (if kept (fs[i]).f ((ks[i]?).getD 0) = 0 then [] else [crF (fs[i]).f ((ks[i]?).getD 0)]) := by
  rw [List.take_succ_eq_append_getElem hi, List.map_append, crashF_app, List.map_cons, List.map_nil, crashF_one, drop_headD]
  have hl : ((fs.take i).map FA.f).length = i := by rw [List.length_map, List.length_take]; omega
  rw [hl]
/-- a file of which nothing is kept -/
theorem CW.skip {w wx : World} {R : Nat → Prop} {g room : Nat} {P : Option Addr} {fs : List FA} {ks : List Int} {arm down : Bool} {k : Int} {i : Nat} {v : Value} {ys : List FA} (h : CW w wx R g room P fs ks arm down k i v ys) (hi : i < fs.length) (hk : kept (fs[i]).f ((ks[i]?).getD 0) = 0) : CW w wx R g room P fs ks arm down k (i + 1) v ys :=
  ⟨h.old, h.each, h.own, h.blk, h.new, by rw [take_map_succ fs ks hi, if_pos hk, List.append_nil]; exact h.is, Nat.le_succ_of_le h.few, h.bel⟩
/-- a file of which something is kept: its bytes new in w5, the row's end in w7 -/
theorem CW.added {w wx w5 w7 : World} {R : Nat → Prop} {g room : Nat} {P : Option Addr} {fs : List FA} {ks : List Int} {arm down : Bool} {k : Int} {i : Nat} {v v7 : Value} {ys : List FA} (h : CW w wx R g room P fs ks arm down k i v ys) (hi : i < fs.length) (hl : ∀ k, R k → k < w.heap.size) (hg : g < w.heap.size) (hP : ∀ b o, P = some ⟨b, o, none⟩ → R b) (hgR : ¬ R g)
    (hb5 : Below wx.heap.size wx w5) {p5 : Option Addr} {c5 n0 : Nat} (hn : n0 = kept (fs[i]).f ((ks[i]?).getD 0)) (hn0 : n0 ≠ 0) (hnl : n0 ≤ (fs[i]).b.length) (h5 : w5.ownsRow wx.heap.size 5 1 (.slice p5 n0 c5) n0 (byteCells ((fs[i]).b.take n0)))
    (o : Obj) (hgr : (w5.alloc o).grownBy w7 v.ownBlock) (h7 : w7.ownsRow w.heap.size 68 3 v7 (ys.length + 1) (cells fenc ys ++ fenc ⟨(fs[i]).n, p5, c5, (fs[i]).b.take n0, n0⟩)) :
    w7.cell? ⟨g, 0, none⟩ = some v ∧ w7.frozen? ⟨g, 0, none⟩ = false ∧ g < w7.heap.size ∧ CW w (w7.setCell ⟨g, 0, none⟩ v7) R g room P fs ks arm down k (i + 1) v7 (ys ++ [⟨(fs[i]).n, p5, c5, (fs[i]).b.take n0, n0⟩]) := by
  have hv := fun q hq => (h.own.lt q hq).1
  have hb6 := bnext hb5 ((Below.refl w5.heap.size w5).alloc (Nat.le_refl _) o)
  have h6 := h.below hb6
  have t7 : Turn (fun q => v.ownBlock = some q) (w5.alloc o) w7 := Turn.of_row hgr fun b e => e
  have hB7 : Blk w7 g 31 [v, .int .i64 (room : Nat), .bool arm, .int .i64 k, .bool down] := blk_turn h6.blk t7 fun e => by have := hv g e; omega
  have t8 : Turn (fun q => q = g) w7 (w7.setCell ⟨g, 0, none⟩ v7) := Turn.set _ _ _ _ rfl
  have hsz : w7.heap.size = (w7.setCell ⟨g, 0, none⟩ v7).heap.size := by simp
  have hw7 : w.grownBy w7 (some g) := by
    have hb := h6.bel
    exact ⟨hgr.os.trans hb.os, hgr.tape.trans hb.tape, hgr.output.trans hb.output, Nat.le_trans hb.size hgr.size, fun q hq hn => (hgr.block q (Nat.lt_of_lt_of_le hq hb.size) fun e => by have := hv q e.symm; omega).trans (hb.block q hq hn)⟩
  have hlen : ((fs[i]).b.take n0).length = n0 := by rw [List.length_take]; omega
  refine ⟨hB7.cell 0, hB7.frozen 0, hB7.lt, ⟨?_, ?_, ?_, hB7.set 0 v7, ?_, ?_, ?_, grown_trans hw7 (grownSet _ _ _)⟩⟩
  · refine ing_turnR fenc_len (by decide) (ing_turnR fenc_len (by decide) h6.old t7 fun b o e e2 => ?_) t8 fun b o e e2 => ?_
    · have h1 := hl b (hP b o e); have h2 := hv b e2; omega
    · exact hgR (e2 ▸ hP b o e)
  · intro x hx
    refine ((h6.each x hx).turn t7 fun q hq e => ?_).turn t8 fun q hq e => hgR (e ▸ hq)
    have h1 := hl q hq; have h2 := hv q e; omega
  · rw [cells_append, cells_one, List.length_append, List.length_singleton]
    refine own_turn h7 t8 fun b hb e => ?_
    have := (h7.lt b hb).1
    omega
  · intro y hy
    rw [List.mem_append, List.mem_singleton] at hy
    rcases hy with hy | rfl
    · have h9 := h6.new y hy
      have h10 := own_turn h9 t7 fun b hb e => rows_unlike h9 h6.own (by decide) hb e
      refine own_turn h10 t8 fun b hb e => ?_
      have := (h10.lt b hb).1
      omega
    · have h9 : (w5.alloc o).ownsRow w.heap.size 5 1 (.slice p5 n0 c5) n0 (byteCells ((fs[i]).b.take n0)) := by
        have h9 := own_belowG h5 ((Below.refl w5.heap.size w5).alloc (Nat.le_refl _) o)
        refine ⟨h9.1, ?_⟩
        rcases h9.2 with h2 | ⟨gg, cap, cur, h1, h2, h3⟩
        · exact Or.inl h2
        · exact Or.inr ⟨gg, cap, cur, h1, Nat.le_trans h.bel.size h2, h3⟩
      have h10 := own_turn h9 t7 fun b hb e => rows_unlike h9 h6.own (by decide) hb e
      dsimp only
      rw [hlen]
      refine own_turn h10 t8 fun b hb e => ?_
      have := (h10.lt b hb).1
      omega
  · rw [take_map_succ fs ks hi, if_neg (by omega), List.map_append, h6.is, List.map_cons, List.map_nil]
    congr 2
    unfold crF
    rw [← hn]
    rfl
  · rw [List.length_append, List.length_singleton]
    have := h.few
    omega
/-- all is done -/
theorem CW.done {w wx : World} {R : Nat → Prop} {g room : Nat} {P : Option Addr} {fs : List FA} {ks : List Int} {arm down : Bool} {k : Int} {v : Value} {ys : List FA} {st : PS} (h : CW w wx R g room P fs ks arm down k fs.length v ys) (hl : ∀ k, R k → k < w.heap.size) (hg : g < w.heap.size) (hgR : ¬ R g) (hf : fs.map FA.f = st.fs) (hr : st.room = room) (hk1 : -9223372036854775808 ≤ k) (hk2 : k ≤ 9223372036854775807) :
    wx.cell? ⟨g, 2, none⟩ = some (.bool arm) ∧ wx.cell? ⟨g, 4, none⟩ = some (.bool down) ∧ RP ((wx.setCell ⟨g, 2, none⟩ (.bool false)).setCell ⟨g, 4, none⟩ (.bool false)) (Rx R w ((wx.setCell ⟨g, 2, none⟩ (.bool false)).setCell ⟨g, 4, none⟩ (.bool false))) g (crashP st ks) ∧ w.grownBy ((wx.setCell ⟨g, 2, none⟩ (.bool false)).setCell ⟨g, 4, none⟩ (.bool false)) (some g) := by
  subst hr
  obtain ⟨p, c, rfl, h1, h2, h3⟩ := own_g fenc_len (by decide) h.own
  have t8 : Turn (fun q => q = g) wx ((wx.setCell ⟨g, 2, none⟩ (.bool false)).setCell ⟨g, 4, none⟩ (.bool false)) := by
    have ta : Turn (fun q => q = g) wx (wx.setCell ⟨g, 2, none⟩ (.bool false)) := Turn.set _ _ _ _ rfl
    have tb : Turn (fun q => q = g) (wx.setCell ⟨g, 2, none⟩ (.bool false)) ((wx.setCell ⟨g, 2, none⟩ (.bool false)).setCell ⟨g, 4, none⟩ (.bool false)) := Turn.set _ _ _ _ rfl
    exact ta.next tb
  have hgr : w.grownBy ((wx.setCell ⟨g, 2, none⟩ (.bool false)).setCell ⟨g, 4, none⟩ (.bool false)) (some g) := grown_trans h.bel (grown_trans (grownSet _ _ _) (grownSet _ _ _))
  have hps : ∀ b o, p = some ⟨b, o, none⟩ → w.heap.size ≤ b ∧ b < wx.heap.size := fun b o e => by
    subst e
    exact h.own.lt b rfl
  refine ⟨h.blk.cell 2, h.blk.cell 4, ⟨p, c, ys, k, ⟨Rx.lt hl hgr.size, Rx.not hgR hg, (h.blk.set 2 _).set 4 _, ?_, h2, h1, ?_, ?_⟩, ?_, ?_, hk1, hk2⟩, hgr⟩
  · exact ing_turnR fenc_len (by decide) h3 t8 fun b o e e2 => by have := (hps b o e).1; omega
  · intro b o e
    have := hps b o e
    exact Or.inr ⟨this.1, Nat.lt_of_lt_of_le this.2 t8.size⟩
  · intro y hy
    have h9 := own_turn (h.new y hy) t8 fun b hb e => by have := ((h.new y hy).lt b hb).1; omega
    obtain ⟨q1, q2, q3, q4, q5⟩ := own_row8 h9
    exact ⟨q1, q2, q3, fun b o e => Or.inr (q5 b o e)⟩
  · rw [h.is, List.take_length, hf]
    rfl
  · intro n e
    cases e
theorem f_new (W : World) (n : T) (p : Option Addr) (c : Nat) (b : T) (s l : Nat) (hb : b.length = l) (g : Nat) (hg : g = W.heap.size) : ∀ j u, (fenc ⟨n, p, c, b, s⟩)[j]? = some u → (W.alloc (.cells #[.string ⟨n.toArray⟩, .slice p l c, .int .i64 (s : Nat)] 68)).cell? ((⟨g, 0, none⟩ : Addr).add j) = some u := by
  subst hb
  exact new_cellsG W g 68 hg (fenc ⟨n, p, c, b, s⟩)
set_option maxRecDepth 100000 in
set_option maxHeartbeats 8000000 in
theorem rcrash_c {R : Nat → Prop} {w : World} {g : Nat} {st : PS} (h : RP w R g st) (hw : Wf st) (pk : Option Addr) (ck : Nat) (ks : List Int) (hk8 : InG ienc 1 w pk ks) (_hkl : ks.length ≤ 9223372036854775807) (hki : ∀ n ∈ ks, -9223372036854775808 ≤ n ∧ n ≤ 9223372036854775807) (hkg : ks ≠ [] → ∀ b o, pk = some ⟨b, o, none⟩ → b ≠ g) :
    Calls Try.prog 23 #[.pointer (some ⟨g, 0, none⟩), .slice pk ks.length ck] w fun e w' => e = .returned (.tuple #[]) ∧ RP w' (Rx R w w') g (crashP st ks) ∧ w.grownBy w' (some g) := by
  obtain ⟨P, c, fs, k, hM, hfs, hk, hk1, hk2⟩ := h
  have hgR := hM.own
  have hg := hM.blk.lt
  have c0 : w.cell? ⟨g, 0, none⟩ = some (.slice P fs.length c) := hM.blk.cell 0
  have f0 := hM.blk.frozen 0
  have HLT := Lib.hid hM.lt
  have HFT := Lib.hid hM.foot
  have HWF := Lib.hid hw
  have HFS := Lib.hid hfs
  have hfl : fs.length ≤ 268435456 := by have h1 := congrArg List.length hfs; rw [List.length_map] at h1; have := wf_files hw; omega
  have t0 : Turn (fun i => i = g) w (w.setCell ⟨g, 0, none⟩ (.slice none 0 0)) := Turn.set _ _ _ _ rfl
  have HC0 : Hid (CW w (w.setCell ⟨g, 0, none⟩ (.slice none 0 0)) R g st.room P fs ks st.left.isSome st.down k 0 (.slice none 0 0) []) :=
    ⟨ing_turnR fenc_len (by decide) hM.row t0 (fun b o e e2 => hgR (e2 ▸ hM.foot b o e)), fun x hx => (hM.files x hx).turn t0 fun q hq e => hgR (e ▸ hq), World.ownsRow_nil _ _ _ _, hM.blk.set 0 _, (fun y hy => by cases hy), rfl, Nat.zero_le _, grownSet _ _ _⟩
  have HK8 : Hid (∀ wx, w.grownBy wx (some g) → InG ienc 1 wx pk ks) := by
    intro wx hx
    by_cases e : ks = []
    · rw [e]
      exact fun h => absurd h (by simp)
    · exact ing_turnR (S := fun q => q = g) ienc_len (by decide) hk8 (Turn.of_grown hx rfl) (hkg e)
  have HKI := Lib.hid hki
  obtain ⟨j0, hj0, hy0, hy1, hy2⟩ := info_parts infoFiles
  clear hM hfs hk8 hki hw hk hkg
  go_enter Try.func23, Try.ntmps23
  go_wp2_with fail
  go_loopg [5, 6, 7, 8] fs.length (fun gk s5 _ _ _ wx => ∃ (i : Nat) (v : Value) (ys : List FA), i + gk = fs.length ∧ s5 = .int .i64 (i : Int) ∧ Hid (CW w wx R g st.room P fs ks st.left.isSome st.down k i v ys))
  case atStart => exact ⟨0, _, [], by omega, rfl, HC0⟩
  case round =>
    obtain ⟨i, v, ys, hig, rfl, HC⟩ := hrel
    rcases gk with _ | gO
    · obtain rfl : i = fs.length := by omega
      obtain ⟨d2, d4, hrp, hgr⟩ := HC.out.done HLT.out hg hgR HFS.out rfl hk1 hk2
      have g2 := HC.out.blk.frozen 2
      have g4 := HC.out.blk.frozen 4
      have gl := HC.out.blk.lt
      have HRP := Lib.hid hrp
      have HGR := Lib.hid hgr
      clear hrp hgr
      go_wp2_with fail
      go_end0
      exact ⟨rfl, HRP.out, HGR.out⟩
    · have hi : i < fs.length := by omega
      have hiI : (i : Int) < (fs.length : Int) := by omega
      obtain ⟨bf, of, hpf, hcf⟩ := InG.cells HC.out.old i hi
      have a0 := hcf 0 (by decide)
      have a1 := hcf 1 (by decide)
      have a2 := hcf 2 (by decide)
      have hFO := HC.out.each _ (List.getElem_mem hi)
      have HFO := Lib.hid hFO
      obtain ⟨x, hx⟩ : ∃ x, fs[i] = x := ⟨_, rfl⟩
      rw [hx] at a0 a1 a2 hFO HFO
      have b0 : wr.cell? ⟨bf, of + i * 3, none⟩ = some (.string ⟨x.n.toArray⟩) := a0
      have b1 : wr.cell? ⟨bf, of + i * 3 + 1, none⟩ = some (.slice x.p x.b.length x.c) := a1
      have b2 : wr.cell? ⟨bf, of + i * 3 + 2, none⟩ = some (.int .i64 (x.s : Nat)) := a2
      have hxw : x.f ∈ st.fs := by rw [← HFS.out, ← hx]; exact List.mem_map_of_mem (List.getElem_mem hi)
      have hxe := HWF.out.each _ hxw
      have hxs : x.s ≤ x.b.length := hxe.2.1
      have hxl : x.b.length ≤ 268435456 := by
        have h1 := get_le HWF.out.srt x.f.name
        rw [getF_mem HWF.out.srt hxw] at h1
        have h2 := HWF.out.used
        have h3 := HWF.out.room
        have h4 : x.f.b.length = x.b.length := rfl
        omega
      have HXE := Lib.hid hx
      subst hpf
      clear hcf a0 a1 a2 hxe hxw hFO hx
      go_upto_block 2 with fail
      have hb3 := (Below.refl wr.heap.size wr).alloc (Nat.le_refl _) (.cells #[.string ⟨x.n.toArray⟩, .slice x.p x.b.length x.c, .int .i64 (x.s : Nat)] 68)
      have hbk : Blk (wr.alloc (.cells #[.string ⟨x.n.toArray⟩, .slice x.p x.b.length x.c, .int .i64 (x.s : Nat)] 68)) wr.heap.size 68 [.string ⟨x.n.toArray⟩, .slice x.p x.b.length x.c, .int .i64 (x.s : Nat)] := blk_new wr _ _ _ rfl
      have HC3 := Lib.hid (HC.out.below hb3)
      obtain ⟨w3, hw3⟩ : ∃ w3, wr.alloc (.cells #[.string ⟨x.n.toArray⟩, .slice x.p x.b.length x.c, .int .i64 (x.s : Nat)] 68) = w3 := ⟨_, rfl⟩
      rw [hw3] at HC3 hbk hb3 ⊢
      obtain ⟨q, hq⟩ : ∃ q, wr.heap.size = q := ⟨_, rfl⟩
      have HBK := Lib.hid hbk
      rw [hq] at HBK ⊢
      have d0 : w3.cell? ⟨q, 0, none⟩ = some (.string ⟨x.n.toArray⟩) := HBK.out.cell 0
      have d1 : w3.cell? ⟨q, 1, none⟩ = some (.slice x.p x.b.length x.c) := HBK.out.cell 1
      have hq3 : q < w3.heap.size := HBK.out.lt
      have hgq : g ≠ q := by rw [← hq]; exact Nat.ne_of_lt HC.out.blk.lt
      have HX3 := Lib.hid (HFO.out.below hb3)
      have HQV : Hid (v.ownBlock ≠ some q) := fun e => by
        have h1 := (HC.out.own.lt q e).2
        omega
      have k9 := HK8.out w3 HC3.out.bel
      obtain ⟨T, hT⟩ : ∃ T, min ((ks[i]?).getD 0).toNat (x.b.length - x.s) = T := ⟨_, rfl⟩
      have HKP : Hid (kept (fs[i]).f ((ks[i]?).getD 0) = x.s + T) := by show _ = _; rw [HXE.out, ← hT]; rfl
      have hTl : x.s + T ≤ x.b.length := by omega
      have HTT := Lib.hid hT
      have HK9 := Lib.hid k9
      clear hw3 hbk hb3 hq b0 b1 b2 hT k9 HBK HFO
      go_cut [7, 8] from 28 to 50 (fun s7 _ wx => s7 = .int .i64 ((x.s + T : Nat) : Int) ∧ wx = w3)
      case first =>
        go_wp2_with fail
        go_loopg [7, 8] T (fun gt s7 s8 wx => ∃ t : Nat, t + gt = T ∧ s7 = .int .i64 ((x.s + t : Nat) : Int) ∧ s8 = .int .i64 (t : Int) ∧ wx = w3)
        case atStart => exact ⟨0, by omega, rfl, rfl, rfl⟩
        case round =>
          obtain ⟨t, htg, rfl, rfl, rfl⟩ := hrel
          by_cases hik : i < ks.length
          · have j1 : (i : Int) < (ks.length : Int) := by omega
            obtain ⟨bk, ok, hpk, hck⟩ := InG.cells HK9.out i hik
            have k0 := hck 0 (by decide)
            rw [Nat.mul_one, Nat.add_zero] at k0
            have hkr := HKI.out _ (List.getElem_mem hik)
            have hKE : (ks[i]?).getD 0 = ks[i] := by rw [List.getElem?_eq_getElem hik]; rfl
            have hT2 := HTT.out
            rw [hKE] at hT2
            obtain ⟨K, hK⟩ : ∃ K, ks[i] = K := ⟨_, rfl⟩
            rw [hK] at k0 hkr hT2
            have k0' : wr.cell? ⟨bk, ok + i, none⟩ = some (.int .i64 K) := k0
            subst hpk
            clear hck k0 hKE hK
            rcases gk with _ | gi
            · obtain rfl : t = T := by omega
              by_cases hK1 : (t : Int) < K
              · have j3 : ¬ (((x.s + t : Nat) : Int) < (x.b.length : Int)) := by omega
                clear hT2 hkr
                go_wp2_with fail
                go_meet
                case rel => exact ⟨rfl, rfl⟩
              · clear hT2 hkr
                go_wp2_with fail
                go_meet
                case rel => exact ⟨rfl, rfl⟩
            · have j2 : (t : Int) < K := by omega
              have j3 : ((x.s + t : Nat) : Int) < (x.b.length : Int) := by omega
              have iw1 : IntKind.i64.wrap (((x.s + t : Nat) : Int) + 1) = ((x.s + t : Nat) : Int) + 1 := by rw [IntKind.wrap_i64]; omega
              have iw2 : IntKind.i64.wrap ((t : Int) + 1) = (t : Int) + 1 := by rw [IntKind.wrap_i64]; omega
              clear hT2 hkr
              go_wp2_with fail
              go_roundg gi
              case measure => omega
              case rel => exact ⟨t + 1, by omega, by go_num, by go_num, rfl⟩
          · have j1 : ¬ ((i : Int) < (ks.length : Int)) := by omega
            have hT2 := HTT.out
            rw [List.getElem?_eq_none (by omega)] at hT2
            rcases gk with _ | gi
            · obtain rfl : t = T := by omega
              clear hT2
              go_wp2_with fail
              go_meet
              case rel => exact ⟨rfl, rfl⟩
            · exfalso
              simp at hT2
              omega
      case rest =>
        obtain ⟨rfl, hw⟩ := hcut
        subst hw
        by_cases hn0 : x.s + T = 0
        · have HSK := Lib.hid (HC3.out.skip hi (by rw [HKP.out]; exact hn0))
          have i9 : ¬ (((x.s + T : Nat) : Int) > 0) := by omega
          go_wp2_with fail
          go_roundg gO
          case measure => omega
          case rel => exact ⟨i + 1, v, ys, by omega, by go_num, HSK⟩
        · have i9 : ((x.s + T : Nat) : Int) > 0 := by omega
          obtain ⟨n0, hn0e⟩ : ∃ n0, x.s + T = n0 := ⟨_, rfl⟩
          rw [hn0e] at hn0 HKP hTl i9 ⊢
          have hsl : ∀ W : World, (Instr.sliceAt 33 (.slice x.p x.b.length x.c) none (some (.int .i64 (n0 : Int))) none).run Try.prog W = .ok (.slice x.p n0 x.c) W := fun W => run_slice_any W _ 5 _ _ _ _ Try.underlying33 infoB1r (by have := HX3.out.room; omega)
          have hlt2 : (x.b.take n0).length = n0 := by rw [List.length_take]; omega
          have HTK : Hid (∀ W, Below wc.heap.size wc W → In8 W x.p (x.b.take n0)) := fun W hb => (in8_takeR HX3.out.row n0).below hb
          have hxnil := HX3.out.nil
          have g0 : wc.cell? ⟨g, 0, none⟩ = some v := HC3.out.blk.cell 0
          have gf := HC3.out.blk.frozen 0
          have gl := HC3.out.blk.lt
          have hgr0 : g ≠ wc.heap.size := Nat.ne_of_lt gl
          have hqr0 : q ≠ wc.heap.size := Nat.ne_of_lt hq3
          have hys := HC3.out.few
          have HA5 : Hid (∀ v5 w5, w5.ownsRow wc.heap.size 5 1 v5 (0 + n0) ([] ++ byteCells (x.b.take n0)) → Below wc.heap.size wc w5 → ∃ p5 c5, v5 = .slice p5 n0 c5 ∧ w5.cell? ⟨q, 0, none⟩ = some (.string ⟨x.n.toArray⟩) ∧ w5.cell? ⟨q, 1, none⟩ = some (.slice x.p x.b.length x.c) ∧ w5.cell? ⟨g, 0, none⟩ = some v ∧ g < w5.heap.size ∧ q < w5.heap.size ∧ w.heap.size ≤ w5.heap.size ∧
              (∀ o, (w5.alloc o).ownsRow w.heap.size 68 3 v ys.length (cells fenc ys)) ∧
              ∀ w7 g2 cap, w7.ownsRow w.heap.size 68 3 (.slice (some ⟨g2, 0, none⟩) (ys.length + 1) cap) (ys.length + 1) (cells fenc ys ++ fenc ⟨x.n, p5, c5, x.b.take n0, n0⟩) → (w5.alloc (.cells #[.string ⟨x.n.toArray⟩, .slice p5 n0 c5, .int .i64 (n0 : Nat)] 68)).grownBy w7 v.ownBlock →
                w7.cell? ⟨q, 0, none⟩ = some (.string ⟨x.n.toArray⟩) ∧ w7.cell? ⟨q, 1, none⟩ = some (.slice x.p x.b.length x.c) ∧ w7.cell? ⟨g, 0, none⟩ = some v ∧ w7.frozen? ⟨g, 0, none⟩ = false ∧ g < w7.heap.size ∧
                ∃ v7 ys7, v7 = .slice (some ⟨g2, 0, none⟩) (ys.length + 1) cap ∧ CW w (w7.setCell ⟨g, 0, none⟩ v7) R g st.room (some ⟨bf, of, none⟩) fs ks st.left.isSome st.down k (i + 1) v7 ys7) := by
            intro v5 w5 q1 q2
            rw [Nat.zero_add, List.nil_append] at q1
            obtain ⟨p5, c5, rfl⟩ := own_sl3 q1
            have hs5 := q2.size
            have hws : w.heap.size ≤ wc.heap.size := HC3.out.bel.size
            have e0 := (q2.cell (p := ⟨q, 0, none⟩) hq3).trans d0
            have e1 := (q2.cell (p := ⟨q, 1, none⟩) hq3).trans d1
            refine ⟨p5, c5, rfl, e0, e1, (q2.cell (p := ⟨g, 0, none⟩) gl).trans g0, by omega, by omega, by omega, fun o => own_belowG HC3.out.own (bnext q2 ((Below.refl _ _).alloc (Nat.le_refl _) o)), fun w7 g2 cap q7 qg => ?_⟩
            obtain ⟨r1, r2, r3, r4⟩ := HC3.out.added (w7 := w7) hi HLT.out hg HFT.out hgR q2 (n0 := n0) (p5 := p5) (c5 := c5) (by rw [HKP.out]) hn0 (by rw [HXE.out]; exact hTl) (by rw [HXE.out]; exact q1) _ qg (by rw [HXE.out]; exact q7)
            have hkeep : ∀ o2, o2 < 2 → w7.cell? ⟨q, o2, none⟩ = (w5.alloc (.cells #[.string ⟨x.n.toArray⟩, .slice p5 n0 c5, .int .i64 (n0 : Nat)] 68)).cell? ⟨q, o2, none⟩ := fun o2 _ => World.cell?_of_block (qg.block q (by simp; omega) fun e => by
              have := (HC3.out.own.lt q e.symm)
              exact HQV.out e.symm)
            have ha : ∀ o2, (w5.alloc (.cells #[.string ⟨x.n.toArray⟩, .slice p5 n0 c5, .int .i64 (n0 : Nat)] 68)).cell? ⟨q, o2, none⟩ = w5.cell? ⟨q, o2, none⟩ := fun o2 => ((Below.refl w5.heap.size w5).alloc (Nat.le_refl _) _).cell (p := ⟨q, o2, none⟩) (by show q < _; omega)
            exact ⟨(hkeep 0 (by decide)).trans ((ha 0).trans e0), (hkeep 1 (by decide)).trans ((ha 1).trans e1), r1, r2, r3, _, _, rfl, r4⟩
          clear HC HC3 HX3 HK9 HKP HTT HXE hn0
          go_wp2_with fail
          have hn0l : n0 ≤ 268435456 := by omega
          clear c0 f0 HC0 HK8 HKI HFS HWF HFT HLT t0 hxs hxl hTl
          go_region_law (first
            | (refine step_append8 rfl (.tmp 60) (.tmp 64) rfl wc.heap.size _ 0 [] rfl (by first | exact own_nil wc | exact own_nil wc.drew) x.p n0 x.c (x.b.take n0) rfl (HTK.out _ (by first | exact ((Below.refl _ _).alloc (Nat.le_refl _) _).drew | exact (Below.refl _ _).drew.alloc (Nat.le_refl _) _)) hlt2 hxnil (by omega) (by simp) ?_; intro v5 w5 q1 q2; obtain ⟨p5, c5, hv5, d05, d15, g05, gl5, ql5, ws5, HOW5, HA7⟩ := HA5.out v5 w5 q1 (by first | exact ((Below.refl wc.heap.size wc).alloc (Nat.le_refl _) _).drew.grown q2 (by simp) (fun k hk => by have hk2 : wc.heap.size = k := (by injection hk); omega) | exact ((Below.refl wc.heap.size wc).drew.alloc (Nat.le_refl _) _).grown q2 (by simp) (fun k hk => by have hk2 : wc.heap.size = k := (by injection hk); omega)); have HOW := Lib.hid HOW5; have HA7' := Lib.hid HA7; have gn5 : g ≠ w5.heap.size := Nat.ne_of_lt gl5; have qn5 : q ≠ w5.heap.size := Nat.ne_of_lt ql5; clear HOW5 HA7 q1 q2; subst hv5)
            | (refine step_append_lies _ rfl (.tmp 57) (.tmp 68) 29 rfl w.heap.size 68 j0 (.agg #[.string ⟨#[]⟩, .slice none 0 0, .int .i64 0]) 3 48 Try.underlying29 hj0 hy0 hy1 hy2 rfl (by decide) v ys.length (cells fenc ys) rfl (HOW.out _) ⟨w5.heap.size, 0, none⟩ 1 1 (fenc ⟨x.n, p5, c5, x.b.take n0, n0⟩) rfl rfl (f_new w5 x.n p5 c5 (x.b.take n0) n0 n0 hlt2 _ rfl) (fenc_one _) (by decide) (by unfold maxLen; omega) (by omega) (by simp; omega) _ rfl ?_; intro g2 cap w7 how hgr hg2 hlt7; obtain ⟨d07, d17, g07, gf7, gl7, v7, ys7, hv7, hcw⟩ := HA7'.out w7 g2 cap how hgr; subst hv7; have HCW := Lib.hid hcw; clear how hgr hg2 hlt7 hcw))
          all_goals
            go_wp2_with fail
            go_roundg gO
            case measure => omega
            case rel => exact ⟨i + 1, _, ys7, by omega, by go_num, HCW⟩
end Go.Proofs.Ytggcdlhgmikemaa.plt
