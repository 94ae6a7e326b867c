/- The reference's Append, Cut. -/
import Derived.Test.YtggcdlhgmikemaaPlt6
import Derived.Deep.DeepBigQuietO
namespace Go.Proofs.Ytggcdlhgmikemaa.plt
open Go.RowKit
open Go.Proofs.Ytggcdlhgmikemaa.oct Go.Proofs.Ytggcdlhgmikemaa.ref Go.Proofs.Ytggcdlhgmikemaa.rows Go.Proofs.Ytggcdlhgmikemaa.rowg Go.Proofs.Ytggcdlhgmikemaa.trn
open Go.Lib (byteCells)

theorem step_append8 {w : World} {ops : Array Oper} {o : Oper} {a : Act} {K : Act → World → Prop} {Q : Exit → Act → World → Prop} {E : Prop} (hgd : o.guard = none) (s x : Operand)
    (ho : o.op = .call { callee := .builtin .append, args := #[s, x], argTypes := #[33, 33] }) (base : Nat)
    (v : Value) (n : Nat) (xs : List Value) (hs : a.eval s = v) (hown : w.ownsRow base 5 1 v n xs) (q : Option Addr) (m cq : Nat) (l : T) (hx : a.eval x = .slice q m cq)
    (hq : In8 w q l) (hm : l.length = m) (hnil : q = none → cq = 0) (hb : n + m ≤ 140737488355328) (hbase : base ≤ w.heap.size)
    (h : ∀ v' w', w'.ownsRow base 5 1 v' (n + m) (xs ++ byteCells l) → w.grownBy w' v.ownBlock → K (a.put o.dst v') w') :
    if Region.wanted o (yielded ops a.tmps) = true then Oper.wp Try.prog o a w K Q else E := by
  have hw : Region.wanted o (yielded ops a.tmps) = true := by simp [Region.wanted, hgd]
  rw [if_pos hw]
  obtain ⟨j0, hj, hy0, hy1, hy2⟩ := info_parts infoByte
  subst hm
  rcases q with _ | ad
  · obtain rfl := in8_nil hq
    obtain rfl := hnil rfl
    have hrun := run_append_owned_none (P := Try.prog) (w := w) base 33 o.type 5 j0 1 Try.underlying33 hj v n xs hown
    have hx2 : a.eval x = .slice none 0 0 := hx
    unfold Oper.wp
    simp [execOp, ho, resolve, invoke, builtin, hs, hx2, hrun, Result.andThen]
    exact h v w (by simpa [byteCells] using hown) (World.grownBy.refl w _)
  · obtain ⟨v', w', hr, h2, h3, _⟩ := run_append_own (P := Try.prog) w base 33 o.type 5 j0 (.int .u8 0) 1 1 Try.underlying33 hj hy0 hy1 hy2 rfl (by decide) v n xs hown ad l.length cq (byteCells l) (by rw [byteCells_len]; omega) (src_cells hq) (byteCells_one l) (by unfold maxLen; omega) (by omega) hbase
    unfold Oper.wp execOp
    simp only [ho, resolve, invoke, builtin, Sem.run_bind, Sem.run_pure, Result.andThen_ok, List.map_toArray, List.map_cons, List.map_nil, hs, hx, hr]
    exact h v' w' h2 h3
theorem Rx.twice {R : Nat → Prop} {w w3 w4 : World} (h3 : w.heap.size ≤ w3.heap.size) (h4 : w3.heap.size ≤ w4.heap.size) : ∀ k, Rx (Rx R w w3) w3 w4 k → Rx R w w4 k := fun k hk => by
  rcases hk with (h | h) | h
  · exact Or.inl h
  · exact Or.inr ⟨h.1, by omega⟩
  · exact Or.inr ⟨by omega, h.2⟩
theorem laid2 {R : Nat → Prop} {w w3 w4 : World} {g room : Nat} {arm : Option Nat} {down : Bool} {k : Int} {L : List F} (h : ∃ P' c' fs', RM w4 (Rx (Rx R w w3) w3 w4) g P' c' fs' room arm.isSome k down ∧ fs'.map FA.f = L) (hl : ∀ k, R k → k < w.heap.size) (hg : g < w.heap.size) (h3 : w.grownBy w3 (some g)) (h4 : w3.grownBy w4 (some g))
    (hk : (∀ n, arm = some n → k = (n : Int)) ∧ -9223372036854775808 ≤ k ∧ k ≤ 9223372036854775807) : RP w4 (Rx R w w4) g ⟨L, room, arm, down⟩ ∧ w.grownBy w4 (some g) := by
  obtain ⟨P, c, fs, hM, hE⟩ := h
  exact ⟨⟨P, c, fs, k, hM.mono (Rx.twice h3.size h4.size) (Rx.lt hl (Nat.le_trans h3.size h4.size)) (Rx.not (fun h2 => hM.own (Or.inl (Or.inl h2))) hg), hE, hk⟩, grown_trans h3 h4⟩
theorem own_row8 {w : World} {B n c : Nat} {p : Option Addr} {l : T} (h : w.ownsRow B 5 1 (.slice p n c) n (byteCells l)) : In8 w p l ∧ (p = none → c = 0) ∧ l.length ≤ c ∧ l.length = n ∧ ∀ b o, p = some ⟨b, o, none⟩ → B ≤ b ∧ b < w.heap.size := by
  have hlen : l.length = n := by have := h.1; rw [byteCells_len] at this; omega
  obtain ⟨p2, c2, e, h8⟩ := own_in8' h
  injection e with e1 e2 e3
  subst e1
  refine ⟨h8, ?_, ?_, hlen, fun b o e => by subst e; exact h.lt b rfl⟩
  · rcases h.2 with ⟨h1, h2⟩ | ⟨g, cap, cur, h1, _, h3, h5, _⟩
    · injection h1 with _ _ e3; exact fun _ => e3
    · injection h1 with e1 _ _; intro h; rw [h] at e1; cases e1
  · rcases h.2 with ⟨h1, h2⟩ | ⟨g, cap, cur, h1, _, h3, h5, _⟩
    · omega
    · injection h1 with _ _ e3; omega
/-- behind the second append: the row, the plate, what is new being its own -/
theorem app_done {R : Nat → Prop} {w w4 w5 : World} {g c room B : Nat} {P : Option Addr} {fs : List FA} {arm down : Bool} {k : Int} {y b : T} {v4 v5 : Value} (hl : ∀ k, R k → k < w.heap.size) (hg : g < w.heap.size) (hM : RM w4 R g P c fs room arm k down) (hgw : w.grownBy w4 (some g)) (hB : w.heap.size ≤ B)
    (ho : w4.ownsRow B 5 1 v4 (0 + y.length) ([] ++ byteCells y)) (h5 : w5.ownsRow B 5 1 v5 (0 + y.length + b.length) ([] ++ byteCells y ++ byteCells b)) (hgr : w4.grownBy w5 v4.ownBlock) :
    ∃ p5 c5, v5 = .slice p5 (y.length + b.length) c5 ∧ RM w5 (Rx R w w5) g P c fs room arm k down ∧ (∀ n s, FileOK w5 (Rx R w w5) ⟨n, p5, c5, y ++ b, s⟩) ∧ w.grownBy w5 (some g) ∧ ∀ i, i < w4.heap.size → i < B → w5.heap[i]? = w4.heap[i]? := by
  have hv := fun i hi => (ho.lt i hi).1
  have ht : Turn (fun i => v4.ownBlock = some i) w4 w5 := Turn.of_row hgr fun b e => e
  obtain ⟨p5, c5, rfl⟩ := own_sl3 h5
  rw [List.nil_append, ← byteCells_append, Nat.zero_add] at h5
  obtain ⟨q1, q2, q3, q4, q5⟩ := own_row8 h5
  have hgr2 : w.grownBy w5 (some g) := ⟨hgr.os.trans hgw.os, hgr.tape.trans hgw.tape, hgr.output.trans hgw.output, Nat.le_trans hgw.size hgr.size, fun i hi hn => (hgr.block i (Nat.lt_of_lt_of_le hi hgw.size) fun e => by have := hv i e.symm; omega).trans (hgw.block i hi hn)⟩
  refine ⟨p5, c5, by rw [Nat.zero_add], (hM.turn ht (fun i hi e => by have := hv i e; have := hl i hi; omega) (fun e => by have := hv g e; omega)).mono (fun i hi => Or.inl hi) (Rx.lt hl hgr2.size) (Rx.not hM.own hg), fun n s => ⟨q1, q2, q3, fun i o e => Or.inr ?_⟩, hgr2, fun i hi hb => hgr.block i hi fun e => by have := hv i e.symm; omega⟩
  have := q5 i o e
  exact ⟨by omega, this.2⟩
set_option maxRecDepth 100000 in
set_option maxHeartbeats 8000000 in
theorem rappend_c {R : Nat → Prop} {w : World} {g : Nat} {st : PS} (h : RP w R g st) (hw : Wf st) (n : T) (pb : Option Addr) (cb : Nat) (b : T) (hn : n.length ≤ 9223372036854775807) (hb : In8 w pb b) (hbn : pb = none → cb = 0) (hbl : b.length ≤ 140737488355328) (hbg : b ≠ [] → ∀ k o, pb = some ⟨k, o, none⟩ → k ≠ g) :
    Calls Try.prog 25 #[.pointer (some ⟨g, 0, none⟩), .string ⟨n.toArray⟩, .slice pb b.length cb] w fun e w' => RA w w' R g (appP st n b) e := by
  obtain ⟨hlt, hg, hgR⟩ := h.lt
  have HA := Lib.hid (rasked_c h n true hn)
  have hfl := wf_files hw
  have hus := hw.used
  have hro := hw.room
  have HWF := Lib.hid hw
  have HLT := Lib.hid hlt
  have HB8 : Hid (∀ wx, w.grownBy wx (some g) → In8 wx pb b) := by
    intro wx hx
    by_cases e : b = []
    · rw [e]
      exact fun h => absurd h (by simp)
    · exact in8_turnR (S := fun k => k = g) (R := fun k => k ≠ g) hb (Turn.of_grown hx rfl) (hbg e) (fun _ h => h)
  clear h hb hbg
  by_cases h0 : (askP st n true).1 = 0
  · have HQ := Lib.hid (askP_fs st n true)
    have HE0 : Hid (appP st n b = if (askP st n true).2.room < usedP st.fs + b.length then (8, (askP st n true).2) else (0, { (askP st n true).2 with fs := layP st.fs ⟨n, (getF st.fs n).b ++ b, (getF st.fs n).safe⟩ })) := by show _ = _; unfold appP; rw [if_neg (by omega)]
    obtain ⟨q, hq⟩ : ∃ q, askP st n true = q := ⟨_, rfl⟩
    rw [hq] at HA HQ h0 HE0
    obtain ⟨e1, s1⟩ := q
    dsimp only at h0 HA HQ HE0
    subst h0
    rw [HE0.out]
    have hrm : s1.room = st.room := HQ.out.2
    have hro1 : s1.room ≤ 268435456 := by omega
    obtain ⟨u, hu⟩ : ∃ u, usedP st.fs = u := ⟨_, rfl⟩
    rw [hu] at hus ⊢
    have HUE := Lib.hid hu
    have hus1 : u ≤ s1.room := by omega
    clear hq HE0 hu hrm hro hus
    by_cases hfull : s1.room < u + b.length
    · rw [if_pos hfull]
      have HI1 : Hid ((u : Int) + (b.length : Int) > (s1.room : Int)) := by show _ > _; omega
      have i1 := HI1.out
      have iw : IntKind.i64.wrap ((u : Int) + (b.length : Int)) = (u : Int) + (b.length : Int) := by rw [IntKind.wrap_i64]; omega
      clear hfull
      go_enter Try.func25, Try.ntmps25
      go_wp2_with fail
      refine HA.out.mono ?_
      rintro e w1 ⟨rfl, hp1, hg1⟩
      have HSAME := Lib.hid hp1
      obtain ⟨P, c, fs, k, hM, hfs, hk⟩ := hp1
      have hfl1 : fs.length ≤ 268435456 := by have := congrArg List.length hfs; rw [List.length_map, HQ.out.1] at this; omega
      have HFS : Hid (fs.map FA.f = st.fs) := by show _ = _; rw [hfs, HQ.out.1]
      have HSR : Hid (Srt (fs.map FA.f)) := by show Srt _; rw [HFS.out]; exact HWF.out.srt
      have HM1 := Lib.hid hM
      have HG1 := Lib.hid hg1
      have HK := Lib.hid hk
      have c1 : w1.cell? ⟨g, 1, none⟩ = some (.int .i64 (s1.room : Nat)) := hM.blk.cell 1
      have HU := Lib.hid (fun wx (hx : Below w1.heap.size w1 wx) => rused_c (hM.turn (S := fun _ => False) (Turn.of_below hx) (fun _ _ => id) id) (by omega) (by rw [HFS.out, HUE.out]; omega))
      rw [HFS.out, HUE.out] at HU
      clear hM hg1 hk hfs HA
      go_wp2_with fail
      have C0 := Lib.hid (fun x : After w1 => after_same x (HU.out x.v x.below))
      have c1A : ∀ x : After w1, x.v.cell? ⟨g, 1, none⟩ = some (.int .i64 (s1.room : Nat)) := fun x => (x.below.cell (p := ⟨g, 1, none⟩) (cell_lt c1)).trans c1
      refine wp_region_after (by kernel_rfl) (by kernel_rfl) ?_
      repeat (go_big_quiet_step (first
        | (rename_i x; go_at_call 35; with_reducible exact C0.out x)))
      refine wpQuiet_nil ?_
      rintro ⟨wq, hb1⟩
      dsimp only
      clear C0 c1A
      have HQB := Lib.hid hb1
      clear hb1
      go_wp2_with fail
      go_ret
      have hp := HSAME.out.turn (S := fun _ => False) (Turn.of_below HQB.out) (fun _ _ => id) id
      have hgr := grown_trans HG1.out (grown_below (r := some g) HQB.out)
      exact ⟨rfl, hp.rx HLT.out hgr.size hg, hgr⟩
    · rw [if_neg hfull]
      have HI1 : Hid (¬ ((u : Int) + (b.length : Int) > (s1.room : Int))) := by show ¬ (_ > _); omega
      have i1 := HI1.out
      have iw : IntKind.i64.wrap ((u : Int) + (b.length : Int)) = (u : Int) + (b.length : Int) := by rw [IntKind.wrap_i64]; omega
      have hub : u + b.length ≤ 268435456 := by omega
      clear hfull
      go_enter Try.func25, Try.ntmps25
      go_wp2_with fail
      refine HA.out.mono ?_
      rintro e w1 ⟨rfl, hp1, hg1⟩
      have HSAME := Lib.hid hp1
      obtain ⟨P, c, fs, k, hM, hfs, hk⟩ := hp1
      have hfl1 : fs.length ≤ 268435456 := by have := congrArg List.length hfs; rw [List.length_map, HQ.out.1] at this; omega
      have HFS : Hid (fs.map FA.f = st.fs) := by show _ = _; rw [hfs, HQ.out.1]
      have HSR : Hid (Srt (fs.map FA.f)) := by show Srt _; rw [HFS.out]; exact HWF.out.srt
      have HM1 := Lib.hid hM
      have HG1 := Lib.hid hg1
      have HK := Lib.hid hk
      have c1 : w1.cell? ⟨g, 1, none⟩ = some (.int .i64 (s1.room : Nat)) := hM.blk.cell 1
      have HU := Lib.hid (fun wx (hx : Below w1.heap.size w1 wx) => rused_c (hM.turn (S := fun _ => False) (Turn.of_below hx) (fun _ _ => id) id) (by omega) (by rw [HFS.out, HUE.out]; omega))
      rw [HFS.out, HUE.out] at HU
      clear hM hg1 hk hfs HA
      have HC := Lib.hid (fun wx (hx : Below w1.heap.size w1 wx) => rget_c (HM1.out.turn (S := fun _ => False) (Turn.of_below hx) (fun _ _ => id) id) HSR.out (by omega) n)
      go_wp2_with fail
      have C0 := Lib.hid (fun x : After w1 => after_same x (HU.out x.v x.below))
      have c1A : ∀ x : After w1, x.v.cell? ⟨g, 1, none⟩ = some (.int .i64 (s1.room : Nat)) := fun x => (x.below.cell (p := ⟨g, 1, none⟩) (cell_lt c1)).trans c1
      refine wp_region_after (by kernel_rfl) (by kernel_rfl) ?_
      repeat (go_big_quiet_step (first
        | (rename_i x; go_at_call 35; with_reducible exact C0.out x)))
      refine wpQuiet_nil ?_
      rintro ⟨wq, hb1⟩
      dsimp only
      clear C0 c1A
      have HMd := Lib.hid (HM1.out.turn (S := fun _ => False) (Turn.of_below hb1) (fun _ _ => id) id)
      have HGd := Lib.hid (grown_trans HG1.out (grown_below (r := some g) hb1))
      have HC1 := Lib.hid (HC.out _ hb1)
      clear hb1 HC HU c1
      go_wp2_with fail
      refine HC1.out.mono ?_
      rintro e w2 ⟨x, rfl, hxe, hxo, hb2⟩
      unfold fenc
      have HG := Lib.hid (got HMd.out HGd.out hxo hb2 (.cells #[.string ⟨x.n.toArray⟩, .slice x.p x.b.length x.c, .int .i64 (x.s : Nat)] 68))
      have HXN : Hid (x.n = n ∧ x.b = (getF st.fs n).b ∧ x.s = (getF st.fs n).safe) := by
        rw [HFS.out] at hxe
        exact ⟨(congrArg F.name hxe).trans (getF_name _ _), congrArg F.b hxe, congrArg F.safe hxe⟩
      have hxb : x.b.length ≤ 268435456 := by
        have h1 := get_le HWF.out.srt n
        have h2 := congrArg List.length HXN.out.2.1
        have h3 := HUE.out
        omega
      have hxb2 : x.b.length + b.length ≤ 536870912 := by omega
      have hB0 : Blk (w2.alloc (.cells #[.string ⟨#[]⟩, .slice none 0 0, .int .i64 0] 68)) w2.heap.size 68 [.string ⟨#[]⟩, .slice none 0 0, .int .i64 0] := blk_new w2 _ _ _ rfl
      have b0 := hB0.cell 0
      have b1 := hB0.cell 1
      have b2 := hB0.cell 2
      have f0 := hB0.frozen 0
      have f1 := hB0.frozen 1
      have f2 := hB0.frozen 2
      have hlt0 := hB0.lt
      have hbk : Blk (w2.alloc (.cells #[.string ⟨x.n.toArray⟩, .slice x.p x.b.length x.c, .int .i64 (x.s : Nat)] 68)) w2.heap.size 68 [.string ⟨x.n.toArray⟩, .slice x.p x.b.length x.c, .int .i64 (x.s : Nat)] := blk_new w2 _ _ _ rfl
      have hbk2 := blk_old hbk (.cells #[] 5)
      have g1 := hbk2.cell 1
      have HBK := Lib.hid hbk2
      have hon := own_nil (w2.alloc (.cells #[.string ⟨x.n.toArray⟩, .slice x.p x.b.length x.c, .int .i64 (x.s : Nat)] 68))
      rw [show (w2.alloc (.cells #[.string ⟨x.n.toArray⟩, .slice x.p x.b.length x.c, .int .i64 (x.s : Nat)] 68)).heap.size = w2.heap.size + 1 by simp] at hon
      have HON := Lib.hid hon
      have HBA := Lib.hid ((Below.refl (w2.alloc (.cells #[.string ⟨x.n.toArray⟩, .slice x.p x.b.length x.c, .int .i64 (x.s : Nat)] 68)).heap.size _).alloc (Nat.le_refl _) (.cells #[] 5))
      have HXO : Hid (In8 ((w2.alloc (.cells #[.string ⟨x.n.toArray⟩, .slice x.p x.b.length x.c, .int .i64 (x.s : Nat)] 68)).alloc (.cells #[] 5)) x.p x.b) := HG.out.2.1.row.below HBA.out
      have HXNIL := Lib.hid HG.out.2.1.nil
      clear hB0 hxo hxe hb2 hbk hbk2 hon
      have HSZ : Hid ((w2.alloc (.cells #[.string ⟨x.n.toArray⟩, .slice x.p x.b.length x.c, .int .i64 (x.s : Nat)] 68)).heap.size = w2.heap.size + 1) := by show _ = _; simp
      go_wp2_with (at_builtin; refine wpList_append_in8g rfl (.tmp 29) (.tmp 31) rfl (w2.heap.size + 1) (.slice (some ⟨w2.heap.size + 1, 0, none⟩) 0 0) 0 [] rfl HON.out x.p x.b.length x.c x.b rfl HXO.out rfl HXNIL.out (by omega) (by simp) ?_; intro v4 w4 q1 q2; have HO4 := Lib.hid q1; have HG4 := Lib.hid q2; clear q1 q2)
      have hb4 := HBA.out.grown HG4.out (by rw [HSZ.out]; simp) (fun k hk => by have hk2 : w2.heap.size + 1 = k := (by injection hk); rw [HSZ.out]; omega)
      have HM4 := Lib.hid (HG.out.1.turn (S := fun _ => False) (Turn.of_below hb4) (fun _ _ => id) id)
      have HGW := Lib.hid (grown_trans HG.out.2.2.1 (grown_below (r := some g) hb4))
      have HBB := Lib.hid (HB8.out w4 HGW.out)
      have hbk4 : Blk w4 w2.heap.size 68 [.string ⟨x.n.toArray⟩, .slice x.p x.b.length x.c, .int .i64 (x.s : Nat)] := (blk_new w2 _ _ _ rfl : Blk (w2.alloc (.cells #[.string ⟨x.n.toArray⟩, .slice x.p x.b.length x.c, .int .i64 (x.s : Nat)] 68)) w2.heap.size 68 _).below hb4
      have k2 := hbk4.cell 2
      have HB4 := Lib.hid hbk4
      have hs4 : w2.heap.size + 1 ≤ w4.heap.size := by have := hb4.size; rw [HSZ.out] at this; exact this
      have hww : w.heap.size ≤ w2.heap.size + 1 := by have := HG.out.2.2.1.size; rw [HSZ.out] at this; exact this
      clear hb4 hbk4 b0 b1 b2 f0 f1 f2 hlt0 g1 HBK HON HBA HXO HXNIL HG HG4
      have HDN : Hid (∀ v5 w5, w5.ownsRow (w2.heap.size + 1) 5 1 v5 (0 + x.b.length + b.length) ([] ++ byteCells x.b ++ byteCells b) → w4.grownBy w5 v4.ownBlock → ∃ p5 c5, v5 = .slice p5 (x.b.length + b.length) c5 ∧ w5.cell? ⟨w2.heap.size, 2, none⟩ = some (.int .i64 (x.s : Nat)) ∧ ∀ w6, Below w5.heap.size w5 w6 → Calls Try.prog 44 #[.pointer (some ⟨g, 0, none⟩), .agg #[.string ⟨n.toArray⟩, .slice p5 (x.b.length + b.length) c5, .int .i64 (x.s : Nat)]] w6 fun e w' => e = .returned (.tuple #[]) ∧ RA w w' R g (0, { s1 with fs := layP st.fs ⟨n, (getF st.fs n).b ++ b, (getF st.fs n).safe⟩ }) (.returned (.int .i64 0))) := by
        intro v5 w5 q1 q2
        obtain ⟨p5, c5, hv5, hy1, hy2, hy3, hy4⟩ := app_done HLT.out hg HM4.out HGW.out hww HO4.out q1 q2
        refine ⟨p5, c5, hv5, ?_, fun w6 hb6 => ?_⟩
        · have hB := HB4.out
          have h1 : Blk w5 w2.heap.size 68 [.string ⟨x.n.toArray⟩, .slice x.p x.b.length x.c, .int .i64 (x.s : Nat)] := (hy4 _ hB.lt (by omega)).trans hB
          exact h1.cell 2
        · have hfx : FileOK w6 (Rx R w w5) ⟨n, p5, c5, x.b ++ b, x.s⟩ := (hy2 n x.s).turn (S := fun _ => False) (Turn.of_below hb6) (fun _ _ => id)
          have hl := rlay_c (hy1.turn (S := fun _ => False) (Turn.of_below hb6) (fun _ _ => id) id) ⟨n, p5, c5, x.b ++ b, x.s⟩ hfx HSR.out (by omega)
          have hf : FA.f ⟨n, p5, c5, x.b ++ b, x.s⟩ = ⟨n, (getF st.fs n).b ++ b, (getF st.fs n).safe⟩ := by rw [← HXN.out.2.1, ← HXN.out.2.2]; rfl
          rw [hf, HFS.out] at hl
          unfold fenc at hl
          dsimp only at hl
          rw [List.length_append] at hl
          refine hl.mono ?_
          rintro e w9 ⟨rfl, ⟨P9, c9, fs9, h1, h2⟩, h3⟩
          have h56 : w5.heap.size ≤ w6.heap.size := hb6.size
          have h69 : w6.heap.size ≤ w9.heap.size := h3.size
          refine ⟨rfl, rfl, ⟨P9, c9, fs9, k, ?_, h2, HK.out⟩, grown_trans (grown_trans hy3 (grown_below hb6)) h3⟩
          refine h1.mono (fun i hi => ?_) (Rx.lt HLT.out (Nat.le_trans hy3.size (Nat.le_trans h56 h69))) (Rx.not (fun h => h1.own (Or.inl (Or.inl h))) hg)
          have hws := hy3.size
          rcases hi with (hi | hi) | hi
          · exact Or.inl hi
          · exact Or.inr ⟨hi.1, by omega⟩
          · exact Or.inr ⟨by omega, hi.2⟩
      clear HM4 HGW HSR HFS HXN HK
      go_region_law (first
        | (refine step_append8 rfl (.tmp 35) (.tmp 36) rfl (w2.heap.size + 1) v4 (0 + x.b.length) ([] ++ byteCells x.b) rfl HO4.out pb b.length cb b rfl HBB.out rfl hbn (by omega) hs4 ?_; intro v5 w5 q1 q2; obtain ⟨p5, c5, hv5, k5, hly⟩ := HDN.out v5 w5 q1 ⟨q2.os, q2.tape, q2.output, q2.size, q2.block⟩; have HLY := Lib.hid hly; clear q1 q2 hly; subst hv5)
        | (go_simp; go_at_call 44; (with_reducible refine (HLY.out _ ?_).mono ?_); (first | exact Below.refl _ _ | exact (Below.refl _ _).drew); rintro e w9 ⟨rfl, hra⟩; have HRA := Lib.hid hra; clear hra))
      all_goals
        go_wp2_with fail
        go_ret
        exact HRA.out
  · have HE : Hid (appP st n b = askP st n true) := by show _ = _; unfold appP; rw [if_pos h0]
    rw [HE.out]
    obtain ⟨q, hq⟩ : ∃ q, askP st n true = q := ⟨_, rfl⟩
    rw [hq] at HA h0 ⊢
    obtain ⟨e1, s1⟩ := q
    dsimp only at h0 HA ⊢
    have i0 : ((e1 : Int) == 0) = false := by rw [beq_eq_false_iff_ne]; omega
    clear hq HE h0
    go_enter Try.func25, Try.ntmps25
    go_wp2_with fail
    refine HA.out.mono ?_
    rintro e w1 ⟨rfl, h1, h2⟩
    have H1 := Lib.hid (h1.rx HLT.out h2.size hg)
    have H2 := Lib.hid h2
    clear h1 h2
    go_wp2_with fail
    go_ret
    exact ⟨rfl, H1.out, H2.out⟩
end Go.Proofs.Ytggcdlhgmikemaa.plt
