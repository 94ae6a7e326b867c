/- The reference's Append, Sync, Cut. -/
import Derived.Test.YtggcdlhgmikemaaPlt5
import Derived.StillTailTactics
import Derived.Deep.RegionLaw
namespace Go.Proofs.Ytggcdlhgmikemaa.plt
open Go.RowKit
open Go.Proofs.Ytggcdlhgmikemaa.oct Go.Proofs.Ytggcdlhgmikemaa.ref Go.Proofs.Ytggcdlhgmikemaa.rows Go.Proofs.Ytggcdlhgmikemaa.rowg Go.Proofs.Ytggcdlhgmikemaa.trn
open Go.Lib (byteCells)

/-- what a call of the reference's plate comes to: the error, the state; new blocks may be its own -/
def RA (w w' : World) (R : Nat → Prop) (g : Nat) (q : Nat × PS) (e : Ending) : Prop := e = .returned (.int .i64 (q.1 : Nat)) ∧ RP w' (Rx R w w') g q.2 ∧ w.grownBy w' (some g)
theorem RP.rx {R : Nat → Prop} {w w' : World} {g : Nat} {st : PS} (h : RP w' R g st) (hl : ∀ k, R k → k < w.heap.size) (hs : w.heap.size ≤ w'.heap.size) (hg : g < w.heap.size) : RP w' (Rx R w w') g st := by
  obtain ⟨P, c, fs, k, h1, h2⟩ := h
  exact ⟨P, c, fs, k, h1.mono (fun _ => Rx.old) (Rx.lt hl hs) (Rx.not h1.own hg), h2⟩
theorem RP.lt {R : Nat → Prop} {w : World} {g : Nat} {st : PS} (h : RP w R g st) : (∀ k, R k → k < w.heap.size) ∧ g < w.heap.size ∧ ¬ R g := by
  obtain ⟨P, c, fs, k, h1, _⟩ := h
  exact ⟨h1.lt, h1.blk.lt, h1.own⟩
theorem wf_files {s : PS} (h : Wf s) : s.fs.length ≤ 268435456 := by
  have h1 : ∀ (l : List F), (∀ f ∈ l, f.b ≠ []) → l.length ≤ usedP l := by
    intro l
    induction l with
    | nil => intro _; exact Nat.le_refl _
    | cons f r ih =>
      intro hf
      have h2 := ih fun x hx => hf x (List.mem_cons_of_mem _ hx)
      have h3 := List.length_pos_iff.2 (hf f List.mem_cons_self)
      have h4 : usedP (f :: r) = f.b.length + usedP r := rfl
      rw [List.length_cons]
      omega
  have h2 := h1 s.fs fun f hf => (h.each f hf).1
  have := h.used
  have := h.room
  omega
theorem RM.widen {R : Nat → Prop} {w w3 w4 : World} {g c room : Nat} {P : Option Addr} {fs : List FA} {arm down : Bool} {k : Int} (h : RM w4 (Rx R w3 w4) g P c fs room arm k down) (hl : ∀ k, R k → k < w.heap.size) (hs : w.heap.size ≤ w3.heap.size) (h34 : w3.heap.size ≤ w4.heap.size) (hg : g < w.heap.size) : RM w4 (Rx R w w4) g P c fs room arm k down :=
  h.mono (fun i hi => hi.elim Or.inl (fun h2 => Or.inr ⟨by omega, h2.2⟩)) (Rx.lt hl (Nat.le_trans hs h34)) (Rx.not (fun h2 => h.own (Or.inl h2)) hg)
theorem grown_below {w w' : World} {r : Option Nat} (h : Below w.heap.size w w') : w.grownBy w' r := ⟨h.os, h.tape, h.output, h.size, fun k hk _ => h.block k hk⟩
/-- what is known once Get has answered x and it stands in a box (w2: behind Get) -/
theorem got {R : Nat → Prop} {w w1 w2 : World} {g c room : Nat} {P : Option Addr} {fs : List FA} {arm down : Bool} {k : Int} {x : FA} (hM : RM w1 R g P c fs room arm k down) (hg1 : w.grownBy w1 (some g)) (hxo : FileOK w2 R x) (hb2 : Below w1.heap.size w1 w2) (o : Obj) :
    RM (w2.alloc o) R g P c fs room arm k down ∧ FileOK (w2.alloc o) R x ∧ w.grownBy (w2.alloc o) (some g) ∧ Below w1.heap.size w1 (w2.alloc o) := by
  have hb3 := bnext hb2 ((Below.refl w2.heap.size w2).alloc (Nat.le_refl _) o)
  exact ⟨hM.turn (S := fun _ => False) (Turn.of_below hb3) (fun _ _ => id) id, hxo.turn (S := fun _ => False) (Turn.of_below ((Below.refl w2.heap.size w2).alloc (Nat.le_refl _) o)) (fun _ _ => id), grown_trans hg1 (grown_below hb3), hb3⟩
/-- the end of a call that lays a file -/
theorem laid {R : Nat → Prop} {w w3 w4 : World} {g room : Nat} {arm : Option Nat} {down : Bool} {k : Int} {L : List F} (h : ∃ P' c' fs', RM w4 (Rx R w3 w4) g P' c' fs' room arm.isSome k down ∧ fs'.map FA.f = L) (hl : ∀ k, R k → k < w.heap.size) (hg : g < w.heap.size) (h3 : w.grownBy w3 (some g)) (h4 : w3.grownBy w4 (some g))
    (hk : (∀ n, arm = some n → k = (n : Int)) ∧ -9223372036854775808 ≤ k ∧ k ≤ 9223372036854775807) : RP w4 (Rx R w w4) g ⟨L, room, arm, down⟩ ∧ w.grownBy w4 (some g) := by
  obtain ⟨P, c, fs, hM, hE⟩ := h
  exact ⟨⟨P, c, fs, k, hM.widen hl h3.size h4.size hg, hE, hk⟩, grown_trans h3 h4⟩
set_option maxRecDepth 100000 in
set_option maxHeartbeats 4000000 in
theorem rsync_c {R : Nat → Prop} {w : World} {g : Nat} {st : PS} (h : RP w R g st) (hw : Wf st) (n : T) (hn : n.length ≤ 9223372036854775807) :
    Calls Try.prog 30 #[.pointer (some ⟨g, 0, none⟩), .string ⟨n.toArray⟩] w fun e w' => RA w w' R g (synP st n) e := by
  obtain ⟨hlt, hg, hgR⟩ := h.lt
  have HA := Lib.hid (rasked_c h n true hn)
  have hfl := wf_files hw
  have HWF := Lib.hid hw
  have HLT := Lib.hid hlt
  clear h
  by_cases h0 : (askP st n true).1 = 0
  · have HE : Hid (synP st n = (0, { (askP st n true).2 with fs := layP st.fs ⟨n, (getF st.fs n).b, (getF st.fs n).b.length⟩ })) := by show _ = _; unfold synP; rw [if_neg (by omega)]
    have HQ := Lib.hid (askP_fs st n true)
    rw [HE.out]
    obtain ⟨q, hq⟩ : ∃ q, askP st n true = q := ⟨_, rfl⟩
    rw [hq] at HA HQ h0 ⊢
    obtain ⟨e1, s1⟩ := q
    dsimp only at h0 HA HQ ⊢
    subst h0
    clear hq HE
    go_enter Try.func30, Try.ntmps30
    go_wp2_with fail
    refine HA.out.mono ?_
    rintro e w1 ⟨rfl, hp1, hg1⟩
    obtain ⟨P, c, fs, k, hM, hfs, hk⟩ := hp1
    have hfl1 : fs.length ≤ 268435456 := by have := congrArg List.length hfs; rw [List.length_map, HQ.out.1] at this; omega
    have hsr : Srt (fs.map FA.f) := by rw [hfs, HQ.out.1]; exact HWF.out.srt
    have HM1 := Lib.hid hM
    have HG1 := Lib.hid hg1
    have HK := Lib.hid hk
    have HFS : Hid (fs.map FA.f = st.fs) := by show _ = _; rw [hfs, HQ.out.1]
    have HSR := Lib.hid hsr
    have HC := Lib.hid (rget_c hM hsr (by omega) n)
    clear hM hg1 hk hfs hsr HA
    go_wp2_with fail
    refine HC.out.mono ?_
    rintro e w2 ⟨x, rfl, hxe, hxo, hb2⟩
    unfold fenc
    have HG := Lib.hid (got HM1.out HG1.out hxo hb2 (.cells #[.string ⟨x.n.toArray⟩, .slice x.p x.b.length x.c, .int .i64 (x.s : Nat)] 68))
    have HXF : Hid (FA.f ⟨n, x.p, x.c, x.b, x.b.length⟩ = ⟨n, (getF st.fs n).b, (getF st.fs n).b.length⟩) := by
      show _ = _
      rw [← HFS.out, ← hxe]
      rfl
    have hB0 : Blk (w2.alloc (.cells #[.string ⟨#[]⟩, .slice none 0 0, .int .i64 0] 68)) w2.heap.size 68 [.string ⟨#[]⟩, .slice none 0 0, .int .i64 0] := blk_new w2 _ _ _ rfl
    have b0 := hB0.cell 0
    have b1 := hB0.cell 1
    have b2 := hB0.cell 2
    have f0 := hB0.frozen 0
    have f1 := hB0.frozen 1
    have f2 := hB0.frozen 2
    have hlt0 := hB0.lt
    have HC := Lib.hid (rlay_c HG.out.1 ⟨n, x.p, x.c, x.b, x.b.length⟩ ⟨HG.out.2.1.row, HG.out.2.1.nil, HG.out.2.1.room, HG.out.2.1.foot⟩ HSR.out (by omega))
    rw [HXF.out, HFS.out] at HC
    clear hB0 hxo hxe hb2
    go_wp2_with fail
    refine HC.out.mono ?_
    rintro e w4 ⟨rfl, h1, h2⟩
    have HF := Lib.hid (laid h1 HLT.out hg HG.out.2.2.1 h2 HK.out)
    clear h1 h2
    go_wp2_with fail
    go_ret
    exact ⟨rfl, HF.out.1, HF.out.2⟩
  · have HE : Hid (synP st n = askP st n true) := by show _ = _; unfold synP; rw [if_pos h0]
    rw [HE.out]
    obtain ⟨q, hq⟩ : ∃ q, askP st n true = q := ⟨_, rfl⟩
    rw [hq] at HA h0 ⊢
    obtain ⟨e1, s1⟩ := q
    dsimp only at h0 HA ⊢
    have i0 : ((e1 : Int) == 0) = false := by rw [beq_eq_false_iff_ne]; omega
    clear hq HE h0
    go_enter Try.func30, Try.ntmps30
    go_wp2_with fail
    refine HA.out.mono ?_
    rintro e w1 ⟨rfl, h1, h2⟩
    have H1 := Lib.hid (h1.rx HLT.out h2.size hg)
    have H2 := Lib.hid h2
    clear h1 h2
    go_wp2_with fail
    go_ret
    exact ⟨rfl, H1.out, H2.out⟩
end Go.Proofs.Ytggcdlhgmikemaa.plt
