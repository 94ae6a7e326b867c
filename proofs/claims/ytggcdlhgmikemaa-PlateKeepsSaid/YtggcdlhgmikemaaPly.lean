/- A step by both plates (Do), whatever their states: how things stand within it. -/
import Derived.Test.YtggcdlhgmikemaaPlz
import Derived.Test.YtggcdlhgmikemaaPltOp
import Derived.Test.YtggcdlhgmikemaaR1Same
import Derived.Deep.RegionHeld3
namespace Go.Proofs.Ytggcdlhgmikemaa.plt
open Go.RowKit
open Go.Proofs.Ytggcdlhgmikemaa.oct Go.Proofs.Ytggcdlhgmikemaa.ref Go.Proofs.Ytggcdlhgmikemaa.rows Go.Proofs.Ytggcdlhgmikemaa.rowg Go.Proofs.Ytggcdlhgmikemaa.trn
open Go.Lib (byteCells)
open Go.Proofs.Ytggcdlhgmikemaa.opn (SP spenc GoodS)

/-- what a step answers and leaves -/
def doP (s : PS) (x : SP) : Nat × PS :=
  if x.k = 0 then appP s x.n x.d else if x.k = 1 then synP s x.n else if x.k = 2 then cutP s x.n x.m else if x.k = 3 then (0, armP s x.m) else if x.k = 4 then (0, crashP s x.ks) else if x.k = 5 then ((readP s x.n).1, s) else (0, s)
theorem wf_do {s : PS} (h : Wf s) (x : SP) : Wf (doP s x).2 := by
  unfold doP
  split
  · exact wf_app h _ _
  · split
    · exact wf_syn h _
    · split
      · exact wf_cut h _ _
      · split
        · exact wf_arm h _
        · split
          · exact wf_crash h _
          · split
            · exact h
            · exact h
/-- what a step comes to: s, t behind it -/
def DoA (w w2 : World) (gl gr : Nat) (same : Prop) (s2 t2 : PS) (X : Nat → Prop) (wx : World) (e : Ending) : Prop := (∃ b : Bool, e = .returned (.bool b) ∧ (same → b = true)) ∧ QS w w2 gl gr s2 t2 X ∧ Turn (fun k => ¬ X k) wx w2
def X1 (X : Nat → Prop) (kb : Nat) (k : Nat) : Prop := X k ∨ k = kb
/-- how things stand within a step: w0 is where it began, kb its box -/
structure Gd (w w0 wz : World) (gl gr : Nat) (s t : PS) (X : Nat → Prop) (kb : Nat) (st : List Value) : Prop where
  ps : QS w wz gl gr s t (X1 X kb)
  turn : Turn (fun k => ¬ X k) w0 wz
  b0 : Blk wz kb 36 st
theorem Gd.c0 {w w0 wz : World} {gl gr : Nat} {s t : PS} {X : Nat → Prop} {kb : Nat} {st : List Value} (h : Gd w w0 wz gl gr s t X kb st) (i : Nat) : wz.cell? ⟨kb, i, none⟩ = st[i]? := h.b0.cell i
theorem Gd.sz {w w0 wz : World} {gl gr : Nat} {s t : PS} {X : Nat → Prop} {kb : Nat} {st : List Value} (h : Gd w w0 wz gl gr s t X kb st) : kb < wz.heap.size := h.b0.lt
theorem Gd.start {w wx : World} {gl gr : Nat} {s t : PS} {X : Nat → Prop} (h : QS w wx gl gr s t X) (st : List Value) : Gd w wx (wx.alloc (.cells st.toArray 36)) gl gr s t X wx.heap.size st := by
  have hb := (Below.refl wx.heap.size wx).alloc (Nat.le_refl _) (.cells st.toArray 36)
  exact ⟨h.more hb fun k hk => hk.imp id fun e => ⟨by omega, by rw [e]; simp⟩, Turn.of_below hb, blk_new wx _ _ _ rfl⟩
/-- a call doesn't turn the box -/
theorem Gd.to {w w0 wz w2 : World} {gl gr : Nat} {s t s2 t2 : PS} {X : Nat → Prop} {kb : Nat} {st : List Value} (h : Gd w w0 wz gl gr s t X kb st) (hp : QS w w2 gl gr s2 t2 (X1 X kb)) (ht : Turn (fun k => ¬ X1 X kb k) wz w2) : Gd w w0 w2 gl gr s2 t2 X kb st :=
  ⟨hp, h.turn.next (ht.mono fun _ _ hn hx => hn (Or.inl hx)), blk_turn h.b0 ht fun hn => hn (Or.inr rfl)⟩
theorem Gd.same {w w0 wz w2 : World} {gl gr : Nat} {s t : PS} {X : Nat → Prop} {kb : Nat} {st : List Value} (h : Gd w w0 wz gl gr s t X kb st) (hb : Below wz.heap.size wz w2) : Gd w w0 w2 gl gr s t X kb st :=
  h.to (h.ps.same hb) (Turn.of_below hb)
theorem Gd.runL {w w0 wz : World} {gl gr : Nat} {s t s2 : PS} {X : Nat → Prop} {kb : Nat} {st : List Value} (h : Gd w w0 wz gl gr s t X kb st) {P : Program} {f : FuncId} {args : Array Value} {Q : Ending → Prop} (hw : Wf s2)
    (hc : ∀ (wy : World) R, Below w.heap.size w wy → (∀ k, R k → w.heap.size ≤ k) → PA wy R gl s → Calls P f args wy fun e w2 => Q e ∧ To wy w2 R gl s2) (wy : World) (hb : Below wz.heap.size wz wy) : Calls P f args wy fun e w2 => Q e ∧ Gd w w0 w2 gl gr s2 t X kb st := by
  have hy := h.same hb
  obtain ⟨R1, R2, hr⟩ := hy.ps
  exact (hc wy R1 hr.below hr.lo hr.la).mono fun e w2 ⟨hq, h2⟩ => by
    have h3 := hr.left hw h2
    exact ⟨hq, hy.to h3.1 h3.2⟩
theorem Gd.runR {w w0 wz : World} {gl gr : Nat} {s t t2 : PS} {X : Nat → Prop} {kb : Nat} {st : List Value} (h : Gd w w0 wz gl gr s t X kb st) {P : Program} {f : FuncId} {args : Array Value} {Q : Ending → Prop} (hw : Wf t2)
    (hc : ∀ (wy : World) R, Below w.heap.size w wy → (∀ k, R k → w.heap.size ≤ k) → RB wy R gr t → Calls P f args wy fun e w2 => Q e ∧ RTo wy w2 R gr t2) (wy : World) (hb : Below wz.heap.size wz wy) : Calls P f args wy fun e w2 => Q e ∧ Gd w w0 w2 gl gr s t2 X kb st := by
  have hy := h.same hb
  obtain ⟨R1, R2, hr⟩ := hy.ps
  exact (hc wy R2 hr.below hr.ro hr.ra).mono fun e w2 ⟨hq, h2⟩ => by
    have h3 := hr.right hw h2
    exact ⟨hq, hy.to h3.1 h3.2⟩
theorem Gd.done {w w0 wz : World} {gl gr : Nat} {s2 t2 : PS} {X : Nat → Prop} {kb : Nat} {st : List Value} {same : Prop} (h : Gd w w0 wz gl gr s2 t2 X kb st) (b : Bool) (hb : same → b = true) : DoA w wz gl gr same s2 t2 X w0 (.returned (.bool b)) :=
  ⟨⟨b, rfl, hb⟩, h.ps.less fun _ hk => Or.inl hk, h.turn⟩
theorem eq_ints {n m : Nat} {same : Prop} (h : same → n = m) : same → ((n : Int) == (m : Int)) = true := fun hs => by rw [h hs]; simp
/-- a caller's bytes, ints, are none of a plate's blocks -/
theorem arg_out {w wy : World} {R : Nat → Prop} (hlo : ∀ k, R k → w.heap.size ≤ k) {p : Option Addr} {b : T} (hp : In8 w p b) : b ≠ [] → ∀ i o x, p = some ⟨i, o, x⟩ → i < wy.heap.size → ¬ R i := fun hne i o x e _ hr => by
  have h1 := in8_lt hp hne e
  have h2 := hlo i hr
  omega
theorem ints_out {w wy : World} {R : Nat → Prop} (hlo : ∀ k, R k → w.heap.size ≤ k) {p : Option Addr} {l : List Int} (hp : InG ienc 1 w p l) : l ≠ [] → ∀ i o x, p = some ⟨i, o, x⟩ → i < wy.heap.size → ¬ R i := fun hne i o x e _ hr => by
  have h1 := out_of_ing hp hne e
  have h2 := hlo i hr
  omega
end Go.Proofs.Ytggcdlhgmikemaa.plt
