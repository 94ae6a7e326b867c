/- LanePlays: how things stand within a step. -/
import Derived.Test.YtdjgafemmihlgaaLanZ
namespace Go.Proofs.Ytdjgafemmihlgaa.lan
open Go.RowKit
open Go.Proofs.Ytdjgafemmihlgaa.oct Go.Proofs.Ytdjgafemmihlgaa.ref Go.Proofs.Ytdjgafemmihlgaa.rows Go.Proofs.Ytdjgafemmihlgaa.rowg Go.Proofs.Ytdjgafemmihlgaa.trn
open Go.Lib (byteCells)

/-- what a step comes to -/
def DoA (w w2 : World) (gl gr : Nat) (s : LS) (X : Nat → Prop) (wx : World) (e : Ending) : Prop := e = .returned (.bool true) ∧ (∃ s2, PS w w2 gl gr s2 s2 X ∧ s2.cn ≤ s.cn + 1) ∧ Turn (fun k => ¬ X k) wx w2
def X3 (X : Nat → Prop) (kb : Nat) (k : Nat) : Prop := X k ∨ (kb ≤ k ∧ k < kb + 3)
def w3Of (wx : World) (st : Array Value) : World := ((wx.alloc (.cells st 37)).alloc (.cells #[.int .i64 0, .int .i64 0, .slice none 0 0] 44)).alloc (.cells #[.int .i64 0, .int .i64 0, .slice none 0 0] 44)
/-- how things stand within a step: w0 is where it began, kb the first of its three boxes -/
structure Gd (w w0 wz : World) (gl gr : Nat) (s t : LS) (X : Nat → Prop) (kb : Nat) (st : List Value) : Prop where
  ps : PS w wz gl gr s t (X3 X kb)
  turn : Turn (fun k => ¬ X k) w0 wz
  b0 : Blk wz kb 37 st
  b1 : Blk wz (kb + 1) 44 [.int .i64 0, .int .i64 0, .slice none 0 0]
  b2 : Blk wz (kb + 1 + 1) 44 [.int .i64 0, .int .i64 0, .slice none 0 0]
theorem Gd.c0 {w w0 wz : World} {gl gr : Nat} {s t : LS} {X : Nat → Prop} {kb : Nat} {st : List Value} (h : Gd w w0 wz gl gr s t X kb st) (i : Nat) : wz.cell? ⟨kb, i, none⟩ = st[i]? := h.b0.cell i
theorem Gd.c1 {w w0 wz : World} {gl gr : Nat} {s t : LS} {X : Nat → Prop} {kb : Nat} {st : List Value} (h : Gd w w0 wz gl gr s t X kb st) (i : Nat) : wz.cell? ⟨kb + 1, i, none⟩ = ([.int .i64 0, .int .i64 0, .slice none 0 0] : List Value)[i]? := h.b1.cell i
theorem Gd.c2 {w w0 wz : World} {gl gr : Nat} {s t : LS} {X : Nat → Prop} {kb : Nat} {st : List Value} (h : Gd w w0 wz gl gr s t X kb st) (i : Nat) : wz.cell? ⟨kb + 1 + 1, i, none⟩ = ([.int .i64 0, .int .i64 0, .slice none 0 0] : List Value)[i]? := h.b2.cell i
theorem Gd.sz {w w0 wz : World} {gl gr : Nat} {s t : LS} {X : Nat → Prop} {kb : Nat} {st : List Value} (h : Gd w w0 wz gl gr s t X kb st) : kb + 3 ≤ wz.heap.size := h.b2.lt
theorem Gd.start {w wx : World} {gl gr : Nat} {s : LS} {X : Nat → Prop} (h : PS w wx gl gr s s X) (st : List Value) : Gd w wx (w3Of wx st.toArray) gl gr s s X wx.heap.size st := by
  have b1 := (Below.refl wx.heap.size wx).alloc (Nat.le_refl _) (.cells st.toArray 37)
  have s1 : (wx.alloc (.cells st.toArray 37)).heap.size = wx.heap.size + 1 := by simp
  have B1 : Blk (wx.alloc (.cells st.toArray 37)) wx.heap.size 37 st := blk_new wx _ _ _ rfl
  obtain ⟨w1, e1⟩ : ∃ w1, wx.alloc (.cells st.toArray 37) = w1 := ⟨_, rfl⟩
  rw [e1] at b1 s1 B1
  have b2 := b1.alloc b1.size (.cells #[.int .i64 0, .int .i64 0, .slice none 0 0] 44)
  have s2 : (w1.alloc (.cells #[.int .i64 0, .int .i64 0, .slice none 0 0] 44)).heap.size = wx.heap.size + 1 + 1 := by simp [s1]
  have B2 : Blk (w1.alloc (.cells #[.int .i64 0, .int .i64 0, .slice none 0 0] 44)) w1.heap.size 44 [.int .i64 0, .int .i64 0, .slice none 0 0] := blk_new w1 _ _ _ rfl
  have B1' := B1.below ((Below.refl w1.heap.size w1).alloc (Nat.le_refl _) (.cells #[.int .i64 0, .int .i64 0, .slice none 0 0] 44))
  rw [s1] at B2
  obtain ⟨w2, e2⟩ : ∃ w2, w1.alloc (.cells #[.int .i64 0, .int .i64 0, .slice none 0 0] 44) = w2 := ⟨_, rfl⟩
  rw [e2] at b2 s2 B2 B1'
  have hb : Below w2.heap.size w2 (w2.alloc (.cells #[.int .i64 0, .int .i64 0, .slice none 0 0] 44)) := (Below.refl w2.heap.size w2).alloc (Nat.le_refl _) _
  have b3 := b2.alloc b2.size (.cells #[.int .i64 0, .int .i64 0, .slice none 0 0] 44)
  have s3 : (w2.alloc (.cells #[.int .i64 0, .int .i64 0, .slice none 0 0] 44)).heap.size = wx.heap.size + 1 + 1 + 1 := by simp [s2]
  have B3 : Blk (w2.alloc (.cells #[.int .i64 0, .int .i64 0, .slice none 0 0] 44)) w2.heap.size 44 [.int .i64 0, .int .i64 0, .slice none 0 0] := blk_new w2 _ _ _ rfl
  have B1'' := B1'.below hb
  have B2' := B2.below hb
  rw [s2] at B3
  have he : w3Of wx st.toArray = w2.alloc (.cells #[.int .i64 0, .int .i64 0, .slice none 0 0] 44) := by unfold w3Of; rw [e1, e2]
  rw [he]
  exact ⟨h.more b3 fun k e => e.imp id fun e => ⟨e.1, by omega⟩, Turn.of_below b3, B1'', B2', B3⟩
/-- a call turns none of the boxes -/
theorem Gd.to {w w0 wz w2 : World} {gl gr : Nat} {s t s2 t2 : LS} {X : Nat → Prop} {kb : Nat} {st : List Value} (h : Gd w w0 wz gl gr s t X kb st) (hp : PS w w2 gl gr s2 t2 (X3 X kb)) (ht : Turn (fun k => ¬ X3 X kb k) wz w2) : Gd w w0 w2 gl gr s2 t2 X kb st := by
  exact ⟨hp, h.turn.next (ht.mono fun k _ hn hx => hn (Or.inl hx)), blk_turn h.b0 ht fun hn => hn (Or.inr ⟨by omega, by omega⟩), blk_turn h.b1 ht fun hn => hn (Or.inr ⟨by omega, by omega⟩), blk_turn h.b2 ht fun hn => hn (Or.inr ⟨by omega, by omega⟩)⟩
theorem Gd.same {w w0 wz w2 : World} {gl gr : Nat} {s t : LS} {X : Nat → Prop} {kb : Nat} {st : List Value} (h : Gd w w0 wz gl gr s t X kb st) (hb : Below wz.heap.size wz w2) : Gd w w0 w2 gl gr s t X kb st :=
  h.to (h.ps.same hb) (Turn.of_below hb)
theorem Gd.runL {w w0 wz : World} {gl gr : Nat} {s t s2 : LS} {X : Nat → Prop} {kb : Nat} {st : List Value} (h : Gd w w0 wz gl gr s t X kb st) {P : Program} {f : FuncId} {args : Array Value} {Q : Ending → Prop} (hw : Wf s2)
    (hc : ∀ (wy : World) R, Below w.heap.size w wy → LA wy R gl s → Calls P f args wy fun e w2 => Q e ∧ To wy w2 R gl s2) (wy : World) (hb : Below wz.heap.size wz wy) : Calls P f args wy fun e w2 => Q e ∧ Gd w w0 w2 gl gr s2 t X kb st := by
  have hy := h.same hb
  exact (hy.ps.runL hw fun R hR => hc wy R hy.ps.below hR).mono fun e w2 ⟨hq, h2, h3⟩ => ⟨hq, hy.to h2 h3⟩
theorem Gd.runR {w w0 wz : World} {gl gr : Nat} {s t t2 : LS} {X : Nat → Prop} {kb : Nat} {st : List Value} (h : Gd w w0 wz gl gr s t X kb st) {P : Program} {f : FuncId} {args : Array Value} {Q : Ending → Prop} (hw : Wf t2)
    (hc : ∀ (wy : World) R, Below w.heap.size w wy → RA wy R gr t → Calls P f args wy fun e w2 => Q e ∧ RTo wy w2 R gr t2) (wy : World) (hb : Below wz.heap.size wz wy) : Calls P f args wy fun e w2 => Q e ∧ Gd w w0 w2 gl gr s t2 X kb st := by
  have hy := h.same hb
  exact (hy.ps.runR hw fun R hR => hc wy R hy.ps.below hR).mono fun e w2 ⟨hq, h2, h3⟩ => ⟨hq, hy.to h2 h3⟩
theorem Gd.done {w w0 wz : World} {gl gr : Nat} {s s2 : LS} {X : Nat → Prop} {kb : Nat} {st : List Value} (h : Gd w w0 wz gl gr s2 s2 X kb st) (hc : s2.cn ≤ s.cn + 1) : DoA w wz gl gr s X w0 (.returned (.bool true)) :=
  ⟨rfl, ⟨s2, h.ps.less fun _ hk => Or.inl hk, hc⟩, h.turn⟩
theorem same_zero (w : World) : Calls Try.prog 16 #[.agg #[.int .i64 0, .int .i64 0, .slice none 0 0], .agg #[.int .i64 0, .int .i64 0, .slice none 0 0]] w fun e w' => e = .returned (.bool true) ∧ Below w.heap.size w w' :=
  same_c w 0 0 none none 0 0 [] (fun h => absurd h (by simp)) (fun h => absurd h (by simp)) (by decide)
end Go.Proofs.Ytdjgafemmihlgaa.lan
