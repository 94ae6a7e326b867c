/- What has turned lies in a set of blocks, or is new (Turn); rows, blocks, maps, arguments beside it. No condition. -/
import Derived.Test.YtggcdlhgmikemaaApp
import Derived.Test.YtggcdlhgmikemaaRowG
import Derived.Maps.OwnSet
namespace Go.Proofs.Ytggcdlhgmikemaa.trn
open Go.RowKit
open Go.Proofs.Ytggcdlhgmikemaa.oct Go.Proofs.Ytggcdlhgmikemaa.ref Go.Proofs.Ytggcdlhgmikemaa.rowg
open Go.Lib (byteCells)

/-- what has turned lies in S, or is new -/
structure Turn (S : Nat → Prop) (w w' : World) : Prop where
  os : w'.os = w.os
  tape : w'.tape = w.tape
  output : w'.output = w.output
  size : w.heap.size ≤ w'.heap.size
  block : ∀ k, k < w.heap.size → ¬ S k → w'.heap[k]? = w.heap[k]?
theorem Turn.refl (S : Nat → Prop) (w : World) : Turn S w w := ⟨rfl, rfl, rfl, Nat.le_refl _, fun _ _ _ => rfl⟩
/-- S2: what has come behind S in w -/
def Grown (S S2 : Nat → Prop) (w : World) : Prop := ∀ k, S2 k → S k ∨ w.heap.size ≤ k
theorem Grown.refl (S : Nat → Prop) (w : World) : Grown S S w := fun _ h => Or.inl h
theorem Turn.trans {S S2 : Nat → Prop} {a b c : World} (h : Turn S a b) (hg : Grown S S2 a) (k : Turn S2 b c) : Turn S a c :=
  ⟨k.os.trans h.os, k.tape.trans h.tape, k.output.trans h.output, Nat.le_trans h.size k.size, fun i hi hn => (k.block i (Nat.lt_of_lt_of_le hi h.size) (fun h2 => (hg i h2).elim hn (fun h3 => by omega))).trans (h.block i hi hn)⟩
theorem Turn.next {S : Nat → Prop} {a b c : World} (h : Turn S a b) (k : Turn S b c) : Turn S a c := h.trans (Grown.refl S a) k
theorem Grown.trans {S S2 S3 : Nat → Prop} {a b : World} (h : Grown S S2 a) (hs : a.heap.size ≤ b.heap.size) (k : Grown S2 S3 b) : Grown S S3 a := fun i hi => (k i hi).elim (h i) (fun h2 => Or.inr (Nat.le_trans hs h2))
theorem Turn.of_grown {S : Nat → Prop} {w w' : World} {g : Nat} (h : w.grownBy w' (some g)) (hg : S g) : Turn S w w' :=
  ⟨h.os, h.tape, h.output, h.size, fun k hk hn => h.block k hk (fun e => hn (by injection e with e; subst e; exact hg))⟩
theorem Turn.of_row {S : Nat → Prop} {w w' : World} {r : Option Nat} (h : w.grownBy w' r) (hg : ∀ b, r = some b → S b) : Turn S w w' :=
  ⟨h.os, h.tape, h.output, h.size, fun k hk hn => h.block k hk (fun e => hn (hg k e.symm))⟩
theorem Turn.of_below {S : Nat → Prop} {w w' : World} (h : Below w.heap.size w w') : Turn S w w' := ⟨h.os, h.tape, h.output, h.size, fun k hk _ => h.block k hk⟩
theorem Turn.to_below {w w' : World} (h : Turn (fun _ => False) w w') : Below w.heap.size w w' := ⟨h.os, h.tape, h.output, h.size, fun k hk => h.block k hk id⟩
theorem Turn.drew {S : Nat → Prop} {w w' : World} (h : Turn S w w') : Turn S w w'.drew := ⟨h.os, h.tape, h.output, h.size, h.block⟩
theorem Turn.alloc (S : Nat → Prop) (w : World) (o : Obj) : Turn S w (w.alloc o) := Turn.of_below ((Below.refl _ _).alloc (Nat.le_refl _) _)
theorem Turn.mono {S S2 : Nat → Prop} {w w' : World} (h : Turn S w w') (hs : ∀ k, k < w.heap.size → S k → S2 k) : Turn S2 w w' := ⟨h.os, h.tape, h.output, h.size, fun k hk hn => h.block k hk fun h2 => hn (hs k hk h2)⟩
theorem Turn.below {S : Nat → Prop} {B : Nat} {w0 w w' : World} (h : Below B w0 w) (hs : Turn S w w') (hB : ∀ k, S k → B ≤ k) (hw : B ≤ w.heap.size) : Below B w0 w' :=
  h.trans ⟨hs.os, hs.tape, hs.output, hs.size, fun k hk => hs.block k (by omega) (fun h2 => by have := hB k h2; omega)⟩
theorem grownSet {w : World} (g i : Nat) (v : Value) : w.grownBy (w.setCell ⟨g, i, none⟩ v) (some g) :=
  ⟨rfl, rfl, rfl, by simp, fun k _ hn => Below.heap_setCell _ _ _ _ (by exact fun e => hn (congrArg some e))⟩
theorem Turn.set {S : Nat → Prop} (w : World) (g i : Nat) (v : Value) (hg : S g) : Turn S w (w.setCell ⟨g, i, none⟩ v) := Turn.of_grown (grownSet g i v) hg
theorem Turn.map {S : Nat → Prop} {w w' : World} {b : Nat} (h : w.mapTurned w' b) (hb : S b) : Turn S w w' := Turn.of_grown h.grown hb
theorem blk_turn {S : Nat → Prop} {w w' : World} {g e : Nat} {X : List Value} (h : Blk w g e X) (ht : Turn S w w') (hd : ¬ S g) : Blk w' g e X := (ht.block g h.lt hd).trans h
theorem own_turn {S : Nat → Prop} {w w' : World} {B e z n : Nat} {v : Value} {xs : List Value} (h : w.ownsRow B e z v n xs) (ht : Turn S w w') (hd : ∀ b, v.ownBlock = some b → ¬ S b) : w'.ownsRow B e z v n xs := by
  refine ⟨h.1, ?_⟩
  rcases h.2 with h2 | ⟨g, cap, cur, h1, h2, h3, h4⟩
  · exact Or.inl h2
  · refine Or.inr ⟨g, cap, cur, h1, h2, ?_, h4⟩
    rw [ht.block g (Array.getElem?_eq_some_iff.1 h3).1 (hd g (by rw [h1]; rfl))]
    exact h3
theorem map_turn {H : Type} {S : Nat → Prop} {w w' : World} {P : Program} {k : TypeId} {R : Value → Option (DataW H × List MemPlace)} {b n : Nat} {D : DataW H} (h : w.ownsMap P k R b n D) (ht : Turn S w w') (hd : ¬ S b) : w'.ownsMap P k R b n D := by
  obtain ⟨es, clock, hb, r⟩ := h
  exact ⟨es, clock, (ht.block b (Array.getElem?_eq_some_iff.1 hb).1 hd).trans hb, r⟩
/-- an argument's bytes, which lie in no block that turns -/
theorem in8_turn {S : Nat → Prop} {w w' : World} {p : Option Addr} {l : List UInt8} (h : In8 w p l) (ht : Turn S w w') (hd : ∀ b o x, p = some ⟨b, o, x⟩ → b < w.heap.size → ¬ S b) : In8 w' p l := by
  intro hl
  obtain ⟨b, o, rfl, hc⟩ := h hl
  have hlt : b < w.heap.size := cell_lt (hc 0 hl)
  exact ⟨b, o, rfl, fun i hi => (World.cell?_of_block (ht.block b hlt (hd b o none rfl hlt))).trans (hc i hi)⟩
theorem ing_turn {S : Nat → Prop} {α : Type} {enc : α → List Value} {k : Nat} {w w' : World} {P : Option Addr} {ps : List α} (hk : ∀ a, (enc a).length = k) (h0 : 0 < k) (h : InG enc k w P ps) (ht : Turn S w w') (hd : ∀ b o x, P = some ⟨b, o, x⟩ → b < w.heap.size → ¬ S b) : InG enc k w' P ps := by
  intro hl
  obtain ⟨b, o, rfl, hc⟩ := h hl
  have h1 := hc 0 hl 0 h0
  have h2 : ∃ u, (enc (ps[0]))[0]? = some u := ⟨_, List.getElem?_eq_getElem (by rw [hk]; exact h0)⟩
  obtain ⟨u, hu⟩ := h2
  rw [hu] at h1
  have hlt : b < w.heap.size := cell_lt h1
  exact ⟨b, o, rfl, fun i hi j hj => (World.cell?_of_block (ht.block b hlt (hd b o none rfl hlt))).trans (hc i hi j hj)⟩
theorem cell_turn {S : Nat → Prop} {w w' : World} (ht : Turn S w w') {b o : Nat} (hlt : b < w.heap.size) (hd : ¬ S b) : w'.cell? ⟨b, o, none⟩ = w.cell? ⟨b, o, none⟩ := World.cell?_of_block (ht.block b hlt hd)
end Go.Proofs.Ytggcdlhgmikemaa.trn
