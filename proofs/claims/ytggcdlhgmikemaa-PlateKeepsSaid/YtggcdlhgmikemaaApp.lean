/- A row of bytes appended to a row of the call's own: nil or not, one law. Rows of up to 2^47 bytes. -/
import Derived.Test.YtggcdlhgmikemaaMem
import Derived.Deep.AppendLies
namespace Go.Proofs.Ytggcdlhgmikemaa.oct
open Go.RowKit
open Go.Proofs.Ytggcdlhgmikemaa.ref
open Go.Lib (byteCells)

theorem in8_any {w : World} {g e : Nat} {l : List UInt8} {Y : List Value} (h : Blk w g e (byteCells l ++ Y)) : In8 w (some ⟨g, 0, none⟩) l := by
  intro _
  refine ⟨g, 0, rfl, fun i hi => ?_⟩
  rw [Nat.zero_add, h.cell i, List.getElem?_append_left (by rw [byteCells_len]; exact hi)]
  simp [byteCells, List.getD, List.getElem?_eq_getElem hi]
theorem in8_all {w : World} {g e : Nat} {l : List UInt8} (h : Blk w g e (byteCells l)) : In8 w (some ⟨g, 0, none⟩) l := in8_any (Y := []) (by simpa using h)
theorem in8_nil {w : World} {m : List UInt8} (h : In8 w none m) : m = [] := by
  rcases m with _ | ⟨a, m⟩
  · rfl
  · obtain ⟨b, o, h1, _⟩ := h (by simp)
    cases h1

theorem wpList_append_in8g {w : World} {ops : Array Oper} {rest : List Oper} {o : Oper} {a : Act} {Q : Exit → Act → World → Prop} (hgd : o.guard = none) (s x : Operand)
    (ho : o.op = .call { callee := .builtin .append, args := #[s, x], argTypes := #[33, 33] }) (base : Nat)
    (v : Value) (n : Nat) (xs : List Value) (hs : a.eval s = v) (hown : w.ownsRow base 5 1 v n xs) (q : Option Addr) (m cq : Nat) (l : List UInt8) (hx : a.eval x = .slice q m cq)
    (hq : In8 w q l) (hm : l.length = m) (hnil : q = none → cq = 0) (hb : n + m ≤ 140737488355328) (hbase : base ≤ w.heap.size)
    (h : ∀ v' w', w'.ownsRow base 5 1 v' (n + m) (xs ++ byteCells l) → w.grownBy w' v.ownBlock → wpList Try.prog ops Q rest (a.put o.dst v') w') :
    wpList Try.prog ops Q (o :: rest) a w := by
  obtain ⟨j0, hj, hy0, hy1, hy2⟩ := info_parts infoByte
  subst hm
  rcases q with _ | ad
  · obtain rfl := in8_nil hq
    obtain rfl := hnil rfl
    refine wpList_append_own_none hgd s x 33 ho base 5 j0 1 Try.underlying33 hj v n xs hs hown hx ?_
    exact h v w (by simpa [byteCells] using hown) (World.grownBy.refl w _)
  · refine wpList_append_own _ hgd s x 33 ho base 5 j0 (.int .u8 0) 1 1 Try.underlying33 hj hy0 hy1 hy2 rfl (by decide) v n xs hs hown ad l.length cq (byteCells l) hx (by rw [byteCells_len]; omega) (src_cells hq) (byteCells_one l) (by unfold maxLen; omega) (by omega) hbase ?_
    intro v' w' hown' hgrow _
    exact h v' w' hown' hgrow
theorem wpList_append_in8 {w : World} {ops : Array Oper} {rest : List Oper} {o : Oper} {a : Act} {Q : Exit → Act → World → Prop} (hgd : o.guard = none) (s x : Operand)
    (ho : o.op = .call { callee := .builtin .append, args := #[s, x], argTypes := #[33, 33] }) (base : Nat)
    (v : Value) (n : Nat) (xs : List Value) (hs : a.eval s = v) (hown : w.ownsRow base 5 1 v n xs) (q : Option Addr) (m cq : Nat) (l : List UInt8) (hx : a.eval x = .slice q m cq)
    (hq : In8 w q l) (hm : l.length = m) (hnil : q = none → cq = 0) (hb : n + m ≤ 140737488355328) (hbase : base ≤ w.heap.size)
    (h : ∀ v' w', w'.ownsRow base 5 1 v' (n + m) (xs ++ byteCells l) → (∀ w0, Below w0.heap.size w0 w → w0.heap.size ≤ base → Below w0.heap.size w0 w') → wpList Try.prog ops Q rest (a.put o.dst v') w') :
    wpList Try.prog ops Q (o :: rest) a w :=
  wpList_append_in8g hgd s x ho base v n xs hs hown q m cq l hx hq hm hnil hb hbase fun v' w' h1 hg => h v' w' h1 (fun _ hb hle => hb.grown hg hb.size (fun k hk => Nat.le_trans hle (hown.lt k hk).1))

theorem grown_trans {a b c : World} {row : Option Nat} (h : a.grownBy b row) (k : b.grownBy c row) : a.grownBy c row :=
  ⟨k.os.trans h.os, k.tape.trans h.tape, k.output.trans h.output, Nat.le_trans h.size k.size, fun i hi hr => (k.block i (Nat.lt_of_lt_of_le hi h.size) hr).trans (h.block i hi hr)⟩
/-- one byte behind a row of the call's own -/
theorem wpList_append_one {w : World} {ops : Array Oper} {rest : List Oper} {o : Oper} {a : Act} {Q : Exit → Act → World → Prop} (hgd : o.guard = none) (s x : Operand)
    (ho : o.op = .call { callee := .builtin .append, args := #[s, x], argTypes := #[33, 33] }) (base : Nat)
    (v : Value) (n : Nat) (l : List UInt8) (hs : a.eval s = v) (hown : w.ownsRow base 5 1 v n (byteCells l)) (c : UInt8) (C : Array Value) (hC : C = (byteCells [c]).toArray) (hx : a.eval x = .slice (some ⟨w.heap.size, 0, none⟩) 1 1)
    (hb : n + 1 ≤ 140737488355328) (hbase : base ≤ w.heap.size)
    (h : ∀ g cap w', w'.ownsRow base 5 1 (.slice (some ⟨g, 0, none⟩) (n + 1) cap) (n + 1) (byteCells (l ++ [c])) → w.grownBy w' v.ownBlock → (v.ownBlock = some g ∨ w.heap.size ≤ g) → g < w'.heap.size → wpList Try.prog ops Q rest (a.put o.dst (.slice (some ⟨g, 0, none⟩) (n + 1) cap)) w') :
    wpList Try.prog ops Q (o :: rest) a (w.alloc (.cells C 5)) := by
  obtain ⟨j0, hj, hy0, hy1, hy2⟩ := info_parts infoByte
  subst hC
  refine wpList_append_lies _ hgd s x 33 ho base 5 j0 (.int .u8 0) 1 1 Try.underlying33 hj hy0 hy1 hy2 rfl (by decide) v n (byteCells l) hs (hown.alloc _) ⟨w.heap.size, 0, none⟩ 1 1 (byteCells [c]) hx rfl (src_cells (in8_new w _ [c] rfl)) (byteCells_one _) (by decide) (by unfold maxLen; omega) (by omega) (by simp; omega) (w.heap.size + 1) (by simp) ?_
  intro g cap w' h1 h2 h3 h4
  rw [← byteCells_append] at h1
  exact h g cap w' h1 (grown_trans (World.grownBy_alloc w _ _) h2) (h3.imp id (fun e => by omega)) h4
/-- no block of the one row is the other's -/
def Disj (v u : Value) : Prop := ∀ k, v.ownBlock = some k → u.ownBlock ≠ some k
theorem Disj.ne {v u : Value} (h : Disj v u) : u.ownBlock = none ∨ u.ownBlock ≠ v.ownBlock := by
  rcases hu : u.ownBlock with _ | k
  · exact Or.inl rfl
  · exact Or.inr fun e => h k e.symm hu
theorem Disj.symm {v u : Value} (h : Disj v u) : Disj u v := fun k h1 h2 => h k h2 h1
theorem Disj.step {w : World} {base n m g cap : Nat} {e : TypeId} {v u : Value} {xs : List Value} (h : Disj v u) (hu : w.ownsRow base e 1 u n xs) (hg : v.ownBlock = some g ∨ w.heap.size ≤ g) : Disj (.slice (some ⟨g, 0, none⟩) m cap) u := by
  intro k hk h2
  have : k = g := by simpa [Value.ownBlock] using hk.symm
  subst this
  rcases hg with hg | hg
  · exact h k hg h2
  · have := (hu.lt k h2).2; omega
theorem own_nil (w : World) : (w.alloc (.cells #[] 5)).ownsRow w.heap.size 5 1 (.slice (some ⟨w.heap.size, 0, none⟩) 0 0) 0 [] :=
  own_of_block (xs := []) (Nat.le_refl _) (heap_alloc_new w _) (by decide)
end Go.Proofs.Ytggcdlhgmikemaa.oct
