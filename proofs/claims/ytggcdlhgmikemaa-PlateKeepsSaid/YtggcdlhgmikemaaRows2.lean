/- Whole rows (arrays, structs) in a block of the call's own: read, written, returned; rows of words as functions. No condition. -/
import Derived.Test.YtggcdlhgmikemaaMem0
namespace Go.Proofs.Ytggcdlhgmikemaa.rows
open Go.RowKit
open Go.Proofs.Ytggcdlhgmikemaa.oct Go.Proofs.Ytggcdlhgmikemaa.ref
open Go.Lib (byteCells)

theorem wpList_build_to {P : Program} {ops : Array Oper} {rest : List Oper} {o : Oper} {a : Act} {w : World} {Q : Exit → Act → World → Prop} (hg : o.guard = none) (t : TypeId) (parts : Array (Nat × Operand)) (ho : o.op = .build t parts)
    (cells : Array Value) (hf : P.built t (parts.map fun (i, x) => (i, a.eval x)).toList = some cells)
    (h : wpList P ops Q rest (a.put o.dst (.agg cells)) w) : wpList P ops Q (o :: rest) a w :=
  wpList_build hg t parts ho (by rw [hf]; rfl) (by rw [hf]; exact h)
/-- a value of many cells is laid into the block that was made just now -/
theorem wpList_store_new {P : Program} {ops : Array Oper} {rest : List Oper} {o : Oper} {a : Act} {w0 : World} {Q : Exit → Act → World → Prop} (hgd : o.guard = none) (ty : TypeId) (x y : Operand) (ho : o.op = .store ty x y)
    (X : List Value) (t : TypeId) (old : Array Value) (hx : a.eval x = .pointer (some ⟨w0.heap.size, 0, none⟩)) (hy : a.eval y = .agg X.toArray) (hi : (P.info? ty).map (·.size) = some X.length)
    (hold : old.size = X.length) (h1 : ∀ v ∈ X, v.oneCell' = true)
    (h : ∀ w1, Blk w1 w0.heap.size t X → Below w0.heap.size w0 w1 → w1.heap.size = w0.heap.size + 1 → wpList P ops Q rest (a.put o.dst undef) w1) : wpList P ops Q (o :: rest) a (w0.alloc (.cells old t)) := by
  refine wpList_store_row hgd ty x y ho w0.heap.size X.toArray hx hy t old (heap_alloc_new w0 _) (by rw [hi, List.size_toArray]) (by rw [hold, List.size_toArray]) (by rw [Array.all_eq_true]; intro i hi2; exact h1 _ (by simp)) ?_
  refine h _ ?_ (below_setRow ((Below.refl _ _).alloc (Nat.le_refl _) _) (Nat.le_refl _) _) (by simp)
  exact setRow_heap _ _ _ _ _ _ (heap_alloc_new w0 _)
theorem wpList_store_new_at {P : Program} {ops : Array Oper} {rest : List Oper} {o : Oper} {a : Act} {w0 : World} {Q : Exit → Act → World → Prop} (hgd : o.guard = none) (ty : TypeId) (x y : Operand) (ho : o.op = .store ty x y)
    (g : Nat) (hg : g = w0.heap.size) (X : List Value) (t : TypeId) (old : Array Value) (hx : a.eval x = .pointer (some ⟨g, 0, none⟩)) (hy : a.eval y = .agg X.toArray) (hi : (P.info? ty).map (·.size) = some X.length)
    (hold : old.size = X.length) (h1 : ∀ v ∈ X, v.oneCell' = true)
    (h : ∀ w1, Blk w1 g t X → Below w0.heap.size w0 w1 → wpList P ops Q rest (a.put o.dst undef) w1) : wpList P ops Q (o :: rest) a (w0.alloc (.cells old t)) := by
  subst hg
  exact wpList_store_new hgd ty x y ho X t old hx hy hi hold h1 (fun w1 h2 h3 _ => h w1 h2 h3)
/-- what is known behind a write of the whole block g -/
structure Wrote (w w1 : World) (g : Nat) : Prop where
  size : w1.heap.size = w.heap.size
  other : ∀ k, k ≠ g → w1.heap[k]? = w.heap[k]?
  below : ∀ (B : Nat) (w0 : World), Below B w0 w → B ≤ g → Below B w0 w1
theorem Wrote.blk {w w1 : World} {g h e : Nat} {X : List Value} (k : Wrote w w1 g) (hB : Blk w h e X) (hn : h ≠ g) : Blk w1 h e X := (k.other h hn).trans hB
/-- .. or into any block of the call's own -/
theorem wpList_store_blk {P : Program} {ops : Array Oper} {rest : List Oper} {o : Oper} {a : Act} {w : World} {Q : Exit → Act → World → Prop} (hgd : o.guard = none) (ty : TypeId) (x y : Operand) (ho : o.op = .store ty x y)
    (g : Nat) (X old : List Value) (t : TypeId) (hB : Blk w g t old) (hx : a.eval x = .pointer (some ⟨g, 0, none⟩)) (hy : a.eval y = .agg X.toArray) (hi : (P.info? ty).map (·.size) = some X.length)
    (hold : old.length = X.length) (h1 : ∀ v ∈ X, v.oneCell' = true)
    (h : ∀ w1, Blk w1 g t X → Wrote w w1 g → wpList P ops Q rest (a.put o.dst undef) w1) : wpList P ops Q (o :: rest) a w := by
  refine wpList_store_row hgd ty x y ho g X.toArray hx hy t old.toArray hB (by rw [hi, List.size_toArray]) (by rw [List.size_toArray, List.size_toArray, hold]) (by rw [Array.all_eq_true]; intro i hi2; exact h1 _ (by simp)) ?_
  exact h _ (setRow_heap _ _ _ _ _ _ hB) ⟨by simp, fun k hk => setRow_other _ _ _ _ hk, fun B w0 hb hg => below_setRow hb hg _⟩
theorem wpList_load_blk {P : Program} {ops : Array Oper} {rest : List Oper} {o : Oper} {a : Act} {w : World} {Q : Exit → Act → World → Prop} (hgd : o.guard = none) (ty : TypeId) (x : Operand) (ho : o.op = .load ty x)
    (g : Nat) (X : List Value) (t : TypeId) (hB : Blk w g t X) (hx : a.eval x = .pointer (some ⟨g, 0, none⟩)) (d : TypeDesc) (hu : P.underlying ty = some d) (hd : (match d with | .struct _ | .array _ _ => true | _ => false) = true)
    (hi : (P.info? ty).map (·.size) = some X.length) (h : wpList P ops Q rest (a.put o.dst (.agg X.toArray)) w) : wpList P ops Q (o :: rest) a w :=
  wpList_load_row hgd ty x ho g hx t X.toArray (0, 0) d hB hu hd (by rw [hi, List.size_toArray]) h
/-- a result that lies in a variable of its own is handed back -/
theorem results_blk {P : Program} {fn : Func} {p : Tmp} {ty : TypeId} (h : fn.results = #[.cell p ty]) (tmps : Array Value) (w : World) (g : Nat) (t : TypeId) (X : List Value) (d : TypeDesc)
    (hp : tmps.getD p undef = .pointer (some ⟨g, 0, none⟩)) (hB : Blk w g t X)
    (hu : P.underlying ty = some d) (hd : (match d with | .struct _ | .array _ _ => true | _ => false) = true) (hi : (P.info? ty).map (·.size) = some X.length) :
    (results fn tmps).run P w = .ok (.agg X.toArray) w :=
  results_cell_row h tmps w g t X.toArray (0, 0) d hp hB hu hd (by rw [hi, List.size_toArray])
theorem blk_new (w : World) (C : Array Value) (t : TypeId) (X : List Value) (h : C = X.toArray) : Blk (w.alloc (.cells C t)) w.heap.size t X := by subst h; exact heap_alloc_new w _
theorem blk_old {w : World} {g e : Nat} {X : List Value} (h : Blk w g e X) (o : Obj) : Blk (w.alloc o) g e X := h.below ((Below.refl _ _).alloc (Nat.le_refl _) _)

/-- the cells of a row of words -/
def wcells (l : List Nat) : List Value := l.map fun (n : Nat) => Value.int .u32 ((n : Nat) : Int)
theorem wcells_at {l : List Nat} {i : Nat} (h : i < l.length) : (wcells l)[i]? = some (.int .u32 ((l.getD i 0 : Nat) : Int)) := by simp [wcells, List.getD, h]
theorem wcells_len (l : List Nat) : (wcells l).length = l.length := by simp [wcells]
theorem wcells_one (l : List Nat) : ∀ v ∈ wcells l, v.oneCell' = true := by
  intro v hv
  obtain ⟨c, _, rfl⟩ := List.mem_map.1 hv
  rfl
/-- n words, told by a function -/
def row (n : Nat) (f : Nat → Nat) : List Nat := (List.range n).map f
def upd (f : Nat → Nat) (j v : Nat) : Nat → Nat := fun i => if i = j then v else f i
theorem upd_at (f : Nat → Nat) (j v : Nat) : upd f j v j = v := by simp [upd]
theorem upd_ne {f : Nat → Nat} {j v i : Nat} (h : i ≠ j) : upd f j v i = f i := by simp [upd, h]
theorem row_len (n : Nat) (f : Nat → Nat) : (wcells (row n f)).length = n := by simp [wcells, row]
theorem row_at {n : Nat} (f : Nat → Nat) {i : Nat} (h : i < n) : (wcells (row n f))[i]? = some (.int .u32 ((f i : Nat) : Int)) := by simp [wcells, row, h]
theorem row_set (n : Nat) (f : Nat → Nat) (j v : Nat) : (wcells (row n f)).set j (.int .u32 ((v : Nat) : Int)) = wcells (row n (upd f j v)) := by
  apply List.ext_getElem?
  intro i
  by_cases hi : j = i
  · subst hi
    by_cases hj : j < n
    · rw [List.getElem?_set_self (by rw [row_len]; exact hj), row_at _ hj, upd_at]
    · rw [List.getElem?_eq_none (by rw [List.length_set, row_len]; omega), List.getElem?_eq_none (by rw [row_len]; omega)]
  · rw [List.getElem?_set_ne hi]
    by_cases hj : i < n
    · rw [row_at _ hj, row_at _ hj, upd_ne (fun e => hi e.symm)]
    · rw [List.getElem?_eq_none (by rw [row_len]; omega), List.getElem?_eq_none (by rw [row_len]; omega)]
theorem row_eq {n : Nat} {f g : Nat → Nat} (h : ∀ i, i < n → f i = g i) : row n f = row n g := List.map_congr_left fun i hi => h i (List.mem_range.1 hi)
theorem row_one (n : Nat) (f : Nat → Nat) : ∀ v ∈ wcells (row n f), v.oneCell' = true := wcells_one _
/-- n bytes, told by a function -/
def brow (n : Nat) (f : Nat → UInt8) : List UInt8 := (List.range n).map f
def updB (f : Nat → UInt8) (j : Nat) (v : UInt8) : Nat → UInt8 := fun i => if i = j then v else f i
theorem updB_at (f : Nat → UInt8) (j : Nat) (v : UInt8) : updB f j v j = v := by simp [updB]
theorem updB_ne {f : Nat → UInt8} {j i : Nat} {v : UInt8} (h : i ≠ j) : updB f j v i = f i := by simp [updB, h]
theorem brow_len (n : Nat) (f : Nat → UInt8) : (brow n f).length = n := by simp [brow]
theorem bcells_len (n : Nat) (f : Nat → UInt8) : (byteCells (brow n f)).length = n := by rw [byteCells_len, brow_len]
theorem brow_at {n : Nat} (f : Nat → UInt8) {i : Nat} (h : i < n) : (byteCells (brow n f))[i]? = some (.int .u8 ((f i).toNat : Int)) := by simp [byteCells, brow, h]
theorem brow_set (n : Nat) (f : Nat → UInt8) (j : Nat) (v : UInt8) : (byteCells (brow n f)).set j (.int .u8 (v.toNat : Int)) = byteCells (brow n (updB f j v)) := by
  apply List.ext_getElem?
  intro i
  by_cases hi : j = i
  · subst hi
    by_cases hj : j < n
    · rw [List.getElem?_set_self (by rw [bcells_len]; exact hj), brow_at _ hj, updB_at]
    · rw [List.getElem?_eq_none (by rw [List.length_set, bcells_len]; omega), List.getElem?_eq_none (by rw [bcells_len]; omega)]
  · rw [List.getElem?_set_ne hi]
    by_cases hj : i < n
    · rw [brow_at _ hj, brow_at _ hj, updB_ne (fun e => hi e.symm)]
    · rw [List.getElem?_eq_none (by rw [bcells_len]; omega), List.getElem?_eq_none (by rw [bcells_len]; omega)]
theorem brow_eq {n : Nat} {f g : Nat → UInt8} (h : ∀ i, i < n → f i = g i) : brow n f = brow n g := List.map_congr_left fun i hi => h i (List.mem_range.1 hi)
theorem bytes_one (l : List UInt8) : ∀ v ∈ byteCells l, v.oneCell' = true := by
  intro v hv
  obtain ⟨c, _, rfl⟩ := List.mem_map.1 hv
  rfl
end Go.Proofs.Ytggcdlhgmikemaa.rows
