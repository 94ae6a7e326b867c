/- Several texts in one: Mem0, Mem, Rows2, App, After, RowG, Turn. Conditions: as each theorem says. -/
import Derived.Test.YthagdkipipldlaaGreatDoorProg
import Derived.WalkKit
import Derived.WalkSpells
import Derived.WalkLawsBesides
import Derived.BigQuiet
import Derived.Deep.QuietTactic
import Derived.Lib.Hide
import Derived.Deep.LoopGhost
import Derived.Deep.Light
import Derived.Lib.UnsafeStr
import Derived.Laws.BytesArg
import Derived.Laws.CopyOwn
import Derived.Laws.AppendOwnNone
import Derived.WalkSmall
import Derived.Deep.AppendLies
import Derived.Deep.Quiet
import Derived.Deep.Slices
import Derived.Maps.OwnSet
namespace Go.Proofs.YthagdkipipldlaaGreatDoor.oct
open Go.RowKit
open Go.Lib (byteCells)

theorem ret_int {k : IntKind} {a b : Int} (h : a = b) : Ending.returned (.int k a) = .returned (.int k b) := by rw [h]
/-- a row of bytes at a slice's address -/
def In8 (w : World) (p : Option Addr) (l : List UInt8) : Prop :=
  0 < l.length → ∃ b o, p = some ⟨b, o, none⟩ ∧ ∀ i, i < l.length → w.cell? ⟨b, o + i, none⟩ = some (.int .u8 ((l.getD i 0).toNat : Int))
theorem In8.at {w : World} {p : Option Addr} {l : List UInt8} (h : In8 w p l) (hn : 0 < l.length) : ∃ b o, p = some ⟨b, o, none⟩ ∧ ∀ i, i < l.length → w.cell? ⟨b, o + i, none⟩ = some (.int .u8 ((l.getD i 0).toNat : Int)) := h hn
theorem xor_nat (k : IntKind) (j : Nat) (hj : j ≤ k.bits) (hk : ∀ n : Int, 0 ≤ n → n < 2 ^ j → k.wrap n = n) (a b : Nat) (ha : a < 2 ^ j) (hb : b < 2 ^ j) :
    bits .xor k a b = ((a ^^^ b : Nat) : Int) := by
  have hp : 2 ^ j ≤ 2 ^ k.bits := Nat.pow_le_pow_right (by decide) hj
  have ha' : a % 2 ^ k.bits = a := Nat.mod_eq_of_lt (Nat.lt_of_lt_of_le ha hp)
  have hb' : b % 2 ^ k.bits = b := Nat.mod_eq_of_lt (Nat.lt_of_lt_of_le hb hp)
  simp only [bits, BitVec.ofInt_natCast, BitVec.toNat_xor, BitVec.toNat_ofNat, ha', hb']
  exact hk _ (Int.natCast_nonneg _) (by exact_mod_cast Nat.xor_lt_two_pow ha hb)
theorem xor_u8 (a b : UInt8) : bits .xor .u8 (a.toNat : Int) (b.toNat : Int) = ((a ^^^ b).toNat : Int) := by
  rw [xor_nat .u8 8 (by decide) wraps_u8 a.toNat b.toNat a.toNat_lt b.toNat_lt, UInt8.toNat_xor]
theorem take_eq_succ {l m : List UInt8} {k : Nat} (h1 : k < l.length) (h2 : k < m.length) : l.take (k + 1) = m.take (k + 1) ↔ l.take k = m.take k ∧ l[k] = m[k] := by
  rw [List.take_succ_eq_append_getElem h1, List.take_succ_eq_append_getElem h2]
  constructor
  · intro h
    obtain ⟨e1, e2⟩ := List.append_inj h (by simp; omega)
    exact ⟨e1, by simpa using e2⟩
  · rintro ⟨e1, e2⟩; rw [e1, e2]
theorem ret_bool {a b : Bool} (h : a = b) : Ending.returned (.bool a) = .returned (.bool b) := by rw [h]
theorem cell_lt {w : World} {a : Addr} {v : Value} (h : w.cell? a = some v) : a.block < w.heap.size := by
  rcases Nat.lt_or_ge a.block w.heap.size with h' | h'
  · exact h'
  · simp [World.cell?, Array.getElem?_eq_none h'] at h
theorem In8.below {w w' : World} {p : Option Addr} {l : List UInt8} (h : In8 w p l) (hb : Below w.heap.size w w') : In8 w' p l := by
  intro hl
  obtain ⟨b, o, rfl, hc⟩ := h hl
  have hlt : b < w.heap.size := cell_lt (hc 0 hl)
  exact ⟨b, o, rfl, fun i hi => (hb.cell (p := ⟨b, o + i, none⟩) hlt).trans (hc i hi)⟩
theorem In8.blt {w : World} {b o : Nat} {x : Option Nat} {l : List UInt8} (h : In8 w (some ⟨b, o, x⟩) l) (hl : 0 < l.length) : b < w.heap.size := by
  obtain ⟨b', o', h1, hc⟩ := h hl
  cases h1
  exact cell_lt (hc 0 hl)
theorem bnext {w w1 w2 : World} (h : Below w.heap.size w w1) (k : Below w1.heap.size w1 w2) : Below w.heap.size w w2 := h.trans (k.mono h.size)
theorem infoByte : (Tryz.prog.info? 5).map (fun i => (i.zero, i.size, i.bytes)) = some (some (.int .u8 0), 1, 1) := by kernel_rfl
theorem byteCells_len (l : List UInt8) : (byteCells l).length = l.length := by simp [byteCells]
theorem byteCells_snoc (l : List UInt8) (c : UInt8) : byteCells (l ++ [c]) = byteCells l ++ [.int .u8 (c.toNat : Int)] := by simp [byteCells]
theorem byteCells_append (l m : List UInt8) : byteCells (l ++ m) = byteCells l ++ byteCells m := by simp [byteCells]
/-- cells of an owned row -/
theorem own_cells {w : World} {B e n : Nat} {v : Value} {xs : List Value} (h : w.ownsRow B e 1 v n xs) :
    n = xs.length ∧ ((v = .slice none 0 0 ∧ n = 0) ∨ ∃ g cp, v = .slice (some ⟨g, 0, none⟩) n cp ∧ B ≤ g ∧ g < w.heap.size ∧ n ≤ cp ∧ ∀ i, i < n → w.cell? ⟨g, i, none⟩ = xs[i]?) := by
  obtain ⟨h0, h1⟩ := h
  refine ⟨by omega, ?_⟩
  rcases h1 with ⟨rfl, rfl⟩ | ⟨g, cp, cur, rfl, hB, hg, hn, hm, hs, ht⟩
  · exact Or.inl ⟨rfl, rfl⟩
  · refine Or.inr ⟨g, cp, rfl, hB, (Array.getElem?_eq_some_iff.1 hg).1, hn, fun i hi => ?_⟩
    rw [cell_of_row w g i cur e (0, 0) hg, ← ht, List.getElem?_take, if_pos (by omega)]
    simp
theorem own_in8 {w : World} {B e n : Nat} {v : Value} {l : List UInt8} (h : w.ownsRow B e 1 v n (byteCells l)) :
    n = l.length ∧ ∃ p cp, v = .slice p n cp ∧ In8 w p l := by
  obtain ⟨h0, h1⟩ := own_cells h
  rw [byteCells_len] at h0
  refine ⟨h0, ?_⟩
  rcases h1 with ⟨rfl, rfl⟩ | ⟨g, cp, rfl, _, _, _, hc⟩
  · exact ⟨none, 0, rfl, fun hl => by omega⟩
  · refine ⟨_, cp, rfl, fun hl => ⟨g, 0, rfl, fun i hi => ?_⟩⟩
    rw [Nat.zero_add, hc i (by omega)]
    simp [byteCells, List.getD, List.getElem?_eq_getElem hi]
theorem toNat_map (l : List UInt8) : (l.map fun b => ((b.toNat : Nat) : Int)).map (fun n => UInt8.ofNat n.toNat) = l := by
  induction l with
  | nil => rfl
  | cons a l ih => simp [ih]
theorem ba_append (a b : List UInt8) : ((⟨a.toArray⟩ : ByteArray) ++ (⟨b.toArray⟩ : ByteArray)) = ⟨(a ++ b).toArray⟩ := by
  ext1
  simp
theorem ret_string {a b : ByteArray} (h : a = b) : Ending.returned (.string a) = .returned (.string b) := by rw [h]
theorem size_mk (l : List UInt8) : (⟨l.toArray⟩ : ByteArray).size = l.length := by simp [ByteArray.size]
theorem in8_new (w : World) (cs : Array Value) (l : List UInt8) (h : cs = (byteCells l).toArray) : In8 (w.alloc (.cells cs 5)) (some ⟨w.heap.size, 0, none⟩) l := by
  intro _
  refine ⟨w.heap.size, 0, rfl, fun i hi => ?_⟩
  rw [Nat.zero_add, World.cell?_alloc_at _ _ _ _ rfl, h]
  simp [byteCells, List.getD, List.getElem?_eq_getElem hi]
theorem own_below {w w' : World} {B e n : Nat} {v : Value} {xs : List Value} (h : w.ownsRow B e 1 v n xs) (hb : Below w.heap.size w w') : w'.ownsRow B e 1 v n xs := by
  refine ⟨h.1, ?_⟩
  rcases h.2 with h2 | ⟨g, cap, cur, h1, h2, h3, h4⟩
  · exact Or.inl h2
  · refine Or.inr ⟨g, cap, cur, h1, h2, ?_, h4⟩
    rw [hb.block g (Array.getElem?_eq_some_iff.1 h3).1]
    exact h3
end Go.Proofs.YthagdkipipldlaaGreatDoor.oct
namespace Go.Proofs.YthagdkipipldlaaGreatDoor.ref
open Go.RowKit
open Go.Proofs.YthagdkipipldlaaGreatDoor.oct
open Go.Lib (byteCells)

theorem own_whole {w : World} {B e n : Nat} {p : Option Addr} {xs : List Value} (h : w.ownsRow B e 1 (.slice p n n) n xs) (hp : p ≠ none) : ∃ g, p = some ⟨g, 0, none⟩ ∧ B ≤ g ∧ w.heap[g]? = some (.cells xs.toArray e (0, 0)) := by
  rcases h.2 with ⟨h1, _⟩ | ⟨g, cap, cur, h1, hB, hg, _, _, hs, ht⟩
  · injection h1 with h1; exact absurd h1 hp
  · injection h1 with h1 h2 h3
    subst h3
    refine ⟨g, h1, hB, ?_⟩
    rw [hg, ← ht, List.take_of_length_le (by rw [Array.length_toList, hs]; exact Nat.le_refl _)]
theorem own_of_block {w : World} {B e g : Nat} {xs : List Value} (hB : B ≤ g) (hg : w.heap[g]? = some (.cells xs.toArray e (0, 0))) (hm : xs.length ≤ maxLen) : w.ownsRow B e 1 (.slice (some ⟨g, 0, none⟩) xs.length xs.length) xs.length xs :=
  ⟨by omega, Or.inr ⟨g, xs.length, xs.toArray, rfl, hB, hg, Nat.le_refl _, hm, by simp, by simp⟩⟩
theorem byteCells_one (l : List UInt8) : ∀ v ∈ byteCells l, v.oneCell' = true := by
  intro v hv
  obtain ⟨c, _, rfl⟩ := List.mem_map.1 hv
  rfl
theorem in8_src {w : World} {p : Option Addr} {l : List UInt8} (h : In8 w p l) (hl : 0 < l.length) : ∃ ad, p = some ad ∧ ∀ j v, (byteCells l)[j]? = some v → w.cell? (ad.add j) = some v := by
  obtain ⟨b, o, rfl, hc⟩ := h hl
  refine ⟨_, rfl, fun j v hj => ?_⟩
  have hjl : j < l.length := by
    rcases Nat.lt_or_ge j l.length with h1 | h1
    · exact h1
    · rw [List.getElem?_eq_none (by rw [byteCells_len]; exact h1)] at hj; cases hj
  rw [show (⟨b, o, none⟩ : Addr).add j = ⟨b, o + j, none⟩ from by unfold Addr.add; split <;> simp_all, hc j hjl, ← hj]
  simp [byteCells, List.getD, List.getElem?_eq_getElem hjl]
theorem made_whole {w w1 : World} {e n : Nat} {xs : List Value} (hown : w1.ownsRow w.heap.size e 1 (.slice (some ⟨w.heap.size, 0, none⟩) n n) n xs) (hgrow : w.grownBy w1 none) :
    ∃ Z : List Value, Hid (Z.length = n) ∧ Hid (w1.heap[w.heap.size]? = some (.cells Z.toArray e (0, 0))) ∧ Below w.heap.size w w1 := by
  obtain ⟨g, hg0, hB, hblk⟩ := own_whole hown (by simp)
  injection hg0 with hg0
  injection hg0 with hg0
  subst hg0
  exact ⟨xs, by have := hown.1; show _ = _; omega, hblk, (Below.refl _ w).grown hgrow (Nat.le_refl _) (fun k hk => by cases hk)⟩
theorem copy_src {w : World} {p : Option Addr} {l : List UInt8} {d : Addr} (h : In8 w p l) : 0 < (byteCells l).length → some d = some d ∧ ∃ ad, p = some ad ∧ ∀ j v, (byteCells l)[j]? = some v → w.cell? (ad.add j) = some v := by
  intro hpos
  rw [byteCells_len] at hpos
  obtain ⟨ad, h1, h2⟩ := in8_src h hpos
  exact ⟨rfl, ad, h1, h2⟩
/-- block g holds the cells X -/
def Blk (w : World) (g e : Nat) (X : List Value) : Prop := w.heap[g]? = some (.cells X.toArray e (0, 0))
theorem Blk.lt {w : World} {g e : Nat} {X : List Value} (h : Blk w g e X) : g < w.heap.size := (Array.getElem?_eq_some_iff.1 h).1
theorem Blk.cell {w : World} {g e : Nat} {X : List Value} (h : Blk w g e X) (i : Nat) : w.cell? ⟨g, i, none⟩ = X[i]? := by
  rw [cell_of_row w g i X.toArray e (0, 0) h]; simp
theorem Blk.frozen {w : World} {g e : Nat} {X : List Value} (h : Blk w g e X) (i : Nat) : w.frozen? ⟨g, i, none⟩ = false := by
  simp [World.frozen?, show w.heap[g]? = _ from h]
theorem Blk.set {w : World} {g e : Nat} {X : List Value} (h : Blk w g e X) (i : Nat) (v : Value) : Blk (w.setCell ⟨g, i, none⟩ v) g e (X.set i v) := by
  unfold Blk at h ⊢
  simp [World.setCell, Array.getElem?_modify, h]
theorem Blk.set_other {w : World} {g e : Nat} {X : List Value} (h : Blk w g e X) {b : Nat} (hb : b ≠ g) (i : Nat) (v : Value) : Blk (w.setCell ⟨b, i, none⟩ v) g e X := by
  unfold Blk at h ⊢
  rw [Below.heap_setCell _ _ _ _ (by exact fun e => hb e.symm)]; exact h
theorem Blk.below {w w' : World} {g e : Nat} {X : List Value} (h : Blk w g e X) (hb : Below w.heap.size w w') : Blk w' g e X := (hb.block g h.lt).trans h
theorem Blk.drewN {w : World} {g e : Nat} {X : List Value} (h : Blk w g e X) (n : Nat) : Blk (w.drewN n) g e X := h
def seven (j : Nat) : List Value := List.replicate j (.int .u8 77)
theorem set_at (A : List Value) (v x : Value) (B : List Value) : (A ++ x :: B).set A.length v = A ++ v :: B := by simp
theorem in8_blk {w : World} {g : Nat} {l : List UInt8} {Y : List Value} (h : Blk w g 5 (byteCells l ++ Y)) : In8 w (some ⟨g, 0, none⟩) l := by
  intro _
  refine ⟨g, 0, rfl, fun i hi => ?_⟩
  rw [Nat.zero_add, h.cell i, List.getElem?_append_left (by rw [byteCells_len]; exact hi)]
  simp [byteCells, List.getD, List.getElem?_eq_getElem hi]
theorem blk_seven {w : World} {g : Nat} {l : List UInt8} (h : Blk w g 5 (byteCells l ++ seven 3)) (j : Nat) (hj : j < 3) : w.cell? ⟨g, l.length + j, none⟩ = some (.int .u8 77) := by
  rw [h.cell, List.getElem?_append_right (by rw [byteCells_len]; omega), byteCells_len, Nat.add_sub_cancel_left]
  unfold seven
  rw [List.getElem?_replicate, if_pos hj]
/-- the append of b behind a's copy -/
theorem own_in8' {w : World} {B e n : Nat} {v : Value} {l : List UInt8} (h : w.ownsRow B e 1 v n (byteCells l)) : ∃ p cp, v = .slice p l.length cp ∧ In8 w p l := by
  obtain ⟨h1, h2⟩ := own_in8 h
  subst h1
  exact h2
theorem src_cells {w : World} {ad : Addr} {m : List UInt8} (h : In8 w (some ad) m) : ∀ j v, (byteCells m)[j]? = some v → w.cell? (ad.add j) = some v := by
  intro j v hj
  have hjl : j < m.length := by
    rcases Nat.lt_or_ge j m.length with h1 | h1
    · exact h1
    · rw [List.getElem?_eq_none (by rw [byteCells_len]; exact h1)] at hj; cases hj
  obtain ⟨ad2, h1, h2⟩ := in8_src h (by omega)
  cases h1
  exact h2 j v hj
end Go.Proofs.YthagdkipipldlaaGreatDoor.ref

namespace Go.Proofs.YthagdkipipldlaaGreatDoor.oct
open Go.RowKit
open Go.Lib (byteCells)

/-- a row of bytes as a text -/
theorem conv_in8 {w : World} {p : Option Addr} {l : List UInt8} (h : In8 w p l) (hp : p = none ∨ ∃ b o, p = some ⟨b, o, none⟩) (cp : Nat) :
    (convert 125 9 (.slice p l.length cp)).run Tryz.prog w = .ok (.string ⟨l.toArray⟩) w := by
  rcases hp with rfl | ⟨b, o, rfl⟩
  · have hl : l = [] := by
      rcases l with _ | ⟨a, l⟩
      · rfl
      · obtain ⟨b, o, h1, _⟩ := h (by simp)
        cases h1
    subst hl
    exact run_convert_bytes_nil w _ 5 Tryz.underlying125 Tryz.underlying5 _ _ _ Tryz.underlying9
  · have := run_convert_bytes_arg (P := Tryz.prog) w 125 5 Tryz.underlying125 Tryz.underlying5 b o l.length cp (l.map fun b => ((b.toNat : Nat) : Int)) (by simp) (fun i hi => by
      obtain ⟨b', o', h1, hc⟩ := h (by omega)
      cases h1
      rw [hc i hi]
      simp [List.getD, List.getElem?_eq_getElem hi]) 9 Tryz.underlying9
    rw [this]
    unfold strOfNums
    rw [toNat_map]
theorem conv_own {w : World} {B e n : Nat} {v : Value} {l : List UInt8} (h : w.ownsRow B e 1 v n (byteCells l)) :
    (convert 125 9 v).run Tryz.prog w = .ok (.string ⟨l.toArray⟩) w := by
  obtain ⟨hn, p, cp, rfl, h8⟩ := own_in8 h
  subst hn
  refine conv_in8 h8 ?_ cp
  rcases h.2 with ⟨h1, _⟩ | ⟨g, cap, cur, h1, _⟩
  · injection h1 with h1; exact Or.inl h1
  · injection h1 with h1; exact Or.inr ⟨g, 0, h1⟩
end Go.Proofs.YthagdkipipldlaaGreatDoor.oct

namespace Go.Proofs.YthagdkipipldlaaGreatDoor.rows
open Go.RowKit
open Go.Proofs.YthagdkipipldlaaGreatDoor.oct Go.Proofs.YthagdkipipldlaaGreatDoor.ref
open Go.Lib (byteCells)

theorem wpList_build_to {P : Program} {ops : Array Oper} {rest : List Oper} {o : Oper} {a : Act} {w : World} {Q : Exit → Act → World → Prop} (hg : o.guard = none) (t : TypeId) (parts : Array (Nat × Operand)) (ho : o.op = .build t parts)
    (cells : Array Value) (hf : P.built t (parts.map fun (i, x) => (i, a.eval x)).toList = some cells)
    (h : wpList P ops Q rest (a.put o.dst (.agg cells)) w) : wpList P ops Q (o :: rest) a w :=
  wpList_build hg t parts ho (by rw [hf]; rfl) (by rw [hf]; exact h)
/-- a value of many cells is laid into the block that was made just now -/
theorem wpList_store_new {P : Program} {ops : Array Oper} {rest : List Oper} {o : Oper} {a : Act} {w0 : World} {Q : Exit → Act → World → Prop} (hgd : o.guard = none) (ty : TypeId) (x y : Operand) (ho : o.op = .store ty x y)
    (X : List Value) (t : TypeId) (old : Array Value) (hx : a.eval x = .pointer (some ⟨w0.heap.size, 0, none⟩)) (hy : a.eval y = .agg X.toArray) (hi : (P.info? ty).map (·.size) = some X.length)
    (hold : old.size = X.length) (h1 : ∀ v ∈ X, v.oneCell' = true)
    (h : ∀ w1, Blk w1 w0.heap.size t X → Below w0.heap.size w0 w1 → w1.heap.size = w0.heap.size + 1 → wpList P ops Q rest (a.put o.dst undef) w1) : wpList P ops Q (o :: rest) a (w0.alloc (.cells old t)) := by
  refine wpList_store_row hgd ty x y ho w0.heap.size X.toArray hx hy t old (heap_alloc_new w0 _) (by rw [hi, List.size_toArray]) (by rw [hold, List.size_toArray]) (by rw [Array.all_eq_true]; intro i hi2; exact h1 _ (by simp)) ?_
  refine h _ ?_ (below_setRow ((Below.refl _ _).alloc (Nat.le_refl _) _) (Nat.le_refl _) _) (by simp)
  exact setRow_heap _ _ _ _ _ _ (heap_alloc_new w0 _)
theorem wpList_store_new_at {P : Program} {ops : Array Oper} {rest : List Oper} {o : Oper} {a : Act} {w0 : World} {Q : Exit → Act → World → Prop} (hgd : o.guard = none) (ty : TypeId) (x y : Operand) (ho : o.op = .store ty x y)
    (g : Nat) (hg : g = w0.heap.size) (X : List Value) (t : TypeId) (old : Array Value) (hx : a.eval x = .pointer (some ⟨g, 0, none⟩)) (hy : a.eval y = .agg X.toArray) (hi : (P.info? ty).map (·.size) = some X.length)
    (hold : old.size = X.length) (h1 : ∀ v ∈ X, v.oneCell' = true)
    (h : ∀ w1, Blk w1 g t X → Below w0.heap.size w0 w1 → wpList P ops Q rest (a.put o.dst undef) w1) : wpList P ops Q (o :: rest) a (w0.alloc (.cells old t)) := by
  subst hg
  exact wpList_store_new hgd ty x y ho X t old hx hy hi hold h1 (fun w1 h2 h3 _ => h w1 h2 h3)
/-- what is known behind a write of the whole block g -/
structure Wrote (w w1 : World) (g : Nat) : Prop where
  size : w1.heap.size = w.heap.size
  other : ∀ k, k ≠ g → w1.heap[k]? = w.heap[k]?
  below : ∀ (B : Nat) (w0 : World), Below B w0 w → B ≤ g → Below B w0 w1
theorem Wrote.blk {w w1 : World} {g h e : Nat} {X : List Value} (k : Wrote w w1 g) (hB : Blk w h e X) (hn : h ≠ g) : Blk w1 h e X := (k.other h hn).trans hB
/-- .. or into any block of the call's own -/
theorem wpList_store_blk {P : Program} {ops : Array Oper} {rest : List Oper} {o : Oper} {a : Act} {w : World} {Q : Exit → Act → World → Prop} (hgd : o.guard = none) (ty : TypeId) (x y : Operand) (ho : o.op = .store ty x y)
    (g : Nat) (X old : List Value) (t : TypeId) (hB : Blk w g t old) (hx : a.eval x = .pointer (some ⟨g, 0, none⟩)) (hy : a.eval y = .agg X.toArray) (hi : (P.info? ty).map (·.size) = some X.length)
    (hold : old.length = X.length) (h1 : ∀ v ∈ X, v.oneCell' = true)
    (h : ∀ w1, Blk w1 g t X → Wrote w w1 g → wpList P ops Q rest (a.put o.dst undef) w1) : wpList P ops Q (o :: rest) a w := by
  refine wpList_store_row hgd ty x y ho g X.toArray hx hy t old.toArray hB (by rw [hi, List.size_toArray]) (by rw [List.size_toArray, List.size_toArray, hold]) (by rw [Array.all_eq_true]; intro i hi2; exact h1 _ (by simp)) ?_
  exact h _ (setRow_heap _ _ _ _ _ _ hB) ⟨by simp, fun k hk => setRow_other _ _ _ _ hk, fun B w0 hb hg => below_setRow hb hg _⟩
theorem wpList_load_blk {P : Program} {ops : Array Oper} {rest : List Oper} {o : Oper} {a : Act} {w : World} {Q : Exit → Act → World → Prop} (hgd : o.guard = none) (ty : TypeId) (x : Operand) (ho : o.op = .load ty x)
    (g : Nat) (X : List Value) (t : TypeId) (hB : Blk w g t X) (hx : a.eval x = .pointer (some ⟨g, 0, none⟩)) (d : TypeDesc) (hu : P.underlying ty = some d) (hd : (match d with | .struct _ | .array _ _ => true | _ => false) = true)
    (hi : (P.info? ty).map (·.size) = some X.length) (h : wpList P ops Q rest (a.put o.dst (.agg X.toArray)) w) : wpList P ops Q (o :: rest) a w :=
  wpList_load_row hgd ty x ho g hx t X.toArray (0, 0) d hB hu hd (by rw [hi, List.size_toArray]) h
/-- a result that lies in a variable of its own is handed back -/
theorem results_blk {P : Program} {fn : Func} {p : Tmp} {ty : TypeId} (h : fn.results = #[.cell p ty]) (tmps : Array Value) (w : World) (g : Nat) (t : TypeId) (X : List Value) (d : TypeDesc)
    (hp : tmps.getD p undef = .pointer (some ⟨g, 0, none⟩)) (hB : Blk w g t X)
    (hu : P.underlying ty = some d) (hd : (match d with | .struct _ | .array _ _ => true | _ => false) = true) (hi : (P.info? ty).map (·.size) = some X.length) :
    (results fn tmps).run P w = .ok (.agg X.toArray) w :=
  results_cell_row h tmps w g t X.toArray (0, 0) d hp hB hu hd (by rw [hi, List.size_toArray])
theorem blk_new (w : World) (C : Array Value) (t : TypeId) (X : List Value) (h : C = X.toArray) : Blk (w.alloc (.cells C t)) w.heap.size t X := by subst h; exact heap_alloc_new w _
theorem blk_old {w : World} {g e : Nat} {X : List Value} (h : Blk w g e X) (o : Obj) : Blk (w.alloc o) g e X := h.below ((Below.refl _ _).alloc (Nat.le_refl _) _)

/-- the cells of a row of words -/
def wcells (l : List Nat) : List Value := l.map fun (n : Nat) => Value.int .u32 ((n : Nat) : Int)
theorem wcells_at {l : List Nat} {i : Nat} (h : i < l.length) : (wcells l)[i]? = some (.int .u32 ((l.getD i 0 : Nat) : Int)) := by simp [wcells, List.getD, h]
theorem wcells_len (l : List Nat) : (wcells l).length = l.length := by simp [wcells]
theorem wcells_one (l : List Nat) : ∀ v ∈ wcells l, v.oneCell' = true := by
  intro v hv
  obtain ⟨c, _, rfl⟩ := List.mem_map.1 hv
  rfl
/-- n words, told by a function -/
def row (n : Nat) (f : Nat → Nat) : List Nat := (List.range n).map f
def upd (f : Nat → Nat) (j v : Nat) : Nat → Nat := fun i => if i = j then v else f i
theorem upd_at (f : Nat → Nat) (j v : Nat) : upd f j v j = v := by simp [upd]
theorem upd_ne {f : Nat → Nat} {j v i : Nat} (h : i ≠ j) : upd f j v i = f i := by simp [upd, h]
theorem row_len (n : Nat) (f : Nat → Nat) : (wcells (row n f)).length = n := by simp [wcells, row]
theorem row_at {n : Nat} (f : Nat → Nat) {i : Nat} (h : i < n) : (wcells (row n f))[i]? = some (.int .u32 ((f i : Nat) : Int)) := by simp [wcells, row, h]
theorem row_set (n : Nat) (f : Nat → Nat) (j v : Nat) : (wcells (row n f)).set j (.int .u32 ((v : Nat) : Int)) = wcells (row n (upd f j v)) := by
  apply List.ext_getElem?
  intro i
  by_cases hi : j = i
  · subst hi
    by_cases hj : j < n
    · rw [List.getElem?_set_self (by rw [row_len]; exact hj), row_at _ hj, upd_at]
    · rw [List.getElem?_eq_none (by rw [List.length_set, row_len]; omega), List.getElem?_eq_none (by rw [row_len]; omega)]
  · rw [List.getElem?_set_ne hi]
    by_cases hj : i < n
    · rw [row_at _ hj, row_at _ hj, upd_ne (fun e => hi e.symm)]
    · rw [List.getElem?_eq_none (by rw [row_len]; omega), List.getElem?_eq_none (by rw [row_len]; omega)]
theorem row_eq {n : Nat} {f g : Nat → Nat} (h : ∀ i, i < n → f i = g i) : row n f = row n g := List.map_congr_left fun i hi => h i (List.mem_range.1 hi)
theorem row_one (n : Nat) (f : Nat → Nat) : ∀ v ∈ wcells (row n f), v.oneCell' = true := wcells_one _
/-- n bytes, told by a function -/
def brow (n : Nat) (f : Nat → UInt8) : List UInt8 := (List.range n).map f
def updB (f : Nat → UInt8) (j : Nat) (v : UInt8) : Nat → UInt8 := fun i => if i = j then v else f i
theorem updB_at (f : Nat → UInt8) (j : Nat) (v : UInt8) : updB f j v j = v := by simp [updB]
theorem updB_ne {f : Nat → UInt8} {j i : Nat} {v : UInt8} (h : i ≠ j) : updB f j v i = f i := by simp [updB, h]
theorem brow_len (n : Nat) (f : Nat → UInt8) : (brow n f).length = n := by simp [brow]
theorem bcells_len (n : Nat) (f : Nat → UInt8) : (byteCells (brow n f)).length = n := by rw [byteCells_len, brow_len]
theorem brow_at {n : Nat} (f : Nat → UInt8) {i : Nat} (h : i < n) : (byteCells (brow n f))[i]? = some (.int .u8 ((f i).toNat : Int)) := by simp [byteCells, brow, h]
theorem brow_set (n : Nat) (f : Nat → UInt8) (j : Nat) (v : UInt8) : (byteCells (brow n f)).set j (.int .u8 (v.toNat : Int)) = byteCells (brow n (updB f j v)) := by
  apply List.ext_getElem?
  intro i
  by_cases hi : j = i
  · subst hi
    by_cases hj : j < n
    · rw [List.getElem?_set_self (by rw [bcells_len]; exact hj), brow_at _ hj, updB_at]
    · rw [List.getElem?_eq_none (by rw [List.length_set, bcells_len]; omega), List.getElem?_eq_none (by rw [bcells_len]; omega)]
  · rw [List.getElem?_set_ne hi]
    by_cases hj : i < n
    · rw [brow_at _ hj, brow_at _ hj, updB_ne (fun e => hi e.symm)]
    · rw [List.getElem?_eq_none (by rw [bcells_len]; omega), List.getElem?_eq_none (by rw [bcells_len]; omega)]
theorem brow_eq {n : Nat} {f g : Nat → UInt8} (h : ∀ i, i < n → f i = g i) : brow n f = brow n g := List.map_congr_left fun i hi => h i (List.mem_range.1 hi)
theorem bytes_one (l : List UInt8) : ∀ v ∈ byteCells l, v.oneCell' = true := by
  intro v hv
  obtain ⟨c, _, rfl⟩ := List.mem_map.1 hv
  rfl
end Go.Proofs.YthagdkipipldlaaGreatDoor.rows

namespace Go.Proofs.YthagdkipipldlaaGreatDoor.oct
open Go.RowKit
open Go.Proofs.YthagdkipipldlaaGreatDoor.ref
open Go.Lib (byteCells)

theorem in8_any {w : World} {g e : Nat} {l : List UInt8} {Y : List Value} (h : Blk w g e (byteCells l ++ Y)) : In8 w (some ⟨g, 0, none⟩) l := by
  intro _
  refine ⟨g, 0, rfl, fun i hi => ?_⟩
  rw [Nat.zero_add, h.cell i, List.getElem?_append_left (by rw [byteCells_len]; exact hi)]
  simp [byteCells, List.getD, List.getElem?_eq_getElem hi]
theorem in8_all {w : World} {g e : Nat} {l : List UInt8} (h : Blk w g e (byteCells l)) : In8 w (some ⟨g, 0, none⟩) l := in8_any (Y := []) (by simpa using h)
theorem in8_nil {w : World} {m : List UInt8} (h : In8 w none m) : m = [] := by
  rcases m with _ | ⟨a, m⟩
  · rfl
  · obtain ⟨b, o, h1, _⟩ := h (by simp)
    cases h1

theorem wpList_append_in8g {w : World} {ops : Array Oper} {rest : List Oper} {o : Oper} {a : Act} {Q : Exit → Act → World → Prop} (hgd : o.guard = none) (s x : Operand)
    (ho : o.op = .call { callee := .builtin .append, args := #[s, x], argTypes := #[125, 125] }) (base : Nat)
    (v : Value) (n : Nat) (xs : List Value) (hs : a.eval s = v) (hown : w.ownsRow base 5 1 v n xs) (q : Option Addr) (m cq : Nat) (l : List UInt8) (hx : a.eval x = .slice q m cq)
    (hq : In8 w q l) (hm : l.length = m) (hnil : q = none → cq = 0) (hb : n + m ≤ 140737488355328) (hbase : base ≤ w.heap.size)
    (h : ∀ v' w', w'.ownsRow base 5 1 v' (n + m) (xs ++ byteCells l) → w.grownBy w' v.ownBlock → wpList Tryz.prog ops Q rest (a.put o.dst v') w') :
    wpList Tryz.prog ops Q (o :: rest) a w := by
  obtain ⟨j0, hj, hy0, hy1, hy2⟩ := info_parts infoByte
  subst hm
  rcases q with _ | ad
  · obtain rfl := in8_nil hq
    obtain rfl := hnil rfl
    refine wpList_append_own_none hgd s x 125 ho base 5 j0 1 Tryz.underlying125 hj v n xs hs hown hx ?_
    exact h v w (by simpa [byteCells] using hown) (World.grownBy.refl w _)
  · refine wpList_append_own _ hgd s x 125 ho base 5 j0 (.int .u8 0) 1 1 Tryz.underlying125 hj hy0 hy1 hy2 rfl (by decide) v n xs hs hown ad l.length cq (byteCells l) hx (by rw [byteCells_len]; omega) (src_cells hq) (byteCells_one l) (by unfold maxLen; omega) (by omega) hbase ?_
    intro v' w' hown' hgrow _
    exact h v' w' hown' hgrow
theorem wpList_append_in8 {w : World} {ops : Array Oper} {rest : List Oper} {o : Oper} {a : Act} {Q : Exit → Act → World → Prop} (hgd : o.guard = none) (s x : Operand)
    (ho : o.op = .call { callee := .builtin .append, args := #[s, x], argTypes := #[125, 125] }) (base : Nat)
    (v : Value) (n : Nat) (xs : List Value) (hs : a.eval s = v) (hown : w.ownsRow base 5 1 v n xs) (q : Option Addr) (m cq : Nat) (l : List UInt8) (hx : a.eval x = .slice q m cq)
    (hq : In8 w q l) (hm : l.length = m) (hnil : q = none → cq = 0) (hb : n + m ≤ 140737488355328) (hbase : base ≤ w.heap.size)
    (h : ∀ v' w', w'.ownsRow base 5 1 v' (n + m) (xs ++ byteCells l) → (∀ w0, Below w0.heap.size w0 w → w0.heap.size ≤ base → Below w0.heap.size w0 w') → wpList Tryz.prog ops Q rest (a.put o.dst v') w') :
    wpList Tryz.prog ops Q (o :: rest) a w :=
  wpList_append_in8g hgd s x ho base v n xs hs hown q m cq l hx hq hm hnil hb hbase fun v' w' h1 hg => h v' w' h1 (fun _ hb hle => hb.grown hg hb.size (fun k hk => Nat.le_trans hle (hown.lt k hk).1))

theorem grown_trans {a b c : World} {row : Option Nat} (h : a.grownBy b row) (k : b.grownBy c row) : a.grownBy c row :=
  ⟨k.os.trans h.os, k.tape.trans h.tape, k.output.trans h.output, Nat.le_trans h.size k.size, fun i hi hr => (k.block i (Nat.lt_of_lt_of_le hi h.size) hr).trans (h.block i hi hr)⟩
/-- one byte behind a row of the call's own -/
theorem wpList_append_one {w : World} {ops : Array Oper} {rest : List Oper} {o : Oper} {a : Act} {Q : Exit → Act → World → Prop} (hgd : o.guard = none) (s x : Operand)
    (ho : o.op = .call { callee := .builtin .append, args := #[s, x], argTypes := #[125, 125] }) (base : Nat)
    (v : Value) (n : Nat) (l : List UInt8) (hs : a.eval s = v) (hown : w.ownsRow base 5 1 v n (byteCells l)) (c : UInt8) (C : Array Value) (hC : C = (byteCells [c]).toArray) (hx : a.eval x = .slice (some ⟨w.heap.size, 0, none⟩) 1 1)
    (hb : n + 1 ≤ 140737488355328) (hbase : base ≤ w.heap.size)
    (h : ∀ g cap w', w'.ownsRow base 5 1 (.slice (some ⟨g, 0, none⟩) (n + 1) cap) (n + 1) (byteCells (l ++ [c])) → w.grownBy w' v.ownBlock → (v.ownBlock = some g ∨ w.heap.size ≤ g) → g < w'.heap.size → wpList Tryz.prog ops Q rest (a.put o.dst (.slice (some ⟨g, 0, none⟩) (n + 1) cap)) w') :
    wpList Tryz.prog ops Q (o :: rest) a (w.alloc (.cells C 5)) := by
  obtain ⟨j0, hj, hy0, hy1, hy2⟩ := info_parts infoByte
  subst hC
  refine wpList_append_lies _ hgd s x 125 ho base 5 j0 (.int .u8 0) 1 1 Tryz.underlying125 hj hy0 hy1 hy2 rfl (by decide) v n (byteCells l) hs (hown.alloc _) ⟨w.heap.size, 0, none⟩ 1 1 (byteCells [c]) hx rfl (src_cells (in8_new w _ [c] rfl)) (byteCells_one _) (by decide) (by unfold maxLen; omega) (by omega) (by simp; omega) (w.heap.size + 1) (by simp) ?_
  intro g cap w' h1 h2 h3 h4
  rw [← byteCells_append] at h1
  exact h g cap w' h1 (grown_trans (World.grownBy_alloc w _ _) h2) (h3.imp id (fun e => by omega)) h4
/-- no block of the one row is the other's -/
def Disj (v u : Value) : Prop := ∀ k, v.ownBlock = some k → u.ownBlock ≠ some k
theorem Disj.ne {v u : Value} (h : Disj v u) : u.ownBlock = none ∨ u.ownBlock ≠ v.ownBlock := by
  rcases hu : u.ownBlock with _ | k
  · exact Or.inl rfl
  · exact Or.inr fun e => h k e.symm hu
theorem Disj.symm {v u : Value} (h : Disj v u) : Disj u v := fun k h1 h2 => h k h2 h1
theorem Disj.step {w : World} {base n m g cap : Nat} {e : TypeId} {v u : Value} {xs : List Value} (h : Disj v u) (hu : w.ownsRow base e 1 u n xs) (hg : v.ownBlock = some g ∨ w.heap.size ≤ g) : Disj (.slice (some ⟨g, 0, none⟩) m cap) u := by
  intro k hk h2
  have : k = g := by simpa [Value.ownBlock] using hk.symm
  subst this
  rcases hg with hg | hg
  · exact h k hg h2
  · have := (hu.lt k h2).2; omega
theorem own_nil (w : World) : (w.alloc (.cells #[] 5)).ownsRow w.heap.size 5 1 (.slice (some ⟨w.heap.size, 0, none⟩) 0 0) 0 [] :=
  own_of_block (xs := []) (Nat.le_refl _) (heap_alloc_new w _) (by decide)
end Go.Proofs.YthagdkipipldlaaGreatDoor.oct

namespace Go.Proofs.YthagdkipipldlaaGreatDoor.oct
open Go.RowKit

/-- a world behind this one: what was there is as it was -/
structure After (w : World) where
  v : World
  below : Below w.heap.size w v
instance (w : World) : Nonempty (After w) := ⟨⟨w, Below.refl _ _⟩⟩
theorem after_start (w : World) : ∃ x : After w, { w with drawn := w.drawn + 1 } = x.v := ⟨⟨_, (Below.refl _ w).drew⟩, rfl⟩
theorem after_of {P : Program} {f : FuncId} {args : Array Value} {w : World} {v : Value} (x : After w) (h : Calls P f args x.v fun e w' => e = .returned v ∧ Below x.v.heap.size x.v w') :
    Calls P f args x.v fun e w'' => e = .returned v ∧ ∃ y : After w, w'' = y.v :=
  h.mono fun _ w' ⟨h1, h2⟩ => ⟨h1, ⟨w', bnext x.below h2⟩, rfl⟩
theorem after_same {P : Program} {f : FuncId} {args : Array Value} {w : World} {v : Value} (x : After w) (h : Calls P f args x.v fun e w' => e = .returned v ∧ x.v = w') :
    Calls P f args x.v fun e w'' => e = .returned v ∧ ∃ y : After w, w'' = y.v :=
  h.mono fun _ _ ⟨h1, h2⟩ => ⟨h1, x, h2.symm⟩
theorem wp_region_after {P : Program} {id : Nat} {Q : Exit → Act → World → Prop} {a : Act} {w : World} {l : List Oper} (hm : P.follows .mixedOrders = true) (hB : Region.lexB .any l.toArray = true)
    (h : wpQuiet P l.toArray (fun w' => ∃ x : After w, w' = x.v) (fun a' => ∀ x : After w, Q .normal a' x.v) l a) : (Code.region id l.toArray true).wp P Q a w :=
  wp_region_quiet (C := fun w' => ∃ x : After w, w' = x.v) hm hB (after_start w) (by
    have e : (fun a' => ∀ x : After w, Q .normal a' x.v) = (fun a' => ∀ w', (∃ x : After w, w' = x.v) → Q .normal a' w') := by
      funext a'
      exact propext ⟨fun h w' ⟨x, hx⟩ => hx ▸ h x, fun h x => h x.v ⟨x, rfl⟩⟩
    rw [e] at h
    simpa using h)
end Go.Proofs.YthagdkipipldlaaGreatDoor.oct

namespace Go.Proofs.YthagdkipipldlaaGreatDoor.rowg
open Go.RowKit
open Go.Proofs.YthagdkipipldlaaGreatDoor.oct

variable {α : Type} {enc : α → List Value} {k : Nat}

/-- the cells of a row -/
def cells (enc : α → List Value) (ps : List α) : List Value := ps.flatMap enc
theorem cells_append (enc : α → List Value) (a b : List α) : cells enc (a ++ b) = cells enc a ++ cells enc b := by simp [cells]
theorem cells_one (enc : α → List Value) (a : α) : cells enc [a] = enc a := by simp [cells]
theorem cells_len (hk : ∀ a, (enc a).length = k) (ps : List α) : (cells enc ps).length = ps.length * k := by
  induction ps with
  | nil => simp [cells]
  | cons x r ih =>
    have e : cells enc (x :: r) = enc x ++ cells enc r := rfl
    rw [e, List.length_append, ih, hk, List.length_cons, Nat.succ_mul]
    omega
theorem cells_at (hk : ∀ a, (enc a).length = k) : ∀ (ps : List α) (i : Nat) (h : i < ps.length) (j : Nat), j < k → (cells enc ps)[i * k + j]? = (enc (ps[i]))[j]?
  | [], i, h, _, _ => by simp at h
  | x :: r, 0, _, j, hj => by
    have e : cells enc (x :: r) = enc x ++ cells enc r := rfl
    rw [e, Nat.zero_mul, Nat.zero_add, List.getElem?_append_left (by rw [hk]; exact hj)]
    rfl
  | x :: r, i + 1, h, j, hj => by
    have e : cells enc (x :: r) = enc x ++ cells enc r := rfl
    have h2 := cells_at hk r i (by simpa using h) j hj
    rw [e, List.getElem?_append_right (by rw [hk, Nat.succ_mul]; omega), hk, show (i + 1) * k + j - k = i * k + j by rw [Nat.succ_mul]; omega, h2]
    rfl
/-- a row at a slice's address -/
def InG (enc : α → List Value) (k : Nat) (w : World) (P : Option Addr) (ps : List α) : Prop :=
  0 < ps.length → ∃ b o, P = some ⟨b, o, none⟩ ∧ ∀ i (h : i < ps.length) j, j < k → w.cell? ⟨b, o + i * k + j, none⟩ = (enc (ps[i]))[j]?
theorem InG.below {w w' : World} {P : Option Addr} {ps : List α} (hk : ∀ a, (enc a).length = k) (h0 : 0 < k) (h : InG enc k w P ps) (hb : Below w.heap.size w w') : InG enc k w' P ps := by
  intro hl
  obtain ⟨b, o, rfl, hc⟩ := h hl
  have h1 := hc 0 hl 0 h0
  have h2 : ∃ u, (enc (ps[0]))[0]? = some u := ⟨_, List.getElem?_eq_getElem (by rw [hk]; exact h0)⟩
  obtain ⟨u, hu⟩ := h2
  rw [hu] at h1
  have hlt : b < w.heap.size := cell_lt h1
  exact ⟨b, o, rfl, fun i hi j hj => (hb.cell (p := ⟨b, o + i * k + j, none⟩) hlt).trans (hc i hi j hj)⟩
theorem ing_nil {w : World} {ps : List α} (h : InG enc k w none ps) : ps = [] := by
  rcases ps with _ | ⟨a, m⟩
  · rfl
  · obtain ⟨b, o, h1, _⟩ := h (by simp)
    cases h1
/-- the cells of one element of a row -/
theorem InG.cells {w : World} {P : Option Addr} {ps : List α} (h : InG enc k w P ps) (i : Nat) (hi : i < ps.length) : ∃ b o, P = some ⟨b, o, none⟩ ∧ ∀ j, j < k → w.cell? ⟨b, o + i * k + j, none⟩ = (enc (ps[i]))[j]? := by
  obtain ⟨b, o, e, hc⟩ := h (by omega)
  exact ⟨b, o, e, hc i hi⟩
theorem own_g (hk : ∀ a, (enc a).length = k) {w : World} {B e : Nat} {v : Value} {ps : List α} (h0 : 0 < k) (h : w.ownsRow B e k v ps.length (cells enc ps)) : ∃ p c, v = .slice p ps.length c ∧ ps.length ≤ c ∧ (p = none → c = 0) ∧ InG enc k w p ps := by
  obtain ⟨h2, h1⟩ := h
  rcases h1 with ⟨rfl, hx⟩ | ⟨g, cp, cur, rfl, _, hg, hn, hm, hs, ht⟩
  · have hl := cells_len hk ps
    rw [hx] at hl
    have hz : ps.length = 0 := by
      rcases Nat.eq_zero_or_pos ps.length with hz | hz
      · exact hz
      · have := Nat.mul_pos hz h0
        simp at hl; omega
    rw [hz]
    exact ⟨none, 0, rfl, Nat.le_refl _, fun _ => rfl, fun hp => by omega⟩
  · refine ⟨_, cp, rfl, hn, (fun h => by cases h), fun hp => ⟨g, 0, rfl, fun i hi j hj => ?_⟩⟩
    have hlt : i * k + j < ps.length * k := by
      have h3 : (i + 1) * k ≤ ps.length * k := Nat.mul_le_mul_right k hi
      rw [Nat.succ_mul] at h3
      omega
    have hc : w.cell? ⟨g, i * k + j, none⟩ = (cells enc ps)[i * k + j]? := by
      rw [cell_of_row w g (i * k + j) cur e (0, 0) hg, ← ht, List.getElem?_take, if_pos hlt]
      simp
    rw [Nat.zero_add, hc]
    exact cells_at hk ps i hi j hj
theorem add_none (b o j : Nat) : (⟨b, o, none⟩ : Addr).add j = ⟨b, o + j, none⟩ := by unfold Addr.add; split <;> simp_all
theorem src_g (hk : ∀ a, (enc a).length = k) (h0 : 0 < k) {w : World} {ad : Addr} {ps : List α} (h : InG enc k w (some ad) ps) : ∀ j u, (cells enc ps)[j]? = some u → w.cell? (ad.add j) = some u := by
  intro j u hj
  have hlt := (List.getElem?_eq_some_iff.1 hj).1
  rw [cells_len hk] at hlt
  have hpl : 0 < ps.length := by
    rcases Nat.eq_zero_or_pos ps.length with hz | hz
    · rw [hz, Nat.zero_mul] at hlt; omega
    · exact hz
  have hd : j / k < ps.length := Nat.div_lt_of_lt_mul (by rw [Nat.mul_comm]; exact hlt)
  have hm : j % k < k := Nat.mod_lt _ h0
  have he : j / k * k + j % k = j := by rw [Nat.mul_comm]; exact Nat.div_add_mod j k
  obtain ⟨b, o, e, hc⟩ := h hpl
  cases e
  have h2 := cells_at hk ps (j / k) hd (j % k) hm
  rw [he, hj] at h2
  have h3 := hc (j / k) hd (j % k) hm
  rw [← h2, Nat.add_assoc, he] at h3
  rw [show (⟨b, o, none⟩ : Addr).add j = ⟨b, o + j, none⟩ from by unfold Addr.add; split <;> simp_all]
  exact h3
theorem cells_mem {u : Value} {ps : List α} (h : u ∈ cells enc ps) : ∃ a, u ∈ enc a := by
  unfold cells at h
  obtain ⟨x, _, hx⟩ := List.mem_flatMap.1 h
  exact ⟨x, hx⟩
/-- a whole row, appended to a row of the call's own (t: the slice's type, e: the element's) -/
theorem wpList_append_g (hk : ∀ a, (enc a).length = k) (h0 : 0 < k) (h1c : ∀ a, ∀ u ∈ enc a, u.oneCell' = true) {P : Program} {w : World} {ops : Array Oper} {rest : List Oper} {o : Oper} {a : Act} {Q : Exit → Act → World → Prop} (hgd : o.guard = none) (s x : Operand) (t e : TypeId)
    (ho : o.op = .call { callee := .builtin .append, args := #[s, x], argTypes := #[t, t] }) (ht : P.underlying t = some (.slice e)) {j0 : TypeInfo} (hj : P.info? e = some j0) {z : Value} {bytes : Nat} (hz : j0.zero = some z) (hsz : j0.size = k) (hby : j0.bytes = bytes) (hzc : z.cells.size = k) (base : Nat)
    (v : Value) (n : Nat) (xs : List Value) (hs : a.eval s = v) (hown : w.ownsRow base e k v n xs) (q : Option Addr) (m cq : Nat) (l : List α) (hx : a.eval x = .slice q m cq)
    (hq : InG enc k w q l) (hm : l.length = m) (hnil : q = none → cq = 0) (hb : n + m ≤ maxLen) (hb2 : (n + m) * bytes ≤ 140737488355328) (hbase : base ≤ w.heap.size)
    (h : ∀ v' w', w'.ownsRow base e k v' (n + m) (xs ++ cells enc l) → w.grownBy w' v.ownBlock → wpList P ops Q rest (a.put o.dst v') w') :
    wpList P ops Q (o :: rest) a w := by
  subst hm
  rcases q with _ | ad
  · obtain rfl := ing_nil hq
    obtain rfl := hnil rfl
    refine wpList_append_own_none hgd s x t ho base e j0 k ht hj v n xs hs hown hx ?_
    exact h v w (by simpa [cells] using hown) (World.grownBy.refl w _)
  · refine wpList_append_own _ hgd s x t ho base e j0 z k bytes ht hj hz hsz hby hzc h0 v n xs hs hown ad l.length cq (cells enc l) hx (cells_len hk l) (src_g hk h0 hq) (fun u hu => by obtain ⟨y, hy⟩ := cells_mem hu; exact h1c y u hy) hb hb2 hbase ?_
    intro v' w' hown' hgrow _
    exact h v' w' hown' hgrow
theorem own_emptyG (w : World) (e : TypeId) : (w.alloc (.cells #[] e)).ownsRow w.heap.size e k (.slice (some ⟨w.heap.size, 0, none⟩) 0 0) 0 (cells enc []) :=
  ⟨by simp [cells], Or.inr ⟨w.heap.size, 0, #[], rfl, Nat.le_refl _, heap_alloc_new w _, Nat.le_refl _, by simp, by simp, by simp [cells]⟩⟩
theorem own_belowG {w w' : World} {B e n z : Nat} {v : Value} {xs : List Value} (h : w.ownsRow B e z v n xs) (hb : Below w.heap.size w w') : w'.ownsRow B e z v n xs := by
  refine ⟨h.1, ?_⟩
  rcases h.2 with h2 | ⟨g, cap, cur, h1, h2, h3, h4⟩
  · exact Or.inl h2
  · refine Or.inr ⟨g, cap, cur, h1, h2, ?_, h4⟩
    rw [hb.block g (Array.getElem?_eq_some_iff.1 h3).1]
    exact h3
/-- the cells of a block that was just laid -/
theorem new_cellsG (W : World) (g e : Nat) (hg : g = W.heap.size) (xs : List Value) : ∀ j u, xs[j]? = some u → (W.alloc (.cells xs.toArray e)).cell? ((⟨g, 0, none⟩ : Addr).add j) = some u := by
  intro j u h
  subst hg
  rw [show (⟨W.heap.size, 0, none⟩ : Addr).add j = ⟨W.heap.size, j, none⟩ from by unfold Addr.add; split <;> simp_all]
  rw [World.cell?_alloc_at _ _ _ _ rfl]
  simpa using h
/-- the elements of a []struct that is handed in: elem opens one -/
theorem open_g [Inhabited α] (hk : ∀ a, (enc a).length = k) (h0 : 0 < k) {H : Type} {ev : TypeId × Value → H} {P : Program} {W : World} {a0 : Option Addr} {len cap : Nat} {d0 : DataW H} {p : List MemPlace} {t e : TypeId} (ht : P.underlying t = some (.slice e)) (hc : P.cellsOf e = k) (Q : α → DataW H → Prop)
    (elem : ∀ fuel cs d p, DataW.trod ev P W 0 (fun _ => true) true fuel e cs = some (d, p) → ∃ a, cs = enc a ∧ Q a d)
    (h : DataW.Trod ev P W 0 (fun _ => true) true t (.slice a0 len cap) d0 p) :
    ∃ ps : List α, ps.length = len ∧ InG enc k W a0 ps ∧ (a0 = none → cap = 0) ∧ ps.length ≤ cap ∧ (len = 0 ∧ cap = 0 ∨ ∃ (D : Nat → DataW H) (m : Nat), len ≤ m ∧ d0 = .slice ((List.range len).map D) ((List.range (m - len)).map fun j => D (len + j)) ∧ ∀ i (hi : i < ps.length), Q (ps[i]) (D i)) := by
  obtain ⟨fuel, hf⟩ := h
  rcases Deep.open_slice ht hf with ⟨hcs, hx⟩ | ⟨a, len', cap', m, n, D, Pl, hcs, _, hl, hm, hmm, hx, hV⟩
  · simp [Value.cells] at hcs
    obtain ⟨rfl, rfl, rfl⟩ := hcs
    exact ⟨[], rfl, (fun h => absurd h (by simp)), fun _ => rfl, Nat.le_refl _, Or.inl ⟨rfl, rfl⟩⟩
  · simp [Value.cells] at hcs
    obtain ⟨rfl, rfl, rfl⟩ := hcs
    simp only [Prod.mk.injEq] at hx
    obtain ⟨rfl, rfl⟩ := hx
    simp only [if_true] at hmm
    subst hmm
    rw [hc] at hV
    obtain ⟨F, hF⟩ := Deep.choose_lt (α := α) (n := len) (p := fun i x => W.cells? 0 (a.add (i * k)) k = some (enc x) ∧ Q x (D i)) (fun i hi => by
      obtain ⟨cs', hcc, htt⟩ := hV i (by omega)
      obtain ⟨x, rfl, hb⟩ := elem _ _ _ _ htt
      exact ⟨x, hcc, hb⟩)
    have hlen : ((List.range len).map F).length = len := by simp
    refine ⟨(List.range len).map F, hlen, (fun hpos => ?_), (fun h => by cases h), (by rw [hlen]; exact hl), Or.inr ⟨D, m, hl, rfl, fun i hi => ?_⟩⟩
    · rw [hlen] at hpos
      obtain ⟨b, off, spot⟩ := a
      have hspot : spot = none := by
        obtain ⟨_, _, hat⟩ := World.cells?_some (hF 0 hpos).1
        have h1 := hat 0 h0
        rw [List.getElem?_eq_getElem (by rw [hk]; exact h0)] at h1
        simpa [Addr.add] using World.cell?_spot h1
      subst hspot
      refine ⟨b, off, rfl, fun i hi j hj => ?_⟩
      rw [hlen] at hi
      obtain ⟨_, _, hat⟩ := World.cells?_some (hF i hi).1
      have h1 := hat j hj
      rw [show ((⟨b, off, none⟩ : Addr).add (i * k)).add j = ⟨b, off + i * k + j, none⟩ from by rw [add_none, add_none]] at h1
      rw [h1]
      simp
    · rw [hlen] at hi
      simpa using (hF i hi).2
end Go.Proofs.YthagdkipipldlaaGreatDoor.rowg

namespace Go.Proofs.YthagdkipipldlaaGreatDoor.trn
open Go.RowKit
open Go.Proofs.YthagdkipipldlaaGreatDoor.oct Go.Proofs.YthagdkipipldlaaGreatDoor.ref Go.Proofs.YthagdkipipldlaaGreatDoor.rowg
open Go.Lib (byteCells)

/-- what has turned lies in S, or is new -/
structure Turn (S : Nat → Prop) (w w' : World) : Prop where
  os : w'.os = w.os
  tape : w'.tape = w.tape
  output : w'.output = w.output
  size : w.heap.size ≤ w'.heap.size
  block : ∀ k, k < w.heap.size → ¬ S k → w'.heap[k]? = w.heap[k]?
theorem Turn.refl (S : Nat → Prop) (w : World) : Turn S w w := ⟨rfl, rfl, rfl, Nat.le_refl _, fun _ _ _ => rfl⟩
/-- S2: what has come behind S in w -/
def Grown (S S2 : Nat → Prop) (w : World) : Prop := ∀ k, S2 k → S k ∨ w.heap.size ≤ k
theorem Grown.refl (S : Nat → Prop) (w : World) : Grown S S w := fun _ h => Or.inl h
theorem Turn.trans {S S2 : Nat → Prop} {a b c : World} (h : Turn S a b) (hg : Grown S S2 a) (k : Turn S2 b c) : Turn S a c :=
  ⟨k.os.trans h.os, k.tape.trans h.tape, k.output.trans h.output, Nat.le_trans h.size k.size, fun i hi hn => (k.block i (Nat.lt_of_lt_of_le hi h.size) (fun h2 => (hg i h2).elim hn (fun h3 => by omega))).trans (h.block i hi hn)⟩
theorem Turn.next {S : Nat → Prop} {a b c : World} (h : Turn S a b) (k : Turn S b c) : Turn S a c := h.trans (Grown.refl S a) k
theorem Grown.trans {S S2 S3 : Nat → Prop} {a b : World} (h : Grown S S2 a) (hs : a.heap.size ≤ b.heap.size) (k : Grown S2 S3 b) : Grown S S3 a := fun i hi => (k i hi).elim (h i) (fun h2 => Or.inr (Nat.le_trans hs h2))
theorem Turn.of_grown {S : Nat → Prop} {w w' : World} {g : Nat} (h : w.grownBy w' (some g)) (hg : S g) : Turn S w w' :=
  ⟨h.os, h.tape, h.output, h.size, fun k hk hn => h.block k hk (fun e => hn (by injection e with e; subst e; exact hg))⟩
theorem Turn.of_row {S : Nat → Prop} {w w' : World} {r : Option Nat} (h : w.grownBy w' r) (hg : ∀ b, r = some b → S b) : Turn S w w' :=
  ⟨h.os, h.tape, h.output, h.size, fun k hk hn => h.block k hk (fun e => hn (hg k e.symm))⟩
theorem Turn.of_below {S : Nat → Prop} {w w' : World} (h : Below w.heap.size w w') : Turn S w w' := ⟨h.os, h.tape, h.output, h.size, fun k hk _ => h.block k hk⟩
theorem Turn.to_below {w w' : World} (h : Turn (fun _ => False) w w') : Below w.heap.size w w' := ⟨h.os, h.tape, h.output, h.size, fun k hk => h.block k hk id⟩
theorem Turn.drew {S : Nat → Prop} {w w' : World} (h : Turn S w w') : Turn S w w'.drew := ⟨h.os, h.tape, h.output, h.size, h.block⟩
theorem Turn.alloc (S : Nat → Prop) (w : World) (o : Obj) : Turn S w (w.alloc o) := Turn.of_below ((Below.refl _ _).alloc (Nat.le_refl _) _)
theorem Turn.mono {S S2 : Nat → Prop} {w w' : World} (h : Turn S w w') (hs : ∀ k, k < w.heap.size → S k → S2 k) : Turn S2 w w' := ⟨h.os, h.tape, h.output, h.size, fun k hk hn => h.block k hk fun h2 => hn (hs k hk h2)⟩
theorem Turn.below {S : Nat → Prop} {B : Nat} {w0 w w' : World} (h : Below B w0 w) (hs : Turn S w w') (hB : ∀ k, S k → B ≤ k) (hw : B ≤ w.heap.size) : Below B w0 w' :=
  h.trans ⟨hs.os, hs.tape, hs.output, hs.size, fun k hk => hs.block k (by omega) (fun h2 => by have := hB k h2; omega)⟩
theorem grownSet {w : World} (g i : Nat) (v : Value) : w.grownBy (w.setCell ⟨g, i, none⟩ v) (some g) :=
  ⟨rfl, rfl, rfl, by simp, fun k _ hn => Below.heap_setCell _ _ _ _ (by exact fun e => hn (congrArg some e))⟩
theorem Turn.set {S : Nat → Prop} (w : World) (g i : Nat) (v : Value) (hg : S g) : Turn S w (w.setCell ⟨g, i, none⟩ v) := Turn.of_grown (grownSet g i v) hg
theorem Turn.map {S : Nat → Prop} {w w' : World} {b : Nat} (h : w.mapTurned w' b) (hb : S b) : Turn S w w' := Turn.of_grown h.grown hb
theorem blk_turn {S : Nat → Prop} {w w' : World} {g e : Nat} {X : List Value} (h : Blk w g e X) (ht : Turn S w w') (hd : ¬ S g) : Blk w' g e X := (ht.block g h.lt hd).trans h
theorem own_turn {S : Nat → Prop} {w w' : World} {B e z n : Nat} {v : Value} {xs : List Value} (h : w.ownsRow B e z v n xs) (ht : Turn S w w') (hd : ∀ b, v.ownBlock = some b → ¬ S b) : w'.ownsRow B e z v n xs := by
  refine ⟨h.1, ?_⟩
  rcases h.2 with h2 | ⟨g, cap, cur, h1, h2, h3, h4⟩
  · exact Or.inl h2
  · refine Or.inr ⟨g, cap, cur, h1, h2, ?_, h4⟩
    rw [ht.block g (Array.getElem?_eq_some_iff.1 h3).1 (hd g (by rw [h1]; rfl))]
    exact h3
theorem map_turn {H : Type} {S : Nat → Prop} {w w' : World} {P : Program} {k : TypeId} {R : Value → Option (DataW H × List MemPlace)} {b n : Nat} {D : DataW H} (h : w.ownsMap P k R b n D) (ht : Turn S w w') (hd : ¬ S b) : w'.ownsMap P k R b n D := by
  obtain ⟨es, clock, hb, r⟩ := h
  exact ⟨es, clock, (ht.block b (Array.getElem?_eq_some_iff.1 hb).1 hd).trans hb, r⟩
/-- an argument's bytes, which lie in no block that turns -/
theorem in8_turn {S : Nat → Prop} {w w' : World} {p : Option Addr} {l : List UInt8} (h : In8 w p l) (ht : Turn S w w') (hd : ∀ b o x, p = some ⟨b, o, x⟩ → b < w.heap.size → ¬ S b) : In8 w' p l := by
  intro hl
  obtain ⟨b, o, rfl, hc⟩ := h hl
  have hlt : b < w.heap.size := cell_lt (hc 0 hl)
  exact ⟨b, o, rfl, fun i hi => (World.cell?_of_block (ht.block b hlt (hd b o none rfl hlt))).trans (hc i hi)⟩
theorem ing_turn {S : Nat → Prop} {α : Type} {enc : α → List Value} {k : Nat} {w w' : World} {P : Option Addr} {ps : List α} (hk : ∀ a, (enc a).length = k) (h0 : 0 < k) (h : InG enc k w P ps) (ht : Turn S w w') (hd : ∀ b o x, P = some ⟨b, o, x⟩ → b < w.heap.size → ¬ S b) : InG enc k w' P ps := by
  intro hl
  obtain ⟨b, o, rfl, hc⟩ := h hl
  have h1 := hc 0 hl 0 h0
  have h2 : ∃ u, (enc (ps[0]))[0]? = some u := ⟨_, List.getElem?_eq_getElem (by rw [hk]; exact h0)⟩
  obtain ⟨u, hu⟩ := h2
  rw [hu] at h1
  have hlt : b < w.heap.size := cell_lt h1
  exact ⟨b, o, rfl, fun i hi j hj => (World.cell?_of_block (ht.block b hlt (hd b o none rfl hlt))).trans (hc i hi j hj)⟩
theorem cell_turn {S : Nat → Prop} {w w' : World} (ht : Turn S w w') {b o : Nat} (hlt : b < w.heap.size) (hd : ¬ S b) : w'.cell? ⟨b, o, none⟩ = w.cell? ⟨b, o, none⟩ := World.cell?_of_block (ht.block b hlt hd)
end Go.Proofs.YthagdkipipldlaaGreatDoor.trn
