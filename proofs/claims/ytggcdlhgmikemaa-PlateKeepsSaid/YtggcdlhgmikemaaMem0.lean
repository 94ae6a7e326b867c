/- Rows of bytes in memory, read as lists: arguments (In8), rows that a call owns, whole blocks (Blk). Of no function; names no type []byte (XMem: rows as texts). No condition. -/
import Derived.Test.YtggcdlhgmikemaaProg
import Derived.WalkKit
import Derived.WalkSpells
import Derived.WalkLawsBesides
import Derived.BigQuiet
import Derived.Deep.QuietTactic
import Derived.Lib.Hide
import Derived.Deep.LoopGhost
import Derived.Deep.Light
import Derived.Lib.UnsafeStr
import Derived.Laws.BytesArg
import Derived.Laws.CopyOwn
import Derived.Laws.AppendOwnNone
import Derived.WalkSmall
namespace Go.Proofs.Ytggcdlhgmikemaa.oct
open Go.RowKit
open Go.Lib (byteCells)

theorem ret_int {k : IntKind} {a b : Int} (h : a = b) : Ending.returned (.int k a) = .returned (.int k b) := by rw [h]
/-- a row of bytes at a slice's address -/
def In8 (w : World) (p : Option Addr) (l : List UInt8) : Prop :=
  0 < l.length → ∃ b o, p = some ⟨b, o, none⟩ ∧ ∀ i, i < l.length → w.cell? ⟨b, o + i, none⟩ = some (.int .u8 ((l.getD i 0).toNat : Int))
theorem In8.at {w : World} {p : Option Addr} {l : List UInt8} (h : In8 w p l) (hn : 0 < l.length) : ∃ b o, p = some ⟨b, o, none⟩ ∧ ∀ i, i < l.length → w.cell? ⟨b, o + i, none⟩ = some (.int .u8 ((l.getD i 0).toNat : Int)) := h hn
theorem xor_nat (k : IntKind) (j : Nat) (hj : j ≤ k.bits) (hk : ∀ n : Int, 0 ≤ n → n < 2 ^ j → k.wrap n = n) (a b : Nat) (ha : a < 2 ^ j) (hb : b < 2 ^ j) :
    bits .xor k a b = ((a ^^^ b : Nat) : Int) := by
  have hp : 2 ^ j ≤ 2 ^ k.bits := Nat.pow_le_pow_right (by decide) hj
  have ha' : a % 2 ^ k.bits = a := Nat.mod_eq_of_lt (Nat.lt_of_lt_of_le ha hp)
  have hb' : b % 2 ^ k.bits = b := Nat.mod_eq_of_lt (Nat.lt_of_lt_of_le hb hp)
  simp only [bits, BitVec.ofInt_natCast, BitVec.toNat_xor, BitVec.toNat_ofNat, ha', hb']
  exact hk _ (Int.natCast_nonneg _) (by exact_mod_cast Nat.xor_lt_two_pow ha hb)
theorem xor_u8 (a b : UInt8) : bits .xor .u8 (a.toNat : Int) (b.toNat : Int) = ((a ^^^ b).toNat : Int) := by
  rw [xor_nat .u8 8 (by decide) wraps_u8 a.toNat b.toNat a.toNat_lt b.toNat_lt, UInt8.toNat_xor]
theorem take_eq_succ {l m : List UInt8} {k : Nat} (h1 : k < l.length) (h2 : k < m.length) : l.take (k + 1) = m.take (k + 1) ↔ l.take k = m.take k ∧ l[k] = m[k] := by
  rw [List.take_succ_eq_append_getElem h1, List.take_succ_eq_append_getElem h2]
  constructor
  · intro h
    obtain ⟨e1, e2⟩ := List.append_inj h (by simp; omega)
    exact ⟨e1, by simpa using e2⟩
  · rintro ⟨e1, e2⟩; rw [e1, e2]
theorem ret_bool {a b : Bool} (h : a = b) : Ending.returned (.bool a) = .returned (.bool b) := by rw [h]
theorem cell_lt {w : World} {a : Addr} {v : Value} (h : w.cell? a = some v) : a.block < w.heap.size := by
  rcases Nat.lt_or_ge a.block w.heap.size with h' | h'
  · exact h'
  · simp [World.cell?, Array.getElem?_eq_none h'] at h
theorem In8.below {w w' : World} {p : Option Addr} {l : List UInt8} (h : In8 w p l) (hb : Below w.heap.size w w') : In8 w' p l := by
  intro hl
  obtain ⟨b, o, rfl, hc⟩ := h hl
  have hlt : b < w.heap.size := cell_lt (hc 0 hl)
  exact ⟨b, o, rfl, fun i hi => (hb.cell (p := ⟨b, o + i, none⟩) hlt).trans (hc i hi)⟩
theorem In8.blt {w : World} {b o : Nat} {x : Option Nat} {l : List UInt8} (h : In8 w (some ⟨b, o, x⟩) l) (hl : 0 < l.length) : b < w.heap.size := by
  obtain ⟨b', o', h1, hc⟩ := h hl
  cases h1
  exact cell_lt (hc 0 hl)
theorem bnext {w w1 w2 : World} (h : Below w.heap.size w w1) (k : Below w1.heap.size w1 w2) : Below w.heap.size w w2 := h.trans (k.mono h.size)
theorem infoByte : (Try.prog.info? 5).map (fun i => (i.zero, i.size, i.bytes)) = some (some (.int .u8 0), 1, 1) := by kernel_rfl
theorem byteCells_len (l : List UInt8) : (byteCells l).length = l.length := by simp [byteCells]
theorem byteCells_snoc (l : List UInt8) (c : UInt8) : byteCells (l ++ [c]) = byteCells l ++ [.int .u8 (c.toNat : Int)] := by simp [byteCells]
theorem byteCells_append (l m : List UInt8) : byteCells (l ++ m) = byteCells l ++ byteCells m := by simp [byteCells]
/-- cells of an owned row -/
theorem own_cells {w : World} {B e n : Nat} {v : Value} {xs : List Value} (h : w.ownsRow B e 1 v n xs) :
    n = xs.length ∧ ((v = .slice none 0 0 ∧ n = 0) ∨ ∃ g cp, v = .slice (some ⟨g, 0, none⟩) n cp ∧ B ≤ g ∧ g < w.heap.size ∧ n ≤ cp ∧ ∀ i, i < n → w.cell? ⟨g, i, none⟩ = xs[i]?) := by
  obtain ⟨h0, h1⟩ := h
  refine ⟨by omega, ?_⟩
  rcases h1 with ⟨rfl, rfl⟩ | ⟨g, cp, cur, rfl, hB, hg, hn, hm, hs, ht⟩
  · exact Or.inl ⟨rfl, rfl⟩
  · refine Or.inr ⟨g, cp, rfl, hB, (Array.getElem?_eq_some_iff.1 hg).1, hn, fun i hi => ?_⟩
    rw [cell_of_row w g i cur e (0, 0) hg, ← ht, List.getElem?_take, if_pos (by omega)]
    simp
theorem own_in8 {w : World} {B e n : Nat} {v : Value} {l : List UInt8} (h : w.ownsRow B e 1 v n (byteCells l)) :
    n = l.length ∧ ∃ p cp, v = .slice p n cp ∧ In8 w p l := by
  obtain ⟨h0, h1⟩ := own_cells h
  rw [byteCells_len] at h0
  refine ⟨h0, ?_⟩
  rcases h1 with ⟨rfl, rfl⟩ | ⟨g, cp, rfl, _, _, _, hc⟩
  · exact ⟨none, 0, rfl, fun hl => by omega⟩
  · refine ⟨_, cp, rfl, fun hl => ⟨g, 0, rfl, fun i hi => ?_⟩⟩
    rw [Nat.zero_add, hc i (by omega)]
    simp [byteCells, List.getD, List.getElem?_eq_getElem hi]
theorem toNat_map (l : List UInt8) : (l.map fun b => ((b.toNat : Nat) : Int)).map (fun n => UInt8.ofNat n.toNat) = l := by
  induction l with
  | nil => rfl
  | cons a l ih => simp [ih]
theorem ba_append (a b : List UInt8) : ((⟨a.toArray⟩ : ByteArray) ++ (⟨b.toArray⟩ : ByteArray)) = ⟨(a ++ b).toArray⟩ := by
  ext1
  simp
theorem ret_string {a b : ByteArray} (h : a = b) : Ending.returned (.string a) = .returned (.string b) := by rw [h]
theorem size_mk (l : List UInt8) : (⟨l.toArray⟩ : ByteArray).size = l.length := by simp [ByteArray.size]
theorem in8_new (w : World) (cs : Array Value) (l : List UInt8) (h : cs = (byteCells l).toArray) : In8 (w.alloc (.cells cs 5)) (some ⟨w.heap.size, 0, none⟩) l := by
  intro _
  refine ⟨w.heap.size, 0, rfl, fun i hi => ?_⟩
  rw [Nat.zero_add, World.cell?_alloc_at _ _ _ _ rfl, h]
  simp [byteCells, List.getD, List.getElem?_eq_getElem hi]
theorem own_below {w w' : World} {B e n : Nat} {v : Value} {xs : List Value} (h : w.ownsRow B e 1 v n xs) (hb : Below w.heap.size w w') : w'.ownsRow B e 1 v n xs := by
  refine ⟨h.1, ?_⟩
  rcases h.2 with h2 | ⟨g, cap, cur, h1, h2, h3, h4⟩
  · exact Or.inl h2
  · refine Or.inr ⟨g, cap, cur, h1, h2, ?_, h4⟩
    rw [hb.block g (Array.getElem?_eq_some_iff.1 h3).1]
    exact h3
end Go.Proofs.Ytggcdlhgmikemaa.oct
namespace Go.Proofs.Ytggcdlhgmikemaa.ref
open Go.RowKit
open Go.Proofs.Ytggcdlhgmikemaa.oct
open Go.Lib (byteCells)

theorem own_whole {w : World} {B e n : Nat} {p : Option Addr} {xs : List Value} (h : w.ownsRow B e 1 (.slice p n n) n xs) (hp : p ≠ none) : ∃ g, p = some ⟨g, 0, none⟩ ∧ B ≤ g ∧ w.heap[g]? = some (.cells xs.toArray e (0, 0)) := by
  rcases h.2 with ⟨h1, _⟩ | ⟨g, cap, cur, h1, hB, hg, _, _, hs, ht⟩
  · injection h1 with h1; exact absurd h1 hp
  · injection h1 with h1 h2 h3
    subst h3
    refine ⟨g, h1, hB, ?_⟩
    rw [hg, ← ht, List.take_of_length_le (by rw [Array.length_toList, hs]; exact Nat.le_refl _)]
theorem own_of_block {w : World} {B e g : Nat} {xs : List Value} (hB : B ≤ g) (hg : w.heap[g]? = some (.cells xs.toArray e (0, 0))) (hm : xs.length ≤ maxLen) : w.ownsRow B e 1 (.slice (some ⟨g, 0, none⟩) xs.length xs.length) xs.length xs :=
  ⟨by omega, Or.inr ⟨g, xs.length, xs.toArray, rfl, hB, hg, Nat.le_refl _, hm, by simp, by simp⟩⟩
theorem byteCells_one (l : List UInt8) : ∀ v ∈ byteCells l, v.oneCell' = true := by
  intro v hv
  obtain ⟨c, _, rfl⟩ := List.mem_map.1 hv
  rfl
theorem in8_src {w : World} {p : Option Addr} {l : List UInt8} (h : In8 w p l) (hl : 0 < l.length) : ∃ ad, p = some ad ∧ ∀ j v, (byteCells l)[j]? = some v → w.cell? (ad.add j) = some v := by
  obtain ⟨b, o, rfl, hc⟩ := h hl
  refine ⟨_, rfl, fun j v hj => ?_⟩
  have hjl : j < l.length := by
    rcases Nat.lt_or_ge j l.length with h1 | h1
    · exact h1
    · rw [List.getElem?_eq_none (by rw [byteCells_len]; exact h1)] at hj; cases hj
  rw [show (⟨b, o, none⟩ : Addr).add j = ⟨b, o + j, none⟩ from by unfold Addr.add; split <;> simp_all, hc j hjl, ← hj]
  simp [byteCells, List.getD, List.getElem?_eq_getElem hjl]
theorem made_whole {w w1 : World} {e n : Nat} {xs : List Value} (hown : w1.ownsRow w.heap.size e 1 (.slice (some ⟨w.heap.size, 0, none⟩) n n) n xs) (hgrow : w.grownBy w1 none) :
    ∃ Z : List Value, Hid (Z.length = n) ∧ Hid (w1.heap[w.heap.size]? = some (.cells Z.toArray e (0, 0))) ∧ Below w.heap.size w w1 := by
  obtain ⟨g, hg0, hB, hblk⟩ := own_whole hown (by simp)
  injection hg0 with hg0
  injection hg0 with hg0
  subst hg0
  exact ⟨xs, by have := hown.1; show _ = _; omega, hblk, (Below.refl _ w).grown hgrow (Nat.le_refl _) (fun k hk => by cases hk)⟩
theorem copy_src {w : World} {p : Option Addr} {l : List UInt8} {d : Addr} (h : In8 w p l) : 0 < (byteCells l).length → some d = some d ∧ ∃ ad, p = some ad ∧ ∀ j v, (byteCells l)[j]? = some v → w.cell? (ad.add j) = some v := by
  intro hpos
  rw [byteCells_len] at hpos
  obtain ⟨ad, h1, h2⟩ := in8_src h hpos
  exact ⟨rfl, ad, h1, h2⟩
/-- block g holds the cells X -/
def Blk (w : World) (g e : Nat) (X : List Value) : Prop := w.heap[g]? = some (.cells X.toArray e (0, 0))
theorem Blk.lt {w : World} {g e : Nat} {X : List Value} (h : Blk w g e X) : g < w.heap.size := (Array.getElem?_eq_some_iff.1 h).1
theorem Blk.cell {w : World} {g e : Nat} {X : List Value} (h : Blk w g e X) (i : Nat) : w.cell? ⟨g, i, none⟩ = X[i]? := by
  rw [cell_of_row w g i X.toArray e (0, 0) h]; simp
theorem Blk.frozen {w : World} {g e : Nat} {X : List Value} (h : Blk w g e X) (i : Nat) : w.frozen? ⟨g, i, none⟩ = false := by
  simp [World.frozen?, show w.heap[g]? = _ from h]
theorem Blk.set {w : World} {g e : Nat} {X : List Value} (h : Blk w g e X) (i : Nat) (v : Value) : Blk (w.setCell ⟨g, i, none⟩ v) g e (X.set i v) := by
  unfold Blk at h ⊢
  simp [World.setCell, Array.getElem?_modify, h]
theorem Blk.set_other {w : World} {g e : Nat} {X : List Value} (h : Blk w g e X) {b : Nat} (hb : b ≠ g) (i : Nat) (v : Value) : Blk (w.setCell ⟨b, i, none⟩ v) g e X := by
  unfold Blk at h ⊢
  rw [Below.heap_setCell _ _ _ _ (by exact fun e => hb e.symm)]; exact h
theorem Blk.below {w w' : World} {g e : Nat} {X : List Value} (h : Blk w g e X) (hb : Below w.heap.size w w') : Blk w' g e X := (hb.block g h.lt).trans h
theorem Blk.drewN {w : World} {g e : Nat} {X : List Value} (h : Blk w g e X) (n : Nat) : Blk (w.drewN n) g e X := h
def seven (j : Nat) : List Value := List.replicate j (.int .u8 77)
theorem set_at (A : List Value) (v x : Value) (B : List Value) : (A ++ x :: B).set A.length v = A ++ v :: B := by simp
theorem in8_blk {w : World} {g : Nat} {l : List UInt8} {Y : List Value} (h : Blk w g 5 (byteCells l ++ Y)) : In8 w (some ⟨g, 0, none⟩) l := by
  intro _
  refine ⟨g, 0, rfl, fun i hi => ?_⟩
  rw [Nat.zero_add, h.cell i, List.getElem?_append_left (by rw [byteCells_len]; exact hi)]
  simp [byteCells, List.getD, List.getElem?_eq_getElem hi]
theorem blk_seven {w : World} {g : Nat} {l : List UInt8} (h : Blk w g 5 (byteCells l ++ seven 3)) (j : Nat) (hj : j < 3) : w.cell? ⟨g, l.length + j, none⟩ = some (.int .u8 77) := by
  rw [h.cell, List.getElem?_append_right (by rw [byteCells_len]; omega), byteCells_len, Nat.add_sub_cancel_left]
  unfold seven
  rw [List.getElem?_replicate, if_pos hj]
/-- the append of b behind a's copy -/
theorem own_in8' {w : World} {B e n : Nat} {v : Value} {l : List UInt8} (h : w.ownsRow B e 1 v n (byteCells l)) : ∃ p cp, v = .slice p l.length cp ∧ In8 w p l := by
  obtain ⟨h1, h2⟩ := own_in8 h
  subst h1
  exact h2
theorem src_cells {w : World} {ad : Addr} {m : List UInt8} (h : In8 w (some ad) m) : ∀ j v, (byteCells m)[j]? = some v → w.cell? (ad.add j) = some v := by
  intro j v hj
  have hjl : j < m.length := by
    rcases Nat.lt_or_ge j m.length with h1 | h1
    · exact h1
    · rw [List.getElem?_eq_none (by rw [byteCells_len]; exact h1)] at hj; cases hj
  obtain ⟨ad2, h1, h2⟩ := in8_src h (by omega)
  cases h1
  exact h2 j v hj
end Go.Proofs.Ytggcdlhgmikemaa.ref
