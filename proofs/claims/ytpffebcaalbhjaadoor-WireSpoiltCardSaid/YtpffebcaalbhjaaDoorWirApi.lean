/- What the laws of wire ask of the program's calls (WApi): a writer (Wr) and a reader (Rd) in memory, each by its plain state; which blocks a call may turn. T': what of the package's variables they need; Cap: how many bytes a writer may come to. -/
import Derived.Test.YtpffebcaalbhjaaDoorWirG
namespace Go.Proofs.YtpffebcaalbhjaaDoor.wir
open Go.RowKit
open Go.Proofs.YtpffebcaalbhjaaDoor.oct Go.Proofs.YtpffebcaalbhjaaDoor.ref Go.Proofs.YtpffebcaalbhjaaDoor.rows Go.Proofs.YtpffebcaalbhjaaDoor.rowg
open Go.Lib (byteCells)

/-- a writer: what was written, is it spoilt; or none -/
inductive WS where
  | ok (t : T) (bad : Bool)
  | nil
def WS.put : WS → Put → WS
  | .ok t b, x => .ok (t ++ putB x) (b || putBad x)
  | .nil, _ => .nil
def WS.frame : WS → Nat × T
  | .ok t b => if b then (3, []) else if 65536 < t.length then (2, []) else (0, frameT t)
  | .nil => (12, [])
def WS.len : WS → Nat
  | .ok t _ => t.length
  | .nil => 0
theorem WS.puts_ok (l : List Put) : ∀ t b, l.foldl WS.put (.ok t b) = .ok (t ++ bytesB l) (b || badB l) := by
  induction l with
  | nil => intro t b; simp [bytesB, badB]
  | cons x l ih =>
    intro t b
    rw [List.foldl_cons]
    show l.foldl WS.put (.ok (t ++ putB x) (b || putBad x)) = _
    rw [ih]
    simp [bytesB, badB, Bool.or_assoc]
theorem WS.frame_write (l : List Put) : (l.foldl WS.put (.ok [] false)).frame = writeT l := by
  rw [WS.puts_ok]
  unfold WS.frame writeT
  simp
/-- only blocks from lo to below hi have turned, and what is new -/
structure Stay (lo hi : Nat) (w w' : World) : Prop where
  os : w'.os = w.os
  tape : w'.tape = w.tape
  output : w'.output = w.output
  size : w.heap.size ≤ w'.heap.size
  block : ∀ k, k < w.heap.size → ¬ (lo ≤ k ∧ k < hi) → w'.heap[k]? = w.heap[k]?
theorem Stay.refl (lo hi : Nat) (w : World) : Stay lo hi w w := ⟨rfl, rfl, rfl, Nat.le_refl _, fun _ _ _ => rfl⟩
theorem Stay.trans {lo hi : Nat} {a b c : World} (h : Stay lo hi a b) (k : Stay lo hi b c) : Stay lo hi a c :=
  ⟨k.os.trans h.os, k.tape.trans h.tape, k.output.trans h.output, Nat.le_trans h.size k.size, fun i hi hn => (k.block i (Nat.lt_of_lt_of_le hi h.size) hn).trans (h.block i hi hn)⟩
theorem Stay.of_below {lo hi : Nat} {w w' : World} (h : Below w.heap.size w w') : Stay lo hi w w' := ⟨h.os, h.tape, h.output, h.size, fun k hk _ => h.block k hk⟩
theorem Stay.below {B lo hi : Nat} {w0 w w' : World} (h : Below B w0 w) (hs : Stay lo hi w w') (hB : B ≤ lo) (hw : B ≤ w.heap.size) : Below B w0 w' :=
  h.trans ⟨hs.os, hs.tape, hs.output, hs.size, fun k hk => hs.block k (by omega) (by omega)⟩
theorem Stay.blk {lo hi : Nat} {w w' : World} {g e : Nat} {X : List Value} (h : Blk w g e X) (hs : Stay lo hi w w') (hg : ¬ (lo ≤ g ∧ g < hi)) : Blk w' g e X := (hs.block g h.lt hg).trans h
theorem Stay.set {lo hi : Nat} {w w1 : World} (h : Stay lo hi w w1) {g : Nat} (hg : w.heap.size ≤ g) (i : Nat) (u : Value) : Stay lo hi w (w1.setCell ⟨g, i, none⟩ u) :=
  ⟨h.os, h.tape, h.output, by simpa using h.size, fun k hk hn => by
    rw [Below.heap_setCell _ _ _ _ (by exact fun e => by have : k = g := e; omega)]
    exact h.block k hk hn⟩
theorem Stay.wrote {lo hi : Nat} {w w1 w2 : World} (h : Stay lo hi w w1) {g : Nat} (hg : w.heap.size ≤ g) (hw : Wrote w1 w2 g) (hb : Below w1.heap.size w1 w1 → w2.os = w1.os ∧ w2.tape = w1.tape ∧ w2.output = w1.output) : Stay lo hi w w2 := by
  obtain ⟨a, b, c⟩ := hb (Below.refl _ _)
  exact ⟨a.trans h.os, b.trans h.tape, c.trans h.output, by rw [hw.size]; exact h.size, fun k hk hn => (hw.other k (by omega)).trans (h.block k hk hn)⟩
/-- a text -/
def tx8 (l : T) : Value := .string ⟨l.toArray⟩
structure WApi (T' : World → Prop) (Cap : Nat → Prop) where
  Wr : World → Nat → Value → WS → Prop
  Rd : World → Nat → Nat → Value → St → Prop
  capmono : ∀ {m n}, Cap n → m ≤ n → Cap m
  tbelow : ∀ w w', T' w → Below w.heap.size w w' → T' w'
  wptr : ∀ {w B v s}, Wr w B v s → ∃ p, v = .pointer p
  wsize : ∀ {w B v s}, Wr w B v s → B ≤ w.heap.size
  wkeep : ∀ {w w' B v s}, Wr w B v s → Below w.heap.size w w' → Wr w' B v s
  wnil : ∀ w B, B ≤ w.heap.size → Wr w B (.pointer none) .nil
  wnew : ∀ w, Calls Tryd.prog 25 #[] w fun e w' => ∃ v, e = .returned v ∧ Wr w' w.heap.size v (.ok [] false) ∧ Below w.heap.size w w'
  wint : ∀ B v s (n : Int) w, Wr w B v s → -9223372036854775808 ≤ n → n ≤ 9223372036854775807 → Cap (s.put ⟨0, n, [], []⟩).len → Calls Tryd.prog 47 #[v, .int .i64 n] w fun e w' => e = .returned (.tuple #[]) ∧ Wr w' B v (s.put ⟨0, n, [], []⟩) ∧ Below B w w'
  wtext : ∀ B v s (x : T) w, Wr w B v s → x.length ≤ 140737488351232 → Cap (s.put ⟨1, 0, x, []⟩).len → Calls Tryd.prog 48 #[v, tx8 x] w fun e w' => e = .returned (.tuple #[]) ∧ Wr w' B v (s.put ⟨1, 0, x, []⟩) ∧ Below B w w'
  wbool : ∀ B v s (b : Bool) w, Wr w B v s → Cap (s.put ⟨2, if b then 1 else 0, [], []⟩).len → Calls Tryd.prog 49 #[v, .bool b] w fun e w' => e = .returned (.tuple #[]) ∧ Wr w' B v (s.put ⟨2, if b then 1 else 0, [], []⟩) ∧ Below B w w'
  wcount : ∀ B v s (n : Int) w, Wr w B v s → -9223372036854775808 ≤ n → n ≤ 9223372036854775807 → Cap (s.put ⟨3, n, [], []⟩).len → Calls Tryd.prog 50 #[v, .int .i64 n] w fun e w' => e = .returned (.tuple #[]) ∧ Wr w' B v (s.put ⟨3, n, [], []⟩) ∧ Below B w w'
  wtexts : ∀ B v s (p : Option Addr) (c : Nat) (l : List T) w, Wr w B v s → InS w p l → (p = none → c = 0) → l.length ≤ c → l.length ≤ 140737488351232 → (∀ y ∈ l, y.length ≤ 140737488351232) → Cap (s.put ⟨4, 0, [], l⟩).len → (0 < l.length → ∀ g o, p = some ⟨g, o, none⟩ → g < B) →
    Calls Tryd.prog 51 #[v, .slice p l.length c] w fun e w' => e = .returned (.tuple #[]) ∧ Wr w' B v (s.put ⟨4, 0, [], l⟩) ∧ Below B w w'
  wframe : ∀ B v s w, T' w → Wr w B v s → Calls Tryd.prog 26 #[v] w fun e w' => FrameA w w' s.frame e
  rptr : ∀ {w lo hi v st}, Rd w lo hi v st → ∃ p, v = .pointer p
  rsize : ∀ {w lo hi v st}, Rd w lo hi v st → lo ≤ hi ∧ hi ≤ w.heap.size
  rkeep : ∀ {w w' lo hi v st}, Rd w lo hi v st → w.heap.size ≤ w'.heap.size → (∀ k, lo ≤ k → k < hi → w'.heap[k]? = w.heap[k]?) → Rd w' lo hi v st
  rnil : ∀ w lo hi, lo ≤ hi → hi ≤ w.heap.size → Rd w lo hi (.pointer none) (.bad 12)
  rnew : ∀ (p : Option Addr) (c : Nat) (l : T) w, T' w → In8 w p l → (p = none → c = 0) → l.length ≤ c → l.length ≤ 140737488355328 → Calls Tryd.prog 16 #[.slice p l.length c] w fun e w' => ∃ q, e = .returned (.tuple #[.pointer q, .int .i64 (openE l : Nat)]) ∧ (openE l = 0 → q.isSome = true ∧ Rd w' w.heap.size w'.heap.size (.pointer q) (.ok (l.drop 8))) ∧ (openE l ≠ 0 → q = none) ∧ Below w.heap.size w w'
  rint : ∀ {lo hi v st} w, Rd w lo hi v st → Calls Tryd.prog 37 #[v] w fun e w' => e = .returned (.int .i64 (unzz (numS 18446744073709551615 st).1)) ∧ Rd w' lo hi v (numS 18446744073709551615 st).2 ∧ Stay lo hi w w'
  rtext : ∀ {lo hi v st} w, Rd w lo hi v st → Calls Tryd.prog 38 #[v] w fun e w' => e = .returned (tx8 (wordS st).1) ∧ Rd w' lo hi v (wordS st).2 ∧ Stay lo hi w w'
  rbool : ∀ {lo hi v st} w, Rd w lo hi v st → Calls Tryd.prog 39 #[v] w fun e w' => e = .returned (.bool (decide ((numS 1 st).1 = 1))) ∧ Rd w' lo hi v (numS 1 st).2 ∧ Stay lo hi w w'
  rcount : ∀ {lo hi v st} w, Rd w lo hi v st → Calls Tryd.prog 40 #[v] w fun e w' => e = .returned (.int .i64 ((numS 4096 st).1 : Nat)) ∧ Rd w' lo hi v (numS 4096 st).2 ∧ Stay lo hi w w'
  rtexts : ∀ {lo hi v st} w, Rd w lo hi v st → Calls Tryd.prog 41 #[v] w fun e w' => ∃ u, e = .returned u ∧ w'.ownsRow w.heap.size 9 1 u (textsS st).1.length (cells senc (textsS st).1) ∧ (∀ e0, st = .bad e0 → u = .slice none 0 0) ∧ Rd w' lo hi v (textsS st).2 ∧ Stay lo hi w w'
  rend : ∀ {lo hi v st} w, Rd w lo hi v st → Calls Tryd.prog 21 #[v] w fun e w' => e = .returned (.int .i64 (endS st : Nat)) ∧ Below w.heap.size w w'
end Go.Proofs.YtpffebcaalbhjaaDoor.wir
