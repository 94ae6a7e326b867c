/- For the laws of wire: rows of ints, what stays where, the world behind a drawn call of the reference Read (Rel, rel_a to rel_f). -/
import Derived.Test.YtpffebcaalbhjaaDoorWirK
import Derived.Test.YtpffebcaalbhjaaDoorBaseA
namespace Go.Proofs.YtpffebcaalbhjaaDoor.wir
open Go.RowKit
open Go.Proofs.YtpffebcaalbhjaaDoor.oct Go.Proofs.YtpffebcaalbhjaaDoor.ref Go.Proofs.YtpffebcaalbhjaaDoor.rows Go.Proofs.YtpffebcaalbhjaaDoor.rowg
open Go.Lib (byteCells)

/-- rows of ints -/
def ienc (n : Int) : List Value := [.int .i64 n]
theorem ienc_len : ∀ a, (ienc a).length = 1 := fun _ => rfl
abbrev InI (w : World) (P : Option Addr) (l : List Int) : Prop := InG ienc 1 w P l
theorem ini_cell {w : World} {P : Option Addr} {ms : List Int} (h : InI w P ms) (i : Nat) (hi : i < ms.length) : ∃ b o, P = some ⟨b, o, none⟩ ∧ w.cell? ⟨b, o + i, none⟩ = some (.int .i64 ms[i]) := by
  obtain ⟨b, o, e, hc⟩ := InG.cells h i hi
  have h0 := hc 0 (by decide)
  rw [Nat.mul_one, Nat.add_zero] at h0
  exact ⟨b, o, e, h0⟩
theorem ins_other {w w' : World} {p : Option Addr} {l : List T} {g e : Nat} {X : List Value} (h : InS w p l) (hB : Blk w g e X) (hX : ∀ v ∈ X, ∀ s, v ≠ .string s) (hw : ∀ k, k ≠ g → w'.heap[k]? = w.heap[k]?) : InS w' p l := by
  intro hl
  obtain ⟨b, o, hp, hc⟩ := h hl
  have hne : b ≠ g := by
    intro e2
    subst e2
    have h0 := hc 0 hl 0 (by decide)
    rw [hB.cell] at h0
    exact hX _ (List.mem_of_getElem? h0) _ rfl
  refine ⟨b, o, hp, fun i hi j hj => ?_⟩
  rw [← hc i hi j hj]
  exact World.cell?_of_block (w := w) (hw b hne)
theorem GoodP.other {w w' : World} {x : PutA} {g e : Nat} {X : List Value} (h : GoodP w x) (hB : Blk w g e X) (hX : ∀ v ∈ X, ∀ s, v ≠ .string s) (hw : ∀ k, k ≠ g → w'.heap[k]? = w.heap[k]?) : GoodP w' x :=
  ⟨h.ints, h.text, ins_other h.row hB hX hw, h.nil, h.room, h.many, h.texts⟩
theorem rd_nostr (p : Option Addr) (n c : Nat) (a e : Int) : ∀ v ∈ ([.slice p n c, .int .i64 a, .int .i64 e] : List Value), ∀ s, v ≠ .string s := by
  intro v hv s h
  simp only [List.mem_cons, List.not_mem_nil, or_false] at hv
  rcases hv with rfl | rfl | rfl <;> cases h
theorem rd_below {T' : World → Prop} {Cap : Nat → Prop} (X : WApi T' Cap) {w w' : World} {lo hi : Nat} {v : Value} {st : St} (h : X.Rd w lo hi v st) (hb : Below w.heap.size w w') : X.Rd w' lo hi v st :=
  X.rkeep h hb.size fun k _ hk => hb.block k (Nat.lt_of_lt_of_le hk (X.rsize h).2)
theorem heap_set3 (w : World) (g : Nat) (a b c : Value) : ∀ k, k ≠ g → (((w.setCell ⟨g, 0, none⟩ a).setCell ⟨g, 1, none⟩ b).setCell ⟨g, 2, none⟩ c).heap[k]? = w.heap[k]? := fun k hk => by
  rw [Below.heap_setCell _ _ _ _ (by exact hk), Below.heap_setCell _ _ _ _ (by exact hk), Below.heap_setCell _ _ _ _ (by exact hk)]
theorem blk_drew {w : World} {g e : Nat} {X : List Value} (h : Blk w g e X) : Blk w.drew g e X := h
theorem blk_new_at (w : World) (C : Array Value) (t : TypeId) (X : List Value) (h : C = X.toArray) (g : Nat) (hg : g = w.heap.size) : Blk (w.alloc (.cells C t)) g t X := by subst hg; exact blk_new w C t X h
/-- a put of which nothing lies below B -/
def Far (B : Nat) (x : PutA) : Prop := ∀ g o, x.p = some ⟨g, o, none⟩ → B ≤ g
/-- what lay at B and above is as it was -/
structure Kept (B : Nat) (w w' : World) : Prop where
  size : w.heap.size ≤ w'.heap.size
  block : ∀ k, B ≤ k → k < w.heap.size → w'.heap[k]? = w.heap[k]?
theorem Kept.refl (B : Nat) (w : World) : Kept B w w := ⟨Nat.le_refl _, fun _ _ _ => rfl⟩
theorem Kept.set {B g : Nat} {w w1 : World} (h : Kept B w w1) (hg : g < B) (i : Nat) (u : Value) : Kept B w (w1.setCell ⟨g, i, none⟩ u) :=
  ⟨by simpa using h.size, fun k hk hl => by rw [Below.heap_setCell _ _ _ _ (by exact fun e => by have : k = g := e; omega)]; exact h.block k hk hl⟩
theorem Kept.alloc {B : Nat} {w w1 : World} (h : Kept B w w1) (o : Obj) : Kept B w (w1.alloc o) :=
  ⟨Nat.le_trans h.size (by simp), fun k hk hl => (((Below.refl w1.heap.size w1).alloc (Nat.le_refl _) o).block k (Nat.lt_of_lt_of_le hl h.size)).trans (h.block k hk hl)⟩
theorem GoodP.keep {w w' : World} {x : PutA} {B : Nat} (h : GoodP w x) (hf : Far B x) (hw : Kept B w w') : GoodP w' x :=
  ⟨h.ints, h.text, fun hl => by
    obtain ⟨b, o, hp, hc⟩ := h.row hl
    refine ⟨b, o, hp, fun i hi j hj => ?_⟩
    have h0 := hc i hi j hj
    have hlt : b < w.heap.size := by
      obtain ⟨u, hu⟩ : ∃ u, (senc (x.l[i]))[j]? = some u := ⟨_, List.getElem?_eq_getElem (by rw [senc_len (x.l[i])]; exact hj)⟩
      rw [hu] at h0
      exact cell_lt h0
    rw [← h0]
    exact World.cell?_of_block (w := w) (hw.block b (hf b o hp) hlt), h.nil, h.room, h.many, h.texts⟩
/-- behind the call of the reference's Read -/
structure Mt (w9 : World) (B : Nat) (xp : Option Addr) (xc : Nat) (xb : T) (r : Put × St) (y : PutA) (a e : Nat) (w' : World) : Prop where
  below : Below w9.heap.size w9 w'
  far : Far B y
  good : GoodP w' y
  place : a ≤ xb.length
  err : e ≤ 5
  put : y.put = r.1
  st : (RV.mk xp xc xb a e).st = r.2
theorem mt_of {w9 wd w' : World} {B : Nat} {xp : Option Addr} {xc : Nat} {xb : T} {r : Put × St} {y : PutA} {a e : Nat} (h9 : Below w9.heap.size w9 wd) (hB : wd.heap.size = B) (hb : Below wd.drew.heap.size wd.drew w') (hf : ∀ g o, y.p = some ⟨g, o, none⟩ → wd.drew.heap.size ≤ g) (hg : GoodP w' y) (hok : (RV.mk xp xc xb a e).ok w') (hp : y.put = r.1) (hs : (RV.mk xp xc xb a e).st = r.2) : Mt w9 B xp xc xb r y a e w' :=
  ⟨h9.trans ⟨hb.os, hb.tape, hb.output, hb.size, fun k hk => hb.block k (Nat.lt_of_lt_of_le hk h9.size)⟩, fun g o h => by rw [← hB]; exact hf g o h, hg, hok.place, hok.err, hp, hs⟩
/-- where all orders meet -/
def Rel (w9 : World) (xp : Option Addr) (xc : Nat) (xb : T) (r : Put × St) (s11 s12 : Value) (wx : World) : Prop :=
  ∃ (gy gn : Nat) (y : PutA) (a e : Nat), s11 = .pointer (some ⟨gy, 0, none⟩) ∧ s12 = .pointer (some ⟨gn, 0, none⟩) ∧ Blk wx gy 43 [.int .i64 y.k, .int .i64 y.n, .string ⟨y.s.toArray⟩, .slice y.p y.l.length y.c] ∧ Blk wx gn 38 [.slice xp xb.length xc, .int .i64 (a : Int), .int .i64 (e : Int)] ∧ y.put = r.1 ∧ GoodP wx y ∧ a ≤ xb.length ∧ e ≤ 5 ∧ (RV.mk xp xc xb a e).st = r.2 ∧ Below w9.heap.size w9 wx
theorem rel_of {w9 w' wx : World} {B gy gn : Nat} {xp : Option Addr} {xc : Nat} {xb : T} {r : Put × St} {y : PutA} {a e : Nat} (m : Mt w9 B xp xc xb r y a e w') (h1 : Blk wx gy 43 [.int .i64 y.k, .int .i64 y.n, .string ⟨y.s.toArray⟩, .slice y.p y.l.length y.c]) (h2 : Blk wx gn 38 [.slice xp xb.length xc, .int .i64 (a : Int), .int .i64 (e : Int)]) (hk : Kept B w' wx) (hb : Below w9.heap.size w' wx) :
    Rel w9 xp xc xb r (.pointer (some ⟨gy, 0, none⟩)) (.pointer (some ⟨gn, 0, none⟩)) wx :=
  ⟨gy, gn, y, a, e, rfl, rfl, h1, h2, m.put, m.good.keep m.far hk, m.place, m.err, m.st, m.below.trans hb⟩
theorem rel_a {w9 w' : World} {xp : Option Addr} {xc : Nat} {xb : T} {r : Put × St} {y : PutA} {a e : Nat} (m : Mt w9 w9.heap.size xp xc xb r y a e w') : Rel w9 xp xc xb r (.pointer (some ⟨(w'.heap.size + 1), 0, none⟩)) (.pointer (some ⟨w'.heap.size, 0, none⟩)) ((w'.alloc (.cells #[.slice xp xb.length xc, .int .i64 (a : Int), .int .i64 (e : Int)] 38)).alloc (.cells #[.int .i64 y.k, .int .i64 y.n, .string ⟨y.s.toArray⟩, .slice y.p y.l.length y.c] 43)) := by
  have hs := m.below.size
  exact rel_of m (blk_new_at (w'.alloc (.cells #[.slice xp xb.length xc, .int .i64 (a : Int), .int .i64 (e : Int)] 38)) _ 43 _ rfl _ (by simp)) (blk_old (blk_new w' _ 38 _ rfl) _) (((Kept.refl _ _).alloc _).alloc _) (((Below.refl _ _).alloc (by first | omega | (simp <;> omega)) (.cells #[.slice xp xb.length xc, .int .i64 (a : Int), .int .i64 (e : Int)] 38)).alloc (by first | omega | (simp <;> omega)) (.cells #[.int .i64 y.k, .int .i64 y.n, .string ⟨y.s.toArray⟩, .slice y.p y.l.length y.c] 43))
theorem rel_b {w9 w' : World} {xp : Option Addr} {xc : Nat} {xb : T} {r : Put × St} {y : PutA} {a e : Nat} (m : Mt w9 w9.heap.size xp xc xb r y a e w') : Rel w9 xp xc xb r (.pointer (some ⟨w'.heap.size, 0, none⟩)) (.pointer (some ⟨(w'.heap.size + 1), 0, none⟩)) ((w'.alloc (.cells #[.int .i64 y.k, .int .i64 y.n, .string ⟨y.s.toArray⟩, .slice y.p y.l.length y.c] 43)).alloc (.cells #[.slice xp xb.length xc, .int .i64 (a : Int), .int .i64 (e : Int)] 38)) := by
  have hs := m.below.size
  exact rel_of m (blk_old (blk_new w' _ 43 _ rfl) _) (blk_new_at (w'.alloc (.cells #[.int .i64 y.k, .int .i64 y.n, .string ⟨y.s.toArray⟩, .slice y.p y.l.length y.c] 43)) _ 38 _ rfl _ (by simp)) (((Kept.refl _ _).alloc _).alloc _) (((Below.refl _ _).alloc (by first | omega | (simp <;> omega)) (.cells #[.int .i64 y.k, .int .i64 y.n, .string ⟨y.s.toArray⟩, .slice y.p y.l.length y.c] 43)).alloc (by first | omega | (simp <;> omega)) (.cells #[.slice xp xb.length xc, .int .i64 (a : Int), .int .i64 (e : Int)] 38))
theorem rel_c {w9 w' : World} {xp : Option Addr} {xc : Nat} {xb : T} {r : Put × St} {y : PutA} {a e : Nat} (m : Mt w9 (w9.heap.size + 1) xp xc xb r y a e w') (F0 : Blk w' w9.heap.size 43 [.int .i64 0, .int .i64 0, .string ⟨#[]⟩, .slice none 0 0]) : Rel w9 xp xc xb r (.pointer (some ⟨w9.heap.size, 0, none⟩)) (.pointer (some ⟨w'.heap.size, 0, none⟩)) (((((w'.setCell ⟨w9.heap.size, 0, none⟩ (.int .i64 y.k)).setCell ⟨w9.heap.size, 1, none⟩ (.int .i64 y.n)).setCell ⟨w9.heap.size, 2, none⟩ (.string ⟨y.s.toArray⟩)).setCell ⟨w9.heap.size, 3, none⟩ (.slice y.p y.l.length y.c)).alloc (.cells #[.slice xp xb.length xc, .int .i64 (a : Int), .int .i64 (e : Int)] 38)) := by
  have hs := m.below.size
  exact rel_of m (blk_old (put4 F0) _) (blk_new_at ((((w'.setCell ⟨w9.heap.size, 0, none⟩ (.int .i64 y.k)).setCell ⟨w9.heap.size, 1, none⟩ (.int .i64 y.n)).setCell ⟨w9.heap.size, 2, none⟩ (.string ⟨y.s.toArray⟩)).setCell ⟨w9.heap.size, 3, none⟩ (.slice y.p y.l.length y.c)) _ 38 _ rfl _ (by simp)) ((((((Kept.refl _ _).set (g := w9.heap.size) (by omega) 0 (.int .i64 y.k)).set (g := w9.heap.size) (by omega) 1 (.int .i64 y.n)).set (g := w9.heap.size) (by omega) 2 (.string ⟨y.s.toArray⟩)).set (g := w9.heap.size) (by omega) 3 (.slice y.p y.l.length y.c)).alloc _) ((((((Below.refl _ _).setCell (p := ⟨w9.heap.size, 0, none⟩) (by show w9.heap.size ≤ w9.heap.size; omega) (.int .i64 y.k)).setCell (p := ⟨w9.heap.size, 1, none⟩) (by show w9.heap.size ≤ w9.heap.size; omega) (.int .i64 y.n)).setCell (p := ⟨w9.heap.size, 2, none⟩) (by show w9.heap.size ≤ w9.heap.size; omega) (.string ⟨y.s.toArray⟩)).setCell (p := ⟨w9.heap.size, 3, none⟩) (by show w9.heap.size ≤ w9.heap.size; omega) (.slice y.p y.l.length y.c)).alloc (by first | omega | (simp <;> omega)) (.cells #[.slice xp xb.length xc, .int .i64 (a : Int), .int .i64 (e : Int)] 38))
theorem rel_d {w9 w' : World} {xp : Option Addr} {xc : Nat} {xb : T} {r : Put × St} {y : PutA} {a e : Nat} (m : Mt w9 (w9.heap.size + 2) xp xc xb r y a e w') (F0 : Blk w' w9.heap.size 43 [.int .i64 0, .int .i64 0, .string ⟨#[]⟩, .slice none 0 0]) (F1 : Blk w' (w9.heap.size + 1) 38 [.slice none 0 0, .int .i64 0, .int .i64 0]) : Rel w9 xp xc xb r (.pointer (some ⟨w9.heap.size, 0, none⟩)) (.pointer (some ⟨(w9.heap.size + 1), 0, none⟩)) (((((((w'.setCell ⟨w9.heap.size, 0, none⟩ (.int .i64 y.k)).setCell ⟨w9.heap.size, 1, none⟩ (.int .i64 y.n)).setCell ⟨w9.heap.size, 2, none⟩ (.string ⟨y.s.toArray⟩)).setCell ⟨w9.heap.size, 3, none⟩ (.slice y.p y.l.length y.c)).setCell ⟨(w9.heap.size + 1), 0, none⟩ (.slice xp xb.length xc)).setCell ⟨(w9.heap.size + 1), 1, none⟩ (.int .i64 (a : Int))).setCell ⟨(w9.heap.size + 1), 2, none⟩ (.int .i64 (e : Int))) := by
  have hs := m.below.size
  exact rel_of m (Blk.set_other (Blk.set_other (Blk.set_other (put4 F0) (b := (w9.heap.size + 1)) (by omega) 0 (.slice xp xb.length xc)) (b := (w9.heap.size + 1)) (by omega) 1 (.int .i64 (a : Int))) (b := (w9.heap.size + 1)) (by omega) 2 (.int .i64 (e : Int))) (put3 (Blk.set_other (Blk.set_other (Blk.set_other (Blk.set_other F1 (b := w9.heap.size) (by omega) 0 (.int .i64 y.k)) (b := w9.heap.size) (by omega) 1 (.int .i64 y.n)) (b := w9.heap.size) (by omega) 2 (.string ⟨y.s.toArray⟩)) (b := w9.heap.size) (by omega) 3 (.slice y.p y.l.length y.c))) ((((((((Kept.refl _ _).set (g := w9.heap.size) (by omega) 0 (.int .i64 y.k)).set (g := w9.heap.size) (by omega) 1 (.int .i64 y.n)).set (g := w9.heap.size) (by omega) 2 (.string ⟨y.s.toArray⟩)).set (g := w9.heap.size) (by omega) 3 (.slice y.p y.l.length y.c)).set (g := (w9.heap.size + 1)) (by omega) 0 (.slice xp xb.length xc)).set (g := (w9.heap.size + 1)) (by omega) 1 (.int .i64 (a : Int))).set (g := (w9.heap.size + 1)) (by omega) 2 (.int .i64 (e : Int))) ((((((((Below.refl _ _).setCell (p := ⟨w9.heap.size, 0, none⟩) (by show w9.heap.size ≤ w9.heap.size; omega) (.int .i64 y.k)).setCell (p := ⟨w9.heap.size, 1, none⟩) (by show w9.heap.size ≤ w9.heap.size; omega) (.int .i64 y.n)).setCell (p := ⟨w9.heap.size, 2, none⟩) (by show w9.heap.size ≤ w9.heap.size; omega) (.string ⟨y.s.toArray⟩)).setCell (p := ⟨w9.heap.size, 3, none⟩) (by show w9.heap.size ≤ w9.heap.size; omega) (.slice y.p y.l.length y.c)).setCell (p := ⟨(w9.heap.size + 1), 0, none⟩) (by show w9.heap.size ≤ (w9.heap.size + 1); omega) (.slice xp xb.length xc)).setCell (p := ⟨(w9.heap.size + 1), 1, none⟩) (by show w9.heap.size ≤ (w9.heap.size + 1); omega) (.int .i64 (a : Int))).setCell (p := ⟨(w9.heap.size + 1), 2, none⟩) (by show w9.heap.size ≤ (w9.heap.size + 1); omega) (.int .i64 (e : Int)))
theorem rel_e {w9 w' : World} {xp : Option Addr} {xc : Nat} {xb : T} {r : Put × St} {y : PutA} {a e : Nat} (m : Mt w9 (w9.heap.size + 1) xp xc xb r y a e w') (F0 : Blk w' w9.heap.size 38 [.slice none 0 0, .int .i64 0, .int .i64 0]) : Rel w9 xp xc xb r (.pointer (some ⟨w'.heap.size, 0, none⟩)) (.pointer (some ⟨w9.heap.size, 0, none⟩)) ((((w'.setCell ⟨w9.heap.size, 0, none⟩ (.slice xp xb.length xc)).setCell ⟨w9.heap.size, 1, none⟩ (.int .i64 (a : Int))).setCell ⟨w9.heap.size, 2, none⟩ (.int .i64 (e : Int))).alloc (.cells #[.int .i64 y.k, .int .i64 y.n, .string ⟨y.s.toArray⟩, .slice y.p y.l.length y.c] 43)) := by
  have hs := m.below.size
  exact rel_of m (blk_new_at (((w'.setCell ⟨w9.heap.size, 0, none⟩ (.slice xp xb.length xc)).setCell ⟨w9.heap.size, 1, none⟩ (.int .i64 (a : Int))).setCell ⟨w9.heap.size, 2, none⟩ (.int .i64 (e : Int))) _ 43 _ rfl _ (by simp)) (blk_old (put3 F0) _) (((((Kept.refl _ _).set (g := w9.heap.size) (by omega) 0 (.slice xp xb.length xc)).set (g := w9.heap.size) (by omega) 1 (.int .i64 (a : Int))).set (g := w9.heap.size) (by omega) 2 (.int .i64 (e : Int))).alloc _) (((((Below.refl _ _).setCell (p := ⟨w9.heap.size, 0, none⟩) (by show w9.heap.size ≤ w9.heap.size; omega) (.slice xp xb.length xc)).setCell (p := ⟨w9.heap.size, 1, none⟩) (by show w9.heap.size ≤ w9.heap.size; omega) (.int .i64 (a : Int))).setCell (p := ⟨w9.heap.size, 2, none⟩) (by show w9.heap.size ≤ w9.heap.size; omega) (.int .i64 (e : Int))).alloc (by first | omega | (simp <;> omega)) (.cells #[.int .i64 y.k, .int .i64 y.n, .string ⟨y.s.toArray⟩, .slice y.p y.l.length y.c] 43))
theorem rel_f {w9 w' : World} {xp : Option Addr} {xc : Nat} {xb : T} {r : Put × St} {y : PutA} {a e : Nat} (m : Mt w9 (w9.heap.size + 2) xp xc xb r y a e w') (F0 : Blk w' w9.heap.size 38 [.slice none 0 0, .int .i64 0, .int .i64 0]) (F1 : Blk w' (w9.heap.size + 1) 43 [.int .i64 0, .int .i64 0, .string ⟨#[]⟩, .slice none 0 0]) : Rel w9 xp xc xb r (.pointer (some ⟨(w9.heap.size + 1), 0, none⟩)) (.pointer (some ⟨w9.heap.size, 0, none⟩)) (((((((w'.setCell ⟨(w9.heap.size + 1), 0, none⟩ (.int .i64 y.k)).setCell ⟨(w9.heap.size + 1), 1, none⟩ (.int .i64 y.n)).setCell ⟨(w9.heap.size + 1), 2, none⟩ (.string ⟨y.s.toArray⟩)).setCell ⟨(w9.heap.size + 1), 3, none⟩ (.slice y.p y.l.length y.c)).setCell ⟨w9.heap.size, 0, none⟩ (.slice xp xb.length xc)).setCell ⟨w9.heap.size, 1, none⟩ (.int .i64 (a : Int))).setCell ⟨w9.heap.size, 2, none⟩ (.int .i64 (e : Int))) := by
  have hs := m.below.size
  exact rel_of m (Blk.set_other (Blk.set_other (Blk.set_other (put4 F1) (b := w9.heap.size) (by omega) 0 (.slice xp xb.length xc)) (b := w9.heap.size) (by omega) 1 (.int .i64 (a : Int))) (b := w9.heap.size) (by omega) 2 (.int .i64 (e : Int))) (put3 (Blk.set_other (Blk.set_other (Blk.set_other (Blk.set_other F0 (b := (w9.heap.size + 1)) (by omega) 0 (.int .i64 y.k)) (b := (w9.heap.size + 1)) (by omega) 1 (.int .i64 y.n)) (b := (w9.heap.size + 1)) (by omega) 2 (.string ⟨y.s.toArray⟩)) (b := (w9.heap.size + 1)) (by omega) 3 (.slice y.p y.l.length y.c))) ((((((((Kept.refl _ _).set (g := (w9.heap.size + 1)) (by omega) 0 (.int .i64 y.k)).set (g := (w9.heap.size + 1)) (by omega) 1 (.int .i64 y.n)).set (g := (w9.heap.size + 1)) (by omega) 2 (.string ⟨y.s.toArray⟩)).set (g := (w9.heap.size + 1)) (by omega) 3 (.slice y.p y.l.length y.c)).set (g := w9.heap.size) (by omega) 0 (.slice xp xb.length xc)).set (g := w9.heap.size) (by omega) 1 (.int .i64 (a : Int))).set (g := w9.heap.size) (by omega) 2 (.int .i64 (e : Int))) ((((((((Below.refl _ _).setCell (p := ⟨(w9.heap.size + 1), 0, none⟩) (by show w9.heap.size ≤ (w9.heap.size + 1); omega) (.int .i64 y.k)).setCell (p := ⟨(w9.heap.size + 1), 1, none⟩) (by show w9.heap.size ≤ (w9.heap.size + 1); omega) (.int .i64 y.n)).setCell (p := ⟨(w9.heap.size + 1), 2, none⟩) (by show w9.heap.size ≤ (w9.heap.size + 1); omega) (.string ⟨y.s.toArray⟩)).setCell (p := ⟨(w9.heap.size + 1), 3, none⟩) (by show w9.heap.size ≤ (w9.heap.size + 1); omega) (.slice y.p y.l.length y.c)).setCell (p := ⟨w9.heap.size, 0, none⟩) (by show w9.heap.size ≤ w9.heap.size; omega) (.slice xp xb.length xc)).setCell (p := ⟨w9.heap.size, 1, none⟩) (by show w9.heap.size ≤ w9.heap.size; omega) (.int .i64 (a : Int))).setCell (p := ⟨w9.heap.size, 2, none⟩) (by show w9.heap.size ≤ w9.heap.size; omega) (.int .i64 (e : Int)))
theorem set3_other {w : World} {g h e : Nat} {X : List Value} {a' b' c' : Value} (hB : Blk w g e X) (hn : h ≠ g) : Blk (((w.setCell ⟨h, 0, none⟩ a').setCell ⟨h, 1, none⟩ b').setCell ⟨h, 2, none⟩ c') g e X :=
  Blk.set_other (Blk.set_other (Blk.set_other hB hn 0 a') hn 1 b') hn 2 c'
end Go.Proofs.YtpffebcaalbhjaaDoor.wir
