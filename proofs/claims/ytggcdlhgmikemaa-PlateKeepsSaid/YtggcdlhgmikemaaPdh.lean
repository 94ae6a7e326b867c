/- The developers' plate in memory (PM, PA): its cells, its map of names, its files' blocks, their bytes' rows; R: the blocks that are its own. No condition. -/
import Derived.Test.YtggcdlhgmikemaaPdf
import Derived.Test.YtggcdlhgmikemaaPdg
import Derived.Test.YtggcdlhgmikemaaClnB
import Derived.Test.YtggcdlhgmikemaaAfter
namespace Go.Proofs.Ytggcdlhgmikemaa.plt
open Go.RowKit
open Go.Proofs.Ytggcdlhgmikemaa.oct Go.Proofs.Ytggcdlhgmikemaa.ref Go.Proofs.Ytggcdlhgmikemaa.rows Go.Proofs.Ytggcdlhgmikemaa.rowg Go.Proofs.Ytggcdlhgmikemaa.mpt Go.Proofs.Ytggcdlhgmikemaa.cln Go.Proofs.Ytggcdlhgmikemaa.trn
open Go.Proofs.Ytggcdlhgmikemaa.scp (lt lt_irrefl lt_trans lt_total lt_asymm)
open Go.Lib (byteCells)

/-- the blocks of a file -/
def DF.has (x : DF) (k : Nat) : Prop := k = x.g ∨ x.v.ownBlock = some k
/-- a file lies in blocks of R -/
structure FileD (w : World) (R : Nat → Prop) (x : DF) : Prop where
  blk : Blk w x.g 72 [x.v, .int .i64 (x.s : Nat)]
  own : w.ownsRow 0 5 1 x.v x.b.length (byteCells x.b)
  foot : ∀ k, x.has k → R k
theorem FileD.turn {S R : Nat → Prop} {w w' : World} {x : DF} (h : FileD w R x) (ht : Turn S w w') (hd : ∀ k, x.has k → ¬ S k) : FileD w' R x :=
  ⟨blk_turn h.blk ht (hd _ (Or.inl rfl)), own_turn h.own ht fun b hb => hd b (Or.inr hb), h.foot⟩
theorem FileD.mono {R R2 : Nat → Prop} {w : World} {x : DF} (h : FileD w R x) (hs : ∀ k, R k → R2 k) : FileD w R2 x := ⟨h.blk, h.own, fun k e => hs k (h.foot k e)⟩
theorem FileD.in8 {w : World} {R : Nat → Prop} {x : DF} (h : FileD w R x) : In8 w x.p x.b := by
  obtain ⟨p, cp, h2, h3⟩ := own_in8' h.own
  unfold DF.v at h2
  injection h2 with h2
  rw [h2]
  exact h3
theorem FileD.room {w : World} {R : Nat → Prop} {x : DF} (h : FileD w R x) : x.b.length ≤ x.c ∧ (x.p = none → x.c = 0) := by
  rcases (own_cells h.own).2 with ⟨h1, h2⟩ | ⟨g, cp, h1, _, _, h4, _⟩
  · unfold DF.v at h1
    injection h1 with h1 h2 h3
    exact ⟨by omega, fun _ => h3⟩
  · unfold DF.v at h1
    injection h1 with h1 h2 h3
    exact ⟨by omega, fun e => by rw [h1] at e; cases e⟩
/-- a row of bytes is in no block of a struct -/
theorem own_kind {w : World} {B n : Nat} {v : Value} {xs : List Value} (h : w.ownsRow B 5 1 v n xs) {k : Nat} (hk : v.ownBlock = some k) : ∃ X, w.heap[k]? = some (.cells X 5 (0, 0)) := by
  rcases h.2 with ⟨h1, _⟩ | ⟨g, cap, cur, h1, _, h3, _⟩
  · rw [h1] at hk; cases hk
  · rw [h1] at hk
    injection hk with hk
    subst hk
    exact ⟨_, h3⟩
/-- block g is the plate, part by part -/
structure PM (w : World) (R : Nat → Prop) (g m : Nat) (D : DataW Nat) (fl : List DF) (room used : Nat) (k : Int) (down : Bool) : Prop where
  lt : ∀ k, R k → k < w.heap.size
  mem : R g
  blk : Blk w g 64 (pcells room used (.map (some m)) k down)
  mmem : R m
  map : w.ownsMap Try.prog 9 ptrElem m fl.length D
  says : MapOf D fl
  srt : SrtD fl
  files : ∀ x ∈ fl, FileD w R x
  apart : fl.Pairwise fun x y => ∀ k, x.has k → ¬ y.has k
def leftOf (k : Int) : Option Nat := if k < 0 then none else some k.toNat
/-- block g is the plate in the state st -/
def PA (w : World) (R : Nat → Prop) (g : Nat) (st : PS) : Prop :=
  ∃ m D fl k, PM w R g m D fl st.room (usedP st.fs) k st.down ∧ fl.map DF.f = st.fs ∧ leftOf k = st.left ∧ -9223372036854775808 ≤ k ∧ k ≤ 9223372036854775807
theorem PM.turn {S R : Nat → Prop} {w w' : World} {g m room used : Nat} {D : DataW Nat} {fl : List DF} {k : Int} {down : Bool} (h : PM w R g m D fl room used k down) (ht : Turn S w w') (hd : ∀ k, R k → ¬ S k) : PM w' R g m D fl room used k down :=
  ⟨fun k hk => Nat.lt_of_lt_of_le (h.lt k hk) ht.size, h.mem, blk_turn h.blk ht (hd g h.mem), h.mmem, map_turn h.map ht (hd m h.mmem), h.says, h.srt, fun x hx => (h.files x hx).turn ht fun k hk => hd k ((h.files x hx).foot k hk), h.apart⟩
theorem PA.turn {S R : Nat → Prop} {w w' : World} {g : Nat} {st : PS} (h : PA w R g st) (ht : Turn S w w') (hd : ∀ k, R k → ¬ S k) : PA w' R g st := by
  obtain ⟨m, D, fl, k, h1, h2⟩ := h
  exact ⟨m, D, fl, k, h1.turn ht hd, h2⟩
theorem PA.below {R : Nat → Prop} {w w' : World} {g : Nat} {st : PS} (h : PA w R g st) (hb : Below w.heap.size w w') : PA w' R g st := h.turn (Turn.of_below (S := fun _ => False) hb) fun _ _ => id
theorem PA.lt {R : Nat → Prop} {w : World} {g : Nat} {st : PS} (h : PA w R g st) : ∀ k, R k → k < w.heap.size := by
  obtain ⟨_, _, _, _, h1, _⟩ := h
  exact h1.lt
/-- what a call makes of a plate: its state; blocks that are new may be its own now -/
def To (w w' : World) (R : Nat → Prop) (g : Nat) (s : PS) : Prop := ∃ R', PA w' R' g s ∧ Turn R w w' ∧ Grown R R' w
theorem To.refl {w : World} {R : Nat → Prop} {g : Nat} {s : PS} (h : PA w R g s) : To w w R g s := ⟨R, h, Turn.refl R w, Grown.refl R w⟩
theorem To.same {w w' : World} {R : Nat → Prop} {g : Nat} {s : PS} (h : PA w R g s) (hb : Below w.heap.size w w') : To w w' R g s := ⟨R, h.below hb, Turn.of_below hb, Grown.refl R w⟩
theorem blk_two {w : World} {a e1 e2 : Nat} {X Y : List Value} (h1 : Blk w a e1 X) (h2 : Blk w a e2 Y) : e1 = e2 := by
  have h := h1.symm.trans h2
  injection h with h
  injection h
theorem blk_map {w : World} {a e : Nat} {X : List Value} (h1 : Blk w a e X) {P : Program} {kt n : Nat} {Q : Value → Option (DataW Nat × List MemPlace)} {D : DataW Nat} (h2 : w.ownsMap P kt Q a n D) : False := by
  obtain ⟨es, clock, hb, _⟩ := h2
  have h := h1.symm.trans hb
  injection h with h
  cases h
theorem row_blk {w : World} {B n : Nat} {v : Value} {xs : List Value} (h : w.ownsRow B 5 1 v n xs) {k e : Nat} {X : List Value} (hk : v.ownBlock = some k) (hB : Blk w k e X) : e = 5 := by
  obtain ⟨Y, hY⟩ := own_kind h hk
  have h := hB.symm.trans hY
  injection h with h
  injection h
theorem row_map {w : World} {B n : Nat} {v : Value} {xs : List Value} (h : w.ownsRow B 5 1 v n xs) {k : Nat} (hk : v.ownBlock = some k) {P : Program} {kt n : Nat} {Q : Value → Option (DataW Nat × List MemPlace)} {D : DataW Nat} (h2 : w.ownsMap P kt Q k n D) : False := by
  obtain ⟨Y, hY⟩ := own_kind h hk
  obtain ⟨es, clock, hb, _⟩ := h2
  have h := hY.symm.trans hb
  injection h with h
  cases h
/-- the plate's block and its map are none of a file's -/
theorem PM.gout {w : World} {R : Nat → Prop} {g m room used : Nat} {D : DataW Nat} {fl : List DF} {k : Int} {down : Bool} (h : PM w R g m D fl room used k down) {x : DF} (hx : x ∈ fl) : ¬ x.has g := by
  rintro (e | e)
  · have h1 := (h.files x hx).blk
    rw [← e] at h1
    exact absurd (blk_two h.blk h1) (by decide)
  · exact absurd (row_blk (h.files x hx).own e h.blk) (by decide)
theorem PM.mout {w : World} {R : Nat → Prop} {g m room used : Nat} {D : DataW Nat} {fl : List DF} {k : Int} {down : Bool} (h : PM w R g m D fl room used k down) {x : DF} (hx : x ∈ fl) : ¬ x.has m := by
  rintro (e | e)
  · have h1 := (h.files x hx).blk
    rw [← e] at h1
    exact blk_map h1 h.map
  · exact row_map (h.files x hx).own e h.map
theorem PM.gm {w : World} {R : Nat → Prop} {g m room used : Nat} {D : DataW Nat} {fl : List DF} {k : Int} {down : Bool} (h : PM w R g m D fl room used k down) : g ≠ m := fun e => by
  have h1 := h.blk
  rw [e] at h1
  exact blk_map h1 h.map
/-- the plate's own cells are others -/
theorem PM.cells {w w' : World} {R : Nat → Prop} {g m room used room2 used2 : Nat} {D : DataW Nat} {fl : List DF} {k k2 : Int} {down down2 : Bool} (h : PM w R g m D fl room used k down) (ht : w.grownBy w' (some g)) (hB : Blk w' g 64 (pcells room2 used2 (.map (some m)) k2 down2)) : PM w' R g m D fl room2 used2 k2 down2 := by
  have ht : Turn (fun i => i = g) w w' := Turn.of_grown ht rfl
  exact ⟨fun k hk => Nat.lt_of_lt_of_le (h.lt k hk) ht.size, h.mem, hB, h.mmem, map_turn h.map ht (fun e => h.gm e.symm), h.says, h.srt, fun x hx => (h.files x hx).turn ht fun k hk e => h.gout hx (e ▸ hk), h.apart⟩
theorem owns_tight {w : World} {P : Program} {kt n : Nat} {Q : Value → Option (DataW Nat × List MemPlace)} {b : Nat} {D : DataW Nat} (h : w.ownsMap P kt Q b n D) {j : Nat} (hj : Maps.size D ≤ j) : w.ownsMap P kt Q b j D := by
  obtain ⟨es, clock, hb, F, hs, rfl⟩ := h
  refine ⟨es, clock, hb, F, ?_, rfl⟩
  rw [Maps.size_eq, length_read] at hj
  exact hj
theorem PM.len {w : World} {R : Nat → Prop} {g m room used : Nat} {D : DataW Nat} {fl : List DF} {k : Int} {down : Bool} {st : PS} (_h : PM w R g m D fl room used k down) (hf : fl.map DF.f = st.fs) (hw : Wf st) : fl.length ≤ 268435456 := by
  have h1 : st.fs.length ≤ usedP st.fs := by
    have : ∀ l : List F, (∀ f ∈ l, f.b ≠ []) → l.length ≤ usedP l := fun l => by
      induction l with
      | nil => exact fun _ => Nat.le_refl _
      | cons a r ih =>
        intro h
        have h2 := ih fun f hf => h f (List.mem_cons_of_mem _ hf)
        have h3 : 1 ≤ a.b.length := by
          have := h a List.mem_cons_self
          cases hb : a.b with
          | nil => exact absurd hb this
          | cons _ _ => simp
        rw [show usedP (a :: r) = a.b.length + usedP r from rfl, List.length_cons]
        omega
    exact this _ fun f hf => (hw.each f hf).1
  have h2 := congrArg List.length hf
  rw [List.length_map] at h2
  have := hw.used
  have := hw.room
  omega
end Go.Proofs.Ytggcdlhgmikemaa.plt
