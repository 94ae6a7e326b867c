/- The developers' Copy (a range over a map, in whatever order, into another map). No condition. -/
import Derived.Test.YtggcdlhgmikemaaPds
import Derived.Deep.RegionHeld3
namespace Go.Proofs.Ytggcdlhgmikemaa.plt
open Go.RowKit
open Go.Proofs.Ytggcdlhgmikemaa.oct Go.Proofs.Ytggcdlhgmikemaa.ref Go.Proofs.Ytggcdlhgmikemaa.rows Go.Proofs.Ytggcdlhgmikemaa.rowg Go.Proofs.Ytggcdlhgmikemaa.mpt Go.Proofs.Ytggcdlhgmikemaa.cln Go.Proofs.Ytggcdlhgmikemaa.trn
open Go.Proofs.Ytggcdlhgmikemaa.scp (lt lt_irrefl)
open Go.Lib (byteCells)

/-- lists: what is in the image's order can be brought into any order of it -/
theorem perm_lift : ∀ {l : List DF} {s : List F}, (l.map DF.f).Perm s → ∃ l2, l.Perm l2 ∧ l2.map DF.f = s := by
  intro l s h
  induction s generalizing l with
  | nil =>
    have : l = [] := by simpa using h.length_eq
    subst this
    exact ⟨[], List.Perm.refl _, rfl⟩
  | cons a t ih =>
    have ha : a ∈ l.map DF.f := h.mem_iff.2 List.mem_cons_self
    obtain ⟨x, hx, rfl⟩ := List.mem_map.1 ha
    obtain ⟨l0, l1, rfl⟩ := List.append_of_mem hx
    have hp : (l0 ++ x :: l1).Perm (x :: (l0 ++ l1)) := List.perm_middle
    have h2 : ((l0 ++ l1).map DF.f).Perm t := by
      have h3 := (hp.map DF.f).symm.trans h
      rw [List.map_cons] at h3
      exact h3.cons_inv
    obtain ⟨l2, e1, e2⟩ := ih h2
    exact ⟨x :: l2, hp.trans (e1.cons x), by rw [List.map_cons, e2]⟩
/-- the copy under way: its map m2 holds copies of those that have been passed -/
structure CQ (w wx : World) (m r m2 : Nat) (D : DataW Nat) (fl : List DF) (left : Lit → Bool) (cnt : Nat) (D2 : DataW Nat) (ys : List DF) : Prop where
  rg : wx.ranges Try.prog 9 ptrElem m r fl.length D left cnt
  m2 : wx.ownsMap Try.prog 9 ptrElem m2 ys.length D2
  says : MapOf D2 ys
  seen : Seen D left cnt (ys.map (·.n))
  each : ∀ y ∈ ys, ∃ x ∈ fl, y.f = x.f
  files : ∀ y ∈ ys, FileD wx (fun i => w.heap.size ≤ i ∧ i < wx.heap.size) y
  apart : ys.Pairwise fun x y => ∀ k, x.has k → ¬ y.has k
  bel : Below w.heap.size w wx
/-- a new key in a map of any order -/
theorem MapOf.put_new {D : DataW Nat} {fl : List DF} (h : MapOf D fl) (x : DF) (hx : ∀ y ∈ fl, y.n ≠ x.n) : MapOf (D.put (.string x.n) (.held x.g)) (fl ++ [x]) := by
  obtain ⟨es, rfl, h2⟩ := h
  refine ⟨_, rfl, ?_⟩
  have hf : es.filter (ChangeMaps.notKey (.string x.n)) = es := by
    refine List.filter_eq_self.2 fun p hp => ?_
    obtain ⟨y, hy, rfl⟩ := List.mem_map.1 (h2.mem_iff.1 hp)
    rw [notKey_dent]
    have := hx y hy
    simp [this]
  refine (WideShapes.insert_perm _ _).trans ?_
  show ((Lit.string x.n, DataW.held x.g) :: es.filter (ChangeMaps.notKey (.string x.n))).Perm _
  rw [hf, List.map_append, List.map_cons, List.map_nil]
  exact (List.Perm.cons _ h2).trans (List.perm_append_comm (l₁ := [dent x]) (l₂ := fl.map dent))
theorem ranges_iter {w : World} {m r n cnt : Nat} {D : DataW Nat} {left : Lit → Bool} {P : Program} {kt : TypeId} {Q : Value → Option (DataW Nat × List MemPlace)} (h : w.ranges P kt Q m r n D left cnt) : ∃ a b c d, w.heap[r]? = some (.mapIter a b c d) := by
  obtain ⟨es, clock, since, seen, c0, _, _, _, _, hr, _⟩ := h
  exact ⟨_, _, _, _, hr⟩
theorem CQ.below {w wx w2 : World} {m r m2 cnt : Nat} {D D2 : DataW Nat} {fl ys : List DF} {left : Lit → Bool} (h : CQ w wx m r m2 D fl left cnt D2 ys) (hb : Below wx.heap.size wx w2) : CQ w w2 m r m2 D fl left cnt D2 ys :=
  ⟨h.rg.kept (row := none) ⟨hb.os, hb.tape, hb.output, hb.size, fun i hi _ => hb.block i hi⟩ (by simp) (by simp), map_turn h.m2 (Turn.of_below (S := fun _ => False) hb) id, h.says, h.seen, h.each,
    fun y hy => ((h.files y hy).turn (S := fun _ => False) (Turn.of_below hb) fun _ _ => id).mono fun i hi => ⟨hi.1, Nat.lt_of_lt_of_le hi.2 hb.size⟩, h.apart, bnext h.bel hb⟩
/-- the iterator has gone on: only its own block has turned -/
theorem FileD.kind {w : World} {R : Nat → Prop} {x : DF} (h : FileD w R x) {k : Nat} (hk : x.has k) : ∃ X e, w.heap[k]? = some (.cells X e (0, 0)) := by
  rcases hk with rfl | hk
  · exact ⟨_, _, h.blk⟩
  · obtain ⟨X, hX⟩ := own_kind h.own hk
    exact ⟨X, _, hX⟩
/-- the files of the copy, once the iterator has come to x (w4), and x's copy is laid in (w7) -/
theorem CQ.step {w wr w4 wz w7 : World} {m r m2 cnt cnt4 j bx : Nat} {D D2 : DataW Nat} {fl ys : List DF} {left : Lit → Bool} (h : CQ w wr m r m2 D fl left cnt D2 ys) {x : DF} (hx : x ∈ fl) (hl : left (.string x.n) = true) (hrm : m2 ≠ r)
    (hr4 : w4.ranges Try.prog 9 ptrElem m r fl.length D (fun z => left z && !z.sameKey (.string x.n)) cnt4) (hlt : cnt4 < cnt) (hg4 : wr.grownBy w4 (some r)) (hwr : w.heap.size ≤ r) (hw2 : w.heap.size ≤ m2) (hmm : m ≠ m2)
    (hbz : Below w4.heap.size w4 wz) {p : Option Addr} {c : Nat} (hv : wz.ownsRow w4.heap.size 5 1 (.slice p x.b.length c) x.b.length (byteCells x.b))
    (hB : Blk wz bx 72 [.slice p x.b.length c, .int .i64 (x.s : Nat)]) (hbx : w4.heap.size ≤ bx)
    (hm7 : w7.ownsMap Try.prog 9 ptrElem m2 j (D2.put (.string x.n) (.held bx))) (hg7 : wz.grownBy w7 (some m2)) :
    CQ w w7 m r m2 D fl (fun z => left z && !z.sameKey (.string x.n)) cnt4 (D2.put (.string x.n) (.held bx)) (ys ++ [⟨x.n, bx, p, c, x.b, x.s⟩]) := by
  have hr := h.rg.lt
  have t4 : Turn (fun k => k = r) wr w4 := Turn.of_grown hg4 rfl
  have t7 : Turn (fun k => k = m2) wz w7 := Turn.of_grown hg7 rfl
  have hm2 := h.m2.lt
  obtain ⟨i1, i2, i3, i4, hir⟩ := ranges_iter h.rg
  have hseen := seen_step h.seen hl hlt
  have hnew : ∀ y ∈ ys, y.n ≠ x.n := fun y hy e => by
    have h1 := ((h.seen.mem y.n).1 (List.mem_map_of_mem hy)).2
    rw [e, hl] at h1
    cases h1
  have hput := h.says.put_new ⟨x.n, bx, p, c, x.b, x.s⟩ hnew
  have hs4 := hg4.size
  have hs6 := hbz.size
  have hs7 := hg7.size
  have hbl := hB.lt
  have hbw := h.bel.size
  have hold : ∀ y ∈ ys, ∀ k, y.has k → w.heap.size ≤ k ∧ k < wr.heap.size := fun y hy k hk => (h.files y hy).foot k hk
  have hnr : ∀ y ∈ ys, ∀ k, y.has k → k ≠ r := fun y hy k hk e => by
    obtain ⟨X, e2, hX⟩ := (h.files y hy).kind hk
    rw [e, hir] at hX
    cases hX
  obtain ⟨q1, q2, q3, _⟩ := h.m2
  have hnm : ∀ y ∈ ys, ∀ k, y.has k → k ≠ m2 := fun y hy k hk e => by
    obtain ⟨X, e2, hX⟩ := (h.files y hy).kind hk
    rw [e, q3] at hX
    cases hX
  refine ⟨?_, owns_tight hm7 (by rw [hput.size]; exact Nat.le_refl _), hput, ?_, ?_, ?_, ?_, ?_⟩
  · refine (hr4.kept (row := none) ⟨hbz.os, hbz.tape, hbz.output, hbz.size, fun i hi _ => hbz.block i hi⟩ (by simp) (by simp)).kept hg7 (fun e => hmm (by injection e)) (fun e => hrm (by injection e with e; exact e.symm))
  · rw [List.map_append, List.map_cons, List.map_nil]
    exact hseen
  · intro y hy
    rcases List.mem_append.1 hy with hy | hy
    · exact h.each y hy
    · rw [List.mem_singleton.1 hy]
      exact ⟨x, hx, rfl⟩
  · intro y hy
    rcases List.mem_append.1 hy with hy | hy
    · have h1 := (h.files y hy).turn t4 (hnr y hy)
      have h2 := (h1.turn (S := fun _ => False) (Turn.of_below hbz) fun _ _ => id).turn t7 (hnm y hy)
      exact h2.mono fun i hi => ⟨hi.1, by have := hi.2; omega⟩
    · rw [List.mem_singleton.1 hy]
      have hne : bx ≠ m2 := by omega
      refine ⟨blk_turn hB t7 hne, ?_, ?_⟩
      · have h1 := own_base hv (Nat.zero_le (w4.heap.size))
        exact own_turn h1 t7 fun b hb e => by have := (hv.lt b hb).1; omega
      · rintro k (hk | hk)
        · have hk2 : k = bx := hk
          omega
        · have := hv.lt k hk
          omega
  · rw [List.pairwise_append]
    refine ⟨h.apart, List.pairwise_singleton _ _, fun a ha b hb k h1 h2 => ?_⟩
    rw [List.mem_singleton.1 hb] at h2
    have h3 := hold a ha k h1
    rcases h2 with h2 | h2
    · have h4 : k = bx := h2
      omega
    · have := (hv.lt k h2).1
      omega
  · exact ((h.bel.grown hg4 h.bel.size (fun k hk => by cases hk; exact hwr)).trans (hbz.mono (by omega))).grown hg7 (by omega) (fun k hk => by cases hk; exact hw2)
/-- the beginning -/
theorem CQ.start {w W0 w3 : World} {m r m2 : Nat} {D : DataW Nat} {fl : List DF} (hb : Below w.heap.size w W0) (hm2 : W0.ownsMap Try.prog 9 ptrElem m2 0 (.map [])) (hr3 : w3.ranges Try.prog 9 ptrElem m r fl.length D (Maps.has D) (Maps.size D)) (hg3 : W0.grownBy w3 none) :
    CQ w w3 m r m2 D fl (Maps.has D) (Maps.size D) (.map []) [] :=
  ⟨hr3, map_turn hm2 (Turn.of_row (S := fun _ => False) hg3 (fun _ e => by cases e)) id, ⟨[], rfl, List.Perm.refl _⟩, seen_start D, (fun _ h => by cases h), (fun _ h => by cases h), List.Pairwise.nil, hb.grown hg3 hb.size (fun _ h => by cases h)⟩
/-- at the end: the copy is a plate -/
theorem CQ.done {w wx : World} {m r m2 cnt g2 : Nat} {D D2 : DataW Nat} {fl ys : List DF} {left : Lit → Bool} {st : PS} {k : Int} (h : CQ w wx m r m2 D fl left cnt D2 ys) (hl : ∀ kl, left kl = false) (hs : SrtD fl) (hm : MapOf D fl) (hf : fl.map DF.f = st.fs)
    (hB : Blk wx g2 64 (pcells st.room (usedP st.fs) (.map (some m2)) k st.down)) (hg : w.heap.size ≤ g2) (hm2 : w.heap.size ≤ m2) (hk : leftOf k = st.left ∧ -9223372036854775808 ≤ k ∧ k ≤ 9223372036854775807) : PA wx (fun i => w.heap.size ≤ i ∧ i < wx.heap.size) g2 st := by
  have hp : (ys.map (·.n)).Perm (fl.map (·.n)) := by
    refine (List.perm_ext_iff_of_nodup h.seen.nodup (srtD_nodup hs)).2 fun s => ?_
    rw [h.seen.mem s, hm.has, List.mem_map]
    constructor
    · rintro ⟨⟨x, hx, e⟩, _⟩
      exact ⟨x, hx, (Lit.string.inj e).symm⟩
    · rintro ⟨x, hx, rfl⟩
      exact ⟨⟨x, hx, rfl⟩, hl _⟩
  have hpf : (ys.map DF.f).Perm st.fs := by
    rw [← hf]
    have e1 : ∀ l : List DF, (∀ y ∈ l, ∃ x ∈ fl, y.f = x.f) → l.map DF.f = (l.map (·.n)).map (fun n => (atD fl n).f) := by
      intro l
      induction l with
      | nil => exact fun _ => rfl
      | cons a t ih =>
        intro ha
        rw [List.map_cons, List.map_cons, List.map_cons, ← ih fun y hy => ha y (List.mem_cons_of_mem _ hy)]
        congr 1
        obtain ⟨x, hx, e⟩ := ha a List.mem_cons_self
        have e2 : a.n = x.n := congrArg F.name e
        rw [e, e2]
        have h1 := atD_f hs x.n
        rw [getF_hit hs hx] at h1
        exact h1
    rw [e1 ys h.each, e1 fl fun y hy => ⟨y, hy, rfl⟩]
    exact hp.map _
  obtain ⟨l2, h1, h2⟩ := perm_lift hpf
  have hsr : SrtD l2 := by
    rw [srtD_iff, h2, ← hf]
    exact srtD_iff.1 hs
  refine ⟨m2, D2, l2, k, ⟨fun i hi => hi.2, ⟨hg, hB.lt⟩, hB, ⟨hm2, h.m2.lt⟩, by rw [← h1.length_eq]; exact h.m2, h.says.perm h1, hsr, fun x hx => h.files x (h1.mem_iff.2 hx), apart_perm h.apart h1⟩, h2, hk⟩
end Go.Proofs.Ytggcdlhgmikemaa.plt
