/- Opening a []int, a plate's Step, a []Step that are handed in to a law. No condition. -/
import Derived.Test.YtggcdlhgmikemaaOpen
import Derived.Test.YtggcdlhgmikemaaPds
import Derived.Deep.Slices
namespace Go.Proofs.Ytggcdlhgmikemaa.opn
open Go.ChangeShapes Go.WideShapes Go.ChangeAt Go.RowKit
open Go.Proofs.Ytggcdlhgmikemaa.oct (In8)
open Go.Proofs.Ytggcdlhgmikemaa.plt (T ienc ienc_len)
open Go.Proofs.Ytggcdlhgmikemaa.rowg (InG)

def I64 (n : Int) : Prop := -9223372036854775808 ≤ n ∧ n ≤ 9223372036854775807
theorem li64_wf {n : Int} (h : (Lit.int .i64 n).wf = true) : I64 n := by
  have h1 : IntKind.i64.min = -9223372036854775808 := rfl
  have h2 : IntKind.i64.max = 9223372036854775807 := rfl
  simp only [Lit.wf, Bool.and_eq_true, decide_eq_true_eq] at h
  exact ⟨by omega, by omega⟩
theorem lAll_mem {H : Type} {P : Program} {e : TypeId} {n : Nat} {d : DataW H} : ∀ {l : List (DataW H)}, d ∈ l → n ∈ d.weights P e → n ∈ DataW.weightsAll P e l
  | y :: l, h, hn => by
    rw [DataW.weightsAll, List.mem_append]
    rcases List.mem_cons.1 h with rfl | h
    · exact Or.inl hn
    · exact Or.inr (lAll_mem h hn)
/-- bytes in a field: its cell, its row -/
theorem lopen_bytes {H : Type} {enc : TypeId × Value → H} {W : World} {fuel : Nat} {c0 : Value} {d0 : DataW H} {p : List MemPlace}
    (h0 : DataW.trod enc Try.prog W 0 (fun _ => true) true fuel 33 [c0] = some (d0, p)) :
    ∃ (a0 : Option Addr) (cap : Nat) (l : List UInt8), c0 = .slice a0 l.length cap ∧ In8 W a0 l ∧ l.length + 1 ≤ Rows.uptoBulk d0 ∧ (a0 = none → cap = 0) ∧ l.length ≤ cap ∧ ((∃ n, n ∈ d0.weights Try.prog 33 ∧ l.length ≤ n) ∨ l.length = 0) := by
  have hc : ∃ a0 len cap, c0 = .slice a0 len cap := by
    rcases Deep.open_slice Try.underlying33 h0 with ⟨hcs, _⟩ | ⟨a, len, cap, _, _, _, _, hcs, _⟩
    · injection hcs with e; exact ⟨_, _, _, e⟩
    · injection hcs with e; exact ⟨_, _, _, e⟩
  obtain ⟨a0, len, cap, rfl⟩ := hc
  have h1 : DataW.Trod enc Try.prog W 0 (fun _ => true) true 33 (.slice a0 len cap) d0 p := ⟨fuel, by simpa [Value.cells] using h0⟩
  obtain ⟨l, rfl, h2, h3, h4, h5, h6⟩ := open_bytes h1
  exact ⟨a0, cap, l, rfl, h2, h3, h4, h5, h6⟩
/-- what an opened int has -/
structure NtQ {H : Type} (_W : World) (_t : TypeId) (x : Int) (_d : DataW H) : Prop where
  i : I64 x
theorem NtQ.up {H : Type} {W : World} {t t2 : TypeId} {x : Int} {d d2 : DataW H} (q : NtQ W t x d) (_ : ∀ n, n ∈ d.weights Try.prog t → n ∈ d2.weights Try.prog t2) : NtQ W t2 x d2 := ⟨q.i⟩
theorem open_nt {H : Type} {enc : TypeId × Value → H} {W : World} (fuel : Nat) (cs : List Value) (d : DataW H) (p : List MemPlace)
    (h : DataW.trod enc Try.prog W 0 (fun _ => true) true fuel 3 cs = some (d, p)) : ∃ m, cs = ienc m ∧ NtQ W 3 m d := by
  obtain ⟨k, e, _, hw⟩ := DataW.trod_int Try.underlying3 h
  exact ⟨k, e, ⟨li64_wf hw⟩⟩
theorem open_nts {H : Type} {enc : TypeId × Value → H} {W : World} {a0 : Option Addr} {len cap : Nat} {d0 : DataW H} {p : List MemPlace}
    (h0 : DataW.Trod enc Try.prog W 0 (fun _ => true) true 34 (.slice a0 len cap) d0 p) :
    ∃ l : List Int, l.length = len ∧ InG ienc 1 W a0 l ∧ (a0 = none → cap = 0) ∧ l.length ≤ cap ∧ ((∃ n, n ∈ d0.weights Try.prog 34 ∧ l.length ≤ n) ∨ l.length = 0) ∧ ∀ x ∈ l, NtQ W 34 x d0 := by
  obtain ⟨l, hl, hin, hn, hcp, hx⟩ := rowg.open_g (enc := ienc) (k := 1) ienc_len (by decide) Try.underlying34 (by kernel_rfl) (NtQ (H := H) W 3) open_nt h0
  rcases hx with ⟨rfl, rfl⟩ | ⟨D, m, hlm, rfl, hq⟩
  · obtain rfl : l = [] := by simpa using hl
    exact ⟨[], hl, hin, hn, hcp, Or.inr rfl, fun x hx => by cases hx⟩
  · refine ⟨l, hl, hin, hn, hcp, Or.inl ⟨(((List.range len).map D).length + ((List.range (m - len)).map fun j => D (len + j)).length) * Try.prog.bytesOf 3, ?_, ?_⟩, fun x hx => ?_⟩
    · simp only [DataW.weights, Try.underlying34]
      exact List.mem_cons_self
    · have hb : 1 ≤ Try.prog.bytesOf 3 := of_decide_eq_true (by kernel_rfl)
      have h1 : ((List.range len).map D).length = len := by rw [List.length_map, List.length_range]
      rw [hl, h1]
      exact Nat.le_trans (Nat.le_add_right _ _) (Nat.le_mul_of_pos_right _ hb)
    · obtain ⟨i, hi, rfl⟩ := List.mem_iff_getElem.1 hx
      have q := hq i hi
      have hm : D i ∈ (List.range len).map D := List.mem_map_of_mem (List.mem_range.2 (by omega))
      have hw : ∀ n, n ∈ (D i).weights Try.prog 3 → n ∈ (DataW.slice ((List.range len).map D) ((List.range (m - len)).map fun j => D (len + j))).weights Try.prog 34 := fun n hn => by
        simp only [DataW.weights, Try.underlying34]
        exact List.mem_cons_of_mem _ (List.mem_append_left _ (lAll_mem hm hn))
      exact q.up hw
/-- ints in a field -/
theorem lopen_nts {H : Type} {enc : TypeId × Value → H} {W : World} {fuel : Nat} {c0 : Value} {d0 : DataW H} {p : List MemPlace}
    (h0 : DataW.trod enc Try.prog W 0 (fun _ => true) true fuel 34 [c0] = some (d0, p)) :
    ∃ (a0 : Option Addr) (cap : Nat) (l : List Int), c0 = .slice a0 l.length cap ∧ InG ienc 1 W a0 l ∧ (a0 = none → cap = 0) ∧ l.length ≤ cap ∧ ((∃ n, n ∈ d0.weights Try.prog 34 ∧ l.length ≤ n) ∨ l.length = 0) ∧ ∀ x ∈ l, I64 x := by
  have hc : ∃ a0 len cap, c0 = .slice a0 len cap := by
    rcases Deep.open_slice Try.underlying34 h0 with ⟨hcs, _⟩ | ⟨a, len, cap, _, _, _, _, hcs, _⟩
    · injection hcs with e; exact ⟨_, _, _, e⟩
    · injection hcs with e; exact ⟨_, _, _, e⟩
  obtain ⟨a0, len, cap, rfl⟩ := hc
  have h1 : DataW.Trod enc Try.prog W 0 (fun _ => true) true 34 (.slice a0 len cap) d0 p := ⟨fuel, by simpa [Value.cells] using h0⟩
  obtain ⟨l, rfl, h2, h3, h4, h5, h6⟩ := open_nts h1
  exact ⟨a0, cap, l, rfl, h2, h3, h4, h5, fun x hx => (h6 x hx).i⟩
/-- a call's step -/
structure SP where
  k : Int
  n : T
  p : Option Addr
  c : Nat
  d : T
  m : Int
  q : Option Addr
  e : Nat
  ks : List Int
instance : Inhabited SP := ⟨⟨0, [], none, 0, [], 0, none, 0, []⟩⟩
def spenc (x : SP) : List Value := [.int .i64 x.k, .string ⟨x.n.toArray⟩, .slice x.p x.d.length x.c, .int .i64 x.m, .slice x.q x.ks.length x.e]
theorem spenc_len : ∀ a, (spenc a).length = 5 := fun _ => rfl
structure SpQ {H : Type} (W : World) (t : TypeId) (x : SP) (d : DataW H) : Prop where
  row : In8 W x.p x.d
  nil : x.p = none → x.c = 0
  ik : I64 x.k
  im : I64 x.m
  nts : InG ienc 1 W x.q x.ks
  each : ∀ y ∈ x.ks, I64 y
  name : ∃ n, n ∈ d.weights Try.prog t ∧ x.n.length ≤ n
  many : (∃ n, n ∈ d.weights Try.prog t ∧ x.d.length ≤ n) ∨ x.d.length = 0
  mints : (∃ n, n ∈ d.weights Try.prog t ∧ x.ks.length ≤ n) ∨ x.ks.length = 0
theorem SpQ.up {H : Type} {W : World} {t t2 : TypeId} {x : SP} {d d2 : DataW H} (q : SpQ W t x d) (hw : ∀ n, n ∈ d.weights Try.prog t → n ∈ d2.weights Try.prog t2) : SpQ W t2 x d2 :=
  ⟨q.row, q.nil, q.ik, q.im, q.nts, q.each, q.name.imp (fun n ⟨h1, h2⟩ => ⟨hw n h1, h2⟩), q.many.imp (fun ⟨n, h1, h2⟩ => ⟨n, hw n h1, h2⟩) id, q.mints.imp (fun ⟨n, h1, h2⟩ => ⟨n, hw n h1, h2⟩) id⟩
set_option maxRecDepth 8000 in
theorem open_step {H : Type} {enc : TypeId × Value → H} {W : World} (fuel : Nat) (cs : List Value) (d : DataW H) (p : List MemPlace)
    (h : DataW.trod enc Try.prog W 0 (fun _ => true) true fuel 36 cs = some (d, p)) : ∃ m, cs = spenc m ∧ SpQ W 36 m d := by
  obtain ⟨xs, n, _, hx, hcl, hxl, hf⟩ := DataW.trod_struct Try.underlying36 h
  have h5 : Try.prog.cellsOf 36 = 5 := by kernel_rfl
  have hcb : Try.prog.cellsOf 33 = 1 := by kernel_rfl
  have hci : Try.prog.cellsOf 3 = 1 := by kernel_rfl
  have hcn : Try.prog.cellsOf 34 = 1 := by kernel_rfl
  have hcs : Try.prog.cellsOf 9 = 1 := by kernel_rfl
  rw [h5] at hcl
  match xs, hxl with
  | [y0, y1, y2, y3, y4], _ =>
    match cs, hcl with
    | [c0, c1, c2, c3, c4], _ =>
      have f0 := hf 0 _ rfl
      have f1 := hf 1 _ rfl
      have f2 := hf 2 _ rfl
      have f3 := hf 3 _ rfl
      have f4 := hf 4 _ rfl
      have g0 : DataW.trod enc Try.prog W 0 (fun _ => true) true n 3 [c0] = some y0 := by
        have this : DataW.trod enc Try.prog W 0 (fun _ => true) true n 3 (List.take (Try.prog.cellsOf 3) (List.drop 0 [c0, c1, c2, c3, c4])) = some y0 := f0
        rw [hci] at this
        exact this
      have g1 : DataW.trod enc Try.prog W 0 (fun _ => true) true n 9 [c1] = some y1 := by
        have this : DataW.trod enc Try.prog W 0 (fun _ => true) true n 9 (List.take (Try.prog.cellsOf 9) (List.drop 1 [c0, c1, c2, c3, c4])) = some y1 := f1
        rw [hcs] at this
        exact this
      have g2 : DataW.trod enc Try.prog W 0 (fun _ => true) true n 33 [c2] = some y2 := by
        have this : DataW.trod enc Try.prog W 0 (fun _ => true) true n 33 (List.take (Try.prog.cellsOf 33) (List.drop 2 [c0, c1, c2, c3, c4])) = some y2 := f2
        rw [hcb] at this
        exact this
      have g3 : DataW.trod enc Try.prog W 0 (fun _ => true) true n 3 [c3] = some y3 := by
        have this : DataW.trod enc Try.prog W 0 (fun _ => true) true n 3 (List.take (Try.prog.cellsOf 3) (List.drop 3 [c0, c1, c2, c3, c4])) = some y3 := f3
        rw [hci] at this
        exact this
      have g4 : DataW.trod enc Try.prog W 0 (fun _ => true) true n 34 [c4] = some y4 := by
        have this : DataW.trod enc Try.prog W 0 (fun _ => true) true n 34 (List.take (Try.prog.cellsOf 34) (List.drop 4 [c0, c1, c2, c3, c4])) = some y4 := f4
        rw [hcn] at this
        exact this
      obtain ⟨y4d, y4p⟩ := y4
      obtain ⟨k0, e0, r0, w0⟩ := DataW.trod_int Try.underlying3 g0
      obtain ⟨s1, e1, r1, w1⟩ := DataW.trod_string Try.underlying9 g1
      obtain ⟨a2, cap2, l2, e2, q1, q2, q3, q4, q5⟩ := lopen_bytes g2
      obtain ⟨k3, e3, r3, w3⟩ := DataW.trod_int Try.underlying3 g3
      obtain ⟨a4, cap4, l4, e4, m1, m2, m3, m4, m5⟩ := lopen_nts g4
      cases e0
      cases e1
      cases e2
      cases e3
      cases e4
      simp only [Prod.mk.injEq] at hx
      have e1 : s1 = ⟨s1.data.toList.toArray⟩ := by rw [Array.toArray_toList]
      refine ⟨⟨k0, s1.data.toList, a2, cap2, l2, k3, a4, cap4, l4⟩, by unfold spenc; rw [← e1], ⟨q1, q3, li64_wf w0, li64_wf w3, m1, m5, ?_, ?_, ?_⟩⟩
      · rw [hx.1]
        refine ⟨s1.data.toList.length, ?_, Nat.le_refl _⟩
        cases r1
        simp [DataW.weights, DataW.weightsEach, Try.underlying36]
      · rw [hx.1]
        rcases q5 with ⟨n5, m6, l5⟩ | m6
        · exact Or.inl ⟨n5, by simp [DataW.weights, DataW.weightsEach, Try.underlying36, m6], l5⟩
        · exact Or.inr m6
      · rw [hx.1]
        rcases m4 with ⟨n5, m6, l5⟩ | m6
        · exact Or.inl ⟨n5, by simp [DataW.weights, DataW.weightsEach, Try.underlying36, m6], l5⟩
        · exact Or.inr m6
theorem open_steps {H : Type} {enc : TypeId × Value → H} {W : World} {a0 : Option Addr} {len cap : Nat} {d0 : DataW H} {p : List MemPlace}
    (h0 : DataW.Trod enc Try.prog W 0 (fun _ => true) true 22 (.slice a0 len cap) d0 p) :
    ∃ l : List SP, l.length = len ∧ InG spenc 5 W a0 l ∧ (a0 = none → cap = 0) ∧ l.length ≤ cap ∧ ((∃ n, n ∈ d0.weights Try.prog 22 ∧ l.length ≤ n) ∨ l.length = 0) ∧ ∀ x ∈ l, SpQ W 22 x d0 := by
  obtain ⟨l, hl, hin, hn, hcp, hx⟩ := rowg.open_g (enc := spenc) (k := 5) spenc_len (by decide) Try.underlying22 (by kernel_rfl) (SpQ (H := H) W 36) open_step h0
  rcases hx with ⟨rfl, rfl⟩ | ⟨D, m, hlm, rfl, hq⟩
  · obtain rfl : l = [] := by simpa using hl
    exact ⟨[], hl, hin, hn, hcp, Or.inr rfl, fun x hx => by cases hx⟩
  · refine ⟨l, hl, hin, hn, hcp, Or.inl ⟨(((List.range len).map D).length + ((List.range (m - len)).map fun j => D (len + j)).length) * Try.prog.bytesOf 36, ?_, ?_⟩, fun x hx => ?_⟩
    · simp only [DataW.weights, Try.underlying22]
      exact List.mem_cons_self
    · have hb : 1 ≤ Try.prog.bytesOf 36 := of_decide_eq_true (by kernel_rfl)
      have h1 : ((List.range len).map D).length = len := by rw [List.length_map, List.length_range]
      rw [hl, h1]
      exact Nat.le_trans (Nat.le_add_right _ _) (Nat.le_mul_of_pos_right _ hb)
    · obtain ⟨i, hi, rfl⟩ := List.mem_iff_getElem.1 hx
      have q := hq i hi
      have hm : D i ∈ (List.range len).map D := List.mem_map_of_mem (List.mem_range.2 (by omega))
      have hw : ∀ n, n ∈ (D i).weights Try.prog 36 → n ∈ (DataW.slice ((List.range len).map D) ((List.range (m - len)).map fun j => D (len + j))).weights Try.prog 22 := fun n hn => by
        simp only [DataW.weights, Try.underlying22]
        exact List.mem_cons_of_mem _ (List.mem_append_left _ (lAll_mem hm hn))
      exact q.up hw
/-- a Step by value -/
theorem open_stepv {H : Type} {enc : TypeId × Value → H} {W : World} {r : Reach} {b0 : Nat} {v : Value} {d0 : DataW H} {p : List MemPlace}
    (hval : Value.okWide Try.prog W r b0 36 v) (h0 : DataW.Trod enc Try.prog W 0 (fun _ => true) true 36 v d0 p) :
    ∃ x : SP, v = .agg (spenc x).toArray ∧ SpQ W 36 x d0 := by
  simp only [Value.okWide, Try.underlying36] at hval
  obtain ⟨csv, rfl, hsz, _⟩ := hval
  obtain ⟨fuel, hf0⟩ := h0
  obtain ⟨m, e1, e2⟩ := open_step fuel csv.toList d0 p (by simpa [Value.cells] using hf0)
  exact ⟨m, by rw [← e1], e2⟩
/-- a step that reaches a law -/
structure GoodS (w : World) (x : SP) : Prop where
  row : In8 w x.p x.d
  nil : x.p = none → x.c = 0
  nts : InG ienc 1 w x.q x.ks
  each : ∀ y ∈ x.ks, I64 y
  ik : I64 x.k
  im : I64 x.m
  name : x.n.length ≤ 140737488351232
  fit : x.d.length ≤ 140737488351232
  ints : x.ks.length ≤ 140737488351232
theorem spq_reach {H : Type} {ts : List TypeId} {ds : List (DataW H)} {d : DataW H} {t : TypeId} {W : World} {x : SP} (hz : (DataW.weightsEach Try.prog ts ds).all (· ≤ reachBytes) = true) (j : Nat) (h1 : ts[j]? = some t) (h2 : ds[j]? = some d) (h : SpQ W t x d) : GoodS W x :=
  ⟨h.row, h.nil, h.nts, h.each, h.ik, h.im, bytes_reach hz j h1 h2 (Or.inl h.name), bytes_reach hz j h1 h2 h.many, bytes_reach hz j h1 h2 h.mints⟩
end Go.Proofs.Ytggcdlhgmikemaa.opn
