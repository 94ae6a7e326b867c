/- Opening a []api.Member argument of a law: a row of members (InM), its texts and numbers, the bulk's bound; the seven laws in the cards' shapes are in XJsnLf. -/
import Derived.Test.YtbgnoobgnpebdaaDoorOpen
import Derived.Test.YtbgnoobgnpebdaaDoorJsn6
import Derived.Deep.Slices
namespace Go.Proofs.YtbgnoobgnpebdaaDoor.opn
open Go.ChangeShapes Go.WideShapes Go.ChangeAt Go.RowKit
open Go.Proofs.YtbgnoobgnpebdaaDoor.jsn (Mem tx menc menc_len InM FitM i64)

instance : Inhabited Mem := ⟨⟨[], 0, [], 0, false⟩⟩
theorem i64_wf {n : Int} (h : (Lit.int .i64 n).wf = true) : -9223372036854775808 ≤ n ∧ n ≤ 9223372036854775807 := by
  have h1 : IntKind.i64.min = -9223372036854775808 := rfl
  have h2 : IntKind.i64.max = 9223372036854775807 := rfl
  simp only [Lit.wf, Bool.and_eq_true, decide_eq_true_eq] at h
  omega
/-- what an opened member has -/
def MemQ {H : Type} (m : Mem) (d : DataW H) : Prop := m.name.length + m.text.length + 3 ≤ Rows.uptoBulk d ∧ i64 m ∧ m.name.length ∈ d.weights Tryd.prog 38 ∧ m.text.length ∈ d.weights Tryd.prog 38
set_option maxRecDepth 8000 in
theorem open_mem {H : Type} {enc : TypeId × Value → H} {W : World} (fuel : Nat) (cs : List Value) (d : DataW H) (p : List MemPlace)
    (h : DataW.trod enc Tryd.prog W 0 (fun _ => true) true fuel 38 cs = some (d, p)) : ∃ m : Mem, cs = menc m ∧ MemQ m d := by
  obtain ⟨xs, n, _, hx, hcl, hxl, hf⟩ := DataW.trod_struct Tryd.underlying38 h
  have h5 : Tryd.prog.cellsOf 38 = 5 := by kernel_rfl
  have h1 : Tryd.prog.cellsOf 9 = 1 := by kernel_rfl
  have h2 : Tryd.prog.cellsOf 3 = 1 := by kernel_rfl
  have h3 : Tryd.prog.cellsOf 4 = 1 := by kernel_rfl
  rw [h5] at hcl
  match xs, hxl with
  | [y0, y1, y2, y3, y4], _ =>
    match cs, hcl with
    | [c0, c1, c2, c3, c4], _ =>
      have f0 := hf 0 _ rfl
      have f1 := hf 1 _ rfl
      have f2 := hf 2 _ rfl
      have f3 := hf 3 _ rfl
      have f4 := hf 4 _ rfl
      have g0 : DataW.trod enc Tryd.prog W 0 (fun _ => true) true n 9 [c0] = some y0 := by
        have this : DataW.trod enc Tryd.prog W 0 (fun _ => true) true n 9 (List.take (Tryd.prog.cellsOf 9) (List.drop 0 [c0, c1, c2, c3, c4])) = some y0 := f0
        rw [h1] at this
        exact this
      have g1 : DataW.trod enc Tryd.prog W 0 (fun _ => true) true n 3 [c1] = some y1 := by
        have this : DataW.trod enc Tryd.prog W 0 (fun _ => true) true n 3 (List.take (Tryd.prog.cellsOf 3) (List.drop 1 [c0, c1, c2, c3, c4])) = some y1 := f1
        rw [h2] at this
        exact this
      have g2 : DataW.trod enc Tryd.prog W 0 (fun _ => true) true n 9 [c2] = some y2 := by
        have this : DataW.trod enc Tryd.prog W 0 (fun _ => true) true n 9 (List.take (Tryd.prog.cellsOf 9) (List.drop 2 [c0, c1, c2, c3, c4])) = some y2 := f2
        rw [h1] at this
        exact this
      have g3 : DataW.trod enc Tryd.prog W 0 (fun _ => true) true n 3 [c3] = some y3 := by
        have this : DataW.trod enc Tryd.prog W 0 (fun _ => true) true n 3 (List.take (Tryd.prog.cellsOf 3) (List.drop 3 [c0, c1, c2, c3, c4])) = some y3 := f3
        rw [h2] at this
        exact this
      have g4 : DataW.trod enc Tryd.prog W 0 (fun _ => true) true n 4 [c4] = some y4 := by
        have this : DataW.trod enc Tryd.prog W 0 (fun _ => true) true n 4 (List.take (Tryd.prog.cellsOf 4) (List.drop 4 [c0, c1, c2, c3, c4])) = some y4 := f4
        rw [h3] at this
        exact this
      obtain ⟨s0, e0, r0, _⟩ := DataW.trod_string Tryd.underlying9 g0
      obtain ⟨k1, e1, r1, _⟩ := DataW.trod_int Tryd.underlying3 g1
      obtain ⟨s2, e2, r2, _⟩ := DataW.trod_string Tryd.underlying9 g2
      obtain ⟨n3, e3, r3, w3⟩ := DataW.trod_int Tryd.underlying3 g3
      obtain ⟨b4, e4, r4⟩ := DataW.trod_bool Tryd.underlying4 g4
      cases e0
      cases e1
      cases e2
      cases e3
      cases e4
      simp only [Prod.mk.injEq] at hx
      rw [hx.1, r0, r1, r2, r3, r4]
      refine ⟨⟨s0.data.toList, k1, s2.data.toList, n3, b4⟩, rfl, ?_, i64_wf w3, by simp [DataW.weights, DataW.weightsEach, Tryd.underlying38], by simp [DataW.weights, DataW.weightsEach, Tryd.underlying38]⟩
      simp only [List.map_cons, List.map_nil, Rows.uptoBulk, Rows.uptoBulkAll]
      omega
def memBulk : List Mem → Nat
  | [] => 0
  | x :: r => x.name.length + x.text.length + 3 + memBulk r
theorem memBulk_mem : ∀ {ps : List Mem} {x : Mem}, x ∈ ps → x.name.length + x.text.length + 3 ≤ memBulk ps
  | y :: r, x, h => by
    rw [memBulk]
    rcases List.mem_cons.1 h with rfl | h
    · omega
    · have := memBulk_mem h; omega
theorem memBulk_len : ∀ ps : List Mem, ps.length ≤ memBulk ps
  | [] => Nat.le_refl _
  | y :: r => by have := memBulk_len r; rw [memBulk, List.length_cons]; omega
theorem mems_bulk {H : Type} (D : Nat → DataW H) : ∀ (ps : List Mem) (k : Nat), (∀ i (hi : i < ps.length), (ps[i]).name.length + (ps[i]).text.length + 3 ≤ Rows.uptoBulk (D (k + i))) → memBulk ps ≤ Rows.uptoBulkAll ((List.range' k ps.length).map D)
  | [], _, _ => by simp [memBulk, Rows.uptoBulkAll]
  | x :: r, k, h => by
    have h1 := mems_bulk D r (k + 1) fun i hi => by
      have := h (i + 1) (by simp; omega)
      rw [show k + 1 + i = k + (i + 1) by omega]
      simpa using this
    have h2 := h 0 (by simp)
    simp only [List.length_cons, List.range'_succ, List.map_cons, Rows.uptoBulkAll, memBulk]
    simp at h2
    omega
theorem weightsAll_memM {H : Type} {P : Program} {e : TypeId} {n : Nat} {d : DataW H} : ∀ {l : List (DataW H)}, d ∈ l → n ∈ d.weights P e → n ∈ DataW.weightsAll P e l
  | y :: l, h, hn => by
    rw [DataW.weightsAll, List.mem_append]
    rcases List.mem_cons.1 h with rfl | h
    · exact Or.inl hn
    · exact Or.inr (weightsAll_memM h hn)
theorem open_members {H : Type} {enc : TypeId × Value → H} {W : World} {a0 : Option Addr} {len cap : Nat} {d0 : DataW H} {p : List MemPlace}
    (h0 : DataW.Trod enc Tryd.prog W 0 (fun _ => true) true 22 (.slice a0 len cap) d0 p) :
    ∃ ps : List Mem, ps.length = len ∧ InM W a0 ps ∧ memBulk ps + 1 ≤ Rows.uptoBulk d0 ∧ (a0 = none → cap = 0) ∧ ps.length ≤ cap ∧ ((∃ n, n ∈ d0.weights Tryd.prog 22 ∧ ps.length * 56 ≤ n) ∨ ps.length * 56 = 0) ∧ ∀ x ∈ ps, i64 x ∧ x.name.length ∈ d0.weights Tryd.prog 22 ∧ x.text.length ∈ d0.weights Tryd.prog 22 := by
  obtain ⟨ps, hl, hin, hn, hc, hx⟩ := rowg.open_g (enc := menc) (k := 5) menc_len (by decide) Tryd.underlying22 (by kernel_rfl) (MemQ (H := H)) open_mem h0
  rcases hx with ⟨rfl, rfl⟩ | ⟨D, m, hlm, rfl, hq⟩
  · obtain rfl : ps = [] := by simpa using hl
    exact ⟨[], hl, hin, by simpa [memBulk] using one_le d0, hn, hc, Or.inr rfl, fun x hx => by cases hx⟩
  · refine ⟨ps, hl, hin, ?_, hn, hc, Or.inl ⟨(((List.range len).map D).length + ((List.range (m - len)).map fun j => D (len + j)).length) * Tryd.prog.bytesOf 38, ?_, ?_⟩, fun x hx => ?_⟩
    · have h1 := mems_bulk D ps 0 fun i hi => by rw [Nat.zero_add]; exact (hq i hi).1
      rw [hl, ← List.range_eq_range'] at h1
      simp only [Rows.uptoBulk]
      omega
    · simp only [DataW.weights, Tryd.underlying22]
      exact List.mem_cons_self
    · rw [hl, show Tryd.prog.bytesOf 38 = 56 by kernel_rfl, List.length_map, List.length_range]
      omega
    · obtain ⟨i, hi, rfl⟩ := List.mem_iff_getElem.1 hx
      obtain ⟨_, hi64, hw, hw'⟩ := hq i hi
      have hm : D i ∈ (List.range len).map D := List.mem_map_of_mem (List.mem_range.2 (by omega))
      simp only [DataW.weights, Tryd.underlying22]
      exact ⟨hi64, List.mem_cons_of_mem _ (List.mem_append_left _ (weightsAll_memM hm hw)), List.mem_cons_of_mem _ (List.mem_append_left _ (weightsAll_memM hm hw'))⟩
theorem fit_bulk {H : Type} {d : DataW H} {t : TypeId} {ps : List Mem} (hb : memBulk ps ≤ 1048576) (h : ∀ x ∈ ps, i64 x ∧ x.name.length ∈ d.weights Tryd.prog t ∧ x.text.length ∈ d.weights Tryd.prog t) : FitM ps := fun x hx => by
  have := memBulk_mem hx
  exact ⟨by omega, by omega, (h x hx).1⟩
theorem mems_reach {H : Type} {ts : List TypeId} {ds : List (DataW H)} {d : DataW H} {t : TypeId} {ps : List Mem} (hz : (DataW.weightsEach Tryd.prog ts ds).all (· ≤ reachBytes) = true) (j : Nat) (h1 : ts[j]? = some t) (h2 : ds[j]? = some d)
    (h : ∀ x ∈ ps, i64 x ∧ x.name.length ∈ d.weights Tryd.prog t ∧ x.text.length ∈ d.weights Tryd.prog t) : FitM ps := fun x hx =>
  ⟨bytes_reach hz j h1 h2 (Or.inl ⟨_, (h x hx).2.1, Nat.le_refl _⟩), bytes_reach hz j h1 h2 (Or.inl ⟨_, (h x hx).2.2, Nat.le_refl _⟩), (h x hx).1⟩
end Go.Proofs.YtbgnoobgnpebdaaDoor.opn
