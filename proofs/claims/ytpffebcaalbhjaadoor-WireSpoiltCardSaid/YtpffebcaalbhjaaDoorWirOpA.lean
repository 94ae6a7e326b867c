/- Opening a []ref.Put, a ref.Put that is handed in to a law: a row of puts (InP), each in form (GoodP), their bulk, their weights. No condition. -/
import Derived.Test.YtpffebcaalbhjaaDoorOpen
import Derived.Test.YtpffebcaalbhjaaDoorWirR
import Derived.Deep.Slices
namespace Go.Proofs.YtpffebcaalbhjaaDoor.opn
open Go.ChangeShapes Go.WideShapes Go.ChangeAt Go.RowKit
open Go.Proofs.YtpffebcaalbhjaaDoor.wir (T senc senc_len InS PutA penc penc_len InP GoodP)

instance : Inhabited PutA := ⟨⟨0, 0, [], none, 0, []⟩⟩
theorem wi64_wf {n : Int} (h : (Lit.int .i64 n).wf = true) : -9223372036854775808 ≤ n ∧ n ≤ 9223372036854775807 := by
  have h1 : IntKind.i64.min = -9223372036854775808 := rfl
  have h2 : IntKind.i64.max = 9223372036854775807 := rfl
  simp only [Lit.wf, Bool.and_eq_true, decide_eq_true_eq] at h
  omega
def txtB : List T → Nat
  | [] => 0
  | x :: r => x.length + 1 + txtB r
theorem txtB_mem : ∀ {l : List T} {x : T}, x ∈ l → x.length + 1 ≤ txtB l
  | y :: r, x, h => by
    rw [txtB]
    rcases List.mem_cons.1 h with rfl | h
    · omega
    · have := txtB_mem h; omega
theorem txtB_len : ∀ l : List T, l.length ≤ txtB l
  | [] => Nat.le_refl _
  | y :: r => by have := txtB_len r; rw [txtB, List.length_cons]; omega
theorem txtB_bulk {H : Type} (D : Nat → DataW H) : ∀ (l : List T) (k : Nat), (∀ i (hi : i < l.length), (l[i]).length + 1 ≤ Rows.uptoBulk (D (k + i))) → txtB l ≤ Rows.uptoBulkAll ((List.range' k l.length).map D)
  | [], _, _ => by simp [txtB, Rows.uptoBulkAll]
  | x :: r, k, h => by
    have h1 := txtB_bulk D r (k + 1) fun i hi => by
      have := h (i + 1) (by simp; omega)
      rw [show k + 1 + i = k + (i + 1) by omega]
      simpa using this
    have h2 := h 0 (by simp)
    simp only [List.length_cons, List.range'_succ, List.map_cons, Rows.uptoBulkAll, txtB]
    simp at h2
    omega
theorem wAll_mem {H : Type} {P : Program} {e : TypeId} {n : Nat} {d : DataW H} : ∀ {l : List (DataW H)}, d ∈ l → n ∈ d.weights P e → n ∈ DataW.weightsAll P e l
  | y :: l, h, hn => by
    rw [DataW.weightsAll, List.mem_append]
    rcases List.mem_cons.1 h with rfl | h
    · exact Or.inl hn
    · exact Or.inr (wAll_mem h hn)
/-- what an opened text has -/
def WTxtQ {H : Type} (x : T) (d : DataW H) : Prop := x.length + 1 ≤ Rows.uptoBulk d ∧ x.length ∈ d.weights Tryd.prog 9
theorem wopen_txt {H : Type} {enc : TypeId × Value → H} {W : World} (fuel : Nat) (cs : List Value) (d : DataW H) (p : List MemPlace)
    (h : DataW.trod enc Tryd.prog W 0 (fun _ => true) true fuel 9 cs = some (d, p)) : ∃ x : T, cs = senc x ∧ WTxtQ x d := by
  obtain ⟨s0, e0, r0, _⟩ := DataW.trod_string Tryd.underlying9 h
  have r1 : d = .lit (.string s0.data.toList) := by injection r0
  refine ⟨s0.data.toList, e0, ?_, ?_⟩
  · rw [r1]; simp [Rows.uptoBulk]
  · rw [r1]; simp [DataW.weights]
/-- a list of texts in a field: its cell, its row -/
theorem wopen_texts {H : Type} {enc : TypeId × Value → H} {W : World} {fuel : Nat} {c0 : Value} {d0 : DataW H} {p : List MemPlace}
    (h0 : DataW.trod enc Tryd.prog W 0 (fun _ => true) true fuel 41 [c0] = some (d0, p)) :
    ∃ (a0 : Option Addr) (cap : Nat) (l : List T), c0 = .slice a0 l.length cap ∧ InS W a0 l ∧ txtB l + 1 ≤ Rows.uptoBulk d0 ∧ (a0 = none → cap = 0) ∧ l.length ≤ cap ∧ ((∃ n, n ∈ d0.weights Tryd.prog 41 ∧ l.length ≤ n) ∨ l.length = 0) ∧ ∀ x ∈ l, x.length ∈ d0.weights Tryd.prog 41 := by
  have hc : ∃ a0 len cap, c0 = .slice a0 len cap := by
    rcases Deep.open_slice Tryd.underlying41 h0 with ⟨hcs, _⟩ | ⟨a, len, cap, _, _, _, _, hcs, _⟩
    · injection hcs with e; exact ⟨_, _, _, e⟩
    · injection hcs with e; exact ⟨_, _, _, e⟩
  obtain ⟨a0, len, cap, rfl⟩ := hc
  have h1 : DataW.Trod enc Tryd.prog W 0 (fun _ => true) true 41 (.slice a0 len cap) d0 p := ⟨fuel, by simpa [Value.cells] using h0⟩
  obtain ⟨l, hl, hin, hn, hcp, hx⟩ := rowg.open_g (enc := senc) (k := 1) senc_len (by decide) Tryd.underlying41 (by kernel_rfl) (WTxtQ (H := H)) wopen_txt h1
  rcases hx with ⟨rfl, rfl⟩ | ⟨D, m, hlm, rfl, hq⟩
  · obtain rfl : l = [] := by simpa using hl
    exact ⟨a0, 0, [], rfl, hin, by simpa [txtB] using one_le d0, hn, hcp, Or.inr rfl, fun x hx => by cases hx⟩
  · refine ⟨a0, cap, l, by rw [hl], hin, ?_, hn, hcp, Or.inl ⟨(((List.range len).map D).length + ((List.range (m - len)).map fun j => D (len + j)).length) * Tryd.prog.bytesOf 9, ?_, ?_⟩, fun x hx => ?_⟩
    · have h1 := txtB_bulk D l 0 fun i hi => by rw [Nat.zero_add]; exact (hq i hi).1
      rw [hl, ← List.range_eq_range'] at h1
      simp only [Rows.uptoBulk]
      omega
    · simp only [DataW.weights, Tryd.underlying41]
      exact List.mem_cons_self
    · rw [hl, show Tryd.prog.bytesOf 9 = 16 by kernel_rfl, List.length_map, List.length_range]
      omega
    · obtain ⟨i, hi, rfl⟩ := List.mem_iff_getElem.1 hx
      have hm : D i ∈ (List.range len).map D := List.mem_map_of_mem (List.mem_range.2 (by omega))
      simp only [DataW.weights, Tryd.underlying41]
      exact List.mem_cons_of_mem _ (List.mem_append_left _ (wAll_mem hm (hq i hi).2))
/-- the bulk of a put -/
def putK (x : PutA) : Nat := x.s.length + txtB x.l + 4
/-- what an opened put has: all of GoodP but the sizes, and what tells these -/
structure PutQ {H : Type} (W : World) (x : PutA) (d : DataW H) : Prop where
  bulk : putK x + 1 ≤ Rows.uptoBulk d
  ints : -9223372036854775808 ≤ x.n ∧ x.n ≤ 9223372036854775807
  kind : -9223372036854775808 ≤ x.k ∧ x.k ≤ 9223372036854775807
  row : InS W x.p x.l
  nil : x.p = none → x.c = 0
  room : x.l.length ≤ x.c
  text : x.s.length ∈ d.weights Tryd.prog 43
  many : (∃ n, n ∈ d.weights Tryd.prog 43 ∧ x.l.length ≤ n) ∨ x.l.length = 0
  texts : ∀ y ∈ x.l, y.length ∈ d.weights Tryd.prog 43
set_option maxRecDepth 8000 in
theorem open_put {H : Type} {enc : TypeId × Value → H} {W : World} (fuel : Nat) (cs : List Value) (d : DataW H) (p : List MemPlace)
    (h : DataW.trod enc Tryd.prog W 0 (fun _ => true) true fuel 43 cs = some (d, p)) : ∃ m : PutA, cs = penc m ∧ PutQ W m d := by
  obtain ⟨xs, n, _, hx, hcl, hxl, hf⟩ := DataW.trod_struct Tryd.underlying43 h
  have h5 : Tryd.prog.cellsOf 43 = 4 := by kernel_rfl
  have h1 : Tryd.prog.cellsOf 9 = 1 := by kernel_rfl
  have h2 : Tryd.prog.cellsOf 3 = 1 := by kernel_rfl
  have h3 : Tryd.prog.cellsOf 41 = 1 := by kernel_rfl
  rw [h5] at hcl
  match xs, hxl with
  | [y0, y1, y2, y3], _ =>
    match cs, hcl with
    | [c0, c1, c2, c3], _ =>
      have f0 := hf 0 _ rfl
      have f1 := hf 1 _ rfl
      have f2 := hf 2 _ rfl
      have f3 := hf 3 _ rfl
      have g0 : DataW.trod enc Tryd.prog W 0 (fun _ => true) true n 3 [c0] = some y0 := by
        have this : DataW.trod enc Tryd.prog W 0 (fun _ => true) true n 3 (List.take (Tryd.prog.cellsOf 3) (List.drop 0 [c0, c1, c2, c3])) = some y0 := f0
        rw [h2] at this
        exact this
      have g1 : DataW.trod enc Tryd.prog W 0 (fun _ => true) true n 3 [c1] = some y1 := by
        have this : DataW.trod enc Tryd.prog W 0 (fun _ => true) true n 3 (List.take (Tryd.prog.cellsOf 3) (List.drop 1 [c0, c1, c2, c3])) = some y1 := f1
        rw [h2] at this
        exact this
      have g2 : DataW.trod enc Tryd.prog W 0 (fun _ => true) true n 9 [c2] = some y2 := by
        have this : DataW.trod enc Tryd.prog W 0 (fun _ => true) true n 9 (List.take (Tryd.prog.cellsOf 9) (List.drop 2 [c0, c1, c2, c3])) = some y2 := f2
        rw [h1] at this
        exact this
      have g3 : DataW.trod enc Tryd.prog W 0 (fun _ => true) true n 41 [c3] = some y3 := by
        have this : DataW.trod enc Tryd.prog W 0 (fun _ => true) true n 41 (List.take (Tryd.prog.cellsOf 41) (List.drop 3 [c0, c1, c2, c3])) = some y3 := f3
        rw [h3] at this
        exact this
      obtain ⟨y3d, y3p⟩ := y3
      obtain ⟨k0, e0, r0, w0⟩ := DataW.trod_int Tryd.underlying3 g0
      obtain ⟨k1, e1, r1, w1⟩ := DataW.trod_int Tryd.underlying3 g1
      obtain ⟨s2, e2, r2, _⟩ := DataW.trod_string Tryd.underlying9 g2
      obtain ⟨a3, cap3, l3, e3, q1, q2, q3, q4, q5, q6⟩ := wopen_texts g3
      cases e0
      cases e1
      cases e2
      cases e3
      simp only [Prod.mk.injEq] at hx
      rw [hx.1, r0, r1, r2]
      refine ⟨⟨k0, k1, s2.data.toList, a3, cap3, l3⟩, rfl, ⟨?_, wi64_wf w1, wi64_wf w0, q1, q3, q4, by simp [DataW.weights, DataW.weightsEach, Tryd.underlying43], ?_, ?_⟩⟩
      · simp only [List.map_cons, List.map_nil, Rows.uptoBulk, Rows.uptoBulkAll, putK]
        omega
      · rcases q5 with ⟨n5, m5, l5⟩ | m5
        · exact Or.inl ⟨n5, by simp [DataW.weights, DataW.weightsEach, Tryd.underlying43, m5], l5⟩
        · exact Or.inr m5
      · intro y hy
        have := q6 y hy
        simp [DataW.weights, DataW.weightsEach, Tryd.underlying43, this]
def putsK : List PutA → Nat
  | [] => 0
  | x :: r => putK x + 1 + putsK r
theorem putsK_mem : ∀ {ps : List PutA} {x : PutA}, x ∈ ps → putK x + 1 ≤ putsK ps
  | y :: r, x, h => by
    rw [putsK]
    rcases List.mem_cons.1 h with rfl | h
    · omega
    · have := putsK_mem h; omega
theorem puts_bulk {H : Type} (D : Nat → DataW H) : ∀ (ps : List PutA) (k : Nat), (∀ i (hi : i < ps.length), putK (ps[i]) + 1 ≤ Rows.uptoBulk (D (k + i))) → putsK ps ≤ Rows.uptoBulkAll ((List.range' k ps.length).map D)
  | [], _, _ => by simp [putsK, Rows.uptoBulkAll]
  | x :: r, k, h => by
    have h1 := puts_bulk D r (k + 1) fun i hi => by
      have := h (i + 1) (by simp; omega)
      rw [show k + 1 + i = k + (i + 1) by omega]
      simpa using this
    have h2 := h 0 (by simp)
    simp only [List.length_cons, List.range'_succ, List.map_cons, Rows.uptoBulkAll, putsK]
    simp at h2
    omega
/-- sizes of a put in form, out of the bulk or out of the weights -/
structure PutW {H : Type} (W : World) (t : TypeId) (d : DataW H) (x : PutA) : Prop where
  ints : -9223372036854775808 ≤ x.n ∧ x.n ≤ 9223372036854775807
  kind : -9223372036854775808 ≤ x.k ∧ x.k ≤ 9223372036854775807
  row : InS W x.p x.l
  nil : x.p = none → x.c = 0
  room : x.l.length ≤ x.c
  text : x.s.length ∈ d.weights Tryd.prog t
  many : (∃ n, n ∈ d.weights Tryd.prog t ∧ x.l.length ≤ n) ∨ x.l.length = 0
  texts : ∀ y ∈ x.l, y.length ∈ d.weights Tryd.prog t
theorem open_puts {H : Type} {enc : TypeId × Value → H} {W : World} {a0 : Option Addr} {len cap : Nat} {d0 : DataW H} {p : List MemPlace}
    (h0 : DataW.Trod enc Tryd.prog W 0 (fun _ => true) true 22 (.slice a0 len cap) d0 p) :
    ∃ ps : List PutA, ps.length = len ∧ InP W a0 ps ∧ putsK ps + 1 ≤ Rows.uptoBulk d0 ∧ (a0 = none → cap = 0) ∧ ps.length ≤ cap ∧ ∀ x ∈ ps, PutW W 22 d0 x := by
  obtain ⟨ps, hl, hin, hn, hc, hx⟩ := rowg.open_g (enc := penc) (k := 4) penc_len (by decide) Tryd.underlying22 (by kernel_rfl) (PutQ (H := H) W) open_put h0
  rcases hx with ⟨rfl, rfl⟩ | ⟨D, m, hlm, rfl, hq⟩
  · obtain rfl : ps = [] := by simpa using hl
    exact ⟨[], hl, hin, by simpa [putsK] using one_le d0, hn, hc, fun x hx => by cases hx⟩
  · refine ⟨ps, hl, hin, ?_, hn, hc, fun x hx => ?_⟩
    · have h1 := puts_bulk D ps 0 fun i hi => by rw [Nat.zero_add]; exact (hq i hi).bulk
      rw [hl, ← List.range_eq_range'] at h1
      simp only [Rows.uptoBulk]
      omega
    · obtain ⟨i, hi, rfl⟩ := List.mem_iff_getElem.1 hx
      have q := hq i hi
      have hm : D i ∈ (List.range len).map D := List.mem_map_of_mem (List.mem_range.2 (by omega))
      have hw : ∀ n, n ∈ (D i).weights Tryd.prog 43 → n ∈ (DataW.slice ((List.range len).map D) ((List.range (m - len)).map fun j => D (len + j))).weights Tryd.prog 22 := fun n hn => by
        simp only [DataW.weights, Tryd.underlying22]
        exact List.mem_cons_of_mem _ (List.mem_append_left _ (wAll_mem hm hn))
      exact ⟨q.ints, q.kind, q.row, q.nil, q.room, hw _ q.text, q.many.imp (fun ⟨n, h1, h2⟩ => ⟨n, hw n h1, h2⟩) id, fun y hy => hw _ (q.texts y hy)⟩
/-- in form, by the bulk -/
theorem putW_bulk {H : Type} {W : World} {t : TypeId} {d : DataW H} {x : PutA} (h : PutW W t d x) (hb : putK x ≤ 1048576) : GoodP W x := by
  unfold putK at hb
  have h1 := txtB_len x.l
  exact ⟨h.ints, by omega, h.row, h.nil, h.room, by omega, fun y hy => by have := txtB_mem hy; omega⟩
/-- in form, by the weights -/
theorem putW_reach {H : Type} {ts : List TypeId} {ds : List (DataW H)} {d : DataW H} {t : TypeId} {W : World} {x : PutA} (hz : (DataW.weightsEach Tryd.prog ts ds).all (· ≤ reachBytes) = true) (j : Nat) (h1 : ts[j]? = some t) (h2 : ds[j]? = some d) (h : PutW W t d x) : GoodP W x :=
  ⟨h.ints, bytes_reach hz j h1 h2 (Or.inl ⟨_, h.text, Nat.le_refl _⟩), h.row, h.nil, h.room, bytes_reach hz j h1 h2 h.many, fun y hy => bytes_reach hz j h1 h2 (Or.inl ⟨_, h.texts y hy, Nat.le_refl _⟩)⟩
end Go.Proofs.YtpffebcaalbhjaaDoor.opn
