/- Opening a []Two that is handed in to a law of drift: a row of turns (InG tenc 3), each of ints that have a size. No condition. -/
import Derived.Test.YtidgmobnclchkaaOpen0
import Derived.Test.YtidgmobnclchkaaDriN
import Derived.Deep.Slices
namespace Go.Proofs.Ytidgmobnclchkaa.opn
open Go.ChangeShapes Go.WideShapes Go.ChangeAt Go.RowKit
open Go.Proofs.Ytidgmobnclchkaa.dri (Tw tenc tenc_len FitT I64)
open Go.Proofs.Ytidgmobnclchkaa.rowg (InG)

instance : Inhabited Tw := ⟨⟨0, 0, 0⟩⟩
theorem di64_wf {n : Int} (h : (Lit.int .i64 n).wf = true) : I64 n := by
  have h1 : IntKind.i64.min = -9223372036854775808 := rfl
  have h2 : IntKind.i64.max = 9223372036854775807 := rfl
  simp only [Lit.wf, Bool.and_eq_true, decide_eq_true_eq] at h
  exact ⟨by omega, by omega⟩
/-- what an opened turn has -/
def TwQ {H : Type} (x : Tw) (_d : DataW H) : Prop := FitT x
set_option maxRecDepth 8000 in
theorem open_tw {H : Type} {enc : TypeId × Value → H} {W : World} (fuel : Nat) (cs : List Value) (d : DataW H) (p : List MemPlace)
    (h : DataW.trod enc Try.prog W 0 (fun _ => true) true fuel 40 cs = some (d, p)) : ∃ m : Tw, cs = tenc m ∧ TwQ m d := by
  obtain ⟨xs, n, _, hx, hcl, hxl, hf⟩ := DataW.trod_struct Try.underlying40 h
  have h5 : Try.prog.cellsOf 40 = 3 := by kernel_rfl
  have h2 : Try.prog.cellsOf 3 = 1 := by kernel_rfl
  rw [h5] at hcl
  match xs, hxl with
  | [y0, y1, y2], _ =>
    match cs, hcl with
    | [c0, c1, c2], _ =>
      have f0 := hf 0 _ rfl
      have f1 := hf 1 _ rfl
      have f2 := hf 2 _ rfl
      have g0 : DataW.trod enc Try.prog W 0 (fun _ => true) true n 3 [c0] = some y0 := by
        have this : DataW.trod enc Try.prog W 0 (fun _ => true) true n 3 (List.take (Try.prog.cellsOf 3) (List.drop 0 [c0, c1, c2])) = some y0 := f0
        rw [h2] at this
        exact this
      have g1 : DataW.trod enc Try.prog W 0 (fun _ => true) true n 3 [c1] = some y1 := by
        have this : DataW.trod enc Try.prog W 0 (fun _ => true) true n 3 (List.take (Try.prog.cellsOf 3) (List.drop 1 [c0, c1, c2])) = some y1 := f1
        rw [h2] at this
        exact this
      have g2 : DataW.trod enc Try.prog W 0 (fun _ => true) true n 3 [c2] = some y2 := by
        have this : DataW.trod enc Try.prog W 0 (fun _ => true) true n 3 (List.take (Try.prog.cellsOf 3) (List.drop 2 [c0, c1, c2])) = some y2 := f2
        rw [h2] at this
        exact this
      obtain ⟨k0, e0, _, w0⟩ := DataW.trod_int Try.underlying3 g0
      obtain ⟨k1, e1, _, w1⟩ := DataW.trod_int Try.underlying3 g1
      obtain ⟨k2, e2, _, w2⟩ := DataW.trod_int Try.underlying3 g2
      cases e0
      cases e1
      cases e2
      exact ⟨⟨k0, k1, k2⟩, rfl, ⟨di64_wf w0, di64_wf w1, di64_wf w2⟩⟩
theorem open_twos {H : Type} {enc : TypeId × Value → H} {W : World} {a0 : Option Addr} {len cap : Nat} {d0 : DataW H} {p : List MemPlace}
    (h0 : DataW.Trod enc Try.prog W 0 (fun _ => true) true 38 (.slice a0 len cap) d0 p) :
    ∃ l : List Tw, l.length = len ∧ InG tenc 3 W a0 l ∧ l.length + 1 ≤ Rows.uptoBulk d0 ∧ (a0 = none → cap = 0) ∧ l.length ≤ cap ∧ ((∃ n, n ∈ d0.weights Try.prog 38 ∧ l.length ≤ n) ∨ l.length = 0) ∧ ∀ x ∈ l, FitT x := by
  obtain ⟨l, hl, hin, hn, hcp, hx⟩ := rowg.open_g (enc := tenc) (k := 3) tenc_len (by decide) Try.underlying38 (by kernel_rfl) (TwQ (H := H)) open_tw h0
  rcases hx with ⟨rfl, rfl⟩ | ⟨D, m, hlm, rfl, hq⟩
  · obtain rfl : l = [] := by simpa using hl
    exact ⟨[], hl, hin, by simpa using one_le d0, hn, hcp, Or.inr rfl, fun x hx => by cases hx⟩
  · refine ⟨l, hl, hin, ?_, hn, hcp, Or.inl ⟨(((List.range len).map D).length + ((List.range (m - len)).map fun j => D (len + j)).length) * Try.prog.bytesOf 40, ?_, ?_⟩, fun x hx => ?_⟩
    · have h1 := length_le ((List.range len).map D)
      rw [List.length_map, List.length_range] at h1
      simp only [Rows.uptoBulk]
      omega
    · simp only [DataW.weights, Try.underlying38]
      exact List.mem_cons_self
    · rw [hl, show Try.prog.bytesOf 40 = 24 by kernel_rfl, List.length_map, List.length_range]
      omega
    · obtain ⟨i, hi, rfl⟩ := List.mem_iff_getElem.1 hx
      exact hq i hi
end Go.Proofs.Ytidgmobnclchkaa.opn
namespace Go.Proofs.Ytidgmobnclchkaa.dri
open Go.RowKit
open Go.Proofs.Ytidgmobnclchkaa.rowg
theorem g_turns {T' : World → Prop} (X : DApi T') (c u r d : Int) (w : World) (hc : (Lit.int .i64 c).wf = true) (hu : (Lit.int .i64 u).wf = true) (hr : (Lit.int .i64 r).wf = true) (hd : (Lit.int .i64 d).wf = true) (hT : T' w) :
    Calls Try.prog 3 #[.int .i64 c, .int .i64 u, .int .i64 r, .int .i64 d] w fun e w' => e = .returned (.bool true) ∧ Below w.heap.size w w' :=
  law_turns X c u r d w (opn.di64_wf hc) (opn.di64_wf hu) (opn.di64_wf hr) (opn.di64_wf hd) hT
theorem g_bounds {T' : World → Prop} (X : DApi T') (n d : Int) (w : World) (hn : (Lit.int .i64 n).wf = true) (hd : (Lit.int .i64 d).wf = true) (hT : T' w) :
    Calls Try.prog 4 #[.int .i64 n, .int .i64 d] w fun e w' => e = .returned (.bool true) ∧ Below w.heap.size w w' :=
  law_bounds X n d w (opn.di64_wf hn) (opn.di64_wf hd) hT
theorem g_terms {T' : World → Prop} (X : DApi T') (s n t : Int) (w : World) (hs : (Lit.int .i64 s).wf = true) (hn : (Lit.int .i64 n).wf = true) (ht : (Lit.int .i64 t).wf = true) (hT : T' w) :
    Calls Try.prog 5 #[.int .i64 s, .int .i64 n, .int .i64 t] w fun e w' => e = .returned (.bool true) ∧ Below w.heap.size w w' :=
  law_terms X s n t w (opn.di64_wf hs) (opn.di64_wf hn) (opn.di64_wf ht) hT
theorem g_rises {T' : World → Prop} (X : DApi T') (n m d : Int) (w : World) (hn : (Lit.int .i64 n).wf = true) (hm : (Lit.int .i64 m).wf = true) (hd : (Lit.int .i64 d).wf = true) (hT : T' w) :
    Calls Try.prog 8 #[.int .i64 n, .int .i64 m, .int .i64 d] w fun e w' => e = .returned (.bool true) ∧ Below w.heap.size w w' :=
  law_rises X n m d w (opn.di64_wf hn) (opn.di64_wf hm) (opn.di64_wf hd) hT
theorem g_passes {T' : World → Prop} (X : DApi T') (d : Int) (P : Option Addr) (cp : Nat) (l : List Tw) (w : World) (hd : (Lit.int .i64 d).wf = true) (hP : InG tenc 3 w P l) (hl : l.length ≤ 140737488355328) (hf : ∀ x ∈ l, FitT x) (hT : T' w) :
    Calls Try.prog 7 #[.int .i64 d, .slice P l.length cp] w fun e w' => e = .returned (.bool true) ∧ Below w.heap.size w w' :=
  law_passes X d P cp l w (opn.di64_wf hd) hP hl hf hT
theorem g_leases {T' : World → Prop} (X : DApi T') (a b t d : Int) (P : Option Addr) (cp : Nat) (l : List Tw) (w : World) (ha : (Lit.int .i64 a).wf = true) (hb : (Lit.int .i64 b).wf = true) (ht : (Lit.int .i64 t).wf = true) (hd : (Lit.int .i64 d).wf = true) (hP : InG tenc 3 w P l) (hl : l.length ≤ 140737488355328) (hf : ∀ x ∈ l, FitT x) (hT : T' w) :
    Calls Try.prog 6 #[.int .i64 a, .int .i64 b, .int .i64 t, .int .i64 d, .slice P l.length cp] w fun e w' => e = .returned (.bool true) ∧ Below w.heap.size w w' :=
  law_leases X a b t d P cp l w (opn.di64_wf ha) (opn.di64_wf hb) (opn.di64_wf ht) (opn.di64_wf hd) hP hl hf hT
end Go.Proofs.Ytidgmobnclchkaa.dri
