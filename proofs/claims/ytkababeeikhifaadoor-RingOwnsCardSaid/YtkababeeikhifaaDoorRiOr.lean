/- Opening a row of ints that is handed in, its bytes counted in full; RingAlike in its card's shape. -/
import Derived.Test.YtkababeeikhifaaDoorRiOq
import Derived.Test.YtkababeeikhifaaDoorRiL
namespace Go.Proofs.YtkababeeikhifaaDoor.opn
open Go.ChangeShapes Go.WideShapes Go.ChangeAt Go.RowKit
open Go.Proofs.YtkababeeikhifaaDoor.rng (zenc zenc_len InZ)
theorem open_intR {H : Type} {enc : TypeId × Value → H} {W : World} (fuel : Nat) (cs : List Value) (d : DataW H) (p : List MemPlace)
    (h : DataW.trod enc Tryd.prog W 0 (fun _ => true) true fuel 3 cs = some (d, p)) : ∃ x : Int, cs = zenc x ∧ True := by
  obtain ⟨k, e, _, _⟩ := DataW.trod_int Tryd.underlying3 h
  exact ⟨k, e, trivial⟩
theorem open_intsR {H : Type} {enc : TypeId × Value → H} {W : World} {a0 : Option Addr} {len cap : Nat} {d0 : DataW H} {p : List MemPlace}
    (h0 : DataW.Trod enc Tryd.prog W 0 (fun _ => true) true 38 (.slice a0 len cap) d0 p) :
    ∃ l : List Int, l.length = len ∧ InZ W a0 l ∧ (a0 = none → cap = 0) ∧ l.length ≤ cap ∧ ((∃ n, n ∈ d0.weights Tryd.prog 38 ∧ l.length * 8 ≤ n) ∨ l.length * 8 = 0) := by
  obtain ⟨l, hl, hin, hn, hc, hx⟩ := rowg.open_g (enc := zenc) (k := 1) zenc_len (by decide) Tryd.underlying38 (by kernel_rfl) (fun _ (_ : DataW H) => True) open_intR h0
  rcases hx with ⟨rfl, rfl⟩ | ⟨D, m, hlm, rfl, _⟩
  · obtain rfl : l = [] := by simpa using hl
    exact ⟨[], hl, hin, hn, hc, Or.inr rfl⟩
  · refine ⟨l, hl, hin, hn, hc, Or.inl ⟨(((List.range len).map D).length + ((List.range (m - len)).map fun j => D (len + j)).length) * Tryd.prog.bytesOf 3, ?_, ?_⟩⟩
    · simp only [DataW.weights, Tryd.underlying38]
      exact List.mem_cons_self
    · have hb : Tryd.prog.bytesOf 3 = 8 := by kernel_rfl
      have h1 : ((List.range len).map D).length = len := by rw [List.length_map, List.length_range]
      rw [hl, h1]
      rw [hb]
      exact Nat.mul_le_mul_right 8 (Nat.le_add_right _ _)
end Go.Proofs.YtkababeeikhifaaDoor.opn
namespace Go.Proofs.YtkababeeikhifaaDoor.rng
open Go.RowKit
open Go.Proofs.YtkababeeikhifaaDoor.scp (tx senc senc_len InS)
theorem g_alike (n : Int) (P : Option Addr) (C : Nat) (l : List T) (O : Option Addr) (U : Nat) (z : List Int) (K : Option Addr) (D : Nat) (k : List T) (w : World) (_ : (Lit.int .i64 n).wf = true) (hp : InS w P l) (h16 : l.length * 16 ≤ 140737488351232) (hc : l.length ≤ C) (hn : P = none → C = 0) (_ : Fit l)
    (hz : InZ w O z) (_ : z.length * 8 ≤ 140737488351232) (_ : z.length ≤ U)
    (hk : InS w K k) (_ : k.length * 16 ≤ 140737488351232) (_ : k.length ≤ D) (_ : K = none → D = 0) (hf : Fit k) (ht : RT w) :
    Calls Tryd.prog 6 #[.int .i64 n, .slice P l.length C, .slice O z.length U, .slice K k.length D] w fun e w' => e = .returned (.bool true) ∧ Below w.heap.size w w' := alike_c n P C l O U z K D k w hp hc hn (by omega) hz hk hf ht
end Go.Proofs.YtkababeeikhifaaDoor.rng
