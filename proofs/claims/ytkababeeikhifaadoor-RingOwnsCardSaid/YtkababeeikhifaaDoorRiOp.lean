/- Opening rows of texts and of ints that are handed in to ring's laws, their bytes counted in full; what the card's condition gives of the package variables; the laws in the cards' shapes. -/
import Derived.Test.YtkababeeikhifaaDoorOpen0
import Derived.Test.YtkababeeikhifaaDoorPkcT
import Derived.Test.YtkababeeikhifaaDoorRiI
import Derived.Deep.Slices
import Derived.Lib.LaidTab
import Derived.LaidSub
import Derived.Test.YtkababeeikhifaaDoorRows
namespace Go.Proofs.YtkababeeikhifaaDoor.opn
open Go.ChangeShapes Go.WideShapes Go.ChangeAt Go.RowKit
open Go.Proofs.YtkababeeikhifaaDoor.scp (tx senc senc_len InS)
open Go.Proofs.YtkababeeikhifaaDoor.rng (T Fit)
open Go.Proofs.YtkababeeikhifaaDoor.rowg (InG)

def TxtR {H : Type} (x : T) (d : DataW H) : Prop := x.length ∈ d.weights Tryd.prog 9
theorem open_txtR {H : Type} {enc : TypeId × Value → H} {W : World} (fuel : Nat) (cs : List Value) (d : DataW H) (p : List MemPlace)
    (h : DataW.trod enc Tryd.prog W 0 (fun _ => true) true fuel 9 cs = some (d, p)) : ∃ x : T, cs = senc x ∧ TxtR x d := by
  obtain ⟨s0, e0, r0, _⟩ := DataW.trod_string Tryd.underlying9 h
  have r1 : d = .lit (.string s0.data.toList) := by injection r0
  refine ⟨s0.data.toList, e0, ?_⟩
  unfold TxtR
  rw [r1]; simp [DataW.weights]
theorem rAll_mem {H : Type} {P : Program} {e : TypeId} {n : Nat} {d : DataW H} : ∀ {l : List (DataW H)}, d ∈ l → n ∈ d.weights P e → n ∈ DataW.weightsAll P e l
  | y :: l, h, hn => by
    rw [DataW.weightsAll, List.mem_append]
    rcases List.mem_cons.1 h with rfl | h
    · exact Or.inl hn
    · exact Or.inr (rAll_mem h hn)
theorem open_textsR {H : Type} {enc : TypeId × Value → H} {W : World} {a0 : Option Addr} {len cap : Nat} {d0 : DataW H} {p : List MemPlace}
    (h0 : DataW.Trod enc Tryd.prog W 0 (fun _ => true) true 22 (.slice a0 len cap) d0 p) :
    ∃ l : List T, l.length = len ∧ InS W a0 l ∧ (a0 = none → cap = 0) ∧ l.length ≤ cap ∧ ((∃ n, n ∈ d0.weights Tryd.prog 22 ∧ l.length * 16 ≤ n) ∨ l.length * 16 = 0) ∧ ∀ x ∈ l, x.length ∈ d0.weights Tryd.prog 22 := by
  obtain ⟨l, hl, hin, hn, hc, hx⟩ := rowg.open_g (enc := senc) (k := 1) senc_len (by decide) Tryd.underlying22 (by kernel_rfl) (TxtR (H := H)) open_txtR h0
  rcases hx with ⟨rfl, rfl⟩ | ⟨D, m, hlm, rfl, hq⟩
  · obtain rfl : l = [] := by simpa using hl
    exact ⟨[], hl, hin, hn, hc, Or.inr rfl, fun x hx => by cases hx⟩
  · refine ⟨l, hl, hin, hn, hc, Or.inl ⟨(((List.range len).map D).length + ((List.range (m - len)).map fun j => D (len + j)).length) * Tryd.prog.bytesOf 9, ?_, ?_⟩, fun x hx => ?_⟩
    · simp only [DataW.weights, Tryd.underlying22]
      exact List.mem_cons_self
    · have hb : Tryd.prog.bytesOf 9 = 16 := by kernel_rfl
      have h1 : ((List.range len).map D).length = len := by rw [List.length_map, List.length_range]
      rw [hl, h1]
      rw [hb]
      exact Nat.mul_le_mul_right 16 (Nat.le_add_right _ _)
    · obtain ⟨i, hi, rfl⟩ := List.mem_iff_getElem.1 hx
      have hm : D i ∈ (List.range len).map D := List.mem_map_of_mem (List.mem_range.2 (by omega))
      simp only [DataW.weights, Tryd.underlying22]
      exact List.mem_cons_of_mem _ (List.mem_append_left _ (rAll_mem hm (hq i hi)))
theorem fit_reach {H : Type} {ts : List TypeId} {ds : List (DataW H)} {d : DataW H} {t : TypeId} {l : List T} (hz : (DataW.weightsEach Tryd.prog ts ds).all (· ≤ reachBytes) = true) (j : Nat) (h1 : ts[j]? = some t) (h2 : ds[j]? = some d)
    (h : ∀ x ∈ l, x.length ∈ d.weights Tryd.prog t) : Fit l := fun x hx => Nat.le_trans (bytes_reach hz j h1 h2 (Or.inl ⟨_, h x hx, Nat.le_refl _⟩)) (by decide)
theorem rt_of_laid {W : World} (h : laidMet Tryd.prog [("math/bits.deBruijn32tab", Rows.laid_math_bits_deBruijn32tab), ("math/bits.deBruijn64tab", Rows.laid_math_bits_deBruijn64tab), ("internal/strconv.uint64pow10", Rows.laid_internal_strconv_uint64pow10), ("signet/sha.constants", Rows.laid_signet_sha_constants), ("signet/sha.beginning", Rows.laid_signet_sha_beginning)] W) : rng.RT W := by
  have h3 := laidMet.filter (fun x => x.1 == "internal/strconv.uint64pow10") h
  rw [show List.filter (fun x : String × DataW Unit => x.1 == "internal/strconv.uint64pow10") [("math/bits.deBruijn32tab", Rows.laid_math_bits_deBruijn32tab), ("math/bits.deBruijn64tab", Rows.laid_math_bits_deBruijn64tab), ("internal/strconv.uint64pow10", Rows.laid_internal_strconv_uint64pow10), ("signet/sha.constants", Rows.laid_signet_sha_constants), ("signet/sha.beginning", Rows.laid_signet_sha_beginning)] = [("internal/strconv.uint64pow10", Rows.laid_internal_strconv_uint64pow10)] from by simp] at h3
  have h4 := laidMet.filter (fun x => x.1 == "signet/sha.constants" || x.1 == "signet/sha.beginning") h
  rw [show List.filter (fun x : String × DataW Unit => x.1 == "signet/sha.constants" || x.1 == "signet/sha.beginning") [("math/bits.deBruijn32tab", Rows.laid_math_bits_deBruijn32tab), ("math/bits.deBruijn64tab", Rows.laid_math_bits_deBruijn64tab), ("internal/strconv.uint64pow10", Rows.laid_internal_strconv_uint64pow10), ("signet/sha.constants", Rows.laid_signet_sha_constants), ("signet/sha.beginning", Rows.laid_signet_sha_beginning)] = [("signet/sha.constants", Rows.laid_signet_sha_constants), ("signet/sha.beginning", Rows.laid_signet_sha_beginning)] from by simp] at h4
  have hT := Lib.tabIs_of_head (P := Tryd.prog) (name := "internal/strconv.uint64pow10") (k := .u64) (zs := Lib.pow10Tab) (g := 1) (t := 125) (e := 35) (n := 20) (by kernel_rfl) (by kernel_rfl) Tryd.underlying125 Tryd.underlying35 (by kernel_rfl) (by kernel_rfl) (rest := []) h3
  exact ⟨pkc.tabs_of_laid h4, hT⟩
end Go.Proofs.YtkababeeikhifaaDoor.opn
namespace Go.Proofs.YtkababeeikhifaaDoor.rng
open Go.RowKit
open Go.Proofs.YtkababeeikhifaaDoor.scp (tx senc senc_len InS)
theorem tx_of (s : ByteArray) : tx s.data.toList = .string s := by
  unfold tx
  congr 1
theorem g_grows (n : Int) (P : Option Addr) (C : Nat) (l : List T) (s : ByteArray) (K : Option Addr) (D : Nat) (k : List T) (w : World) (_ : (Lit.int .i64 n).wf = true) (hp : InS w P l) (h16 : l.length * 16 ≤ 140737488351232) (hc : l.length ≤ C) (_ : P = none → C = 0) (_ : Fit l) (_ : s.size ≤ 140737488351232)
    (hk : InS w K k) (_ : k.length * 16 ≤ 140737488351232) (_ : k.length ≤ D) (_ : K = none → D = 0) (hf : Fit k) (ht : RT w) :
    Calls Tryd.prog 4 #[.int .i64 n, .slice P l.length C, .string s, .slice K k.length D] w fun e w' => e = .returned (.bool true) ∧ Below w.heap.size w w' := by
  have h := grows_c n P C l s.data.toList K D k w hp hc (by omega) hk hf ht
  rw [tx_of] at h
  exact h
theorem g_shrinks (n : Int) (P : Option Addr) (C : Nat) (l : List T) (z : Int) (K : Option Addr) (D : Nat) (k : List T) (w : World) (_ : (Lit.int .i64 n).wf = true) (hp : InS w P l) (h16 : l.length * 16 ≤ 140737488351232) (hc : l.length ≤ C) (_ : P = none → C = 0) (_ : Fit l) (_ : (Lit.int .i64 z).wf = true)
    (hk : InS w K k) (_ : k.length * 16 ≤ 140737488351232) (_ : k.length ≤ D) (_ : K = none → D = 0) (hf : Fit k) (ht : RT w) :
    Calls Tryd.prog 5 #[.int .i64 n, .slice P l.length C, .int .i64 z, .slice K k.length D] w fun e w' => e = .returned (.bool true) ∧ Below w.heap.size w w' := shrinks_c n P C l z K D k w hp hc (by omega) hk hf ht
end Go.Proofs.YtkababeeikhifaaDoor.rng
