/- Opening a []string argument of a law: a row of texts (InS), its bulk, its weights; the seven laws in the cards' shapes. -/
import Derived.Test.YtfeafhagnhbmiaaGreatDoorOpen0
import Derived.Test.YtfeafhagnhbmiaaGreatDoorScpLc
import Derived.Test.YtfeafhagnhbmiaaGreatDoorScpLe
import Derived.Deep.Slices
namespace Go.Proofs.YtfeafhagnhbmiaaGreatDoor.opn
set_option maxRecDepth 100000
open Go.ChangeShapes Go.WideShapes Go.ChangeAt Go.RowKit
open Go.Proofs.YtfeafhagnhbmiaaGreatDoor.scp (T tx senc senc_len InS FitS)

/-- what an opened text has -/
def TxtQ {H : Type} (x : T) (d : DataW H) : Prop := x.length + 1 ≤ Rows.uptoBulk d ∧ x.length ∈ d.weights Tryz.prog 9
theorem open_txt {H : Type} {enc : TypeId × Value → H} {W : World} (fuel : Nat) (cs : List Value) (d : DataW H) (p : List MemPlace)
    (h : DataW.trod enc Tryz.prog W 0 (fun _ => true) true fuel 9 cs = some (d, p)) : ∃ x : T, cs = senc x ∧ TxtQ x d := by
  obtain ⟨s0, e0, r0, _⟩ := DataW.trod_string Tryz.underlying9 h
  have r1 : d = .lit (.string s0.data.toList) := by injection r0
  refine ⟨s0.data.toList, e0, ?_, ?_⟩
  · rw [r1]; simp [Rows.uptoBulk]
  · rw [r1]; simp [DataW.weights]
def txtBulk : List T → Nat
  | [] => 0
  | x :: r => x.length + 1 + txtBulk r
theorem txtBulk_mem : ∀ {l : List T} {x : T}, x ∈ l → x.length + 1 ≤ txtBulk l
  | y :: r, x, h => by
    rw [txtBulk]
    rcases List.mem_cons.1 h with rfl | h
    · omega
    · have := txtBulk_mem h; omega
theorem txts_bulk {H : Type} (D : Nat → DataW H) : ∀ (l : List T) (k : Nat), (∀ i (hi : i < l.length), (l[i]).length + 1 ≤ Rows.uptoBulk (D (k + i))) → txtBulk l ≤ Rows.uptoBulkAll ((List.range' k l.length).map D)
  | [], _, _ => by simp [txtBulk, Rows.uptoBulkAll]
  | x :: r, k, h => by
    have h1 := txts_bulk D r (k + 1) fun i hi => by
      have := h (i + 1) (by simp; omega)
      rw [show k + 1 + i = k + (i + 1) by omega]
      simpa using this
    have h2 := h 0 (by simp)
    simp only [List.length_cons, List.range'_succ, List.map_cons, Rows.uptoBulkAll, txtBulk]
    simp at h2
    omega
theorem weightsAll_memT {H : Type} {P : Program} {e : TypeId} {n : Nat} {d : DataW H} : ∀ {l : List (DataW H)}, d ∈ l → n ∈ d.weights P e → n ∈ DataW.weightsAll P e l
  | y :: l, h, hn => by
    rw [DataW.weightsAll, List.mem_append]
    rcases List.mem_cons.1 h with rfl | h
    · exact Or.inl hn
    · exact Or.inr (weightsAll_memT h hn)
theorem open_texts {H : Type} {enc : TypeId × Value → H} {W : World} {a0 : Option Addr} {len cap : Nat} {d0 : DataW H} {p : List MemPlace}
    (h0 : DataW.Trod enc Tryz.prog W 0 (fun _ => true) true 25 (.slice a0 len cap) d0 p) :
    ∃ l : List T, l.length = len ∧ InS W a0 l ∧ txtBulk l + 1 ≤ Rows.uptoBulk d0 ∧ (a0 = none → cap = 0) ∧ l.length ≤ cap ∧ ∀ x ∈ l, x.length ∈ d0.weights Tryz.prog 25 := by
  obtain ⟨l, hl, hin, hn, hc, hx⟩ := rowg.open_g (enc := senc) (k := 1) senc_len (by decide) Tryz.underlying25 (by kernel_rfl) (TxtQ (H := H)) open_txt h0
  rcases hx with ⟨rfl, rfl⟩ | ⟨D, m, hlm, rfl, hq⟩
  · obtain rfl : l = [] := by simpa using hl
    exact ⟨[], hl, hin, by simpa [txtBulk] using one_le d0, hn, hc, fun x hx => by cases hx⟩
  · refine ⟨l, hl, hin, ?_, hn, hc, fun x hx => ?_⟩
    · have h1 := txts_bulk D l 0 fun i hi => by rw [Nat.zero_add]; exact (hq i hi).1
      rw [hl, ← List.range_eq_range'] at h1
      simp only [Rows.uptoBulk]
      omega
    · obtain ⟨i, hi, rfl⟩ := List.mem_iff_getElem.1 hx
      have hm : D i ∈ (List.range len).map D := List.mem_map_of_mem (List.mem_range.2 (by omega))
      simp only [DataW.weights, Tryz.underlying25]
      exact List.mem_cons_of_mem _ (List.mem_append_left _ (weightsAll_memT hm (hq i hi).2))
theorem fit_texts {l : List T} (hb : txtBulk l ≤ 1048576) : FitS l := fun x hx => by
  have := txtBulk_mem hx
  omega
theorem texts_reach {H : Type} {ts : List TypeId} {ds : List (DataW H)} {d : DataW H} {t : TypeId} {l : List T} (hz : (DataW.weightsEach Tryz.prog ts ds).all (· ≤ reachBytes) = true) (j : Nat) (h1 : ts[j]? = some t) (h2 : ds[j]? = some d)
    (h : ∀ x ∈ l, x.length ∈ d.weights Tryz.prog t) : FitS l := fun x hx => bytes_reach hz j h1 h2 (Or.inl ⟨_, h x hx, Nat.le_refl _⟩)
end Go.Proofs.YtfeafhagnhbmiaaGreatDoor.opn
namespace Go.Proofs.YtfeafhagnhbmiaaGreatDoor.scp
open Go.RowKit
end Go.Proofs.YtfeafhagnhbmiaaGreatDoor.scp
