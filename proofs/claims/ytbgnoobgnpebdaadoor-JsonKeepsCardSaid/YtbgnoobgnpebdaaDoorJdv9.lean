/- The contract of the developers' unlike (a set of names). Rows of any length whose names are within the reach. -/
import Derived.Test.YtbgnoobgnpebdaaDoorJdv8
import Derived.Maps.OwnSet
import Derived.Maps.AppendAt
namespace Go.Proofs.YtbgnoobgnpebdaaDoor.jdv
open Go.RowKit
open Go.Proofs.YtbgnoobgnpebdaaDoor.oct Go.Proofs.YtbgnoobgnpebdaaDoor.ref Go.Proofs.YtbgnoobgnpebdaaDoor.rows Go.Proofs.YtbgnoobgnpebdaaDoor.rowg Go.Proofs.YtbgnoobgnpebdaaDoor.jsn
open Go.Lib (byteCells hasPrefix trimPrefix)

def lits (ms : List Mem) : List Lit := ms.map fun m => Lit.string m.name
/-- the set of the names -/
def nset (ms : List Mem) : DataW Unit := Maps.setOf (.agg []) (lits ms)
theorem lits_key (ms : List Mem) : ∀ x ∈ lits ms, WideAt.IsKeyLit x := by
  intro x hx
  obtain ⟨m, _, rfl⟩ := List.mem_map.1 hx
  trivial
theorem nset_tidy (ms : List Mem) : Maps.Tidy (nset ms) := Maps.tidy_fold _ _ _ Maps.tidy_empty (lits_key ms)
theorem nset_nil : nset [] = .map [] := rfl
theorem nset_snoc (ms : List Mem) (m : Mem) : nset (ms ++ [m]) = (nset ms).put (.string m.name) (.agg []) := by
  unfold nset lits
  rw [List.map_append, List.map_singleton, Maps.setOf_snoc]
theorem has_nset (ms : List Mem) (n : List UInt8) : Maps.has (nset ms) (.string n) = ms.any (fun m => m.name == n) := by
  unfold nset
  rw [Maps.has_setOf _ _ _ (lits_key ms)]
  unfold lits
  rw [List.any_map]
  rfl
theorem size_nset_snoc (ms : List Mem) (m : Mem) : Maps.size (nset (ms ++ [m])) = if (ms.any fun x => x.name == m.name) = true then Maps.size (nset ms) else Maps.size (nset ms) + 1 := by
  rw [nset_snoc, Maps.size_put (nset_tidy ms), has_nset]
theorem unl_snoc (l : List Mem) (m : Mem) : unl (l ++ [m]) = (unl l && !(l.any fun x => x.name == m.name)) := by
  induction l with
  | nil => simp [unl]
  | cons a l ih =>
    rw [List.cons_append, unl, unl, ih, List.any_append, List.any_cons]
    simp only [List.any_cons, List.any_nil, Bool.or_false]
    have e : (a.name == m.name) = (m.name == a.name) := by rw [Bool.eq_iff_iff, beq_iff_eq, beq_iff_eq]; exact eq_comm
    rw [e]
    cases (l.any fun x => x.name == a.name) <;> cases unl l <;> cases (m.name == a.name) <;> cases (l.any fun x => x.name == m.name) <;> rfl
theorem list_snoc {α : Type} (l : List α) : l = [] ∨ ∃ a x, l = a ++ [x] := by
  rcases List.eq_nil_or_concat l with h | ⟨a, x, h⟩
  · exact Or.inl h
  · exact Or.inr ⟨a, x, by rw [h]; simp⟩
theorem size_nset : ∀ (n : Nat) (ms : List Mem), ms.length = n → Maps.size (nset ms) ≤ ms.length ∧ (Maps.size (nset ms) = ms.length ↔ unl ms = true)
  | 0, ms, h => by
    obtain rfl : ms = [] := List.length_eq_zero_iff.1 h
    exact ⟨Nat.le_refl _, by simp [unl, nset_nil, Maps.size]⟩
  | n + 1, ms, h => by
    rcases list_snoc ms with rfl | ⟨a, x, rfl⟩
    · cases h
    · obtain ⟨h1, h2⟩ := size_nset n a (by simpa using h)
      rw [size_nset_snoc, unl_snoc, List.length_append, List.length_singleton]
      cases hc : (a.any fun y => y.name == x.name)
      · simp only [Bool.false_eq_true, if_false, Bool.not_false, Bool.and_true]
        exact ⟨by omega, by rw [← h2]; omega⟩
      · simp only [if_true, Bool.not_true, Bool.and_false, Bool.false_eq_true, iff_false]
        exact ⟨by omega, by omega⟩
theorem unlike_len (ms : List Mem) : ((Maps.size (nset ms) : Int) == (ms.length : Int)) = unl ms := by
  obtain ⟨_, h⟩ := size_nset _ ms rfl
  rw [Bool.eq_iff_iff, beq_iff_eq, ← h]
  omega
theorem skeyed : Maps.Keyed Tryd.prog 9 := Maps.string_keyed Tryd.underlying9
set_option maxRecDepth 100000 in
set_option maxHeartbeats 4000000 in
theorem unlike_c (P : Option Addr) (C : Nat) (ms : List Mem) (w : World) (hp : InM w P ms) (hl : ms.length ≤ 2513169434916) (hf : FitM ms) :
    Calls Tryd.prog 22 #[.slice P ms.length C] w fun e w' => e = .returned (.bool (unl ms)) ∧ Below w.heap.size w w' := by
  have HP := Lib.hid hp
  have HF := Lib.hid hf
  have hmm := @run_makeMap Tryd.prog
  have HU := Lib.hid (unlike_len ms)
  have HT0 : Hid (nset (ms.take 0) = .map []) := rfl
  obtain ⟨N, hN⟩ : ∃ N, ms.length = N := ⟨_, rfl⟩
  rw [hN] at hl HU ⊢
  have HN := Lib.hid hN
  clear hp hf hN
  go_enter Tryd.func22, Tryd.ntmps22
  go_wp2_with fail
  go_loopg [5, 9] N (fun g _ s9 wx => ∃ k : Nat, k + g = N ∧ s9 = .int .i64 k ∧ Hid (wx.ownsMap Tryd.prog 9 unitElem w.heap.size k (nset (ms.take k))) ∧ Hid (Below w.heap.size w wx) ∧ w.heap.size < wx.heap.size)
  case atStart => exact ⟨0, by omega, rfl, by rw [HT0.out]; exact World.ownsMap_made _ _ _ _, (Below.refl _ _).alloc (Nat.le_refl _) _, by simp⟩
  case round =>
    obtain ⟨k, hkg, rfl, HM, HB, hsz⟩ := hrel
    rcases gk with _ | g
    · obtain rfl : k = N := by omega
      have hmo := HM.out
      rw [show ms.take k = ms from List.take_of_length_le (by rw [HN.out]; exact Nat.le_refl _)] at hmo
      have HMO := Lib.hid hmo
      clear hmo HM
      go_wp2_with (at_len; refine wpList_len_own _ rfl _ 66 rfl 9 67 Tryd.underlying66 unitElem w.heap.size k _ rfl HMO.out ?_)
      go_ret
      exact ⟨by rw [← HU.out]; rfl, HB.out⟩
    · have hk : k < N := by omega
      have hkI : (k : Int) < (N : Int) := by omega
      have hkm : k < ms.length := by rw [HN.out]; exact hk
      obtain ⟨b, o, rfl, c0, c1, c2, c3, c4⟩ := mem_cells (inm_below HP.out HB.out) k hkm
      have hsn := nset_snoc (ms.take k) ms[k]
      rw [← List.take_succ_eq_append_getElem hkm] at hsn
      have hfk := (HF.out _ (List.getElem_mem hkm)).1
      obtain ⟨m, hm⟩ : ∃ m, ms[k] = m := ⟨_, rfl⟩
      rw [hm] at c0 c1 c2 c3 c4 hsn hfk
      obtain ⟨x0, x1, x2, x3, x4⟩ := m
      dsimp only at c0 c1 c2 c3 c4 hsn hfk
      have HS := Lib.hid hsn
      have hkey : keyOf Tryd.prog 9 (.string ⟨x0.toArray⟩) = some (.string x0) := WideMaps.keyOf_string_mk (P := Tryd.prog) Tryd.underlying9 (s := ⟨x0.toArray⟩) (by rw [size_mk]; unfold maxLen; omega)
      have HKY := Lib.hid hkey
      clear hsn hm hkey
      go_wp2_with (at_mapUpdate; refine wpList_mapUpdate_own _ rfl _ _ _ 66 rfl 9 67 skeyed Tryd.underlying66 (unitElem (H := Unit)) w.heap.size k _ rfl (HM.out.alloc _) (by unfold maxLen; omega) _ _ _ rfl rfl HKY.out _ [] unitElem_mk ?_; intro w1 hown1 hgrow1)
      go_roundg g
      case measure => omega
      case rel =>
        have hs1 := hgrow1.size
        refine ⟨k + 1, by omega, by go_num, by rw [HS.out]; exact hown1, (HB.out.alloc (by omega) _).grown hgrow1 (by simp; omega) (fun j hj => by cases hj; exact Nat.le_refl _), ?_⟩
        simp at hs1
        omega
end Go.Proofs.YtbgnoobgnpebdaaDoor.jdv
