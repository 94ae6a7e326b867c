/- Opening a []api.Pair argument of a law: a row of pairs (InPr), its texts, the bulk's bound. -/
import Derived.Test.YteihjgakhkpgnaaGreatDoorOpen
import Derived.Test.YteihjgakhkpgnaaGreatDoorFldR
import Derived.Test.YteihjgakhkpgnaaGreatDoorFldB
import Derived.Deep.Slices
namespace Go.Proofs.YteihjgakhkpgnaaGreatDoor.opn
set_option maxRecDepth 100000
open Go.ChangeShapes Go.WideShapes Go.ChangeAt Go.RowKit
open Go.Proofs.YteihjgakhkpgnaaGreatDoor.fld (Pr tx InPr Small)

def prBulk : List Pr → Nat
  | [] => 0
  | x :: r => x.1.length + x.2.length + 3 + prBulk r
theorem prBulk_mem : ∀ {ps : List Pr} {x : Pr}, x ∈ ps → x.1.length + x.2.length + 3 ≤ prBulk ps
  | y :: r, x, h => by
    rw [prBulk]
    rcases List.mem_cons.1 h with rfl | h
    · omega
    · have := prBulk_mem h; omega
theorem prBulk_len : ∀ ps : List Pr, ps.length ≤ prBulk ps
  | [] => Nat.le_refl _
  | y :: r => by have := prBulk_len r; rw [prBulk, List.length_cons]; omega
theorem small_of {ps : List Pr} (h : prBulk ps ≤ 1048576) : Small ps := fun x hx => by have := prBulk_mem hx; omega
theorem pairs_bulk {H : Type} (F : Nat → Pr) (D : Nat → DataW H) : ∀ xs : List Nat, (∀ i ∈ xs, (F i).1.length + (F i).2.length + 3 ≤ Rows.uptoBulk (D i)) → prBulk (xs.map F) ≤ Rows.uptoBulkAll (xs.map D)
  | [], _ => by simp [prBulk, Rows.uptoBulkAll]
  | x :: xs, h => by
    have h1 := pairs_bulk F D xs fun i hi => h i (List.mem_cons_of_mem _ hi)
    have h2 := h x List.mem_cons_self
    simp only [List.map_cons, Rows.uptoBulkAll, prBulk]
    omega

theorem open_pair {H : Type} {enc : TypeId × Value → H} {W : World} {fuel : Nat} {cs : List Value} {d : DataW H} {p : List MemPlace}
    (h : DataW.trod enc Tryz.prog W 0 (fun _ => true) true fuel 48 cs = some (d, p)) : ∃ x : Pr, cs = [tx x.1, tx x.2] ∧ x.1.length + x.2.length + 3 ≤ Rows.uptoBulk d ∧ x.1.length ∈ d.weights Tryz.prog 48 ∧ x.2.length ∈ d.weights Tryz.prog 48 := by
  obtain ⟨xs, n, _, hx, hcl, hxl, hf⟩ := DataW.trod_struct Tryz.underlying48 h
  have h2 : Tryz.prog.cellsOf 48 = 2 := by kernel_rfl
  have h1 : Tryz.prog.cellsOf 9 = 1 := by kernel_rfl
  rw [h2] at hcl
  match xs, hxl with
  | [y0, y1], _ =>
    match cs, hcl with
    | [c0, c1], _ =>
      have f0 := hf 0 _ rfl
      have f1 := hf 1 _ rfl
      have g0 : DataW.trod enc Tryz.prog W 0 (fun _ => true) true n 9 [c0] = some y0 := by
        have this : DataW.trod enc Tryz.prog W 0 (fun _ => true) true n 9 (List.take (Tryz.prog.cellsOf 9) (List.drop 0 [c0, c1])) = some y0 := f0
        rw [h1] at this
        exact this
      have g1 : DataW.trod enc Tryz.prog W 0 (fun _ => true) true n 9 [c1] = some y1 := by
        have this : DataW.trod enc Tryz.prog W 0 (fun _ => true) true n 9 (List.take (Tryz.prog.cellsOf 9) (List.drop 1 [c0, c1])) = some y1 := f1
        rw [h1] at this
        exact this
      obtain ⟨s0, e0, e1, _⟩ := DataW.trod_string Tryz.underlying9 g0
      obtain ⟨s1, e2, e3, _⟩ := DataW.trod_string Tryz.underlying9 g1
      cases e0
      cases e2
      simp only [Prod.mk.injEq] at hx
      rw [hx.1, e1, e3]
      refine ⟨(s0.data.toList, s1.data.toList), rfl, ?_, by simp [DataW.weights, DataW.weightsEach, Tryz.underlying48], by simp [DataW.weights, DataW.weightsEach, Tryz.underlying48]⟩
      simp only [List.map_cons, List.map_nil, Rows.uptoBulk, Rows.uptoBulkAll]
      omega

theorem weightsAll_mem {H : Type} {P : Program} {e : TypeId} {n : Nat} {d : DataW H} : ∀ {l : List (DataW H)}, d ∈ l → n ∈ d.weights P e → n ∈ DataW.weightsAll P e l
  | y :: l, h, hn => by
    rw [DataW.weightsAll, List.mem_append]
    rcases List.mem_cons.1 h with rfl | h
    · exact Or.inl hn
    · exact Or.inr (weightsAll_mem h hn)
theorem open_pairs {H : Type} {enc : TypeId × Value → H} {W : World} {a0 : Option Addr} {len cap : Nat} {d0 : DataW H} {p : List MemPlace}
    (h0 : DataW.Trod enc Tryz.prog W 0 (fun _ => true) true 39 (.slice a0 len cap) d0 p) :
    ∃ ps : List Pr, ps.length = len ∧ InPr W a0 ps ∧ prBulk ps + 1 ≤ Rows.uptoBulk d0 ∧ (a0 = none → cap = 0) ∧ ps.length ≤ cap ∧ ((∃ n, n ∈ d0.weights Tryz.prog 39 ∧ ps.length * 32 ≤ n) ∨ ps.length * 32 = 0) ∧ ∀ x ∈ ps, x.1.length ∈ d0.weights Tryz.prog 39 ∧ x.2.length ∈ d0.weights Tryz.prog 39 := by
  obtain ⟨fuel, hf⟩ := h0
  rcases Deep.open_slice Tryz.underlying39 hf with ⟨hcs, hx⟩ | ⟨a, len', cap', m, n, D, Pl, hcs, _, hl, hm, hmm, hx, hV⟩
  · simp [Value.cells] at hcs
    obtain ⟨rfl, rfl, rfl⟩ := hcs
    exact ⟨[], rfl, (fun h => absurd h (by simp)), by simpa [prBulk] using one_le d0, fun _ => rfl, Nat.le_refl _, Or.inr rfl, fun x hx => by cases hx⟩
  · simp [Value.cells] at hcs
    obtain ⟨rfl, rfl, rfl⟩ := hcs
    simp only [Prod.mk.injEq] at hx
    obtain ⟨rfl, rfl⟩ := hx
    simp only [if_true] at hmm
    subst hmm
    have h2 : Tryz.prog.cellsOf 48 = 2 := by kernel_rfl
    rw [h2] at hV
    obtain ⟨F, hF⟩ := Deep.choose_lt (α := Pr) (n := len) (p := fun i x => W.cell? (a.add (i * 2)) = some (tx x.1) ∧ W.cell? ((a.add (i * 2)).add 1) = some (tx x.2) ∧ x.1.length + x.2.length + 3 ≤ Rows.uptoBulk (D i) ∧ x.1.length ∈ (D i).weights Tryz.prog 48 ∧ x.2.length ∈ (D i).weights Tryz.prog 48) (fun i hi => by
      obtain ⟨cs', hc, ht⟩ := hV i (by omega)
      obtain ⟨x, rfl, hb, hwt⟩ := open_pair ht
      obtain ⟨_, _, hat⟩ := World.cells?_some hc
      have k0 := hat 0 (by omega)
      have k1 := hat 1 (by omega)
      refine ⟨x, ?_, k1, hb, hwt⟩
      have e : (a.add (i * 2)).add 0 = a.add (i * 2) := by unfold Addr.add; split <;> simp_all
      rw [e] at k0
      exact k0)
    have hlen : ((List.range len).map F).length = len := by simp
    refine ⟨(List.range len).map F, hlen, (fun hpos => ?_), ?_, (fun h => by cases h), (by rw [hlen]; exact hl), Or.inl ⟨(((List.range len).map D).length + ((List.range (m - len)).map fun j => D (len + j)).length) * Tryz.prog.bytesOf 48, ?_, ?_⟩, fun x hx => ?_⟩
    · rw [hlen] at hpos
      obtain ⟨b, off, spot⟩ := a
      have hspot : spot = none := by simpa [Addr.add] using World.cell?_spot (hF 0 (by omega)).1
      subst hspot
      refine ⟨b, off, rfl, fun i hi => ?_⟩
      rw [hlen] at hi
      obtain ⟨k0, k1, _, _⟩ := hF i hi
      have e0 : (⟨b, off, none⟩ : Addr).add (i * 2) = ⟨b, off + i * 2, none⟩ := by unfold Addr.add; split <;> simp_all
      have e1 : (⟨b, off + i * 2, none⟩ : Addr).add 1 = ⟨b, off + i * 2 + 1, none⟩ := by unfold Addr.add; split <;> simp_all
      rw [e0] at k0 k1
      rw [e1] at k1
      simpa using ⟨k0, k1⟩
    · have h1 := pairs_bulk F D (List.range len) fun i hi => (hF i (List.mem_range.1 hi)).2.2.1
      simp only [Rows.uptoBulk]
      omega
    · simp only [DataW.weights, Tryz.underlying39]
      exact List.mem_cons_self
    · rw [hlen, show Tryz.prog.bytesOf 48 = 32 by kernel_rfl, List.length_map, List.length_range]
      omega
    · obtain ⟨i, hi, rfl⟩ := List.mem_map.1 hx
      obtain ⟨hw, hw'⟩ := (hF i (List.mem_range.1 hi)).2.2.2
      simp only [DataW.weights, Tryz.underlying39]
      exact ⟨List.mem_cons_of_mem _ (List.mem_append_left _ (weightsAll_mem (List.mem_map_of_mem hi) hw)), List.mem_cons_of_mem _ (List.mem_append_left _ (weightsAll_mem (List.mem_map_of_mem hi) hw'))⟩
theorem vals_reach {H : Type} {P : Program} {ts : List TypeId} {ds : List (DataW H)} {d : DataW H} {t : TypeId} {ps : List Pr} (hz : (DataW.weightsEach P ts ds).all (· ≤ reachBytes) = true) (j : Nat) (h1 : ts[j]? = some t) (h2 : ds[j]? = some d)
    (h : ∀ x ∈ ps, x.1.length ∈ d.weights P t ∧ x.2.length ∈ d.weights P t) : fld.Fit ps := fun x hx =>
  ⟨bytes_reach hz j h1 h2 (Or.inl ⟨_, (h x hx).1, Nat.le_refl _⟩), bytes_reach hz j h1 h2 (Or.inl ⟨_, (h x hx).2, Nat.le_refl _⟩)⟩
end Go.Proofs.YteihjgakhkpgnaaGreatDoor.opn
