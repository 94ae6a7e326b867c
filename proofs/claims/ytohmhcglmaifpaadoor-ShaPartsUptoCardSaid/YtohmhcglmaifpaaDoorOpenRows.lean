/- Opening a [][]byte argument of a law: a row of rows (InP), the bulk's bound. -/
import Derived.Test.YtohmhcglmaifpaaDoorOpen
import Derived.Test.YtohmhcglmaifpaaDoorSha8
import Derived.Deep.Slices
namespace Go.Proofs.YtohmhcglmaifpaaDoor.opn
open Go.ChangeShapes Go.WideShapes Go.ChangeAt Go.RowKit
open Go.Proofs.YtohmhcglmaifpaaDoor.oct (In8)
open Go.Proofs.YtohmhcglmaifpaaDoor.sha (Part InP joined)

instance : Inhabited Part := ⟨⟨none, 0, []⟩⟩
theorem rows_bulk {H : Type} (F : Nat → Part) (D : Nat → DataW H) : ∀ xs : List Nat, (∀ i ∈ xs, (F i).l.length + 1 ≤ Rows.uptoBulk (D i)) → (joined (xs.map F)).length + xs.length ≤ Rows.uptoBulkAll (xs.map D)
  | [], _ => by simp [joined, Rows.uptoBulkAll]
  | x :: xs, h => by
    have h1 := rows_bulk F D xs fun i hi => h i (List.mem_cons_of_mem _ hi)
    have h2 := h x List.mem_cons_self
    have e : (joined ((x :: xs).map F)).length = (F x).l.length + (joined (xs.map F)).length := by simp [joined]
    rw [e]
    simp only [List.map_cons, Rows.uptoBulkAll, List.length_cons]
    omega

theorem open_part {H : Type} {enc : TypeId × Value → H} {W : World} {fuel : Nat} {v : Value} {d : DataW H} {p : List MemPlace}
    (h : DataW.trod enc Tryd.prog W 0 (fun _ => true) true fuel 22 [v] = some (d, p)) : ∃ x : Part, v = x.val ∧ x.lies W ∧ x.l.length + 1 ≤ Rows.uptoBulk d := by
  have hs : ∃ a0 len cap, v = .slice a0 len cap := by
    rcases open_ints Tryd.underlying22 Tryd.underlying5 (show Tryd.prog.cellsOf 5 = 1 by kernel_rfl) h with ⟨hcs, _⟩ | ⟨a, len', cap', _, hcs, _⟩
    · exact ⟨none, 0, 0, by simpa using hcs⟩
    · exact ⟨some a, len', cap', by simpa using hcs⟩
  obtain ⟨a0, len, cap, rfl⟩ := hs
  obtain ⟨l, hl, hin, hb, hn, hcap, _⟩ := open_bytes (enc := enc) (W := W) (a0 := a0) (len := len) (cap := cap) (d0 := d) (p := p) ⟨fuel, by simpa [Value.cells] using h⟩
  subst hl
  exact ⟨⟨a0, cap, l⟩, rfl, ⟨hin, ⟨hn, hcap⟩⟩, hb⟩

theorem open_rows {H : Type} {enc : TypeId × Value → H} {W : World} {a0 : Option Addr} {len cap : Nat} {d0 : DataW H} {p : List MemPlace}
    (h0 : DataW.Trod enc Tryd.prog W 0 (fun _ => true) true 34 (.slice a0 len cap) d0 p) :
    ∃ ps : List Part, ps.length = len ∧ InP W a0 ps ∧ (joined ps).length + ps.length + 1 ≤ Rows.uptoBulk d0 ∧ (a0 = none → cap = 0) ∧ ps.length ≤ cap := by
  obtain ⟨fuel, hf⟩ := h0
  rcases Deep.open_slice1 Tryd.underlying34 (show Tryd.prog.cellsOf 22 = 1 by kernel_rfl) hf with ⟨hcs, hx⟩ | ⟨a, len', cap', m, n, V, D, Pl, hcs, _, hl, hm, hmm, hx, hV⟩
  · simp [Value.cells] at hcs
    obtain ⟨rfl, rfl, rfl⟩ := hcs
    exact ⟨[], rfl, ⟨fun h => absurd h (by simp), fun x hx => by cases hx⟩, by simpa [joined] using one_le d0, fun _ => rfl, Nat.le_refl _⟩
  · simp [Value.cells] at hcs
    obtain ⟨rfl, rfl, rfl⟩ := hcs
    simp only [Prod.mk.injEq] at hx
    obtain ⟨rfl, rfl⟩ := hx
    simp only [if_true] at hmm
    subst hmm
    obtain ⟨F, hF⟩ := Deep.choose_lt (α := Part) (n := len) (p := fun i x => V i = x.val ∧ x.lies W ∧ x.l.length + 1 ≤ Rows.uptoBulk (D i)) (fun i hi => open_part (hV i (by omega)).2)
    have hlen : ((List.range len).map F).length = len := by simp
    refine ⟨(List.range len).map F, hlen, ⟨fun hpos => ?_, fun x hx => ?_⟩, ?_, (fun h => by cases h), (by rw [hlen]; exact hl)⟩
    · rw [hlen] at hpos
      obtain ⟨b, off, spot⟩ := a
      have hspot : spot = none := by simpa [Addr.add] using World.cell?_spot (hV 0 (by omega)).1
      subst hspot
      refine ⟨b, off, rfl, fun i hi => ?_⟩
      rw [hlen] at hi
      have hc := (hV i (by omega)).1
      rw [show (⟨b, off, none⟩ : Addr).add i = ⟨b, off + i, none⟩ from by unfold Addr.add; split <;> simp_all] at hc
      rw [hc, (hF i hi).1]
      simp
    · obtain ⟨i, hi, rfl⟩ := List.mem_map.1 hx
      exact (hF i (List.mem_range.1 hi)).2.1
    · have h1 := rows_bulk F D (List.range len) fun i hi => (hF i (List.mem_range.1 hi)).2.2
      rw [hlen]
      simp only [List.length_range] at h1
      simp only [Rows.uptoBulk]
      omega
end Go.Proofs.YtohmhcglmaifpaaDoor.opn
