/- Opening a []byte argument and an array of bytes. Of no function. No condition. -/
import Derived.Test.YtjadginnaogjoaaGreatDoorOpen0
import Derived.Test.YtjadginnaogjoaaGreatDoorBaseA
namespace Go.Proofs.YtjadginnaogjoaaGreatDoor.opn
set_option maxRecDepth 100000
open Go.ChangeShapes Go.WideShapes Go.ChangeAt Go.RowKit
open Go.Proofs.YtjadginnaogjoaaGreatDoor.oct (In8)

theorem byte_wf {x : Int} (h : (Lit.int .u8 x).wf = true) : 0 ≤ x ∧ x < 256 := by
  have h1 : IntKind.u8.min = 0 := rfl
  have h2 : IntKind.u8.max = 255 := rfl
  simp only [Lit.wf, Bool.and_eq_true, decide_eq_true_eq] at h
  omega

theorem open_bytes {H : Type} {enc : TypeId × Value → H} {W : World} {a0 : Option Addr} {len cap : Nat} {d0 : DataW H} {p : List MemPlace}
    (h0 : DataW.Trod enc Tryz.prog W 0 (fun _ => true) true 22 (.slice a0 len cap) d0 p) :
    ∃ l : List UInt8, l.length = len ∧ In8 W a0 l ∧ l.length + 1 ≤ Rows.uptoBulk d0 ∧ (a0 = none → cap = 0) ∧ l.length ≤ cap ∧ ((∃ n, n ∈ d0.weights Tryz.prog 22 ∧ l.length ≤ n) ∨ l.length = 0) := by
  obtain ⟨fuel, hf⟩ := h0
  rcases open_ints Tryz.underlying22 Tryz.underlying5 (show Tryz.prog.cellsOf 5 = 1 by kernel_rfl) hf with ⟨hcs, hx⟩ | ⟨a, len', cap', zs, hcs, _, hl, hm, hz, hx, hcell, hwz⟩
  · simp [Value.cells] at hcs
    obtain ⟨rfl, rfl, rfl⟩ := hcs
    exact ⟨[], rfl, (fun h => by simp at h), one_le _, (fun _ => rfl), Nat.le_refl _, Or.inr rfl⟩
  · simp [Value.cells] at hcs
    obtain ⟨rfl, rfl, rfl⟩ := hcs
    simp only [Prod.mk.injEq] at hx
    obtain ⟨rfl, rfl⟩ := hx
    simp only [if_true] at hz
    have hlen : ((zs.take len).map fun n => UInt8.ofNat n.toNat).length = len := by simp; omega
    have h2 : (lits (H := H) .u8 (zs.take len)).length = len := by simp [lits]; omega
    refine ⟨(zs.take len).map fun n => UInt8.ofNat n.toNat, hlen, fun hpos => ?_, ?_, ?_, ?_, ?_⟩
    · rw [hlen] at hpos
      obtain ⟨b, off, spot⟩ := a
      have hspot : spot = none := by simpa [Addr.add] using World.cell?_spot (hcell 0 (by omega))
      subst hspot
      refine ⟨b, off, rfl, fun i hi => ?_⟩
      rw [hlen] at hi
      have hc := hcell i (by omega)
      rw [show (⟨b, off, none⟩ : Addr).add i = ⟨b, off + i, none⟩ from by unfold Addr.add; split <;> simp_all] at hc
      rw [hc]
      have hiz : i < zs.length := by omega
      obtain ⟨g0, g1⟩ := byte_wf (hwz zs[i] (List.getElem_mem hiz))
      have e : (((zs.take len).map fun n => UInt8.ofNat n.toNat).getD i 0).toNat = zs[i].toNat := by
        simp [List.getD, hi, List.getElem?_eq_getElem hiz]
        omega
      rw [e]
      have e2 : zs.getD i 0 = zs[i] := by simp [List.getD, List.getElem?_eq_getElem hiz]
      rw [e2, Int.toNat_of_nonneg g0]
    · rw [hlen]
      have h1 := length_le (lits (H := H) .u8 (zs.take len))
      simp only [Rows.uptoBulk]
      omega
    · exact fun h => by cases h
    · rw [hlen]; exact hl
    · refine Or.inl ⟨((lits (H := H) .u8 (zs.take len)).length + (lits (H := H) .u8 (zs.drop len)).length) * Tryz.prog.bytesOf 5, ?_, ?_⟩
      · simp only [DataW.weights, Tryz.underlying22]
        exact List.mem_cons_self
      · rw [hlen, h2, show Tryz.prog.bytesOf 5 = 1 by kernel_rfl]
        omega
set_option maxRecDepth 8000 in
/-- an array of bytes that is handed in -/
theorem open_arr {H : Type} {enc : TypeId × Value → H} {W : World} {r : Reach} {b0 base : Nat} {sp : Nat → Bool} {held : Bool} {t : TypeId} {n : Nat} {v : Value} {d0 : DataW H} {p : List MemPlace} (ht : Tryz.prog.underlying t = some (.array n 5)) (hct : Tryz.prog.cellsOf t = n)
    (hval : Value.okWide Tryz.prog W r b0 t v) (h0 : DataW.Trod enc Tryz.prog W base sp held t v d0 p) : ∃ l : List UInt8, l.length = n ∧ v = .agg (Lib.byteCells l).toArray := by
  simp only [Value.okWide, ht] at hval
  obtain ⟨cs, rfl, hsz, _⟩ := hval
  rw [hct] at hsz
  obtain ⟨fuel, hf⟩ := h0
  cases fuel with
  | zero => simp [DataW.trod] at hf
  | succ fuel =>
    simp only [DataW.trod, ht, show Tryz.prog.cellsOf 5 = 1 by kernel_rfl, hct, Nat.mul_one] at hf
    split at hf
    · obtain ⟨xs, hm, _⟩ := Option.map_eq_some_iff.1 hf
      have key : ∀ i, i < n → ∃ z : Int, cs[i]? = some (.int .u8 z) ∧ 0 ≤ z ∧ z < 256 := by
        intro i hi
        obtain ⟨b, _, hb⟩ := Lib.mapM_at hm i i (by simp [hi])
        obtain ⟨z, hc, _, hw⟩ := DataW.trod_int Tryz.underlying5 hb
        have h1 : cs[i]? = some (.int .u8 z) := by
          have := congrArg (·[0]?) hc
          simpa [List.getElem?_take, List.getElem?_drop, Value.cells] using this
        exact ⟨z, h1, byte_wf hw⟩
      refine ⟨cs.toList.map fun v => match v with | .int _ z => UInt8.ofNat z.toNat | _ => 0, by simp [hsz], ?_⟩
      congr 1
      apply Array.ext_getElem?
      intro i
      rcases Nat.lt_or_ge i n with hi | hi
      · obtain ⟨z, h1, h2, h3⟩ := key i hi
        simp [Lib.byteCells, h1]
        omega
      · rw [Array.getElem?_eq_none (by omega), Array.getElem?_eq_none (by simp [Lib.byteCells]; omega)]
    · cases hf
end Go.Proofs.YtjadginnaogjoaaGreatDoor.opn
