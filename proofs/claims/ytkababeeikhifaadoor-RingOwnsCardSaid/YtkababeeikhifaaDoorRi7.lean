/- Names and Points of a ring, and of none. No condition. -/
import Derived.Test.YtkababeeikhifaaDoorRi6
namespace Go.Proofs.YtkababeeikhifaaDoor.rng
open Go.RowKit
open Go.Proofs.YtkababeeikhifaaDoor.oct Go.Proofs.YtkababeeikhifaaDoor.ref Go.Proofs.YtkababeeikhifaaDoor.rows Go.Proofs.YtkababeeikhifaaDoor.rowg Go.Proofs.YtkababeeikhifaaDoor.trn
open Go.Proofs.YtkababeeikhifaaDoor.scp (tx senc senc_len InS ins_below ins_cell)

/-- where a row of the call's own lies -/
theorem own_in {α : Type} {enc : α → List Value} {k : Nat} (hk : ∀ a, (enc a).length = k) (h0 : 0 < k) {w : World} {B e : Nat} {v : Value} {ps : List α} {n : Nat} (hn : ps.length = n) (h1 : 1 ≤ n) (h : w.ownsRow B e k v n (cells enc ps)) : ∃ b c, v = .slice (some ⟨b, 0, none⟩) n c ∧ n ≤ c ∧ InG enc k w (some ⟨b, 0, none⟩) ps := by
  subst hn
  obtain ⟨p, c, rfl, hc, _, hin⟩ := own_g hk h0 h
  rcases h.2 with ⟨h2, h3⟩ | ⟨g, cap, cur, h2, _⟩
  · omega
  · injection h2 with h2 h3 h4
    subst h2
    exact ⟨g, c, rfl, hc, hin⟩
theorem names_c {w : World} {F : Nat → Prop} {g n : Nat} {ms : List T} (h : Rg w F g n ms) :
    Calls Tryd.prog 13 #[.pointer (some ⟨g, 0, none⟩)] w fun e w' => ∃ v, e = .returned v ∧ w'.ownsRow w.heap.size 9 1 v ms.length (cells senc ms) ∧ Below w.heap.size w w' := by
  obtain ⟨vn, vp, hR⟩ := h
  have hg := hR.good
  have h1 := hg.lo
  have h8 := hg.hi
  obtain ⟨b, c, rfl, hc, hin⟩ := own_in senc_len (by decide) rfl h1 hR.nrow
  have HC := Lib.hid (cloned_c (some ⟨b, 0, none⟩) c ms.length ms w hin rfl (by omega) (fun x hx => by have := (hg.ok x hx).2; omega))
  have c1 : w.cell? ⟨g, 1, none⟩ = some (.slice (some ⟨b, 0, none⟩) ms.length c) := hR.blk.cell 1
  obtain ⟨m, hm⟩ : ∃ m, ms.length = m := ⟨_, rfl⟩
  rw [hm] at HC c1 ⊢
  clear hm hR hg hin h1 h8 hc
  go_enter Tryd.func13, Tryd.ntmps13
  go_wp2_with fail
  refine HC.out.mono ?_
  rintro e w1 ⟨v, rfl, hn, hb⟩
  have HN := Lib.hid (And.intro hn hb)
  clear hn hb HC c1
  obtain ⟨pv, cv, rfl⟩ := cln.own_slice HN.out.1
  go_wp2_with fail
  go_ret
  exact ⟨_, rfl, HN.out.1, HN.out.2⟩
theorem names_nil (w : World) : Calls Tryd.prog 13 #[.pointer none] w fun e w' => e = .returned (.slice none 0 0) ∧ w = w' := by
  go_enter Tryd.func13, Tryd.ntmps13
  go_wp2_with fail
  go_ret
  exact ⟨rfl, rfl⟩
theorem points_nil (w : World) : Calls Tryd.prog 15 #[.pointer none] w fun e w' => e = .returned (.slice none 0 0) ∧ w = w' := by
  go_enter Tryd.func15, Tryd.ntmps15
  go_wp2_with fail
  go_ret
  exact ⟨rfl, rfl⟩
theorem pcells {w : World} {b : Nat} {l : List Pn} (h : InG pnc 2 w (some ⟨b, 0, none⟩) l) : ∀ j u, (cells pnc l)[j]? = some u → w.cell? ⟨b, 0 + j, none⟩ = some u := fun j u hu => by
  have := src_g pnc_len (by decide) h j u hu
  rw [add_none] at this
  exact this
theorem points_c {w : World} {F : Nat → Prop} {g n : Nat} {ms : List T} (h : Rg w F g n ms) :
    Calls Tryd.prog 15 #[.pointer (some ⟨g, 0, none⟩)] w fun e w' => ∃ v, e = .returned v ∧ w'.ownsRow w.heap.size 37 2 v (ms.length * n) (cells pnc (rpts n ms)) ∧ Below w.heap.size w w' := by
  obtain ⟨vn, vp, hR⟩ := h
  have hg := hR.good
  have h1 : 1 ≤ ms.length * n := Nat.mul_le_mul hg.lo hR.n1
  have h8 : ms.length * n ≤ 8 * 64 := Nat.mul_le_mul hg.hi hR.n64
  obtain ⟨b, c, rfl, hc, hin⟩ := own_in pnc_len (by decide) (rpts_len n ms) h1 hR.prow
  obtain ⟨j0, hj, hy0, hy1, hy2⟩ := info_parts infoPt
  have HC := Lib.hid (AnyE.slices_Clone YtkababeeikhifaaDoor.sh.laysCl j0 (.agg #[.int .u64 0, .int .i64 0]) 2 16 hj hy0 hy1 hy2 rfl (by decide) Tryd.sizeOf37 b 0 (ms.length * n) c (cells pnc (rpts n ms)) w (by rw [cells_len pnc_len, rpts_len]) (by unfold maxLen; omega) (by omega) (pcells hin) (fun u hu => by obtain ⟨x, hx⟩ := cells_mem hu; exact pnc_one x u hx))
  have HC2 : Hid (Calls Tryd.prog 33 #[.slice (some ⟨b, 0, none⟩) (ms.length * n) c] w fun e w' => ∃ v', e = .returned v' ∧ w'.ownsRow w.heap.size 37 2 v' (ms.length * n) (cells pnc (rpts n ms)) ∧ v' ≠ .slice none 0 0 ∧ Below w.heap.size w w') := HC
  have c2 : w.cell? ⟨g, 2, none⟩ = some (.slice (some ⟨b, 0, none⟩) (ms.length * n) c) := hR.blk.cell 2
  obtain ⟨m, hm⟩ : ∃ m, ms.length * n = m := ⟨_, rfl⟩
  rw [hm] at HC2 c2 ⊢
  clear hm hR hg hin h1 h8 hc HC
  go_enter Tryd.func15, Tryd.ntmps15
  go_wp2_with fail
  refine HC2.out.mono ?_
  rintro e w1 ⟨v, rfl, hn, _, hb⟩
  have HN := Lib.hid (And.intro hn hb)
  clear hn hb HC2 c2
  obtain ⟨pv, cv, rfl⟩ := cln.own_slice HN.out.1
  go_wp2_with fail
  go_ret
  exact ⟨_, rfl, HN.out.1, HN.out.2⟩
end Go.Proofs.YtkababeeikhifaaDoor.rng
