/- Rows of pairs: one appended to a row of the call's own, nil or not; the empty row; what an own row holds. -/
import Derived.Test.YteihjgakhkpgnaaGreatDoorGfld
import Derived.Deep.AppendLies
namespace Go.Proofs.YteihjgakhkpgnaaGreatDoor.fld
open Go.RowKit
open Go.Proofs.YteihjgakhkpgnaaGreatDoor.oct Go.Proofs.YteihjgakhkpgnaaGreatDoor.ref Go.Proofs.YteihjgakhkpgnaaGreatDoor.rows
open Go.Lib (byteCells)

theorem pcells_odd (ps : List Pr) {j : Nat} {u : Value} (h : (pcells ps)[j]? = some u) : j / 2 < ps.length ∧ ∀ hi : j / 2 < ps.length, u = if j % 2 = 0 then tx (ps[j / 2]).1 else tx (ps[j / 2]).2 := by
  have hlt := (List.getElem?_eq_some_iff.1 h).1
  rw [pcells_len] at hlt
  have hj : j / 2 < ps.length := by omega
  refine ⟨hj, fun hi => ?_⟩
  obtain ⟨h1, h2⟩ := pcells_at ps (j / 2) hj
  rcases Nat.mod_two_eq_zero_or_one j with hm | hm
  · rw [if_pos hm]
    rw [show j / 2 * 2 = j by omega, h] at h1
    exact Option.some.inj h1
  · rw [if_neg (by omega)]
    rw [show j / 2 * 2 + 1 = j by omega, h] at h2
    exact Option.some.inj h2
theorem src_pairs {w : World} {ad : Addr} {ps : List Pr} (h : InPr w (some ad) ps) : ∀ j u, (pcells ps)[j]? = some u → w.cell? (ad.add j) = some u := by
  intro j u hj
  obtain ⟨h1, h2⟩ := pcells_odd ps hj
  obtain ⟨b, o, he, hc⟩ := h (by omega)
  cases he
  have h3 := h2 h1
  obtain ⟨c1, c2⟩ := hc (j / 2) h1
  rw [show (⟨b, o, none⟩ : Addr).add j = ⟨b, o + j, none⟩ from by unfold Addr.add; split <;> simp_all]
  rcases Nat.mod_two_eq_zero_or_one j with hm | hm
  · rw [if_pos hm] at h3
    rw [h3, ← c1]
    congr 2
    omega
  · rw [if_neg (by omega)] at h3
    rw [h3, ← c2]
    congr 2
    omega
theorem inpr_nil {w : World} {ps : List Pr} (h : InPr w none ps) : ps = [] := by
  rcases ps with _ | ⟨a, m⟩
  · rfl
  · obtain ⟨b, o, h1, _⟩ := h (by simp)
    cases h1
theorem pcells_tx (ps : List Pr) : ∀ u ∈ pcells ps, ∃ l, u = tx l := by
  intro u hu
  unfold pcells at hu
  obtain ⟨x, _, hx⟩ := List.mem_flatMap.1 hu
  rcases List.mem_cons.1 hx with rfl | hx
  · exact ⟨_, rfl⟩
  · exact ⟨_, List.mem_singleton.1 hx⟩
theorem wpList_append_pr {w : World} {ops : Array Oper} {rest : List Oper} {o : Oper} {a : Act} {Q : Exit → Act → World → Prop} (hgd : o.guard = none) (s x : Operand)
    (ho : o.op = .call { callee := .builtin .append, args := #[s, x], argTypes := #[39, 39] }) (base : Nat)
    (v : Value) (n : Nat) (xs : List Value) (hs : a.eval s = v) (hown : w.ownsRow base 48 2 v n xs) (q : Option Addr) (m cq : Nat) (l : List Pr) (hx : a.eval x = .slice q m cq)
    (hq : InPr w q l) (hm : l.length = m) (hnil : q = none → cq = 0) (hb : n + m ≤ 4398046511104) (hbase : base ≤ w.heap.size)
    (h : ∀ v' w', w'.ownsRow base 48 2 v' (n + m) (xs ++ pcells l) → w.grownBy w' v.ownBlock → wpList Tryz.prog ops Q rest (a.put o.dst v') w') :
    wpList Tryz.prog ops Q (o :: rest) a w := by
  obtain ⟨j0, hj, hy0, hy1, hy2⟩ := info_parts infoPair
  subst hm
  rcases q with _ | ad
  · obtain rfl := inpr_nil hq
    obtain rfl := hnil rfl
    refine wpList_append_own_none hgd s x 39 ho base 48 j0 2 Tryz.underlying39 hj v n xs hs hown hx ?_
    exact h v w (by simpa [pcells] using hown) (World.grownBy.refl w _)
  · refine wpList_append_own _ hgd s x 39 ho base 48 j0 (.agg #[tx [], tx []]) 2 32 Tryz.underlying39 hj hy0 hy1 hy2 rfl (by decide) v n xs hs hown ad l.length cq (pcells l) hx (pcells_len l) (src_pairs hq) (fun u hu => by obtain ⟨l, rfl⟩ := pcells_tx _ u hu; rfl) (by unfold maxLen; omega) (by omega) hbase ?_
    intro v' w' hown' hgrow _
    exact h v' w' hown' hgrow
/-- a guarded operation whose guard says that it is wanted -/
theorem wpList_met {P : Program} {w : World} {ops : Array Oper} {rest : List Oper} {o : Oper} {a : Act} {Q : Exit → Act → World → Prop} (h0 : Region.wanted o (yielded ops a.tmps) = true)
    (h : wpList P ops Q ({ o with guard := none } :: rest) a w) : wpList P ops Q (o :: rest) a w := by
  unfold wpList at h ⊢
  rw [if_pos h0]
  rw [if_pos (by simp [Region.wanted])] at h
  exact h
theorem own_nilP (w : World) : (w.alloc (.cells #[] 48)).ownsRow w.heap.size 48 2 (.slice (some ⟨w.heap.size, 0, none⟩) 0 0) 0 (pcells []) :=
  ⟨by simp [pcells], Or.inr ⟨w.heap.size, 0, #[], rfl, Nat.le_refl _, heap_alloc_new w _, Nat.le_refl _, by decide, (by first | rfl | (simp; rfl)), (by first | rfl | (simp; rfl))⟩⟩
theorem own_ps {w : World} {B : Nat} {v : Value} {ps : List Pr} {n : Nat} {xs : List Value} (h : w.ownsRow B 48 2 v n xs) (hn : n = ps.length) (hx : xs = pcells ps) : ∃ p c, v = .slice p ps.length c ∧ ps.length ≤ c ∧ (p = none → c = 0) ∧ InPr w p ps := by
  subst hn
  subst hx
  exact own_pairs h
theorem own_after {w w1 w' : World} {B : Nat} {v : Value} {ps : List Pr} (hb : Below w.heap.size w w1) (hB : w.heap.size ≤ B) (hown : w1.ownsRow B 48 2 v ps.length (pcells ps)) (hg : w1.grownBy w' v.ownBlock) : Below w.heap.size w w' :=
  hb.grown hg hb.size (fun k hk => Nat.le_trans hB (hown.lt k hk).1)
end Go.Proofs.YteihjgakhkpgnaaGreatDoor.fld
