/- ScopeMeets and ScopeOrders by SApi. -/
import Derived.Test.YtfeafhagnhbmiaaGreatDoorScpLb
namespace Go.Proofs.YtfeafhagnhbmiaaGreatDoor.scp
open Go.RowKit
open Go.Proofs.YtfeafhagnhbmiaaGreatDoor.oct Go.Proofs.YtfeafhagnhbmiaaGreatDoor.ref Go.Proofs.YtfeafhagnhbmiaaGreatDoor.rows Go.Proofs.YtfeafhagnhbmiaaGreatDoor.rowg

/-- what a call that answers a row answers -/
def Ans (w w' : World) (l : List T) (e : Ending) : Prop := ∃ p c, e = .returned (lval (p, c, l)) ∧ GoodL w' (p, c, l) ∧ Below w.heap.size w w'
theorem rowa_ans {w w' : World} {l : List T} {e : Ending} (h : RowA w w' (setP l) e) (hl : l.length ≤ 4194304) : Ans w w' (setP l) e := by
  obtain ⟨v, rfl, hown, hb⟩ := h
  obtain ⟨p, c, rfl, hg⟩ := own_good hown (fit_set l) (Nat.le_trans (setP_len l) hl)
  exact ⟨p, c, rfl, hg, hb⟩
theorem filter_few (l m : List T) (h : l.length ≤ 4194304) : (l.filter (hasB m)).length ≤ 4194304 := Nat.le_trans (List.length_filter_le _ _) h
theorem ref_set (m : Lst) (w : World) (hm : GoodL w m) : Calls Tryz.prog 54 #[lval m] w fun e w' => Ans w w' (setP m.2.2) e :=
  (rset_c m.1 m.2.1 m.2.2 w hm.row hm.few).mono fun _ _ h => rowa_ans h hm.few
theorem lenc_len : ∀ a, (lenc a).length = 1 := fun _ => rfl
theorem inl_new (W : World) (l : List Lst) (e : Nat) : InG lenc 1 (W.alloc (.cells (cells lenc l).toArray e)) (some ⟨W.heap.size, 0, none⟩) l := by
  intro _
  refine ⟨_, _, rfl, ?_⟩
  intro i hi j hj
  have h := new_cellsG W W.heap.size e rfl (cells lenc l) (i * 1 + j)
  have hc := cells_at lenc_len l i hi j hj
  have hl : j < (lenc l[i]).length := by rw [lenc_len]; exact hj
  rw [List.getElem?_eq_getElem hl] at hc ⊢
  have h2 := h _ hc
  rw [add_none] at h2
  rw [show 0 + i * 1 + j = 0 + (i * 1 + j) by omega]
  exact h2
theorem few_len (x : Lst) : (x.2.2.take 300).length ≤ 300 := by rw [List.length_take]; omega
end Go.Proofs.YtfeafhagnhbmiaaGreatDoor.scp
