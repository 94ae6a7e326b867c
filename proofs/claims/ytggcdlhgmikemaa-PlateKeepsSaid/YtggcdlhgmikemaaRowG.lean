/- Rows of values of several cells each (structs), read as lists: cells, InG (an argument's row), own rows, append. For any kind of element: enc gives its cells, k of them. No condition. -/
import Derived.Test.YtggcdlhgmikemaaMem0
import Derived.Deep.AppendLies
import Derived.Deep.Slices
namespace Go.Proofs.Ytggcdlhgmikemaa.rowg
open Go.RowKit
open Go.Proofs.Ytggcdlhgmikemaa.oct

variable {α : Type} {enc : α → List Value} {k : Nat}

/-- the cells of a row -/
def cells (enc : α → List Value) (ps : List α) : List Value := ps.flatMap enc
theorem cells_append (enc : α → List Value) (a b : List α) : cells enc (a ++ b) = cells enc a ++ cells enc b := by simp [cells]
theorem cells_one (enc : α → List Value) (a : α) : cells enc [a] = enc a := by simp [cells]
theorem cells_len (hk : ∀ a, (enc a).length = k) (ps : List α) : (cells enc ps).length = ps.length * k := by
  induction ps with
  | nil => simp [cells]
  | cons x r ih =>
    have e : cells enc (x :: r) = enc x ++ cells enc r := rfl
    rw [e, List.length_append, ih, hk, List.length_cons, Nat.succ_mul]
    omega
theorem cells_at (hk : ∀ a, (enc a).length = k) : ∀ (ps : List α) (i : Nat) (h : i < ps.length) (j : Nat), j < k → (cells enc ps)[i * k + j]? = (enc (ps[i]))[j]?
  | [], i, h, _, _ => by simp at h
  | x :: r, 0, _, j, hj => by
    have e : cells enc (x :: r) = enc x ++ cells enc r := rfl
    rw [e, Nat.zero_mul, Nat.zero_add, List.getElem?_append_left (by rw [hk]; exact hj)]
    rfl
  | x :: r, i + 1, h, j, hj => by
    have e : cells enc (x :: r) = enc x ++ cells enc r := rfl
    have h2 := cells_at hk r i (by simpa using h) j hj
    rw [e, List.getElem?_append_right (by rw [hk, Nat.succ_mul]; omega), hk, show (i + 1) * k + j - k = i * k + j by rw [Nat.succ_mul]; omega, h2]
    rfl
/-- a row at a slice's address -/
def InG (enc : α → List Value) (k : Nat) (w : World) (P : Option Addr) (ps : List α) : Prop :=
  0 < ps.length → ∃ b o, P = some ⟨b, o, none⟩ ∧ ∀ i (h : i < ps.length) j, j < k → w.cell? ⟨b, o + i * k + j, none⟩ = (enc (ps[i]))[j]?
theorem InG.below {w w' : World} {P : Option Addr} {ps : List α} (hk : ∀ a, (enc a).length = k) (h0 : 0 < k) (h : InG enc k w P ps) (hb : Below w.heap.size w w') : InG enc k w' P ps := by
  intro hl
  obtain ⟨b, o, rfl, hc⟩ := h hl
  have h1 := hc 0 hl 0 h0
  have h2 : ∃ u, (enc (ps[0]))[0]? = some u := ⟨_, List.getElem?_eq_getElem (by rw [hk]; exact h0)⟩
  obtain ⟨u, hu⟩ := h2
  rw [hu] at h1
  have hlt : b < w.heap.size := cell_lt h1
  exact ⟨b, o, rfl, fun i hi j hj => (hb.cell (p := ⟨b, o + i * k + j, none⟩) hlt).trans (hc i hi j hj)⟩
theorem ing_nil {w : World} {ps : List α} (h : InG enc k w none ps) : ps = [] := by
  rcases ps with _ | ⟨a, m⟩
  · rfl
  · obtain ⟨b, o, h1, _⟩ := h (by simp)
    cases h1
/-- the cells of one element of a row -/
theorem InG.cells {w : World} {P : Option Addr} {ps : List α} (h : InG enc k w P ps) (i : Nat) (hi : i < ps.length) : ∃ b o, P = some ⟨b, o, none⟩ ∧ ∀ j, j < k → w.cell? ⟨b, o + i * k + j, none⟩ = (enc (ps[i]))[j]? := by
  obtain ⟨b, o, e, hc⟩ := h (by omega)
  exact ⟨b, o, e, hc i hi⟩
theorem own_g (hk : ∀ a, (enc a).length = k) {w : World} {B e : Nat} {v : Value} {ps : List α} (h0 : 0 < k) (h : w.ownsRow B e k v ps.length (cells enc ps)) : ∃ p c, v = .slice p ps.length c ∧ ps.length ≤ c ∧ (p = none → c = 0) ∧ InG enc k w p ps := by
  obtain ⟨h2, h1⟩ := h
  rcases h1 with ⟨rfl, hx⟩ | ⟨g, cp, cur, rfl, _, hg, hn, hm, hs, ht⟩
  · have hl := cells_len hk ps
    rw [hx] at hl
    have hz : ps.length = 0 := by
      rcases Nat.eq_zero_or_pos ps.length with hz | hz
      · exact hz
      · have := Nat.mul_pos hz h0
        simp at hl; omega
    rw [hz]
    exact ⟨none, 0, rfl, Nat.le_refl _, fun _ => rfl, fun hp => by omega⟩
  · refine ⟨_, cp, rfl, hn, (fun h => by cases h), fun hp => ⟨g, 0, rfl, fun i hi j hj => ?_⟩⟩
    have hlt : i * k + j < ps.length * k := by
      have h3 : (i + 1) * k ≤ ps.length * k := Nat.mul_le_mul_right k hi
      rw [Nat.succ_mul] at h3
      omega
    have hc : w.cell? ⟨g, i * k + j, none⟩ = (cells enc ps)[i * k + j]? := by
      rw [cell_of_row w g (i * k + j) cur e (0, 0) hg, ← ht, List.getElem?_take, if_pos hlt]
      simp
    rw [Nat.zero_add, hc]
    exact cells_at hk ps i hi j hj
theorem add_none (b o j : Nat) : (⟨b, o, none⟩ : Addr).add j = ⟨b, o + j, none⟩ := by unfold Addr.add; split <;> simp_all
theorem src_g (hk : ∀ a, (enc a).length = k) (h0 : 0 < k) {w : World} {ad : Addr} {ps : List α} (h : InG enc k w (some ad) ps) : ∀ j u, (cells enc ps)[j]? = some u → w.cell? (ad.add j) = some u := by
  intro j u hj
  have hlt := (List.getElem?_eq_some_iff.1 hj).1
  rw [cells_len hk] at hlt
  have hpl : 0 < ps.length := by
    rcases Nat.eq_zero_or_pos ps.length with hz | hz
    · rw [hz, Nat.zero_mul] at hlt; omega
    · exact hz
  have hd : j / k < ps.length := Nat.div_lt_of_lt_mul (by rw [Nat.mul_comm]; exact hlt)
  have hm : j % k < k := Nat.mod_lt _ h0
  have he : j / k * k + j % k = j := by rw [Nat.mul_comm]; exact Nat.div_add_mod j k
  obtain ⟨b, o, e, hc⟩ := h hpl
  cases e
  have h2 := cells_at hk ps (j / k) hd (j % k) hm
  rw [he, hj] at h2
  have h3 := hc (j / k) hd (j % k) hm
  rw [← h2, Nat.add_assoc, he] at h3
  rw [show (⟨b, o, none⟩ : Addr).add j = ⟨b, o + j, none⟩ from by unfold Addr.add; split <;> simp_all]
  exact h3
theorem cells_mem {u : Value} {ps : List α} (h : u ∈ cells enc ps) : ∃ a, u ∈ enc a := by
  unfold cells at h
  obtain ⟨x, _, hx⟩ := List.mem_flatMap.1 h
  exact ⟨x, hx⟩
/-- a whole row, appended to a row of the call's own (t: the slice's type, e: the element's) -/
theorem wpList_append_g (hk : ∀ a, (enc a).length = k) (h0 : 0 < k) (h1c : ∀ a, ∀ u ∈ enc a, u.oneCell' = true) {P : Program} {w : World} {ops : Array Oper} {rest : List Oper} {o : Oper} {a : Act} {Q : Exit → Act → World → Prop} (hgd : o.guard = none) (s x : Operand) (t e : TypeId)
    (ho : o.op = .call { callee := .builtin .append, args := #[s, x], argTypes := #[t, t] }) (ht : P.underlying t = some (.slice e)) {j0 : TypeInfo} (hj : P.info? e = some j0) {z : Value} {bytes : Nat} (hz : j0.zero = some z) (hsz : j0.size = k) (hby : j0.bytes = bytes) (hzc : z.cells.size = k) (base : Nat)
    (v : Value) (n : Nat) (xs : List Value) (hs : a.eval s = v) (hown : w.ownsRow base e k v n xs) (q : Option Addr) (m cq : Nat) (l : List α) (hx : a.eval x = .slice q m cq)
    (hq : InG enc k w q l) (hm : l.length = m) (hnil : q = none → cq = 0) (hb : n + m ≤ maxLen) (hb2 : (n + m) * bytes ≤ 140737488355328) (hbase : base ≤ w.heap.size)
    (h : ∀ v' w', w'.ownsRow base e k v' (n + m) (xs ++ cells enc l) → w.grownBy w' v.ownBlock → wpList P ops Q rest (a.put o.dst v') w') :
    wpList P ops Q (o :: rest) a w := by
  subst hm
  rcases q with _ | ad
  · obtain rfl := ing_nil hq
    obtain rfl := hnil rfl
    refine wpList_append_own_none hgd s x t ho base e j0 k ht hj v n xs hs hown hx ?_
    exact h v w (by simpa [cells] using hown) (World.grownBy.refl w _)
  · refine wpList_append_own _ hgd s x t ho base e j0 z k bytes ht hj hz hsz hby hzc h0 v n xs hs hown ad l.length cq (cells enc l) hx (cells_len hk l) (src_g hk h0 hq) (fun u hu => by obtain ⟨y, hy⟩ := cells_mem hu; exact h1c y u hy) hb hb2 hbase ?_
    intro v' w' hown' hgrow _
    exact h v' w' hown' hgrow
theorem own_emptyG (w : World) (e : TypeId) : (w.alloc (.cells #[] e)).ownsRow w.heap.size e k (.slice (some ⟨w.heap.size, 0, none⟩) 0 0) 0 (cells enc []) :=
  ⟨by simp [cells], Or.inr ⟨w.heap.size, 0, #[], rfl, Nat.le_refl _, heap_alloc_new w _, Nat.le_refl _, by simp, by simp, by simp [cells]⟩⟩
theorem own_belowG {w w' : World} {B e n z : Nat} {v : Value} {xs : List Value} (h : w.ownsRow B e z v n xs) (hb : Below w.heap.size w w') : w'.ownsRow B e z v n xs := by
  refine ⟨h.1, ?_⟩
  rcases h.2 with h2 | ⟨g, cap, cur, h1, h2, h3, h4⟩
  · exact Or.inl h2
  · refine Or.inr ⟨g, cap, cur, h1, h2, ?_, h4⟩
    rw [hb.block g (Array.getElem?_eq_some_iff.1 h3).1]
    exact h3
/-- the cells of a block that was just laid -/
theorem new_cellsG (W : World) (g e : Nat) (hg : g = W.heap.size) (xs : List Value) : ∀ j u, xs[j]? = some u → (W.alloc (.cells xs.toArray e)).cell? ((⟨g, 0, none⟩ : Addr).add j) = some u := by
  intro j u h
  subst hg
  rw [show (⟨W.heap.size, 0, none⟩ : Addr).add j = ⟨W.heap.size, j, none⟩ from by unfold Addr.add; split <;> simp_all]
  rw [World.cell?_alloc_at _ _ _ _ rfl]
  simpa using h
/-- the elements of a []struct that is handed in: elem opens one -/
theorem open_g [Inhabited α] (hk : ∀ a, (enc a).length = k) (h0 : 0 < k) {H : Type} {ev : TypeId × Value → H} {P : Program} {W : World} {a0 : Option Addr} {len cap : Nat} {d0 : DataW H} {p : List MemPlace} {t e : TypeId} (ht : P.underlying t = some (.slice e)) (hc : P.cellsOf e = k) (Q : α → DataW H → Prop)
    (elem : ∀ fuel cs d p, DataW.trod ev P W 0 (fun _ => true) true fuel e cs = some (d, p) → ∃ a, cs = enc a ∧ Q a d)
    (h : DataW.Trod ev P W 0 (fun _ => true) true t (.slice a0 len cap) d0 p) :
    ∃ ps : List α, ps.length = len ∧ InG enc k W a0 ps ∧ (a0 = none → cap = 0) ∧ ps.length ≤ cap ∧ (len = 0 ∧ cap = 0 ∨ ∃ (D : Nat → DataW H) (m : Nat), len ≤ m ∧ d0 = .slice ((List.range len).map D) ((List.range (m - len)).map fun j => D (len + j)) ∧ ∀ i (hi : i < ps.length), Q (ps[i]) (D i)) := by
  obtain ⟨fuel, hf⟩ := h
  rcases Deep.open_slice ht hf with ⟨hcs, hx⟩ | ⟨a, len', cap', m, n, D, Pl, hcs, _, hl, hm, hmm, hx, hV⟩
  · simp [Value.cells] at hcs
    obtain ⟨rfl, rfl, rfl⟩ := hcs
    exact ⟨[], rfl, (fun h => absurd h (by simp)), fun _ => rfl, Nat.le_refl _, Or.inl ⟨rfl, rfl⟩⟩
  · simp [Value.cells] at hcs
    obtain ⟨rfl, rfl, rfl⟩ := hcs
    simp only [Prod.mk.injEq] at hx
    obtain ⟨rfl, rfl⟩ := hx
    simp only [if_true] at hmm
    subst hmm
    rw [hc] at hV
    obtain ⟨F, hF⟩ := Deep.choose_lt (α := α) (n := len) (p := fun i x => W.cells? 0 (a.add (i * k)) k = some (enc x) ∧ Q x (D i)) (fun i hi => by
      obtain ⟨cs', hcc, htt⟩ := hV i (by omega)
      obtain ⟨x, rfl, hb⟩ := elem _ _ _ _ htt
      exact ⟨x, hcc, hb⟩)
    have hlen : ((List.range len).map F).length = len := by simp
    refine ⟨(List.range len).map F, hlen, (fun hpos => ?_), (fun h => by cases h), (by rw [hlen]; exact hl), Or.inr ⟨D, m, hl, rfl, fun i hi => ?_⟩⟩
    · rw [hlen] at hpos
      obtain ⟨b, off, spot⟩ := a
      have hspot : spot = none := by
        obtain ⟨_, _, hat⟩ := World.cells?_some (hF 0 hpos).1
        have h1 := hat 0 h0
        rw [List.getElem?_eq_getElem (by rw [hk]; exact h0)] at h1
        simpa [Addr.add] using World.cell?_spot h1
      subst hspot
      refine ⟨b, off, rfl, fun i hi j hj => ?_⟩
      rw [hlen] at hi
      obtain ⟨_, _, hat⟩ := World.cells?_some (hF i hi).1
      have h1 := hat j hj
      rw [show ((⟨b, off, none⟩ : Addr).add (i * k)).add j = ⟨b, off + i * k + j, none⟩ from by rw [add_none, add_none]] at h1
      rw [h1]
      simp
    · rw [hlen] at hi
      simpa using (hF i hi).2
end Go.Proofs.Ytggcdlhgmikemaa.rowg
