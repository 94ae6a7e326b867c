/- What the contract of New leans on: variables that hold a client (Var6), one client more in a roll (rol_add). No condition. -/
import Derived.Test.YtfeafhagnhbmiaaGreatDoorRoD
namespace Go.Proofs.YtfeafhagnhbmiaaGreatDoor.rol
open Go.RowKit
open Go.Proofs.YtfeafhagnhbmiaaGreatDoor.oct Go.Proofs.YtfeafhagnhbmiaaGreatDoor.ref Go.Proofs.YtfeafhagnhbmiaaGreatDoor.rows Go.Proofs.YtfeafhagnhbmiaaGreatDoor.rowg Go.Proofs.YtfeafhagnhbmiaaGreatDoor.trn
open Go.Proofs.YtfeafhagnhbmiaaGreatDoor.scp (tx senc senc_len senc_one InS ins_below ins_cell lt hasB hasB_iff Lst lval lenc GoodL FitS skeyed key_txt own_blk)

/-- a new variable that a client is stored into: w, then w1 (made), then w2 (stored) -/
structure Var6 (w w1 w2 : World) (t : TypeId) (v0 v1 v2 v3 v4 v5 : Value) : Prop where
  a : w.alloc (.cells #[.string ⟨#[]⟩, .string ⟨#[]⟩, .bool false, .slice none 0 0, .slice none 0 0, .slice none 0 0] t) = w1
  s : ((((((w1.setCell ⟨w.heap.size, 0, none⟩ v0).setCell ⟨w.heap.size, 1, none⟩ v1).setCell ⟨w.heap.size, 2, none⟩ v2).setCell ⟨w.heap.size, 3, none⟩ v3).setCell ⟨w.heap.size, 4, none⟩ v4).setCell ⟨w.heap.size, 5, none⟩ v5) = w2
  below : Below w.heap.size w w2
  blk : Blk w2 w.heap.size t [v0, v1, v2, v3, v4, v5]
  zero : Blk w1 w.heap.size t [.string ⟨#[]⟩, .string ⟨#[]⟩, .bool false, .slice none 0 0, .slice none 0 0, .slice none 0 0]
  size : w2.heap.size = w.heap.size + 1
theorem set6_size {w : World} {g : Nat} {v0 v1 v2 v3 v4 v5 : Value} : ((((((w.setCell ⟨g, 0, none⟩ v0).setCell ⟨g, 1, none⟩ v1).setCell ⟨g, 2, none⟩ v2).setCell ⟨g, 3, none⟩ v3).setCell ⟨g, 4, none⟩ v4).setCell ⟨g, 5, none⟩ v5).heap.size = w.heap.size := by simp
theorem var_c (w : World) (t : TypeId) (v0 v1 v2 v3 v4 v5 : Value) : ∃ w1 w2, Var6 w w1 w2 t v0 v1 v2 v3 v4 v5 := by
  obtain ⟨w1, h1, hb, hB, _⟩ := box_c w (.string ⟨#[]⟩) (.string ⟨#[]⟩) (.bool false) (.slice none 0 0) (.slice none 0 0) (.slice none 0 0) t
  have hT := set6_turn (w := w1) (g := w.heap.size) (v0 := v0) (v1 := v1) (v2 := v2) (v3 := v3) (v4 := v4) (v5 := v5)
  have hs : w1.heap.size = w.heap.size + 1 := by rw [← h1, World.size_alloc]
  exact ⟨w1, _, h1, rfl, Turn.below hb hT (fun k hk => by rw [hk]; exact Nat.le_refl _) (by omega), set6_blk hB _ _ _ _ _ _, hB, by rw [set6_size, hs]⟩
theorem row_not_map {w : World} {B e k n j : Nat} {v : Value} {xs : List Value} {D : DataW Value} {m : Nat} (h : w.ownsRow B e k v n xs) (hm : w.ownsMap Tryz.prog 9 vElem m j D) : ∀ b, v.ownBlock = some b → b ≠ m := by
  intro b hb e
  obtain ⟨es, clock, h1, _⟩ := hm
  rcases own_blk h with h2 | ⟨g, X, h2, h3⟩
  · rw [h2] at hb; cases hb
  · rw [h2] at hb
    injection hb with hb
    subst hb
    subst e
    unfold Blk at h3
    rw [h1] at h3
    cases h3
theorem blk_not_map {w : World} {g e j : Nat} {X : List Value} {D : DataW Value} {m : Nat} (h : Blk w g e X) (hm : w.ownsMap Tryz.prog 9 vElem m j D) : g ≠ m := by
  intro e2
  obtain ⟨es, clock, h1, _⟩ := hm
  subst e2
  unfold Blk at h
  rw [h1] at h
  cases h
theorem own_base0 {w : World} {B : Nat} {y : Cm} (h : OwnC w B y) {B2 : Nat} (hb : B2 ≤ B) : OwnC w B2 y := ⟨own_baseR h.red hb, own_baseR h.sco hb, own_baseR h.gra hb⟩
theorem OwnC.turn {S : Nat → Prop} {w w' : World} {B : Nat} {y : Cm} (h : OwnC w B y) (ht : Turn S w w') (hd : ∀ k, ((lval y.red).ownBlock = some k ∨ (lval y.sco).ownBlock = some k ∨ (lval y.gra).ownBlock = some k) → ¬ S k) : OwnC w' B y :=
  ⟨own_turn h.red ht fun b hb => hd b (Or.inl hb), own_turn h.sco ht fun b hb => hd b (Or.inr (Or.inl hb)), own_turn h.gra ht fun b hb => hd b (Or.inr (Or.inr hb))⟩
theorem OwnC.lt {w : World} {B : Nat} {y : Cm} (h : OwnC w B y) : ∀ k, ((lval y.red).ownBlock = some k ∨ (lval y.sco).ownBlock = some k ∨ (lval y.gra).ownBlock = some k) → B ≤ k ∧ k < w.heap.size := fun k hk => by
  rcases hk with hk | hk | hk
  · exact h.red.lt k hk
  · exact h.sco.lt k hk
  · exact h.gra.lt k hk
/-- one client more -/
theorem rol_add {w w' : World} {F F2 : Nat → Prop} {g m B : Nat} {D : DataW Value} {ys : List Cm} {y : Cm} (h : RolB w F g m D ys) (hy : OwnC w B y) (hs : Small y.ct) (hn : ∀ z ∈ ys, z.id ≠ y.id)
    (hm : w'.ownsMap Tryz.prog 9 vElem m (ys.length + 1) (D.put (.string y.id) (.held (cval y)))) (hg : w.grownBy w' (some m)) (hF : ∀ k, F k → F2 k) (hF2 : ∀ k, B ≤ k → k < w.heap.size → F2 k) : RolB w' F2 g m (D.put (.string y.id) (.held (cval y))) (ys ++ [y]) := by
  have ht : Turn (fun k => k = m) w w' := Turn.of_grown hg rfl
  have hy0 := own_base0 hy (Nat.zero_le _)
  have hne : ∀ z, OwnC w 0 z → ∀ k, ((lval z.red).ownBlock = some k ∨ (lval z.sco).ownBlock = some k ∨ (lval z.gra).ownBlock = some k) → ¬ k = m := fun z hz k hk => by
    rcases hk with hk | hk | hk
    · exact row_not_map hz.red h.map k hk
    · exact row_not_map hz.sco h.map k hk
    · exact row_not_map hz.gra h.map k hk
  refine ⟨blk_turn h.blk ht (blk_not_map h.blk h.map), ?_, isRol_put h.map.isMap h.is hn, hF g h.fg, hF m h.fm, ?_, ?_, ?_⟩
  · rw [List.length_append]
    exact hm
  · intro z hz
    rcases List.mem_append.1 hz with hz | hz
    · exact (h.own z hz).turn ht (hne z (h.own z hz))
    · rw [List.mem_singleton.1 hz]
      exact hy0.turn ht (hne y hy0)
  · intro z hz k hk
    rcases List.mem_append.1 hz with hz | hz
    · exact hF k (h.fo z hz k hk)
    · rw [List.mem_singleton.1 hz] at hk
      have := hy.lt k hk
      exact hF2 k this.1 this.2
  · intro z hz
    rcases List.mem_append.1 hz with hz | hz
    · exact h.small z hz
    · rw [List.mem_singleton.1 hz]; exact hs
theorem known_has (ys : List Cm) (id : T) : (lookM ys id).2 = hasB ((ys.map Cm.ct).map (·.id)) id := by
  cases hb : (lookM ys id).2 with
  | true =>
    obtain ⟨h1, h2⟩ := lookM_yes hb
    symm
    rw [hasB_iff, List.map_map]
    exact List.mem_map.2 ⟨_, h1, h2⟩
  | false =>
    obtain ⟨h1, h2⟩ := lookM_no hb
    cases hh : hasB ((ys.map Cm.ct).map (·.id)) id with
    | false => rfl
    | true =>
      rw [hasB_iff, List.map_map] at hh
      obtain ⟨y, hy, e⟩ := List.mem_map.1 hh
      exact absurd e (h2 y hy)
theorem all_step {l : List CT} {k : Nat} (hk : k < l.length) (h : allTo l k = true) : (rightB l[k] = true → hasB ((l.take k).map (·.id)) l[k].id = false → allTo l (k + 1) = true) ∧ (rightB l[k] = false → allB l = false) ∧ (hasB ((l.take k).map (·.id)) l[k].id = true → allB l = false) := by
  have e1 : allAt l k = (rightB l[k] && !hasB ((l.take k).map (·.id)) l[k].id) := by unfold allAt; rw [getD_at l zCT hk]
  have e2 : allAt l k = false → allB l = false := fun e => by unfold allB allTo; rw [range_all_no hk e]; rfl
  exact ⟨fun h1 h2 => range_all_step h (by rw [e1, h1, h2]; rfl), fun h1 => e2 (by rw [e1, h1]; rfl), fun h1 => e2 (by rw [e1, h1]; simp)⟩
/-- clients that are handed in -/
abbrev InC (w : World) (P : Option Addr) (xs : List Cm) : Prop := InG clenc 6 w P xs
theorem inc_below {w w' : World} {P : Option Addr} {xs : List Cm} (h : InC w P xs) (hb : Below w.heap.size w w') : InC w' P xs := InG.below clenc_len (by decide) h hb
theorem inc_cells {w : World} {P : Option Addr} {xs : List Cm} (h : InC w P xs) (i : Nat) (hi : i < xs.length) : ∃ b o, P = some ⟨b, o, none⟩ ∧ w.cell? ⟨b, o + i * 6, none⟩ = some (tx xs[i].id) ∧ w.cell? ⟨b, o + i * 6 + 1, none⟩ = some (tx xs[i].sec) ∧ w.cell? ⟨b, o + i * 6 + 2, none⟩ = some (.bool xs[i].pub) ∧ w.cell? ⟨b, o + i * 6 + 3, none⟩ = some (lval xs[i].red) ∧ w.cell? ⟨b, o + i * 6 + 4, none⟩ = some (lval xs[i].sco) ∧ w.cell? ⟨b, o + i * 6 + 5, none⟩ = some (lval xs[i].gra) := by
  obtain ⟨b, o, hP, hc⟩ := h.cells i hi
  exact ⟨b, o, hP, hc 0 (by decide), hc 1 (by decide), hc 2 (by decide), hc 3 (by decide), hc 4 (by decide), hc 5 (by decide)⟩
end Go.Proofs.YtfeafhagnhbmiaaGreatDoor.rol
