/- A roll in memory (RolM); the developers' of. No condition beyond what slices and texts are. -/
import Derived.Test.YtfeafhagnhbmiaaGreatDoorRoB0
import Derived.Maps.OwnSet
import Derived.Maps.Views
namespace Go.Proofs.YtfeafhagnhbmiaaGreatDoor.rol
open Go.RowKit
open Go.Proofs.YtfeafhagnhbmiaaGreatDoor.oct Go.Proofs.YtfeafhagnhbmiaaGreatDoor.ref Go.Proofs.YtfeafhagnhbmiaaGreatDoor.rows Go.Proofs.YtfeafhagnhbmiaaGreatDoor.rowg Go.Proofs.YtfeafhagnhbmiaaGreatDoor.trn
open Go.Proofs.YtfeafhagnhbmiaaGreatDoor.scp (tx senc senc_len senc_one InS ins_below ins_cell ins_one lt hasB hasB_iff Lst lval lenc GoodL FitS own_good skeyed key_txt)

/-- an element of a map, as it stands -/
def vElem : Value → Option (DataW Value × List MemPlace) := fun v => some (.held v, [])
theorem vElem_inv {v u : Value} {ps : List MemPlace} (h : vElem v = some (.held u, ps)) : v = u := by
  unfold vElem at h
  injection h with h
  injection h with h _
  injection h
def zCm : Cm := ⟨[], [], false, (none, 0, []), (none, 0, []), (none, 0, [])⟩
def lookM (ys : List Cm) (id : T) : Cm × Bool := match ys.find? (fun y => decide (y.id = id)) with | some y => (y, true) | none => (zCm, false)
/-- a map has just these clients -/
structure IsRol (D : DataW Value) (ys : List Cm) : Prop where
  has : ∀ s : T, Maps.has D (.string s) = true ↔ ∃ y ∈ ys, y.id = s
  at_ : ∀ y ∈ ys, ∀ z, D.atKey (.string y.id) z = .held (cval y)
theorem isRol_nil : IsRol (.map []) [] := ⟨fun s => ⟨(fun h => by cases h), (fun ⟨_, h, _⟩ => by cases h)⟩, (fun _ h => by cases h)⟩
theorem isRol_put {D : DataW Value} {ys : List Cm} {y : Cm} (hD : Maps.IsMap D) (h : IsRol D ys) (hn : ∀ z ∈ ys, z.id ≠ y.id) : IsRol (D.put (.string y.id) (.held (cval y))) (ys ++ [y]) := by
  constructor
  · intro s
    by_cases e : s = y.id
    · subst e
      rw [Maps.has_put_same hD (show WideAt.IsKeyLit (.string y.id) from trivial)]
      exact ⟨fun _ => ⟨y, by simp, rfl⟩, fun _ => rfl⟩
    · rw [Maps.has_put_other (fun h2 => e (Lit.string.inj h2)), h.has s]
      constructor
      · rintro ⟨z, hz, e2⟩
        exact ⟨z, List.mem_append_left _ hz, e2⟩
      · rintro ⟨z, hz, e2⟩
        rcases List.mem_append.1 hz with hz | hz
        · exact ⟨z, hz, e2⟩
        · rw [List.mem_singleton.1 hz] at e2
          exact absurd e2.symm e
  · intro z hz d
    rcases List.mem_append.1 hz with hz | hz
    · rw [Maps.atKey_put_other (fun h2 => hn z hz (Lit.string.inj h2))]
      exact h.at_ z hz d
    · rw [List.mem_singleton.1 hz]
      exact Maps.atKey_put_same hD (show WideAt.IsKeyLit (.string y.id) from trivial) _ _
theorem lookM_yes {ys : List Cm} {id : T} (h : (lookM ys id).2 = true) : (lookM ys id).1 ∈ ys ∧ (lookM ys id).1.id = id := by
  unfold lookM at h ⊢
  cases hf : ys.find? (fun y => decide (y.id = id)) with
  | none => rw [hf] at h; cases h
  | some c => exact ⟨List.mem_of_find?_eq_some hf, by have := List.find?_some hf; simpa using this⟩
theorem lookM_no {ys : List Cm} {id : T} (h : (lookM ys id).2 = false) : lookM ys id = (zCm, false) ∧ ∀ c ∈ ys, c.id ≠ id := by
  unfold lookM at h ⊢
  cases hf : ys.find? (fun y => decide (y.id = id)) with
  | none => exact ⟨rfl, fun c hc e => by have := List.find?_eq_none.1 hf c hc; simp [e] at this⟩
  | some c => rw [hf] at h; cases h
theorem lookM_P (ys : List Cm) (id : T) : ((lookM ys id).1.ct, (lookM ys id).2) = lookP (ys.map Cm.ct) id := by
  unfold lookM lookP findP
  rw [List.find?_map]
  have e : ((fun c : CT => decide (c.id = id)) ∘ Cm.ct) = (fun y : Cm => decide (y.id = id)) := rfl
  rw [e]
  cases ys.find? (fun y => decide (y.id = id)) with
  | none => rfl
  | some c => rfl
/-- a roll -/
structure RolB (w : World) (F : Nat → Prop) (g m : Nat) (D : DataW Value) (ys : List Cm) : Prop where
  blk : Blk w g 70 [.map (some m)]
  map : w.ownsMap Tryz.prog 9 vElem m ys.length D
  is : IsRol D ys
  fg : F g
  fm : F m
  own : ∀ y ∈ ys, OwnC w 0 y
  fo : ∀ y ∈ ys, ∀ k, ((lval y.red).ownBlock = some k ∨ (lval y.sco).ownBlock = some k ∨ (lval y.gra).ownBlock = some k) → F k
  small : ∀ y ∈ ys, Small y.ct
def RolM (w : World) (F : Nat → Prop) (g : Nat) (ys : List Cm) : Prop := ∃ m D, RolB w F g m D ys
theorem RolB.turn {S F F2 : Nat → Prop} {w w' : World} {g m : Nat} {D : DataW Value} {ys : List Cm} (h : RolB w F g m D ys) (ht : Turn S w w') (hd : ∀ k, F k → ¬ S k) (hF : ∀ k, F k → F2 k) : RolB w' F2 g m D ys :=
  ⟨blk_turn h.blk ht (hd g h.fg), map_turn h.map ht (hd m h.fm), h.is, hF g h.fg, hF m h.fm, fun y hy => ⟨own_turn (h.own y hy).red ht fun b hb => hd b (h.fo y hy b (Or.inl hb)), own_turn (h.own y hy).sco ht fun b hb => hd b (h.fo y hy b (Or.inr (Or.inl hb))), own_turn (h.own y hy).gra ht fun b hb => hd b (h.fo y hy b (Or.inr (Or.inr hb)))⟩, fun y hy k hk => hF k (h.fo y hy k hk), h.small⟩
theorem RolM.turn {S F F2 : Nat → Prop} {w w' : World} {g : Nat} {ys : List Cm} (h : RolM w F g ys) (ht : Turn S w w') (hd : ∀ k, F k → ¬ S k) (hF : ∀ k, F k → F2 k) : RolM w' F2 g ys := by
  obtain ⟨m, D, h⟩ := h
  exact ⟨m, D, h.turn ht hd hF⟩
theorem RolM.below {F : Nat → Prop} {w w' : World} {g : Nat} {ys : List Cm} (h : RolM w F g ys) (hb : Below w.heap.size w w') : RolM w' F g ys := h.turn (S := fun _ => False) (Turn.of_below hb) (fun _ _ => id) fun _ => id
theorem RolB.below {F : Nat → Prop} {w w' : World} {g m : Nat} {D : DataW Value} {ys : List Cm} (h : RolB w F g m D ys) (hb : Below w.heap.size w w') : RolB w' F g m D ys := h.turn (S := fun _ => False) (Turn.of_below hb) (fun _ _ => id) fun _ => id
/-- a list of the call's own, good -/
theorem own_LL {w : World} {B : Nat} {x : Lst} (h : w.ownsRow B 9 1 (lval x) x.2.2.length (cells senc x.2.2)) (hf : ∀ s ∈ x.2.2, s.length ≤ 140737488351232) (hl : x.2.2.length ≤ 4194304) : LL w x := by
  obtain ⟨p, c, hv, hc, hn, hin⟩ := own_g senc_len (by decide) h
  obtain ⟨P, C, l⟩ := x
  unfold lval at hv
  injection hv with e1 e2 e3
  dsimp only at e1 e3
  subst e1
  subst e3
  exact ⟨hin, hc, hn, hf, by dsimp only at hl ⊢; omega⟩
theorem small_good {w : World} {B : Nat} {y : Cm} (h : OwnC w B y) (hs : Small y.ct) : GoodC w y ∧ Few y := by
  have e1 : y.red.2.2.length ≤ 4 := hs.red
  have e2 : y.sco.2.2.length ≤ 32 := hs.sco
  have e3 : y.gra.2.2.length ≤ 3 := hs.gra
  have e4 : y.id.length ≤ 64 := hs.id
  have e5 : y.sec.length ≤ 128 := hs.sec
  exact ⟨⟨by omega, by omega, own_LL h.red (fun s hx => by have := hs.reds s hx; omega) (by omega), own_LL h.sco (fun s hx => by have := hs.scos s hx; omega) (by omega), own_LL h.gra (fun s hx => by have := hs.gras s hx; omega) (by omega)⟩, by omega, by omega, by omega⟩
theorem LL.zero (w : World) : LL w (none, 0, []) := ⟨fun h => absurd h (by simp), Nat.le_refl _, fun _ => rfl, (fun x hx => by cases hx), (by simp)⟩
theorem good_zero (w : World) : GoodC w zCm ∧ Few zCm := ⟨⟨by simp [zCm], by simp [zCm], LL.zero w, LL.zero w, LL.zero w⟩, by simp [zCm], by simp [zCm], by simp [zCm]⟩
theorem look_good {w : World} {F : Nat → Prop} {g m : Nat} {D : DataW Value} {ys : List Cm} (h : RolB w F g m D ys) (id : T) : GoodC w (lookM ys id).1 ∧ Few (lookM ys id).1 := by
  cases hb : (lookM ys id).2 with
  | true => exact small_good (h.own _ (lookM_yes hb).1) (h.small _ (lookM_yes hb).1)
  | false =>
    rw [(lookM_no hb).1]
    exact good_zero w
theorem look_run {W : World} {m j : Nat} {D : DataW Value} {ys : List Cm} (hm : W.ownsMap Tryz.prog 9 vElem m j D) (hs : IsRol D ys) (id : T) (hn : id.length ≤ 140737488351232) :
    (Instr.lookup 68 (.map (some m)) (.string ⟨id.toArray⟩) true).run Tryz.prog W = .ok (.tuple #[cval (lookM ys id).1, .bool (lookM ys id).2]) W := by
  obtain ⟨v, ps, h1, h2⟩ := hm.look_ok (t := 68) (e := 49) skeyed Tryz.underlying68 (z := cval zCm) (by kernel_rfl) (zd := .held (cval zCm)) (zp := []) rfl (key_txt id hn)
  rw [h1]
  cases hb : (lookM ys id).2 with
  | true =>
    obtain ⟨e1, e2⟩ := lookM_yes hb
    have e3 := hs.at_ _ e1 (.held (cval zCm))
    rw [e2] at e3
    rw [e3] at h2
    have e4 : Maps.has D (.string id) = true := (hs.has id).2 ⟨_, e1, e2⟩
    rw [vElem_inv h2, e4]
  | false =>
    obtain ⟨e1, e2⟩ := lookM_no hb
    have e4 : Maps.has D (.string id) = false := by
      cases h3 : Maps.has D (.string id) with
      | false => rfl
      | true =>
        obtain ⟨y, hy, e⟩ := (hs.has id).1 h3
        exact absurd e (e2 y hy)
    rw [Maps.atKey_of_not_has e4] at h2
    rw [vElem_inv h2, e4, e1]
end Go.Proofs.YtfeafhagnhbmiaaGreatDoor.rol
