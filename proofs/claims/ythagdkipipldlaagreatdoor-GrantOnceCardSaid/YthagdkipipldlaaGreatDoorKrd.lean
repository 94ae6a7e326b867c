/- Lists whose keys rise (insK, delK), and maps of pointers that tell of each its block (MapK). No condition. -/
import Derived.Test.YthagdkipipldlaaGreatDoorGscp
import Derived.Test.YthagdkipipldlaaGreatDoorMapPtr
import Derived.Maps.RangeWalk
namespace Go.Proofs.YthagdkipipldlaaGreatDoor.krd
open Go.RowKit
open Go.Proofs.YthagdkipipldlaaGreatDoor.mpt
open Go.Proofs.YthagdkipipldlaaGreatDoor.scp (lt lt_irrefl lt_trans lt_total lt_asymm)

abbrev T := List UInt8
theorem lt_neK {a b : T} (h : lt a b = true) : a ≠ b := fun e => by rw [e, lt_irrefl] at h; cases h
variable {α : Type} (key : α → T)
/-- keys rise -/
def SrtK (fl : List α) : Prop := fl.Pairwise (fun a b => lt (key a) (key b) = true)
def insK (fl : List α) (x : α) : List α := fl.filter (fun y => lt (key y) (key x)) ++ x :: fl.filter (fun y => lt (key x) (key y))
def delK (fl : List α) (n : T) : List α := fl.filter (fun y => lt (key y) n) ++ fl.filter (fun y => lt n (key y))
def getK (fl : List α) (n : T) : Option α := fl.find? (fun y => decide (key y = n))
theorem dl_pos {n : T} {x : α} {l : List α} (h : lt (key x) n = true) : (x :: l).filter (fun y => lt (key y) n) = x :: l.filter (fun y => lt (key y) n) := List.filter_cons_of_pos h
theorem dl_neg {n : T} {x : α} {l : List α} (h : ¬ lt (key x) n = true) : (x :: l).filter (fun y => lt (key y) n) = l.filter (fun y => lt (key y) n) := List.filter_cons_of_neg h
theorem dg_pos {n : T} {x : α} {l : List α} (h : lt n (key x) = true) : (x :: l).filter (fun y => lt n (key y)) = x :: l.filter (fun y => lt n (key y)) := List.filter_cons_of_pos h
theorem dg_neg {n : T} {x : α} {l : List α} (h : lt n (key x) = false) : (x :: l).filter (fun y => lt n (key y)) = l.filter (fun y => lt n (key y)) := List.filter_cons_of_neg (by rw [h]; simp)
theorem filtK_ne : ∀ {l : List α} (_ : SrtK key l) (n : T), l.filter (fun x => !(key x == n)) = delK key l n
  | [], _, _ => rfl
  | x :: l, h, n => by
    have h2 := List.pairwise_cons.1 h
    have ih := filtK_ne h2.2 n
    unfold delK at ih ⊢
    by_cases h1 : lt (key x) n = true
    · have e : (key x == n) = false := by rw [beq_eq_false_iff_ne]; exact lt_neK h1
      rw [List.filter_cons_of_pos (by rw [e]; rfl), dl_pos key h1, dg_neg key (lt_asymm h1), ih, List.cons_append]
    · have hl : ∀ y ∈ l, ¬ lt (key y) n = true := fun y hy h3 => h1 (lt_trans (h2.1 y hy) h3)
      have e0 : l.filter (fun y => lt (key y) n) = [] := List.filter_eq_nil_iff.2 hl
      rw [e0, List.nil_append] at ih
      rw [dl_neg key h1, e0, List.nil_append]
      by_cases hx : key x = n
      · rw [List.filter_cons_of_neg (by rw [hx]; simp), dg_neg key (by rw [hx, lt_irrefl]), ih]
      · have h3 : lt n (key x) = true := by
          by_cases h3 : lt n (key x) = true
          · exact h3
          · exact absurd (lt_total (by simpa using h1) (by simpa using h3)) hx
        have e : (key x == n) = false := by rw [beq_eq_false_iff_ne]; exact hx
        rw [List.filter_cons_of_pos (by rw [e]; rfl), dg_pos key h3, ih]
theorem delK_mem {fl : List α} {n : T} {y : α} : y ∈ delK key fl n ↔ y ∈ fl ∧ key y ≠ n := by
  unfold delK
  rw [List.mem_append, List.mem_filter, List.mem_filter]
  constructor
  · rintro (h | h)
    · exact ⟨h.1, lt_neK h.2⟩
    · exact ⟨h.1, fun e => lt_neK h.2 e.symm⟩
  · rintro ⟨h1, h2⟩
    cases h3 : lt (key y) n with
    | true => exact Or.inl ⟨h1, rfl⟩
    | false =>
      cases h4 : lt n (key y) with
      | true => exact Or.inr ⟨h1, rfl⟩
      | false => exact absurd (lt_total h3 h4) h2
theorem delK_srt {fl : List α} (h : SrtK key fl) (n : T) : SrtK key (delK key fl n) := by
  rw [← filtK_ne key h]
  exact List.Pairwise.filter _ h
theorem insK_perm (fl : List α) (x : α) : (insK key fl x).Perm (x :: delK key fl (key x)) := List.perm_middle
theorem insK_mem {fl : List α} {x y : α} : y ∈ insK key fl x ↔ y = x ∨ (y ∈ fl ∧ key y ≠ key x) := by
  rw [(insK_perm key fl x).mem_iff, List.mem_cons, delK_mem]
theorem insK_srt {fl : List α} (h : SrtK key fl) (x : α) : SrtK key (insK key fl x) := by
  unfold insK SrtK
  rw [List.pairwise_append]
  refine ⟨List.Pairwise.filter _ h, ?_, ?_⟩
  · rw [List.pairwise_cons]
    exact ⟨fun b hb => (List.mem_filter.1 hb).2, List.Pairwise.filter _ h⟩
  · intro a ha b hb
    rw [List.mem_filter] at ha
    rcases List.mem_cons.1 hb with rfl | hb
    · exact ha.2
    · exact lt_trans ha.2 (List.mem_filter.1 hb).2
/-- one that is there, laid in once more -/
theorem insK_same {fl : List α} (h : SrtK key fl) {x : α} (hx : x ∈ fl) : insK key fl x = fl := by
  induction fl with
  | nil => cases hx
  | cons y l ih =>
    have h2 := List.pairwise_cons.1 h
    rcases List.mem_cons.1 hx with rfl | hm
    · have e0 : l.filter (fun z => lt (key z) (key x)) = [] := List.filter_eq_nil_iff.2 fun z hz => by rw [lt_asymm (h2.1 z hz)]; simp
      have e1 : l.filter (fun z => lt (key x) (key z)) = l := List.filter_eq_self.2 fun z hz => h2.1 z hz
      unfold insK
      rw [dl_neg key (by rw [lt_irrefl]; simp), dg_neg key (lt_irrefl _), e0, e1]
      rfl
    · have h3 := h2.1 x hm
      have ih := ih h2.2 hm
      unfold insK at ih ⊢
      rw [dl_pos key h3, dg_neg key (lt_asymm h3), List.cons_append, ih]
theorem delK_same {fl : List α} (h : SrtK key fl) {n : T} (hn : ∀ y ∈ fl, key y ≠ n) : delK key fl n = fl := by
  rw [← filtK_ne key h]
  exact List.filter_eq_self.2 fun y hy => by have := hn y hy; simpa using this
theorem srtK_nodup {fl : List α} (h : SrtK key fl) : (fl.map key).Nodup := by
  unfold List.Nodup
  rw [List.pairwise_map]
  exact h.imp fun {a b} hab e => by rw [e, lt_irrefl] at hab; cases hab
theorem getK_some {fl : List α} {n : T} {x : α} (h : getK key fl n = some x) : x ∈ fl ∧ key x = n := ⟨List.mem_of_find?_eq_some h, by have := List.find?_some h; simpa using this⟩
theorem getK_none {fl : List α} {n : T} (h : getK key fl n = none) : ∀ x ∈ fl, key x ≠ n := fun x hx e => by have := List.find?_eq_none.1 h x hx; simp [e] at this
theorem getK_mem {fl : List α} (h : SrtK key fl) {x : α} (hx : x ∈ fl) : getK key fl (key x) = some x := by
  cases hg : getK key fl (key x) with
  | none => exact absurd rfl (getK_none key hg x hx)
  | some y =>
    obtain ⟨h1, h2⟩ := getK_some key hg
    congr 1
    by_cases e : y = x
    · exact e
    · exfalso
      have hp : ∀ {l : List α}, SrtK key l → x ∈ l → y ∈ l → False := fun {l} => by
        induction l with
        | nil => intro _ h _; cases h
        | cons z l ih =>
          intro hs hx hy
          have h4 := List.pairwise_cons.1 hs
          rcases List.mem_cons.1 hx with e1 | h5
          · rcases List.mem_cons.1 hy with e2 | h6
            · exact e (e2.trans e1.symm)
            · have := h4.1 y h6; rw [← e1, h2, lt_irrefl] at this; cases this
          · rcases List.mem_cons.1 hy with e2 | h6
            · have := h4.1 x h5; rw [← e2, h2, lt_irrefl] at this; cases this
            · exact ih h4.2 h5 h6
      exact hp h hx h1
theorem getK_miss {fl : List α} {n : T} (h : ∀ x ∈ fl, key x ≠ n) : getK key fl n = none := List.find?_eq_none.2 fun x hx e => h x hx (by simpa using e)
theorem getK_ins {fl : List α} (h : SrtK key fl) (x : α) (n : T) : getK key (insK key fl x) n = if key x = n then some x else getK key fl n := by
  split
  · rename_i e
    subst e
    exact getK_mem key (insK_srt key h x) ((insK_mem key).2 (Or.inl rfl))
  · rename_i e
    cases hg : getK key fl n with
    | none =>
      refine getK_miss key fun y hy => ?_
      rcases (insK_mem key).1 hy with rfl | ⟨h1, _⟩
      · exact e
      · exact getK_none key hg y h1
    | some y =>
      obtain ⟨h1, h2⟩ := getK_some key hg
      rw [← h2]
      exact getK_mem key (insK_srt key h x) ((insK_mem key).2 (Or.inr ⟨h1, fun e2 => e (e2.symm.trans h2)⟩))
theorem getK_del {fl : List α} (h : SrtK key fl) (m n : T) : getK key (delK key fl m) n = if m = n then none else getK key fl n := by
  split
  · rename_i e
    subst e
    exact getK_miss key fun y hy => ((delK_mem key).1 hy).2
  · rename_i e
    cases hg : getK key fl n with
    | none => exact getK_miss key fun y hy => getK_none key hg y ((delK_mem key).1 hy).1
    | some y =>
      obtain ⟨h1, h2⟩ := getK_some key hg
      rw [← h2]
      exact getK_mem key (delK_srt key h m) ((delK_mem key).2 ⟨h1, fun e2 => e (e2.symm.trans h2)⟩)
theorem map_filt {β : Type} (g : α → β) (fl : List α) (q : β → Bool) : (fl.filter fun x => q (g x)).map g = (fl.map g).filter q := by
  rw [List.filter_map]
  rfl
theorem insK_map {β : Type} (g : α → β) (k2 : β → T) (hk : ∀ x, key x = k2 (g x)) (fl : List α) (x : α) : (insK key fl x).map g = insK k2 (fl.map g) (g x) := by
  unfold insK
  rw [List.map_append, List.map_cons, ← map_filt, ← map_filt]
  simp only [hk]
theorem delK_map {β : Type} (g : α → β) (k2 : β → T) (hk : ∀ x, key x = k2 (g x)) (fl : List α) (n : T) : (delK key fl n).map g = delK k2 (fl.map g) n := by
  unfold delK
  rw [List.map_append, ← map_filt, ← map_filt]
  simp only [hk]
theorem getK_map {β : Type} (g : α → β) (k2 : β → T) (hk : ∀ x, key x = k2 (g x)) (fl : List α) (n : T) : (getK key fl n).map g = getK k2 (fl.map g) n := by
  unfold getK
  rw [List.find?_map]
  simp only [hk]
  rfl
theorem srtK_map {β : Type} (g : α → β) (k2 : β → T) (hk : ∀ x, key x = k2 (g x)) (fl : List α) : SrtK key fl ↔ SrtK k2 (fl.map g) := by
  unfold SrtK
  rw [List.pairwise_map]
  simp only [hk]
theorem insK_len {fl : List α} (h : SrtK key fl) (x : α) : (insK key fl x).length = if (getK key fl (key x)).isSome then fl.length else fl.length + 1 := by
  rw [(insK_perm key fl x).length_eq, List.length_cons]
  cases hg : getK key fl (key x) with
  | none => rw [delK_same key h (getK_none key hg)]; rfl
  | some y =>
    obtain ⟨h1, h2⟩ := getK_some key hg
    have h3 := insK_perm key fl y
    rw [insK_same key h h1, h2] at h3
    rw [h3.length_eq, List.length_cons]; rfl
theorem delK_len {fl : List α} (n : T) : (delK key fl n).length ≤ fl.length := by
  unfold delK
  rw [List.length_append, ← List.countP_eq_length_filter, ← List.countP_eq_length_filter]
  induction fl with
  | nil => simp
  | cons x l ih =>
    rw [List.countP_cons, List.countP_cons, List.length_cons]
    by_cases h1 : lt (key x) n = true
    · rw [if_pos h1, if_neg (by rw [lt_asymm h1]; simp)]; omega
    · rw [if_neg h1]; split <;> omega
variable (blk : α → Nat)
def dentK (x : α) : Lit × DataW Nat := (.string (key x), .held (blk x))
/-- the map tells of each its block -/
def MapK (D : DataW Nat) (fl : List α) : Prop := ∃ es, D = .map es ∧ es.Perm (fl.map (dentK key blk))
variable {key} {blk}
theorem dneK {fl : List α} (h : SrtK key fl) : (fl.map (dentK key blk)).Pairwise fun p q => p.1 ≠ q.1 := by
  rw [List.pairwise_map]
  exact h.imp fun {a b} hab e => lt_neK hab (Lit.string.inj e)
theorem mapK_nil : MapK key blk (.map []) [] := ⟨[], rfl, List.Perm.refl _⟩
theorem MapK.size {D : DataW Nat} {fl : List α} (h : MapK key blk D fl) : Maps.size D = fl.length := by
  obtain ⟨es, rfl, h2⟩ := h
  rw [Maps.size_eq, h2.length_eq, List.length_map]
theorem MapK.has {D : DataW Nat} {fl : List α} (h : MapK key blk D fl) (k : Lit) : Maps.has D k = true ↔ ∃ x ∈ fl, k = .string (key x) := by
  obtain ⟨es, rfl, h2⟩ := h
  rw [Maps.has_eq, List.any_eq_true]
  constructor
  · rintro ⟨p, hp, hk⟩
    obtain ⟨x, hx, rfl⟩ := List.mem_map.1 (h2.mem_iff.1 hp)
    exact ⟨x, hx, (WideAt.sameKey_eq hk).symm⟩
  · rintro ⟨x, hx, rfl⟩
    exact ⟨dentK key blk x, h2.mem_iff.2 (List.mem_map_of_mem hx), WideAt.sameKey_self (show WideAt.IsKeyLit (.string (key x)) from trivial)⟩
theorem MapK.miss {D : DataW Nat} {fl : List α} (h : MapK key blk D fl) {n : T} (hn : ∀ x ∈ fl, key x ≠ n) (z : DataW Nat) : D.atKey (.string n) z = z := by
  obtain ⟨es, rfl, h2⟩ := h
  unfold DataW.atKey
  dsimp only
  rw [List.find?_eq_none.2]
  intro p hp hk
  obtain ⟨x, hx, rfl⟩ := List.mem_map.1 (h2.mem_iff.1 hp)
  exact hn x hx (Lit.string.inj (WideAt.sameKey_eq hk))
theorem MapK.hit {D : DataW Nat} {fl : List α} (h : MapK key blk D fl) (hs : SrtK key fl) {x : α} (hx : x ∈ fl) (z : DataW Nat) : D.atKey (.string (key x)) z = .held (blk x) := by
  obtain ⟨es, rfl, h2⟩ := h
  have hd : es.Pairwise fun p q => p.1 ≠ q.1 := (h2.pairwise_iff (fun {_ _} h => Ne.symm h)).2 (dneK hs)
  have hm : dentK key blk x ∈ es := h2.mem_iff.2 (List.mem_map_of_mem hx)
  unfold DataW.atKey
  dsimp only
  have : es.find? (fun p => p.1.sameKey (.string (key x))) = some (dentK key blk x) := by
    clear h2 hs hx
    induction es with
    | nil => cases hm
    | cons e l ih =>
      rw [List.find?_cons]
      have h3 := List.pairwise_cons.1 hd
      rcases List.mem_cons.1 hm with rfl | hm
      · rw [show (dentK key blk x).1.sameKey (.string (key x)) = true from WideAt.sameKey_self (show WideAt.IsKeyLit (.string (key x)) from trivial)]
      · rw [show e.1.sameKey (.string (key x)) = false from Maps.sameKey_ne (h3.1 _ hm)]
        exact ih h3.2 hm
  rw [this]
  rfl
theorem notKey_dentK (n : T) (x : α) : ChangeMaps.notKey (.string n) (dentK key blk x) = !(key x == n) := rfl
theorem MapK.del {D : DataW Nat} {fl : List α} (h : MapK key blk D fl) (hs : SrtK key fl) (n : T) : MapK key blk (D.del (.string n)) (delK key fl n) := by
  obtain ⟨es, rfl, h2⟩ := h
  refine ⟨_, rfl, ?_⟩
  have h3 := h2.filter (ChangeMaps.notKey (.string n))
  rw [List.filter_map] at h3
  rw [← filtK_ne key hs]
  exact h3
theorem MapK.put {D : DataW Nat} {fl : List α} (h : MapK key blk D fl) (hs : SrtK key fl) (x : α) : MapK key blk (D.put (.string (key x)) (.held (blk x))) (insK key fl x) := by
  obtain ⟨es, rfl, h2⟩ := h
  refine ⟨_, rfl, ?_⟩
  have h3 := h2.filter (ChangeMaps.notKey (.string (key x)))
  rw [List.filter_map] at h3
  refine (WideShapes.insert_perm _ _).trans ?_
  refine List.Perm.trans ?_ ((insK_perm key fl x).map (dentK key blk)).symm
  rw [List.map_cons, ← filtK_ne key hs]
  exact List.Perm.cons _ h3
/-- one is another one at its place: the map is as it was -/
theorem MapK.swap {D : DataW Nat} {fl : List α} (h : MapK key blk D fl) (hs : SrtK key fl) {x y : α} (hx : x ∈ fl) (hn : key y = key x) (hg : blk y = blk x) : MapK key blk D (insK key fl y) := by
  obtain ⟨es, rfl, h2⟩ := h
  refine ⟨es, rfl, h2.trans ?_⟩
  have h3 : fl.Perm (x :: delK key fl (key x)) := by
    have := insK_perm key fl x
    rwa [insK_same key hs hx] at this
  have h4 := insK_perm key fl y
  rw [hn] at h4
  refine (h3.map (dentK key blk)).trans (List.Perm.trans ?_ (h4.map (dentK key blk)).symm)
  rw [List.map_cons, List.map_cons, show dentK key blk y = dentK key blk x by unfold dentK; rw [hn, hg]]
end Go.Proofs.YthagdkipipldlaaGreatDoor.krd
