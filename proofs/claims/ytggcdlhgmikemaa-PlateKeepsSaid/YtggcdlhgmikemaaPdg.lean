/- The developers' files as a list, and as a map of names; what laying in, taking away makes of both. No condition. -/
import Derived.Test.YtggcdlhgmikemaaPlt2
import Derived.Test.YtggcdlhgmikemaaMapPtr
import Derived.Maps.RangeWalk
namespace Go.Proofs.Ytggcdlhgmikemaa.plt
open Go.RowKit
open Go.Proofs.Ytggcdlhgmikemaa.mpt
open Go.Proofs.Ytggcdlhgmikemaa.scp (lt lt_irrefl lt_trans lt_total lt_asymm)

/-- a developers' file: its name, its block, where its bytes are, with what room, how many are synced -/
structure DF where
  n : T
  g : Nat
  p : Option Addr
  c : Nat
  b : T
  s : Nat
instance : Inhabited DF := ⟨⟨[], 0, none, 0, [], 0⟩⟩
def DF.f (x : DF) : F := ⟨x.n, x.b, x.s⟩
def DF.v (x : DF) : Value := .slice x.p x.b.length x.c
def dent (x : DF) : Lit × DataW Nat := (.string x.n, .held x.g)
/-- the map tells of each file its block -/
def MapOf (D : DataW Nat) (fl : List DF) : Prop := ∃ es, D = .map es ∧ es.Perm (fl.map dent)
/-- names rise -/
def SrtD (fl : List DF) : Prop := fl.Pairwise (fun a b => lt a.n b.n = true)
def insD (fl : List DF) (x : DF) : List DF := fl.filter (fun y => lt y.n x.n) ++ x :: fl.filter (fun y => lt x.n y.n)
def delD (fl : List DF) (n : T) : List DF := fl.filter (fun y => lt y.n n) ++ fl.filter (fun y => lt n y.n)
theorem srtD_iff {fl : List DF} : SrtD fl ↔ Srt (fl.map DF.f) := by unfold SrtD Srt; rw [List.pairwise_map]; rfl
theorem dne {fl : List DF} (h : SrtD fl) : (fl.map dent).Pairwise fun p q => p.1 ≠ q.1 := by
  rw [List.pairwise_map]
  exact h.imp fun {a b} hab e => lt_ne hab (Lit.string.inj e)
theorem filt_f (fl : List DF) (q : F → Bool) : (fl.filter fun x => q x.f).map DF.f = (fl.map DF.f).filter q := by
  rw [List.filter_map]
  rfl
theorem insD_f (fl : List DF) (x : DF) (hx : x.b ≠ []) : (insD fl x).map DF.f = layP (fl.map DF.f) x.f := by
  unfold insD layP
  rw [if_neg (show ¬ x.f.b = [] from hx), List.map_append, List.map_cons, List.append_assoc]
  rw [← filt_f, ← filt_f]
  rfl
theorem delD_f (fl : List DF) (f : F) (hf : f.b = []) : (delD fl f.name).map DF.f = layP (fl.map DF.f) f := by
  unfold delD layP
  rw [if_pos hf, List.map_append, List.append_nil, ← filt_f, ← filt_f]
  rfl
theorem dl_pos {n : T} {x : DF} {l : List DF} (h : lt x.n n = true) : (x :: l).filter (fun y => lt y.n n) = x :: l.filter (fun y => lt y.n n) := List.filter_cons_of_pos h
theorem dl_neg {n : T} {x : DF} {l : List DF} (h : ¬ lt x.n n = true) : (x :: l).filter (fun y => lt y.n n) = l.filter (fun y => lt y.n n) := List.filter_cons_of_neg h
theorem dg_pos {n : T} {x : DF} {l : List DF} (h : lt n x.n = true) : (x :: l).filter (fun y => lt n y.n) = x :: l.filter (fun y => lt n y.n) := List.filter_cons_of_pos h
theorem dg_neg {n : T} {x : DF} {l : List DF} (h : lt n x.n = false) : (x :: l).filter (fun y => lt n y.n) = l.filter (fun y => lt n y.n) := List.filter_cons_of_neg (by rw [h]; simp)
theorem filtD_ne : ∀ {l : List DF} (_ : SrtD l) (n : T), l.filter (fun x => !(x.n == n)) = delD l n
  | [], _, _ => rfl
  | x :: l, h, n => by
    have h2 := List.pairwise_cons.1 h
    have ih := filtD_ne h2.2 n
    unfold delD at ih ⊢
    by_cases h1 : lt x.n n = true
    · have e : (x.n == n) = false := by rw [beq_eq_false_iff_ne]; exact lt_ne h1
      rw [List.filter_cons_of_pos (by rw [e]; rfl), dl_pos h1, dg_neg (lt_asymm h1), ih, List.cons_append]
    · have hl : ∀ y ∈ l, ¬ lt y.n n = true := fun y hy h3 => h1 (lt_trans (h2.1 y hy) h3)
      have e0 : l.filter (fun y => lt y.n n) = [] := List.filter_eq_nil_iff.2 hl
      rw [e0, List.nil_append] at ih
      rw [dl_neg h1, e0, List.nil_append]
      by_cases hx : x.n = n
      · rw [List.filter_cons_of_neg (by rw [hx]; simp), dg_neg (by rw [hx, lt_irrefl]), ih]
      · have h3 : lt n x.n = true := by
          by_cases h3 : lt n x.n = true
          · exact h3
          · exact absurd (lt_total (by simpa using h1) (by simpa using h3)) hx
        have e : (x.n == n) = false := by rw [beq_eq_false_iff_ne]; exact hx
        rw [List.filter_cons_of_pos (by rw [e]; rfl), dg_pos h3, ih]
theorem delD_mem {fl : List DF} {n : T} {y : DF} (h : y ∈ delD fl n) : y ∈ fl ∧ y.n ≠ n := by
  unfold delD at h
  rw [List.mem_append, List.mem_filter, List.mem_filter] at h
  rcases h with h | h
  · exact ⟨h.1, lt_ne h.2⟩
  · exact ⟨h.1, fun e => lt_ne h.2 e.symm⟩
theorem delD_srt {fl : List DF} (h : SrtD fl) (n : T) : SrtD (delD fl n) := by
  rw [← filtD_ne h]
  exact List.Pairwise.filter _ h
theorem insD_perm (fl : List DF) (x : DF) : (insD fl x).Perm (x :: delD fl x.n) := List.perm_middle
theorem insD_mem {fl : List DF} {x y : DF} (h : y ∈ insD fl x) : y = x ∨ (y ∈ fl ∧ y.n ≠ x.n) := by
  rcases List.mem_cons.1 ((insD_perm fl x).mem_iff.1 h) with h | h
  · exact Or.inl h
  · exact Or.inr (delD_mem h)
theorem insD_srt {fl : List DF} (h : SrtD fl) (x : DF) : SrtD (insD fl x) := by
  unfold insD SrtD
  rw [List.pairwise_append]
  refine ⟨List.Pairwise.filter _ h, ?_, ?_⟩
  · rw [List.pairwise_cons]
    exact ⟨fun b hb => (List.mem_filter.1 hb).2, List.Pairwise.filter _ h⟩
  · intro a ha b hb
    rw [List.mem_filter] at ha
    rcases List.mem_cons.1 hb with rfl | hb
    · exact ha.2
    · exact lt_trans ha.2 (List.mem_filter.1 hb).2
/-- a file that is there, laid in once more -/
theorem insD_same {fl : List DF} (h : SrtD fl) {x : DF} (hx : x ∈ fl) : insD fl x = fl := by
  induction fl with
  | nil => cases hx
  | cons y l ih =>
    have h2 := List.pairwise_cons.1 h
    rcases List.mem_cons.1 hx with rfl | hm
    · have e0 : l.filter (fun z => lt z.n x.n) = [] := List.filter_eq_nil_iff.2 fun z hz => by rw [lt_asymm (h2.1 z hz)]; simp
      have e1 : l.filter (fun z => lt x.n z.n) = l := List.filter_eq_self.2 fun z hz => h2.1 z hz
      unfold insD
      rw [dl_neg (by rw [lt_irrefl]; simp), dg_neg (lt_irrefl _), e0, e1]
      rfl
    · have h3 := h2.1 x hm
      have ih := ih h2.2 hm
      unfold insD at ih ⊢
      rw [dl_pos h3, dg_neg (lt_asymm h3), List.cons_append, ih]
theorem filter_twice {α : Type} (p q : α → Bool) (l : List α) (h : ∀ x, q x = true → p x = true) : (l.filter p).filter q = l.filter q := by
  rw [List.filter_filter]
  refine List.filter_congr fun x _ => ?_
  cases hq : q x
  · rfl
  · rw [h x hq]; rfl
theorem filter_none {α : Type} (p q : α → Bool) (l : List α) (h : ∀ x, q x = true → p x = false) : (l.filter p).filter q = [] := by
  rw [List.filter_filter]
  refine List.filter_eq_nil_iff.2 fun x _ => ?_
  cases hq : q x
  · simp
  · rw [h x hq]; simp
/-- a name laid in twice -/
theorem insD_twice (fl : List DF) {x y : DF} (h : y.n = x.n) : insD (insD fl x) y = insD fl y := by
  unfold insD
  rw [h, List.filter_append, List.filter_append, dl_neg (by rw [lt_irrefl]; simp), dg_neg (lt_irrefl _),
    filter_twice _ _ _ (fun _ h => h), filter_none _ _ _ (fun _ h => lt_asymm h), filter_none _ _ _ (fun _ h => lt_asymm h), filter_twice _ _ _ (fun _ h => h), List.append_nil, List.nil_append]
theorem delD_ins (fl : List DF) (x : DF) : delD (insD fl x) x.n = delD fl x.n := by
  unfold insD delD
  rw [List.filter_append, List.filter_append, dl_neg (by rw [lt_irrefl]; simp), dg_neg (lt_irrefl _),
    filter_twice _ _ _ (fun _ h => h), filter_none _ _ _ (fun _ h => lt_asymm h), filter_none _ _ _ (fun _ h => lt_asymm h), filter_twice _ _ _ (fun _ h => h), List.append_nil, List.nil_append]
/-- the file of a name, or one without bytes -/
theorem getD_cases (fl : List DF) (n : T) : (∃ x ∈ fl, x.n = n) ∨ ∀ x ∈ fl, x.n ≠ n := by
  by_cases h : ∃ x ∈ fl, x.n = n
  · exact Or.inl h
  · exact Or.inr fun x hx e => h ⟨x, hx, e⟩
theorem getF_hit {fl : List DF} (h : SrtD fl) {x : DF} (hx : x ∈ fl) : getF (fl.map DF.f) x.n = x.f := getF_mem (srtD_iff.1 h) (List.mem_map_of_mem hx)
theorem getF_miss {fl : List DF} {n : T} (h : ∀ x ∈ fl, x.n ≠ n) : getF (fl.map DF.f) n = ⟨n, [], 0⟩ := getF_none fun f hf => by
  obtain ⟨x, hx, rfl⟩ := List.mem_map.1 hf
  exact h x hx
theorem mapOf_nil : MapOf (.map []) [] := ⟨[], rfl, List.Perm.refl _⟩
theorem MapOf.perm {D : DataW Nat} {fl l2 : List DF} (h : MapOf D fl) (hp : fl.Perm l2) : MapOf D l2 := by
  obtain ⟨es, h1, h2⟩ := h
  exact ⟨es, h1, h2.trans (hp.map _)⟩
theorem MapOf.size {D : DataW Nat} {fl : List DF} (h : MapOf D fl) : Maps.size D = fl.length := by
  obtain ⟨es, rfl, h2⟩ := h
  rw [Maps.size_eq, h2.length_eq, List.length_map]
theorem MapOf.has {D : DataW Nat} {fl : List DF} (h : MapOf D fl) (k : Lit) : Maps.has D k = true ↔ ∃ x ∈ fl, k = .string x.n := by
  obtain ⟨es, rfl, h2⟩ := h
  rw [Maps.has_eq, List.any_eq_true]
  constructor
  · rintro ⟨p, hp, hk⟩
    obtain ⟨x, hx, rfl⟩ := List.mem_map.1 (h2.mem_iff.1 hp)
    exact ⟨x, hx, (WideAt.sameKey_eq hk).symm⟩
  · rintro ⟨x, hx, rfl⟩
    exact ⟨dent x, h2.mem_iff.2 (List.mem_map_of_mem hx), WideAt.sameKey_self (show WideAt.IsKeyLit (.string x.n) from trivial)⟩
theorem MapOf.miss {D : DataW Nat} {fl : List DF} (h : MapOf D fl) {n : T} (hn : ∀ x ∈ fl, x.n ≠ n) (z : DataW Nat) : D.atKey (.string n) z = z := by
  obtain ⟨es, rfl, h2⟩ := h
  unfold DataW.atKey
  dsimp only
  rw [List.find?_eq_none.2]
  intro p hp hk
  obtain ⟨x, hx, rfl⟩ := List.mem_map.1 (h2.mem_iff.1 hp)
  exact hn x hx (Lit.string.inj (WideAt.sameKey_eq hk))
theorem MapOf.hit {D : DataW Nat} {fl : List DF} (h : MapOf D fl) (hs : (fl.map dent).Pairwise fun p q => p.1 ≠ q.1) {x : DF} (hx : x ∈ fl) (z : DataW Nat) : D.atKey (.string x.n) z = .held x.g := by
  obtain ⟨es, rfl, h2⟩ := h
  have hd : es.Pairwise fun p q => p.1 ≠ q.1 := (h2.pairwise_iff (fun {_ _} h => Ne.symm h)).2 hs
  have hm : dent x ∈ es := h2.mem_iff.2 (List.mem_map_of_mem hx)
  unfold DataW.atKey
  dsimp only
  have : es.find? (fun p => p.1.sameKey (.string x.n)) = some (dent x) := by
    clear h2 hs hx
    induction es with
    | nil => cases hm
    | cons e l ih =>
      rw [List.find?_cons]
      have h3 := List.pairwise_cons.1 hd
      rcases List.mem_cons.1 hm with rfl | hm
      · rw [show (dent x).1.sameKey (.string x.n) = true from WideAt.sameKey_self (show WideAt.IsKeyLit (.string x.n) from trivial)]
      · rw [show e.1.sameKey (.string x.n) = false from Maps.sameKey_ne (h3.1 _ hm)]
        exact ih h3.2 hm
  rw [this]
  rfl
theorem notKey_dent (n : T) (x : DF) : ChangeMaps.notKey (.string n) (dent x) = !(x.n == n) := rfl
theorem MapOf.del {D : DataW Nat} {fl : List DF} (h : MapOf D fl) (hs : SrtD fl) (n : T) : MapOf (D.del (.string n)) (delD fl n) := by
  obtain ⟨es, rfl, h2⟩ := h
  refine ⟨_, rfl, ?_⟩
  have h3 := h2.filter (ChangeMaps.notKey (.string n))
  rw [List.filter_map] at h3
  rw [← filtD_ne hs]
  exact h3
theorem MapOf.put {D : DataW Nat} {fl : List DF} (h : MapOf D fl) (hs : SrtD fl) (x : DF) : MapOf (D.put (.string x.n) (.held x.g)) (insD fl x) := by
  obtain ⟨es, rfl, h2⟩ := h
  refine ⟨_, rfl, ?_⟩
  have h3 := h2.filter (ChangeMaps.notKey (.string x.n))
  rw [List.filter_map] at h3
  refine (WideShapes.insert_perm _ _).trans ?_
  refine List.Perm.trans ?_ ((insD_perm fl x).map dent).symm
  rw [List.map_cons, ← filtD_ne hs]
  exact List.Perm.cons _ h3
/-- a file is another one at its place: the map is as it was -/
theorem MapOf.swap {D : DataW Nat} {fl : List DF} (h : MapOf D fl) (hs : SrtD fl) {x y : DF} (hx : x ∈ fl) (hn : y.n = x.n) (hg : y.g = x.g) : MapOf D (insD fl y) := by
  obtain ⟨es, rfl, h2⟩ := h
  refine ⟨es, rfl, h2.trans ?_⟩
  have h3 : fl.Perm (x :: delD fl x.n) := by
    have := insD_perm fl x
    rwa [insD_same hs hx] at this
  have h4 := insD_perm fl y
  rw [hn] at h4
  refine (h3.map dent).trans (List.Perm.trans ?_ (h4.map dent).symm)
  rw [List.map_cons, List.map_cons, show dent y = dent x by unfold dent; rw [hn, hg]]
end Go.Proofs.Ytggcdlhgmikemaa.plt
