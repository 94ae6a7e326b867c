/- A plate in plain lists: its files, what each call answers and leaves; what follows. No condition. -/
import Derived.Test.YtggcdlhgmikemaaScp1
namespace Go.Proofs.Ytggcdlhgmikemaa.plt
open Go.Proofs.Ytggcdlhgmikemaa.scp (lt lt_irrefl lt_trans lt_total lt_asymm)

abbrev T := List UInt8
/-- a file: its name, its bytes, how many are synced -/
structure F where
  name : T
  b : T
  safe : Nat
  deriving DecidableEq
/-- a plate: its files, its room, how many changes more are done where it is armed, is the power out -/
structure PS where
  fs : List F
  room : Nat
  left : Option Nat
  down : Bool
  deriving DecidableEq
def getF (fs : List F) (n : T) : F := match fs.find? (fun x => x.name == n) with
  | some f => f
  | none => ⟨n, [], 0⟩
/-- the files, once this one is laid -/
def layP (fs : List F) (f : F) : List F := fs.filter (fun x => lt x.name f.name) ++ (if f.b = [] then [] else [f]) ++ fs.filter (fun x => lt f.name x.name)
def usedP (fs : List F) : Nat := (fs.map fun x => x.b.length).sum
def Srt (fs : List F) : Prop := fs.Pairwise (fun a b => lt a.name b.name = true)
/-- in form -/
structure Wf (s : PS) : Prop where
  srt : Srt s.fs
  each : ∀ f ∈ s.fs, f.b ≠ [] ∧ f.safe ≤ f.b.length ∧ 1 ≤ f.name.length ∧ f.name.length ≤ 64
  used : usedP s.fs ≤ s.room
  room : s.room ≤ 268435456
def nameOk (n : T) : Bool := decide (1 ≤ n.length) && decide (n.length ≤ 64)
/-- may a call go on: the error, what stands then -/
def askP (s : PS) (n : T) (change : Bool) : Nat × PS :=
  if nameOk n = false then (1, s) else if s.down then (9, s) else if change = false then (0, s) else
  match s.left with
  | none => (0, s)
  | some 0 => (9, { s with down := true })
  | some (k + 1) => (0, { s with left := some k })
def appP (s : PS) (n b : T) : Nat × PS :=
  if (askP s n true).1 ≠ 0 then askP s n true else
  if (askP s n true).2.room < usedP s.fs + b.length then (8, (askP s n true).2) else
  (0, { (askP s n true).2 with fs := layP s.fs ⟨n, (getF s.fs n).b ++ b, (getF s.fs n).safe⟩ })
def synP (s : PS) (n : T) : Nat × PS :=
  if (askP s n true).1 ≠ 0 then askP s n true else
  (0, { (askP s n true).2 with fs := layP s.fs ⟨n, (getF s.fs n).b, (getF s.fs n).b.length⟩ })
def cutP (s : PS) (n : T) (k : Int) : Nat × PS :=
  if (askP s n true).1 ≠ 0 then askP s n true else
  if k < 0 ∨ ((getF s.fs n).b.length : Int) < k then (6, (askP s n true).2) else
  (0, { (askP s n true).2 with fs := layP s.fs ⟨n, (getF s.fs n).b.take k.toNat, min (getF s.fs n).safe k.toNat⟩ })
def readP (s : PS) (n : T) : Nat × T := ((askP s n false).1, if (askP s n false).1 = 0 then (getF s.fs n).b else [])
def armP (s : PS) (k : Int) : PS := if s.down then s else { s with left := if k < 0 then none else some k.toNat }
/-- how much of a file a crash keeps -/
def kept (f : F) (keep : Int) : Nat := f.safe + min keep.toNat (f.b.length - f.safe)
def crashF : List F → List Int → List F
  | [], _ => []
  | f :: r, ks => (if kept f (ks.headD 0) = 0 then [] else [⟨f.name, f.b.take (kept f (ks.headD 0)), kept f (ks.headD 0)⟩]) ++ crashF r ks.tail
def crashP (s : PS) (ks : List Int) : PS := { s with fs := crashF s.fs ks, left := none, down := false }

theorem srt_head {x : F} {l : List F} (h : Srt (x :: l)) : ∀ y ∈ l, lt x.name y.name = true := (List.pairwise_cons.1 h).1
theorem srt_tail {x : F} {l : List F} (h : Srt (x :: l)) : Srt l := (List.pairwise_cons.1 h).2
theorem lt_ne {a b : T} (h : lt a b = true) : a ≠ b := fun e => by rw [e, lt_irrefl] at h; cases h
theorem getF_mem {fs : List F} (h : Srt fs) {f : F} (hf : f ∈ fs) : getF fs f.name = f := by
  induction fs with
  | nil => cases hf
  | cons x l ih =>
    unfold getF
    rw [List.find?_cons]
    by_cases hx : x.name = f.name
    · rcases List.mem_cons.1 hf with rfl | hm
      · simp
      · exact absurd hx (lt_ne (srt_head h f hm))
    · rcases List.mem_cons.1 hf with rfl | hm
      · exact absurd rfl hx
      · have e : (x.name == f.name) = false := by rw [beq_eq_false_iff_ne]; exact hx
        rw [e]
        exact ih (srt_tail h) hm
theorem getF_none {fs : List F} {n : T} (h : ∀ f ∈ fs, f.name ≠ n) : getF fs n = ⟨n, [], 0⟩ := by
  unfold getF
  rw [List.find?_eq_none.2 (fun f hf => by simp [h f hf])]
theorem getF_cases (fs : List F) (n : T) : (getF fs n ∈ fs ∧ (getF fs n).name = n) ∨ (getF fs n = ⟨n, [], 0⟩ ∧ ∀ f ∈ fs, f.name ≠ n) := by
  unfold getF
  cases h : fs.find? (fun x => x.name == n) with
  | none => exact Or.inr ⟨rfl, fun f hf => by have := List.find?_eq_none.1 h f hf; simpa using this⟩
  | some f => exact Or.inl ⟨List.mem_of_find?_eq_some h, by have := List.find?_some h; simpa using this⟩
theorem getF_name (fs : List F) (n : T) : (getF fs n).name = n := by
  rcases getF_cases fs n with h | h
  · exact h.2
  · rw [h.1]
theorem layP_mem {fs : List F} {f x : F} : x ∈ layP fs f ↔ (x ∈ fs ∧ lt x.name f.name = true) ∨ (f.b ≠ [] ∧ x = f) ∨ (x ∈ fs ∧ lt f.name x.name = true) := by
  unfold layP
  rw [List.mem_append, List.mem_append, List.mem_filter, List.mem_filter]
  by_cases h : f.b = []
  · rw [if_pos h]; simp [h]
  · rw [if_neg h, List.mem_singleton]; simp [h, or_assoc]
theorem layP_srt {fs : List F} (h : Srt fs) (f : F) : Srt (layP fs f) := by
  unfold layP Srt
  rw [List.pairwise_append]
  refine ⟨?_, List.Pairwise.filter _ h, ?_⟩
  · rw [List.pairwise_append]
    refine ⟨List.Pairwise.filter _ h, ?_, ?_⟩
    · split
      · exact List.Pairwise.nil
      · exact List.pairwise_singleton _ _
    · intro a ha b hb
      rw [List.mem_filter] at ha
      split at hb
      · cases hb
      · rw [List.mem_singleton.1 hb]; exact ha.2
  · intro a ha b hb
    rw [List.mem_filter] at hb
    rcases List.mem_append.1 ha with ha | ha
    · rw [List.mem_filter] at ha
      exact lt_trans ha.2 hb.2
    · split at ha
      · cases ha
      · rw [List.mem_singleton.1 ha]; exact hb.2
theorem getF_lay {fs : List F} (h : Srt fs) (f : F) (n : T) : getF (layP fs f) n = if n = f.name then (if f.b = [] then ⟨n, [], 0⟩ else f) else getF fs n := by
  by_cases hn : n = f.name
  · rw [if_pos hn]
    by_cases hb : f.b = []
    · rw [if_pos hb]
      refine getF_none fun x hx => ?_
      rw [layP_mem] at hx
      rw [hn]
      rcases hx with hx | hx | hx
      · exact lt_ne hx.2
      · exact absurd hb hx.1
      · exact fun e => lt_ne hx.2 e.symm
    · rw [if_neg hb, hn]
      exact getF_mem (layP_srt h f) (layP_mem.2 (Or.inr (Or.inl ⟨hb, rfl⟩)))
  · rw [if_neg hn]
    rcases getF_cases fs n with ⟨h1, h2⟩ | ⟨h1, h2⟩
    · have hm : getF fs n ∈ layP fs f := by
        rw [layP_mem]
        by_cases hl : lt (getF fs n).name f.name = true
        · exact Or.inl ⟨h1, hl⟩
        · by_cases hg : lt f.name (getF fs n).name = true
          · exact Or.inr (Or.inr ⟨h1, hg⟩)
          · have e := lt_total (a := (getF fs n).name) (b := f.name) (by simpa using hl) (by simpa using hg)
            rw [h2] at e
            exact absurd e hn
      have := getF_mem (layP_srt h f) hm
      rwa [h2] at this
    · rw [h1]
      refine getF_none fun x hx => ?_
      rw [layP_mem] at hx
      rcases hx with hx | hx | hx
      · exact h2 x hx.1
      · rw [hx.2]; exact fun e => hn e.symm
      · exact h2 x hx.1
/-- the list of a sorted row around a name -/
theorem split_name {fs : List F} (h : Srt fs) (n : T) : fs = fs.filter (fun x => lt x.name n) ++ (if getF fs n ∈ fs then [getF fs n] else []) ++ fs.filter (fun x => lt n x.name) := by
  induction fs with
  | nil => simp
  | cons x l ih =>
    have ih := ih (srt_tail h)
    by_cases h1 : lt x.name n = true
    · have h2 := lt_asymm h1
      have e : (x.name == n) = false := by rw [beq_eq_false_iff_ne]; exact lt_ne h1
      have hg : getF (x :: l) n = getF l n := by unfold getF; rw [List.find?_cons, e]
      have hm : (getF l n ∈ x :: l) ↔ getF l n ∈ l := by
        rw [List.mem_cons]
        exact ⟨fun h => h.resolve_left fun e2 => by have := getF_name l n; rw [e2] at this; exact lt_ne h1 this, Or.inr⟩
      have e1 : (x :: l).filter (fun y => lt y.name n) = x :: l.filter (fun y => lt y.name n) := List.filter_cons_of_pos h1
      have e2 : (x :: l).filter (fun y => lt n y.name) = l.filter (fun y => lt n y.name) := List.filter_cons_of_neg (by rw [h2]; simp)
      have e3 : (if getF l n ∈ x :: l then [getF l n] else []) = if getF l n ∈ l then [getF l n] else [] := by simp only [hm]
      rw [hg, e1, e2, e3, List.cons_append, List.cons_append]
      exact congrArg (x :: ·) ih
    · by_cases hx : x.name = n
      · have hg : getF (x :: l) n = x := by rw [← hx]; exact getF_mem h List.mem_cons_self
        have hl : l.filter (fun y => lt y.name n) = [] := List.filter_eq_nil_iff.2 fun y hy => by
          have := lt_asymm (srt_head h y hy)
          rw [← hx, this]; simp
        have hr : l.filter (fun y => lt n y.name) = l := List.filter_eq_self.2 fun y hy => by rw [← hx]; exact srt_head h y hy
        rw [hg, if_pos List.mem_cons_self, List.filter_cons, if_neg h1, hl, List.filter_cons, if_neg (by rw [hx, lt_irrefl]; simp), hr]
        rfl
      · have h2 : lt n x.name = true := by
          by_cases h2 : lt n x.name = true
          · exact h2
          · exact absurd (lt_total (by simpa using h1) (by simpa using h2)) hx
        have hall : ∀ y ∈ l, lt n y.name = true := fun y hy => lt_trans h2 (srt_head h y hy)
        have hl : l.filter (fun y => lt y.name n) = [] := List.filter_eq_nil_iff.2 fun y hy => by rw [lt_asymm (hall y hy)]; simp
        have hr : l.filter (fun y => lt n y.name) = l := List.filter_eq_self.2 fun y hy => hall y hy
        have hnone : getF (x :: l) n ∉ x :: l := fun hm => by
          rcases getF_cases (x :: l) n with ⟨_, h4⟩ | ⟨h3, h4⟩
          · rcases List.mem_cons.1 hm with e | e
            · rw [e] at h4; exact hx h4
            · have := hall _ e
              rw [h4, lt_irrefl] at this; cases this
          · exact h4 _ hm (getF_name _ _)
        rw [if_neg hnone, List.filter_cons, if_neg h1, hl, List.filter_cons, if_pos h2, hr]
        rfl
theorem usedP_app (a b : List F) : usedP (a ++ b) = usedP a + usedP b := by unfold usedP; rw [List.map_append, List.sum_append]
theorem used_get {fs : List F} (h : Srt fs) (n : T) : usedP fs = usedP (fs.filter fun x => lt x.name n) + (getF fs n).b.length + usedP (fs.filter fun x => lt n x.name) := by
  have e := congrArg usedP (split_name h n)
  rw [usedP_app, usedP_app] at e
  have h2 : usedP (if getF fs n ∈ fs then [getF fs n] else []) = (getF fs n).b.length := by
    split
    · simp [usedP]
    · rename_i hm
      rcases getF_cases fs n with ⟨h3, _⟩ | ⟨h3, _⟩
      · exact absurd h3 hm
      · rw [h3]; rfl
  rw [h2] at e
  exact e
theorem used_lay {fs : List F} (h : Srt fs) (f : F) : usedP (layP fs f) + (getF fs f.name).b.length = usedP fs + f.b.length := by
  have h1 := used_get h f.name
  unfold layP
  rw [usedP_app, usedP_app]
  have h2 : usedP (if f.b = [] then [] else [f]) = f.b.length := by
    split
    · rename_i hb; rw [hb]; rfl
    · simp [usedP]
  rw [h2]
  omega
theorem get_le {fs : List F} (h : Srt fs) (n : T) : (getF fs n).b.length ≤ usedP fs := by have := used_get h n; omega
theorem askP_fs (s : PS) (n : T) (c : Bool) : (askP s n c).2.fs = s.fs ∧ (askP s n c).2.room = s.room := by
  unfold askP
  split
  · exact ⟨rfl, rfl⟩
  · split
    · exact ⟨rfl, rfl⟩
    · split
      · exact ⟨rfl, rfl⟩
      · split <;> exact ⟨rfl, rfl⟩
theorem wf_ask {s : PS} (h : Wf s) (n : T) (c : Bool) : Wf (askP s n c).2 := by
  obtain ⟨h1, h2⟩ := askP_fs s n c
  exact ⟨by rw [h1]; exact h.srt, by rw [h1]; exact h.each, by rw [h1, h2]; exact h.used, by rw [h2]; exact h.room⟩
theorem ask_name {s : PS} {n : T} {c : Bool} (h : (askP s n c).1 = 0) : 1 ≤ n.length ∧ n.length ≤ 64 := by
  unfold askP at h
  split at h
  · cases h
  · rename_i h1
    have h2 : nameOk n = true := by simpa using h1
    unfold nameOk at h2
    rw [Bool.and_eq_true, decide_eq_true_iff, decide_eq_true_iff] at h2
    exact h2
theorem wf_lay {s s2 : PS} (h : Wf s) {f : F} (e1 : s2.room = s.room) (e2 : s2.fs = layP s.fs f) (hs : f.safe ≤ f.b.length) (hn : 1 ≤ f.name.length ∧ f.name.length ≤ 64) (hu : usedP s.fs + f.b.length ≤ s.room + (getF s.fs f.name).b.length) : Wf s2 := by
  refine ⟨by rw [e2]; exact layP_srt h.srt f, ?_, ?_, by rw [e1]; exact h.room⟩
  · rw [e2]
    intro x hx
    rw [layP_mem] at hx
    rcases hx with hx | hx | hx
    · exact h.each x hx.1
    · rw [hx.2]; exact ⟨hx.1, hs, hn⟩
    · exact h.each x hx.1
  · rw [e2, e1]
    have := used_lay h.srt f
    omega
theorem get_wf {s : PS} (h : Wf s) (n : T) : (getF s.fs n).safe ≤ (getF s.fs n).b.length := by
  rcases getF_cases s.fs n with ⟨h1, _⟩ | ⟨h1, _⟩
  · exact (h.each _ h1).2.1
  · rw [h1]; exact Nat.le_refl _
theorem wf_app {s : PS} (h : Wf s) (n b : T) : Wf (appP s n b).2 := by
  unfold appP
  split
  · exact wf_ask h n true
  · split
    · exact wf_ask h n true
    · rename_i h1 h2
      rw [(askP_fs s n true).2] at h2
      have hn := ask_name (s := s) (n := n) (c := true) (by omega)
      refine wf_lay h (s2 := _) (f := ⟨n, (getF s.fs n).b ++ b, (getF s.fs n).safe⟩) (askP_fs s n true).2 rfl ?_ hn ?_
      · dsimp only
        rw [List.length_append]
        have := get_wf h n
        omega
      · dsimp only
        rw [List.length_append]
        omega
theorem wf_syn {s : PS} (h : Wf s) (n : T) : Wf (synP s n).2 := by
  unfold synP
  split
  · exact wf_ask h n true
  · rename_i h1
    have hn := ask_name (s := s) (n := n) (c := true) (by omega)
    refine wf_lay h (s2 := _) (f := ⟨n, (getF s.fs n).b, (getF s.fs n).b.length⟩) (askP_fs s n true).2 rfl (Nat.le_refl _) hn ?_
    have := h.used
    dsimp only
    omega
theorem wf_cut {s : PS} (h : Wf s) (n : T) (k : Int) : Wf (cutP s n k).2 := by
  unfold cutP
  split
  · exact wf_ask h n true
  · split
    · exact wf_ask h n true
    · rename_i h1 h2
      have hn := ask_name (s := s) (n := n) (c := true) (by omega)
      refine wf_lay h (s2 := _) (f := ⟨n, (getF s.fs n).b.take k.toNat, min (getF s.fs n).safe k.toNat⟩) (askP_fs s n true).2 rfl ?_ hn ?_
      · dsimp only
        rw [List.length_take]
        have := get_wf h n
        omega
      · dsimp only
        rw [List.length_take]
        have := h.used
        omega
theorem wf_arm {s : PS} (h : Wf s) (k : Int) : Wf (armP s k) := by
  unfold armP
  split
  · exact h
  · exact ⟨h.srt, h.each, h.used, h.room⟩
theorem kept_le {f : F} (h : f.safe ≤ f.b.length) (k : Int) : f.safe ≤ kept f k ∧ kept f k ≤ f.b.length := by unfold kept; omega
theorem crashF_mem : ∀ {fs : List F} {ks : List Int} {x : F}, x ∈ crashF fs ks → ∃ f ∈ fs, ∃ k, x.name = f.name ∧ x.b = f.b.take (kept f k) ∧ x.safe = kept f k ∧ kept f k ≠ 0
  | [], _, _, h => by cases h
  | f :: r, ks, x, h => by
    rw [crashF, List.mem_append] at h
    rcases h with h | h
    · split at h
      · cases h
      · rename_i hk
        rw [List.mem_singleton.1 h]
        exact ⟨f, List.mem_cons_self, _, rfl, rfl, rfl, hk⟩
    · obtain ⟨g, h1, h2⟩ := crashF_mem h
      exact ⟨g, List.mem_cons_of_mem _ h1, h2⟩
theorem crashF_srt : ∀ {fs : List F} (ks : List Int), Srt fs → Srt (crashF fs ks)
  | [], _, _ => List.Pairwise.nil
  | f :: r, ks, h => by
    rw [crashF]
    unfold Srt
    rw [List.pairwise_append]
    refine ⟨?_, crashF_srt ks.tail (srt_tail h), ?_⟩
    · split
      · exact List.Pairwise.nil
      · exact List.pairwise_singleton _ _
    · intro a ha b hb
      obtain ⟨g, h1, _, h2, _⟩ := crashF_mem hb
      rw [h2]
      split at ha
      · cases ha
      · rw [List.mem_singleton.1 ha]
        exact srt_head h g h1
theorem crashF_used : ∀ {fs : List F} (ks : List Int), usedP (crashF fs ks) ≤ usedP fs
  | [], _ => Nat.le_refl _
  | f :: r, ks => by
    rw [crashF, usedP_app]
    have h1 := crashF_used (fs := r) ks.tail
    have h2 : usedP (if kept f (ks.headD 0) = 0 then [] else [⟨f.name, f.b.take (kept f (ks.headD 0)), kept f (ks.headD 0)⟩]) ≤ f.b.length := by
      split
      · exact Nat.zero_le _
      · simp [usedP]; omega
    have h3 : usedP (f :: r) = f.b.length + usedP r := rfl
    omega
theorem wf_crash {s : PS} (h : Wf s) (ks : List Int) : Wf (crashP s ks) := by
  refine ⟨crashF_srt ks h.srt, ?_, Nat.le_trans (crashF_used ks) h.used, h.room⟩
  intro x hx
  obtain ⟨f, hf, k, h1, h2, h3, h4⟩ := crashF_mem hx
  obtain ⟨g1, g2, g3⟩ := h.each f hf
  have hk := kept_le g2 k
  refine ⟨?_, ?_, by rw [h1]; exact g3⟩
  · rw [h2]
    intro e
    have := congrArg List.length e
    rw [List.length_take, List.length_nil] at this
    omega
  · rw [h2, h3, List.length_take]
    omega
end Go.Proofs.Ytggcdlhgmikemaa.plt
