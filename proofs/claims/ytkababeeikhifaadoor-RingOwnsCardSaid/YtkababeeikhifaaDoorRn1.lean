/- A ring in plain lists: places, points as they stand, whose a key is, in which order regions come behind it; what follows for a region more, a region less, another order of the names. No condition. -/
import Derived.Test.YtkababeeikhifaaDoorShaA
import Derived.Test.YtkababeeikhifaaDoorScp1
import Derived.Test.YtkababeeikhifaaDoorJsn1
namespace Go.Proofs.YtkababeeikhifaaDoor.rng
open Go.Proofs.YtkababeeikhifaaDoor.scp (lt lt_irrefl lt_trans lt_total lt_asymm)
open Go.Proofs.YtkababeeikhifaaDoor.sha (digest digest_len)
abbrev T := List UInt8
/-- bytes as a number, the greatest first -/
def beN (l : T) : Nat := l.foldl (fun n c => 256 * n + c.toNat) 0
def plc (s : T) : Nat := beN ((digest s).take 8)
abbrev dec (k : Nat) : T := Go.Proofs.YtkababeeikhifaaDoor.jsn.natD k
theorem beN_snoc (l : T) (c : UInt8) : beN (l ++ [c]) = 256 * beN l + c.toNat := by unfold beN; rw [List.foldl_append]; rfl
theorem beN_lt (l : T) : beN l < 256 ^ l.length := by
  rw [← List.reverse_reverse l]
  generalize l.reverse = m
  induction m with
  | nil => decide
  | cons a m ih =>
    rw [List.reverse_cons, beN_snoc, List.length_append]
    have := a.toNat_lt
    have e : 256 ^ (m.reverse.length + [a].length) = 256 * 256 ^ m.reverse.length := by rw [Nat.pow_add]; simp [Nat.mul_comm]
    rw [e]
    omega
theorem plc_lt (s : T) : plc s < 18446744073709551616 := by
  unfold plc
  have h := beN_lt ((digest s).take 8)
  have e : ((digest s).take 8).length = 8 := by rw [List.length_take, digest_len]; decide
  rw [e] at h
  exact h
/-- a point, by its region's name -/
structure Np where
  a : Nat
  n : T
  deriving DecidableEq
/-- a point, by its region's number -/
structure Pn where
  a : Nat
  r : Nat
  deriving DecidableEq
def leN (x y : Np) : Bool := decide (x.a < y.a) || (decide (x.a = y.a) && !lt y.n x.n)
theorem leN_iff (x y : Np) : leN x y = true ↔ x.a < y.a ∨ (x.a = y.a ∧ lt y.n x.n = false) := by
  unfold leN
  rw [Bool.or_eq_true, Bool.and_eq_true, decide_eq_true_iff, decide_eq_true_iff, Bool.not_eq_true']
theorem leN_trans (x y z : Np) (h1 : leN x y = true) (h2 : leN y z = true) : leN x z = true := by
  rw [leN_iff] at *
  rcases h1 with h1 | ⟨h1, h3⟩
  · rcases h2 with h2 | ⟨h2, _⟩
    · left; omega
    · left; omega
  · rcases h2 with h2 | ⟨h2, h4⟩
    · left; omega
    · right
      refine ⟨by omega, ?_⟩
      cases h : lt z.n x.n with
      | false => rfl
      | true =>
        cases h5 : lt y.n z.n with
        | true => rw [lt_trans h5 h] at h3; cases h3
        | false => rw [lt_total h4 h5] at h; rw [h3] at h; cases h
theorem leN_total (x y : Np) : (leN x y || leN y x) = true := by
  rw [Bool.or_eq_true, leN_iff, leN_iff]
  rcases Nat.lt_trichotomy x.a y.a with h | h | h
  · left; left; exact h
  · cases h1 : lt y.n x.n with
    | false => left; right; exact ⟨h, rfl⟩
    | true => right; right; exact ⟨h.symm, lt_asymm h1⟩
  · right; left; exact h
theorem leN_anti (x y : Np) (h1 : leN x y = true) (h2 : leN y x = true) : x = y := by
  rw [leN_iff] at *
  have ha : x.a = y.a := by
    rcases h1 with h1 | h1 <;> rcases h2 with h2 | h2 <;> omega
  have hn : x.n = y.n := by
    rcases h1 with h1 | ⟨_, h1⟩
    · omega
    · rcases h2 with h2 | ⟨_, h2⟩
      · omega
      · exact lt_total h2 h1
  cases x; cases y; simp at ha hn; rw [ha, hn]
def lbl (nm : T) (k : Nat) : T := nm ++ (35 :: dec k)
def ownP (n : Nat) (nm : T) : List Np := (List.range n).map fun k => ⟨plc (lbl nm k), nm⟩
def raw (n : Nat) (names : List T) : List Np := names.flatMap (ownP n)
def pts (n : Nat) (names : List T) : List Np := (raw n names).mergeSort leN
theorem pts_srt (n : Nat) (names : List T) : (pts n names).Pairwise fun x y => leN x y = true := List.pairwise_mergeSort leN_trans leN_total _
theorem pts_perm (n : Nat) (names : List T) : (pts n names).Perm (raw n names) := List.mergeSort_perm _ _
theorem pts_of {n : Nat} {names : List T} {l : List Np} (hp : l.Perm (raw n names)) (hs : l.Pairwise fun x y => leN x y = true) : l = pts n names :=
  List.Perm.eq_of_pairwise (fun x y _ _ h1 h2 => leN_anti x y h1 h2) hs (pts_srt n names) (hp.trans (pts_perm n names).symm)
theorem ownP_len (n : Nat) (nm : T) : (ownP n nm).length = n := by unfold ownP; rw [List.length_map, List.length_range]
theorem ownP_n {n : Nat} {nm : T} {x : Np} (h : x ∈ ownP n nm) : x.n = nm := by
  unfold ownP at h
  obtain ⟨k, _, rfl⟩ := List.mem_map.1 h
  rfl
theorem raw_len (n : Nat) : ∀ names : List T, (raw n names).length = names.length * n
  | [] => by simp [raw]
  | a :: l => by
    have := raw_len n l
    unfold raw at this ⊢
    rw [List.flatMap_cons, List.length_append, ownP_len, this, List.length_cons, Nat.succ_mul]
    omega
theorem pts_len (n : Nat) (names : List T) : (pts n names).length = names.length * n := by rw [(pts_perm n names).length_eq, raw_len]
theorem raw_mem {n : Nat} {names : List T} {x : Np} (h : x ∈ raw n names) : x.n ∈ names := by
  unfold raw at h
  obtain ⟨m, hm, hx⟩ := List.mem_flatMap.1 h
  rw [ownP_n hx]; exact hm
theorem pts_mem {n : Nat} {names : List T} {x : Np} (h : x ∈ pts n names) : x.n ∈ names := raw_mem ((pts_perm n names).mem_iff.1 h)
theorem pts_has {n : Nat} (hn : 1 ≤ n) {names : List T} {m : T} (h : m ∈ names) : ∃ x ∈ pts n names, x.n = m := by
  refine ⟨⟨plc (lbl m 0), m⟩, (pts_perm n names).mem_iff.2 ?_, rfl⟩
  unfold raw
  refine List.mem_flatMap.2 ⟨m, h, ?_⟩
  unfold ownP
  exact List.mem_map.2 ⟨0, List.mem_range.2 (by omega), rfl⟩
theorem raw_filter (n : Nat) (q : T → Bool) : ∀ names : List T, (raw n names).filter (fun x => q x.n) = raw n (names.filter q)
  | [] => rfl
  | a :: l => by
    have ih := raw_filter n q l
    unfold raw at ih ⊢
    rw [List.flatMap_cons, List.filter_append, ih]
    cases h : q a with
    | true =>
      rw [List.filter_cons_of_pos h, List.flatMap_cons]
      congr 1
      rw [List.filter_eq_self]
      intro x hx
      rw [ownP_n hx]; exact h
    | false =>
      rw [List.filter_cons_of_neg (by rw [h]; simp)]
      have : (ownP n a).filter (fun x => q x.n) = [] := List.filter_eq_nil_iff.2 fun x hx => by rw [ownP_n hx, h]; simp
      rw [this, List.nil_append]
theorem pts_filter (n : Nat) (q : T → Bool) (names : List T) : (pts n names).filter (fun x => q x.n) = pts n (names.filter q) :=
  pts_of (by rw [← raw_filter]; exact (pts_perm n names).filter _) ((pts_srt n names).filter _)
theorem raw_perm (n : Nat) {l m : List T} (h : l.Perm m) : (raw n l).Perm (raw n m) := by
  unfold raw
  exact h.flatMap_right _
theorem pts_alike (n : Nat) {l m : List T} (h : l.Perm m) : pts n l = pts n m := pts_of ((pts_perm n l).trans (raw_perm n h)) (pts_srt n l)
/-- names of the points, as they come behind a place -/
def beh (l : List Np) (p : Nat) : List T := ((l.filter fun x => decide (p ≤ x.a)) ++ l.filter fun x => !decide (p ≤ x.a)).map (·.n)
theorem beh_filter (q : T → Bool) (l : List Np) (p : Nat) : (beh l p).filter q = beh (l.filter fun x => q x.n) p := by
  unfold beh
  rw [List.filter_map, List.filter_append]
  congr 1
  congr 1
  · rw [List.filter_filter, List.filter_filter]
    congr 1; funext x; simp [Bool.and_comm]
  · rw [List.filter_filter, List.filter_filter]
    congr 1; funext x; simp [Bool.and_comm]
theorem beh_mem {l : List Np} {p : Nat} {m : T} : m ∈ beh l p ↔ ∃ x ∈ l, x.n = m := by
  unfold beh
  rw [List.mem_map]
  constructor
  · rintro ⟨x, hx, rfl⟩
    rcases List.mem_append.1 hx with h | h
    · exact ⟨x, (List.mem_filter.1 h).1, rfl⟩
    · exact ⟨x, (List.mem_filter.1 h).1, rfl⟩
  · rintro ⟨x, hx, rfl⟩
    refine ⟨x, ?_, rfl⟩
    rw [List.mem_append, List.mem_filter, List.mem_filter]
    by_cases h : p ≤ x.a
    · exact Or.inl ⟨hx, by simp [h]⟩
    · exact Or.inr ⟨hx, by simp [h]⟩
theorem beh_len (l : List Np) (p : Nat) : (beh l p).length = l.length := by
  unfold beh
  rw [List.length_map, List.length_append, ← List.countP_eq_length_filter, ← List.countP_eq_length_filter]
  have := List.length_eq_countP_add_countP (fun x : Np => decide (p ≤ x.a)) (l := l)
  rw [this]
  congr 1
  apply List.countP_congr
  intro x _
  simp
/-- each once, as they come first -/
def dd {α : Type} [DecidableEq α] (l : List α) : List α := l.foldl (fun out x => if x ∈ out then out else out ++ [x]) []
theorem snoc_ind {α : Type} {P : List α → Prop} (h0 : P []) (h1 : ∀ l x, P l → P (l ++ [x])) (l : List α) : P l := by
  rw [← List.reverse_reverse l]
  generalize l.reverse = m
  induction m with
  | nil => exact h0
  | cons a m ih => rw [List.reverse_cons]; exact h1 _ _ ih
section
variable {α : Type} [DecidableEq α]
theorem dd_snoc (l : List α) (x : α) : dd (l ++ [x]) = if x ∈ dd l then dd l else dd l ++ [x] := by unfold dd; rw [List.foldl_append]; rfl
theorem dd_mem (l : List α) : ∀ x, x ∈ dd l ↔ x ∈ l := by
  refine snoc_ind (P := fun l => ∀ x, x ∈ dd l ↔ x ∈ l) (fun x => by simp [dd]) (fun l y ih x => ?_) l
  rw [dd_snoc, List.mem_append, List.mem_singleton]
  by_cases h : y ∈ dd l
  · rw [if_pos h, ih]
    exact ⟨Or.inl, fun h2 => h2.elim id fun e => by rw [e]; exact (ih y).1 h⟩
  · rw [if_neg h, List.mem_append, List.mem_singleton, ih]
theorem dd_nodup (l : List α) : (dd l).Nodup := by
  refine snoc_ind (P := fun l => (dd l).Nodup) (by simp [dd]) (fun l y ih => ?_) l
  rw [dd_snoc]
  by_cases h : y ∈ dd l
  · rw [if_pos h]; exact ih
  · rw [if_neg h, List.nodup_append]
    refine ⟨ih, by simp, fun a ha b hb e => ?_⟩
    rw [List.mem_singleton] at hb
    rw [e, hb] at ha; exact h ha
theorem dd_filter (q : α → Bool) (l : List α) : (dd l).filter q = dd (l.filter q) := by
  refine snoc_ind (P := fun l => (dd l).filter q = dd (l.filter q)) rfl (fun l y ih => ?_) l
  rw [dd_snoc, List.filter_append]
  cases hq : q y with
  | true =>
    rw [show [y].filter q = [y] by simp [hq], dd_snoc, ← ih]
    by_cases h : y ∈ dd l
    · rw [if_pos h, if_pos (List.mem_filter.2 ⟨h, hq⟩)]
    · rw [if_neg h, if_neg (fun h2 => h (List.mem_filter.1 h2).1), List.filter_append, show [y].filter q = [y] by simp [hq]]
  | false =>
    rw [show [y].filter q = [] by simp [hq], List.append_nil]
    by_cases h : y ∈ dd l
    · rw [if_pos h, ih]
    · rw [if_neg h, List.filter_append, show [y].filter q = [] by simp [hq], List.append_nil, ih]
theorem dd_map {β : Type} [DecidableEq β] (f : α → β) (l : List α) (hf : ∀ x ∈ l, ∀ y ∈ l, f x = f y → x = y) : dd (l.map f) = (dd l).map f := by
  revert hf
  refine snoc_ind (P := fun l => (∀ x ∈ l, ∀ y ∈ l, f x = f y → x = y) → dd (l.map f) = (dd l).map f) (fun _ => rfl) (fun l y ih hf => ?_) l
  have ih := ih fun x hx z hz => hf x (List.mem_append_left _ hx) z (List.mem_append_left _ hz)
  rw [List.map_append, List.map_singleton, dd_snoc, dd_snoc, ih]
  by_cases h : y ∈ dd l
  · rw [if_pos h, if_pos (List.mem_map_of_mem h)]
  · rw [if_neg h, if_neg, List.map_append, List.map_singleton]
    intro h2
    obtain ⟨x, hx, e⟩ := List.mem_map.1 h2
    rw [dd_mem] at hx
    have := hf x (List.mem_append_left _ hx) y (by simp) e
    rw [this] at hx
    exact h ((dd_mem l y).2 hx)
theorem dd_head (l : List α) : (dd l).head? = l.head? := by
  refine snoc_ind (P := fun l => (dd l).head? = l.head?) rfl (fun l y ih => ?_) l
  rw [dd_snoc, List.head?_append, ← ih]
  by_cases h : y ∈ dd l
  · rw [if_pos h]
    cases hd : dd l with
    | nil => rw [hd] at h; cases h
    | cons a t => rfl
  · rw [if_neg h, List.head?_append]
theorem dd_cons (x : α) (l : List α) : dd (x :: l) = x :: (dd l).filter (fun y => !decide (y = x)) := by
  refine snoc_ind (P := fun l => dd (x :: l) = x :: (dd l).filter (fun y => !decide (y = x))) (by simp [dd]) (fun l y ih => ?_) l
  rw [show x :: (l ++ [y]) = (x :: l) ++ [y] from rfl, dd_snoc, dd_snoc, ih]
  by_cases hy : y = x
  · rw [if_pos (by simp [hy])]
    subst hy
    by_cases h : y ∈ dd l
    · rw [if_pos h]
    · rw [if_neg h, List.filter_append]; simp
  · by_cases h : y ∈ dd l
    · rw [if_pos h, if_pos]
      exact List.mem_cons_of_mem _ (List.mem_filter.2 ⟨h, by simp [hy]⟩)
    · rw [if_neg h, if_neg, List.filter_append]
      · simp [hy]
      · intro h2
        rcases List.mem_cons.1 h2 with h2 | h2
        · exact hy h2
        · exact h (List.mem_filter.1 h2).1
theorem dd_len {l : List α} {m : List α} (hm : m.Nodup) (h : ∀ x, x ∈ l ↔ x ∈ m) : (dd l).length = m.length := by
  refine (((List.perm_ext_iff_of_nodup (dd_nodup l) hm).2 fun x => ?_)).length_eq
  rw [dd_mem, h]
end
/-- names behind a key's place, each once -/
def ordN (n : Nat) (names : List T) (p : Nat) : List T := dd (beh (pts n names) p)
def ownN (n : Nat) (names : List T) (p : Nat) : T := (beh (pts n names) p).headD []
theorem behP_mem {n : Nat} (hn : 1 ≤ n) {names : List T} {p : Nat} (m : T) : m ∈ beh (pts n names) p ↔ m ∈ names := by
  rw [beh_mem]
  constructor
  · rintro ⟨x, hx, rfl⟩; exact pts_mem hx
  · intro h; exact pts_has hn h
theorem ordN_len {n : Nat} (hn : 1 ≤ n) {names : List T} (hd : names.Nodup) (p : Nat) : (ordN n names p).length = names.length := dd_len hd (behP_mem hn)
theorem ordN_mem {n : Nat} (hn : 1 ≤ n) {names : List T} (p : Nat) (m : T) : m ∈ ordN n names p ↔ m ∈ names := by unfold ordN; rw [dd_mem, behP_mem hn]
theorem beh_ne {n : Nat} (hn : 1 ≤ n) {names : List T} (h0 : names ≠ []) (p : Nat) : beh (pts n names) p ≠ [] := fun e => by
  obtain ⟨a, l, rfl⟩ := List.exists_cons_of_ne_nil h0
  have := (behP_mem hn (names := a :: l) (p := p) a).2 List.mem_cons_self
  rw [e] at this; cases this
theorem ownN_mem {n : Nat} (hn : 1 ≤ n) {names : List T} (h0 : names ≠ []) (p : Nat) : ownN n names p ∈ names := by
  rw [← behP_mem hn (p := p)]
  unfold ownN
  obtain ⟨a, l, e⟩ := List.exists_cons_of_ne_nil (beh_ne hn h0 p)
  rw [e]; exact List.mem_cons_self
theorem ordN_head (n : Nat) (names : List T) (p : Nat) : (ordN n names p).headD [] = ownN n names p := by
  unfold ordN ownN
  rw [List.headD_eq_head?_getD, List.headD_eq_head?_getD, dd_head]
/-- a region more takes only its own -/
theorem grows {n : Nat} (hn : 1 ≤ n) {names : List T} (x : T) (hx : x ∉ names) (p : Nat) : ownN n (names ++ [x]) p = ownN n names p ∨ ownN n (names ++ [x]) p = x := by
  have e : (names ++ [x]).filter (fun y => !decide (y = x)) = names := by
    rw [List.filter_append]
    have h1 : names.filter (fun y => !decide (y = x)) = names := List.filter_eq_self.2 fun y hy => by
      have : y ≠ x := fun e => hx (e ▸ hy)
      simp [this]
    rw [h1]; simp
  have h := beh_filter (fun y => !decide (y = x)) (pts n (names ++ [x])) p
  rw [pts_filter n (fun y => !decide (y = x)), e] at h
  unfold ownN
  rw [← h]
  obtain ⟨a, l, e2⟩ := List.exists_cons_of_ne_nil (beh_ne hn (names := names ++ [x]) (by simp) p)
  rw [e2]
  by_cases ha : a = x
  · right; exact ha
  · left
    rw [List.filter_cons_of_pos (by simp [ha])]; rfl
/-- a region that goes leaves its keys to the next -/
theorem shrinks {n : Nat} (hn : 1 ≤ n) {names : List T} (hd : names.Nodup) (x : T) (hl : 1 ≤ names.length) (p : Nat) : ownN n (names.filter fun y => !decide (y = x)) p = if (ordN n names p).headD [] = x then (ordN n names p).getD 1 [] else (ordN n names p).headD [] := by
  have h := beh_filter (fun y => !decide (y = x)) (pts n names) p
  rw [pts_filter n (fun y => !decide (y = x))] at h
  have hlen := ordN_len hn hd p
  have ho : (ordN n names p).filter (fun y => !decide (y = x)) = dd (beh (pts n (names.filter fun y => !decide (y = x))) p) := by
    unfold ordN
    rw [dd_filter, h]
  have hnd := dd_nodup (beh (pts n names) p)
  have e1 : ownN n (names.filter fun y => !decide (y = x)) p = ((ordN n names p).filter (fun y => !decide (y = x))).headD [] := by
    rw [ho]
    unfold ownN
    rw [List.headD_eq_head?_getD, List.headD_eq_head?_getD, dd_head]
  rw [e1]
  change (ordN n names p).Nodup at hnd
  cases e : ordN n names p with
  | nil => rw [e] at hlen; simp at hlen; omega
  | cons a t =>
    rw [e] at hnd hlen
    rw [List.nodup_cons] at hnd
    by_cases ha : a = x
    · subst ha
      rw [if_pos (show (a :: t).headD [] = a from rfl), List.filter_cons_of_neg (by simp)]
      have h1 : t.filter (fun y => !decide (y = a)) = t := List.filter_eq_self.2 fun y hy => by
        have : y ≠ a := fun e => hnd.1 (e ▸ hy)
        simp [this]
      rw [h1]
      cases t with
      | nil => rfl
      | cons b t => rfl
    · rw [if_neg (show ¬ (a :: t).headD [] = x from ha), List.filter_cons_of_pos (by simp [ha])]
      rfl
theorem alikeO {n : Nat} {l m : List T} (h : l.Perm m) (p : Nat) : ordN n l p = ordN n m p := by unfold ordN; rw [pts_alike n h]
end Go.Proofs.YtkababeeikhifaaDoor.rng
