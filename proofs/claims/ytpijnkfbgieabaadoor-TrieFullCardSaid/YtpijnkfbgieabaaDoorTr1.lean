/- A trie in plain lists: paths, digests of pairs at a depth, pairs put and taken away; what follows. No condition. -/
import Derived.Test.YtpijnkfbgieabaaDoorShaA
import Derived.Test.YtpijnkfbgieabaaDoorScp1
namespace Go.Proofs.YtpijnkfbgieabaaDoor.tri
open Go.Proofs.YtpijnkfbgieabaaDoor.scp (lt lt_irrefl lt_trans lt_total lt_asymm)
open Go.Proofs.YtpijnkfbgieabaaDoor.sha (digest digest_len)

abbrev T := List UInt8
structure Pr where
  n : T
  v : T
  deriving DecidableEq
def nibW (w : T) (d : Nat) : Nat := if d % 2 = 0 then (w.getD (d / 2) 0).toNat / 16 else (w.getD (d / 2) 0).toNat % 16
theorem nibW_lt (w : T) (d : Nat) : nibW w d < 16 := by
  have := (w.getD (d / 2) 0).toNat_lt
  unfold nibW
  split <;> omega
abbrev nib (k : T) (d : Nat) : Nat := nibW (digest k) d
/-- two rows of 32 bytes with the same 64 halves are one -/
theorem nib_all {a b : T} (ha : a.length = 32) (hb : b.length = 32) (h : ∀ j, j < 64 → nibW a j = nibW b j) : a = b := by
  refine List.ext_getElem (by omega) fun i h1 h2 => ?_
  have e1 := h (2 * i) (by omega)
  have e2 := h (2 * i + 1) (by omega)
  unfold nibW at e1 e2
  rw [if_pos (by omega), if_pos (by omega)] at e1
  rw [if_neg (by omega), if_neg (by omega)] at e2
  rw [show 2 * i / 2 = i by omega] at e1
  rw [show (2 * i + 1) / 2 = i by omega] at e2
  have ga : a.getD i 0 = a[i] := by simp [List.getD, List.getElem?_eq_getElem h1]
  have gb : b.getD i 0 = b[i] := by simp [List.getD, List.getElem?_eq_getElem h2]
  rw [ga, gb] at e1 e2
  exact UInt8.toNat_inj.1 (by omega)
def Srt (l : List Pr) : Prop := l.Pairwise fun a b => lt a.n b.n = true
def sub (l : List Pr) (d k : Nat) : List Pr := l.filter fun x => nib x.n d == k
def len4 (n : Nat) : T := [UInt8.ofNat (n / 16777216), UInt8.ofNat (n / 65536), UInt8.ofNat (n / 256), UInt8.ofNat n]
def sized (s : T) : T := len4 s.length ++ s
def zeros : T := List.replicate 32 0
/-- where a way ends: one pair, or all of one path -/
def leafD (l : List Pr) : T := match l with
  | [x] => digest ([0] ++ sized x.n ++ x.v)
  | l => digest ([2] ++ l.flatMap fun x => sized x.n ++ sized x.v)
/-- the digest of pairs at a depth d; f: how many numbers are left -/
def digP : Nat → Nat → List Pr → T
  | 0, _, l => if l = [] then zeros else leafD l
  | f + 1, d, l => if l = [] then zeros else if l.length = 1 then leafD l else digest ([1] ++ (List.range 16).flatMap fun k => digP f (d + 1) (sub l d k))
theorem digP_nil (f d : Nat) : digP f d [] = zeros := by cases f <;> rfl
theorem digP_one (f d : Nat) (x : Pr) : digP f d [x] = leafD [x] := by
  cases f with
  | zero => rfl
  | succ f =>
    rw [digP, if_neg (by simp)]
    exact if_pos rfl
theorem digP_fork (f d : Nat) {l : List Pr} (h : 2 ≤ l.length) : digP (f + 1) d l = digest ([1] ++ (List.range 16).flatMap fun k => digP f (d + 1) (sub l d k)) := by
  rw [digP, if_neg (fun e => by rw [e] at h; simp at h), if_neg (by omega)]
theorem digP_end (d : Nat) {l : List Pr} (h : l ≠ []) : digP 0 d l = leafD l := by rw [digP, if_neg h]
theorem leafD_len (l : List Pr) : (leafD l).length = 32 := by
  unfold leafD
  split <;> exact digest_len _
theorem digP_len : ∀ (f d : Nat) (l : List Pr), (digP f d l).length = 32
  | 0, d, l => by
    unfold digP
    split
    · rfl
    · exact leafD_len l
  | f + 1, d, l => by
    unfold digP
    split
    · rfl
    · split
      · exact leafD_len l
      · exact digest_len _
/-- all of them lie under the first d numbers of w -/
def Und (l : List Pr) (w : T) (d : Nat) : Prop := ∀ x ∈ l, ∀ j, j < d → nib x.n j = nibW w j
theorem Und.zero (l : List Pr) (w : T) : Und l w 0 := fun _ _ _ h => absurd h (by omega)
theorem sub_mem {l : List Pr} {d k : Nat} {x : Pr} : x ∈ sub l d k ↔ x ∈ l ∧ nib x.n d = k := by
  unfold sub
  rw [List.mem_filter, beq_iff_eq]
theorem Und.sub {l : List Pr} {w : T} {d : Nat} (h : Und l w d) : Und (sub l d (nibW w d)) w (d + 1) := fun x hx j hj => by
  rw [sub_mem] at hx
  by_cases e : j = d
  · rw [e]; exact hx.2
  · exact h x hx.1 j (by omega)
theorem Und.full {l : List Pr} {w : T} (h : Und l w 64) (hw : w.length = 32) : ∀ x ∈ l, digest x.n = w := fun x hx => nib_all (digest_len _) hw (h x hx)
theorem sub_srt {l : List Pr} (h : Srt l) (d k : Nat) : Srt (sub l d k) := List.Pairwise.filter _ h
/-- a pair more, in its key's place -/
def ins (l : List Pr) (p : Pr) : List Pr := l.filter (fun x => lt x.n p.n) ++ [p] ++ l.filter (fun x => lt p.n x.n)
def del (l : List Pr) (k : T) : List Pr := l.filter fun x => !(x.n == k)
def getP (l : List Pr) (k : T) : Option Pr := l.find? fun x => x.n == k
theorem ins_mem {l : List Pr} {p x : Pr} : x ∈ ins l p ↔ (x ∈ l ∧ lt x.n p.n = true) ∨ x = p ∨ (x ∈ l ∧ lt p.n x.n = true) := by
  unfold ins
  rw [List.mem_append, List.mem_append, List.mem_filter, List.mem_filter, List.mem_singleton, or_assoc]
theorem ins_srt {l : List Pr} (h : Srt l) (p : Pr) : Srt (ins l p) := by
  unfold ins Srt
  rw [List.pairwise_append]
  refine ⟨?_, List.Pairwise.filter _ h, ?_⟩
  · rw [List.pairwise_append]
    refine ⟨List.Pairwise.filter _ h, List.pairwise_singleton _ _, ?_⟩
    intro a ha b hb
    rw [List.mem_filter] at ha
    rw [List.mem_singleton.1 hb]
    exact ha.2
  · intro a ha b hb
    rw [List.mem_filter] at hb
    rcases List.mem_append.1 ha with ha | ha
    · rw [List.mem_filter] at ha
      exact lt_trans ha.2 hb.2
    · rw [List.mem_singleton.1 ha]; exact hb.2
theorem del_srt {l : List Pr} (h : Srt l) (k : T) : Srt (del l k) := List.Pairwise.filter _ h
theorem ins_und {l : List Pr} {d : Nat} {p : Pr} (h : Und l (digest p.n) d) : Und (ins l p) (digest p.n) d := fun x hx j hj => by
  rcases ins_mem.1 hx with hx | rfl | hx
  · exact h x hx.1 j hj
  · rfl
  · exact h x hx.1 j hj
theorem del_und {l : List Pr} {w : T} {d : Nat} (h : Und l w d) (k : T) : Und (del l k) w d := fun x hx => h x (List.mem_filter.1 hx).1
theorem fl_pos {n : T} {x : Pr} {l : List Pr} (h : lt x.n n = true) : (x :: l).filter (fun y => lt y.n n) = x :: l.filter (fun y => lt y.n n) := List.filter_cons_of_pos h
theorem fl_neg {n : T} {x : Pr} {l : List Pr} (h : lt x.n n = false) : (x :: l).filter (fun y => lt y.n n) = l.filter (fun y => lt y.n n) := List.filter_cons_of_neg (by rw [h]; simp)
theorem fg_pos {n : T} {x : Pr} {l : List Pr} (h : lt n x.n = true) : (x :: l).filter (fun y => lt n y.n) = x :: l.filter (fun y => lt n y.n) := List.filter_cons_of_pos h
theorem fg_neg {n : T} {x : Pr} {l : List Pr} (h : lt n x.n = false) : (x :: l).filter (fun y => lt n y.n) = l.filter (fun y => lt n y.n) := List.filter_cons_of_neg (by rw [h]; simp)
theorem fe_pos {n : T} {x : Pr} {l : List Pr} (h : x.n ≠ n) : (x :: l).filter (fun y => !(y.n == n)) = x :: l.filter (fun y => !(y.n == n)) := List.filter_cons_of_pos (by simp [h])
theorem fe_neg {n : T} {x : Pr} {l : List Pr} (h : x.n = n) : (x :: l).filter (fun y => !(y.n == n)) = l.filter (fun y => !(y.n == n)) := List.filter_cons_of_neg (by simp [h])
theorem lt_ne {a b : T} (h : lt a b = true) : a ≠ b := fun e => by rw [e, lt_irrefl] at h; cases h
theorem filt_ne {l : List Pr} (h : Srt l) (n : T) : l.filter (fun x => !(x.n == n)) = l.filter (fun x => lt x.n n) ++ l.filter (fun x => lt n x.n) := by
  induction l with
  | nil => rfl
  | cons x l ih =>
    have hh := (List.pairwise_cons.1 h).1
    have ih := ih (List.pairwise_cons.1 h).2
    rcases Bool.eq_false_or_eq_true (lt x.n n) with h1 | h1
    · have h2 := lt_asymm h1
      rw [fe_pos (lt_ne h1), fl_pos h1, fg_neg h2, ih, List.cons_append]
    · by_cases hx : x.n = n
      · have hl : l.filter (fun y => lt y.n n) = [] := List.filter_eq_nil_iff.2 fun y hy => by
          have := lt_asymm (hh y hy)
          rw [← hx, this]; simp
        rw [fe_neg hx, fl_neg h1, fg_neg (by rw [hx, lt_irrefl]), ih, hl]
      · have h2 : lt n x.n = true := by
          rcases Bool.eq_false_or_eq_true (lt n x.n) with h2 | h2
          · exact h2
          · exact absurd (lt_total h1 h2) hx
        have hall : ∀ y ∈ l, lt n y.n = true := fun y hy => lt_trans h2 (hh y hy)
        have hl : l.filter (fun y => lt y.n n) = [] := List.filter_eq_nil_iff.2 fun y hy => by rw [lt_asymm (hall y hy)]; simp
        rw [fe_pos hx, fl_neg h1, fg_pos h2, ih, hl]
        rfl
/-- what is under a number, once a pair is put -/
theorem sub_ins {l : List Pr} (h : Srt l) (p : Pr) (d k : Nat) : sub (ins l p) d k = if k = nib p.n d then ins (sub l d k) p else sub l d k := by
  unfold sub ins
  rw [List.filter_append, List.filter_append, List.filter_filter, List.filter_filter]
  by_cases hk : k = nib p.n d
  · rw [if_pos hk, List.filter_filter, List.filter_filter]
    have e : [p].filter (fun x => nib x.n d == k) = [p] := by simp [hk]
    rw [e]
    congr 1
    · congr 1
      exact List.filter_congr fun x _ => Bool.and_comm _ _
    · exact List.filter_congr fun x _ => Bool.and_comm _ _
  · rw [if_neg hk]
    have e : [p].filter (fun x => nib x.n d == k) = [] := by simp [Ne.symm hk]
    rw [e, List.append_nil]
    have h1 : (l.filter fun x => !(x.n == p.n)).filter (fun x => nib x.n d == k) = l.filter fun x => nib x.n d == k := by
      rw [List.filter_filter]
      refine List.filter_congr fun x _ => ?_
      by_cases hx : x.n = p.n
      · have : (nib x.n d == k) = false := by rw [beq_eq_false_iff_ne, hx]; exact fun e => hk e.symm
        rw [this]; simp
      · simp [hx]
    rw [filt_ne h, List.filter_append, List.filter_filter, List.filter_filter] at h1
    exact h1
theorem sub_del (l : List Pr) (key : T) (d k : Nat) : sub (del l key) d k = if k = nib key d then del (sub l d k) key else sub l d k := by
  unfold sub del
  rw [List.filter_filter]
  by_cases hk : k = nib key d
  · rw [if_pos hk, List.filter_filter]
    exact List.filter_congr fun x _ => Bool.and_comm _ _
  · rw [if_neg hk]
    refine List.filter_congr fun x _ => ?_
    by_cases hx : x.n = key
    · have : (nib x.n d == k) = false := by rw [beq_eq_false_iff_ne, hx]; exact fun e => hk e.symm
      rw [this]; simp
    · simp [hx]
theorem del_none {l : List Pr} {k : T} (h : ∀ x ∈ l, x.n ≠ k) : del l k = l := List.filter_eq_self.2 fun x hx => by simp [h x hx]
/-- as many as before, or one more -/
theorem ins_len {l : List Pr} (h : Srt l) (p : Pr) : (ins l p).length = (del l p.n).length + 1 := by
  unfold ins del
  rw [filt_ne h, List.length_append, List.length_append, List.length_append, List.length_singleton]
  omega
/-- as many as lie under the sixteen numbers together -/
theorem sub_sum (l : List Pr) (d : Nat) : ((List.range 16).map fun k => (sub l d k).length).sum = l.length := by
  induction l with
  | nil => rfl
  | cons x l ih =>
    have h : ∀ n, (List.range n).map (fun k => (sub (x :: l) d k).length) = (List.range n).map fun k => (if nib x.n d = k then 1 else 0) + (sub l d k).length := fun n => by
      refine List.map_congr_left fun k _ => ?_
      unfold sub
      rw [List.filter_cons]
      by_cases hk : nib x.n d = k
      · rw [if_pos (by simp [hk]), if_pos hk, List.length_cons]; omega
      · rw [if_neg (by simp [hk]), if_neg hk]; omega
    have h2 : ∀ n, ((List.range n).map fun k => (if nib x.n d = k then 1 else 0) + (sub l d k).length).sum = (if nib x.n d < n then 1 else 0) + ((List.range n).map fun k => (sub l d k).length).sum := fun n => by
      induction n with
      | zero => rfl
      | succ n ih2 =>
        rw [List.range_succ, List.map_append, List.sum_append, ih2, List.map_append, List.sum_append]
        simp only [List.map_cons, List.map_nil, List.sum_cons, List.sum_nil]
        have e : (if nib x.n d < n + 1 then 1 else 0 : Nat) = (if nib x.n d < n then 1 else 0) + (if nib x.n d = n then 1 else 0) := by
          rcases Nat.lt_trichotomy (nib x.n d) n with h1 | h1 | h1
          · rw [show (if nib x.n d < n + 1 then 1 else 0 : Nat) = 1 from if_pos (by omega), show (if nib x.n d < n then 1 else 0 : Nat) = 1 from if_pos h1, show (if nib x.n d = n then 1 else 0 : Nat) = 0 from if_neg (by omega)]
          · rw [show (if nib x.n d < n + 1 then 1 else 0 : Nat) = 1 from if_pos (by omega), show (if nib x.n d < n then 1 else 0 : Nat) = 0 from if_neg (by omega), show (if nib x.n d = n then 1 else 0 : Nat) = 1 from if_pos h1]
          · rw [show (if nib x.n d < n + 1 then 1 else 0 : Nat) = 0 from if_neg (by omega), show (if nib x.n d < n then 1 else 0 : Nat) = 0 from if_neg (by omega), show (if nib x.n d = n then 1 else 0 : Nat) = 0 from if_neg (by omega)]
        rw [e]
        omega
    rw [h, h2, ih, if_pos (nibW_lt _ _), List.length_cons]
    omega
theorem getP_some {l : List Pr} {k : T} {x : Pr} (h : getP l k = some x) : x ∈ l ∧ x.n = k := ⟨List.mem_of_find?_eq_some h, by have := List.find?_some h; simpa using this⟩
theorem getP_none {l : List Pr} {k : T} : getP l k = none ↔ ∀ x ∈ l, x.n ≠ k := by
  unfold getP
  rw [List.find?_eq_none]
  exact ⟨fun h x hx e => h x hx (by simp [e]), fun h x hx e => h x hx (by simpa using e)⟩
theorem srt_one {l : List Pr} (h : Srt l) {x y : Pr} (hx : x ∈ l) (hy : y ∈ l) (e : x.n = y.n) : x = y := by
  induction l with
  | nil => cases hx
  | cons a l ih =>
    have hh := (List.pairwise_cons.1 h).1
    rcases List.mem_cons.1 hx with ex | hx2
    · rcases List.mem_cons.1 hy with ey | hy2
      · rw [ex, ey]
      · rw [ex] at e
        exact absurd e (lt_ne (hh y hy2))
    · rcases List.mem_cons.1 hy with ey | hy2
      · rw [ey] at e
        exact absurd e.symm (lt_ne (hh x hx2))
      · exact ih (List.pairwise_cons.1 h).2 hx2 hy2
/-- what is found among those of one number is what is found among all -/
theorem getP_sub (l : List Pr) (key : T) (d : Nat) : getP (sub l d (nib key d)) key = getP l key := by
  unfold getP sub
  rw [List.find?_filter]
  congr 1
  funext x
  by_cases hx : x.n = key
  · simp [hx]
  · simp [hx]
end Go.Proofs.YtpijnkfbgieabaaDoor.tri
