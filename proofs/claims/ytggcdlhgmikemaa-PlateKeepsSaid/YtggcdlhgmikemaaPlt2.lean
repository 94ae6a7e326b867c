/- The reference's way to lay a file, file by file (layF), comes to layP; what a crash keeps, found again by name. No condition. -/
import Derived.Test.YtggcdlhgmikemaaPlt1
namespace Go.Proofs.Ytggcdlhgmikemaa.plt
open Go.Proofs.Ytggcdlhgmikemaa.scp (lt lt_irrefl lt_trans lt_total lt_asymm)

def leB (a b : T) : Bool := lt a b || (a == b)
def layS (f : F) (acc : List F × Bool) (x : F) : List F × Bool :=
  (acc.1 ++ (if acc.2 = false ∧ leB f.name x.name = true then [f] else []) ++ (if x.name = f.name then [] else [x]), acc.2 || leB f.name x.name)
def layE (f : F) (acc : List F × Bool) : List F := acc.1 ++ if acc.2 then [] else [f]
def layK (fs : List F) (f : F) (k : Nat) : List F × Bool := (fs.take k).foldl (layS f) ([], decide (f.b = []))
theorem layK_succ (fs : List F) (f : F) {k : Nat} (h : k < fs.length) : layK fs f (k + 1) = layS f (layK fs f k) fs[k] := by
  unfold layK
  rw [List.take_succ_eq_append_getElem h, List.foldl_append]
  rfl
theorem fl_pos {n : T} {x : F} {l : List F} (h : lt x.name n = true) : (x :: l).filter (fun y => lt y.name n) = x :: l.filter (fun y => lt y.name n) := List.filter_cons_of_pos h
theorem fl_neg {n : T} {x : F} {l : List F} (h : ¬ lt x.name n = true) : (x :: l).filter (fun y => lt y.name n) = l.filter (fun y => lt y.name n) := List.filter_cons_of_neg h
theorem fg_pos {n : T} {x : F} {l : List F} (h : lt n x.name = true) : (x :: l).filter (fun y => lt n y.name) = x :: l.filter (fun y => lt n y.name) := List.filter_cons_of_pos h
theorem fg_neg {n : T} {x : F} {l : List F} (h : lt n x.name = false) : (x :: l).filter (fun y => lt n y.name) = l.filter (fun y => lt n y.name) := List.filter_cons_of_neg (by rw [h]; simp)
theorem filt_ne {l : List F} (h : Srt l) (n : T) : l.filter (fun x => !(x.name == n)) = l.filter (fun x => lt x.name n) ++ l.filter (fun x => lt n x.name) := by
  induction l with
  | nil => rfl
  | cons x l ih =>
    have ih := ih (srt_tail h)
    by_cases h1 : lt x.name n = true
    · have e : (x.name == n) = false := by rw [beq_eq_false_iff_ne]; exact lt_ne h1
      rw [List.filter_cons_of_pos (by rw [e]; rfl), fl_pos h1, fg_neg (lt_asymm h1), ih, List.cons_append]
    · have hl : ∀ y ∈ l, ¬ lt y.name n = true := fun y hy h2 => h1 (lt_trans (srt_head h y hy) h2)
      have e0 : l.filter (fun y => lt y.name n) = [] := List.filter_eq_nil_iff.2 hl
      rw [fl_neg h1, e0, List.nil_append]
      rw [e0, List.nil_append] at ih
      by_cases hx : x.name = n
      · rw [List.filter_cons_of_neg (by rw [hx]; simp), fg_neg (by rw [hx, lt_irrefl]), ih]
      · have h2 : lt n x.name = true := by
          by_cases h2 : lt n x.name = true
          · exact h2
          · exact absurd (lt_total (by simpa using h1) (by simpa using h2)) hx
        have e : (x.name == n) = false := by rw [beq_eq_false_iff_ne]; exact hx
        rw [List.filter_cons_of_pos (by rw [e]; rfl), fg_pos h2, ih]
theorem lay_fold (f : F) : ∀ (l : List F) (a : List F) (put : Bool), Srt l → layE f (l.foldl (layS f) (a, put)) = a ++ (if put then l.filter (fun x => !(x.name == f.name)) else l.filter (fun x => lt x.name f.name) ++ [f] ++ l.filter (fun x => lt f.name x.name))
  | [], a, put, _ => by cases put <;> simp [layE]
  | x :: l, a, put, h => by
    rw [List.foldl_cons]
    cases put with
    | true =>
      have e : layS f (a, true) x = (a ++ (if x.name = f.name then [] else [x]), true) := by simp [layS]
      rw [e, lay_fold f l _ true (srt_tail h), if_pos rfl, if_pos rfl]
      by_cases hx : x.name = f.name
      · rw [if_pos hx, List.filter_cons_of_neg (by rw [hx]; simp), List.append_nil]
      · have e2 : (x.name == f.name) = false := by rw [beq_eq_false_iff_ne]; exact hx
        rw [if_neg hx, List.filter_cons_of_pos (by rw [e2]; rfl), List.append_assoc]; rfl
    | false =>
      rw [if_neg (by simp)]
      by_cases h1 : lt x.name f.name = true
      · have hle : leB f.name x.name = false := by
          unfold leB
          rw [lt_asymm h1, Bool.false_or, beq_eq_false_iff_ne]
          exact fun e => lt_ne h1 e.symm
        have e : layS f (a, false) x = (a ++ [x], false) := by simp [layS, hle, lt_ne h1]
        rw [e, lay_fold f l _ false (srt_tail h), if_neg (by simp), fl_pos h1, fg_neg (lt_asymm h1)]
        simp
      · have hl : ∀ y ∈ l, ¬ lt y.name f.name = true := fun y hy h2 => h1 (lt_trans (srt_head h y hy) h2)
        have e0 : l.filter (fun y => lt y.name f.name) = [] := List.filter_eq_nil_iff.2 hl
        have hn := filt_ne (srt_tail h) f.name
        rw [e0, List.nil_append] at hn
        by_cases hx : x.name = f.name
        · have hle : leB f.name x.name = true := by unfold leB; rw [hx]; simp
          have e : layS f (a, false) x = (a ++ [f], true) := by unfold layS; rw [hle, if_pos hx]; simp
          rw [e, lay_fold f l _ true (srt_tail h), if_pos rfl, fl_neg h1, e0, fg_neg (by rw [hx, lt_irrefl]), hn]
          simp
        · have h2 : lt f.name x.name = true := by
            by_cases h2 : lt f.name x.name = true
            · exact h2
            · exact absurd (lt_total (by simpa using h1) (by simpa using h2)) hx
          have hle : leB f.name x.name = true := by unfold leB; rw [h2]; rfl
          have e : layS f (a, false) x = (a ++ [f] ++ [x], true) := by unfold layS; rw [hle, if_neg hx]; simp
          rw [e, lay_fold f l _ true (srt_tail h), if_pos rfl, fl_neg h1, e0, fg_pos h2, hn]
          simp
theorem lay_all {fs : List F} (h : Srt fs) (f : F) : layE f (layK fs f fs.length) = layP fs f := by
  unfold layK layP
  rw [List.take_length, lay_fold f fs [] _ h, List.nil_append]
  by_cases hb : f.b = []
  · rw [decide_eq_true hb, if_pos rfl, if_pos hb, filt_ne h, List.append_nil]
  · rw [decide_eq_false hb, if_neg (by simp), if_neg hb]
theorem kept_get : ∀ {fs : List F} (ks : List Int) (_ : Srt fs) (i : Nat) (hi : i < fs.length), getF (crashF fs ks) (fs[i]).name = ⟨(fs[i]).name, (fs[i]).b.take (kept fs[i] ((ks[i]?).getD 0)), kept fs[i] ((ks[i]?).getD 0)⟩
  | f :: r, ks, h, i, hi => by
    rw [crashF]
    rcases i with _ | i
    · have e : (ks[0]?).getD 0 = ks.headD 0 := by cases ks <;> rfl
      have hx : (f :: r)[0] = f := rfl
      rw [hx, e]
      by_cases hk : kept f (ks.headD 0) = 0
      · rw [if_pos hk, List.nil_append, hk, List.take_zero]
        refine getF_none fun g hg => ?_
        obtain ⟨x, hx, _, hn, _⟩ := crashF_mem hg
        rw [hn]
        exact fun e => lt_ne (srt_head h x hx) e.symm
      · rw [if_neg hk]
        unfold getF
        rw [List.singleton_append, List.find?_cons]
        simp
    · have hi2 : i < r.length := by simpa using hi
      have hx : (f :: r)[i + 1] = r[i] := rfl
      have e : (ks[i + 1]?).getD 0 = (ks.tail[i]?).getD 0 := by cases ks <;> simp
      rw [hx, e, ← kept_get ks.tail (srt_tail h) i hi2]
      have hne := lt_ne (srt_head h r[i] (List.getElem_mem hi2))
      split
      · rfl
      · unfold getF
        rw [List.singleton_append, List.find?_cons]
        have e2 : (f.name == (r[i]).name) = false := by rw [beq_eq_false_iff_ne]; exact hne
        dsimp only
        rw [e2]
theorem crashF_len : ∀ (fs : List F) (ks : List Int), (crashF fs ks).length ≤ fs.length
  | [], _ => Nat.le_refl _
  | f :: r, ks => by
    rw [crashF, List.length_append, List.length_cons]
    have := crashF_len r ks.tail
    split
    · simp; omega
    · simp; omega
theorem get_at {fs : List F} (h : Srt fs) (i : Nat) (hi : i < fs.length) : getF fs (fs[i]).name = fs[i] := getF_mem h (List.getElem_mem hi)
end Go.Proofs.Ytggcdlhgmikemaa.plt
