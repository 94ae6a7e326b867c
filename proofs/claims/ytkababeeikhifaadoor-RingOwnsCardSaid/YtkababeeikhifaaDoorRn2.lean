/- A ring in plain lists: points by their regions' numbers; one list alone is sorted and has all points; what stands behind a place, read at (first + k) modulo the length. No condition. -/
import Derived.Test.YtkababeeikhifaaDoorRn1
namespace Go.Proofs.YtkababeeikhifaaDoor.rng
open Go.Proofs.YtkababeeikhifaaDoor.scp (lt lt_irrefl lt_trans lt_total lt_asymm)
def nm (names : List T) (p : Pn) : Np := ⟨p.a, names.getD p.r []⟩
def un (names : List T) (x : Np) : Pn := ⟨x.a, names.idxOf x.n⟩
/-- all points by numbers, as they are laid one by one -/
def ownI (n : Nat) (names : List T) (i : Nat) : List Pn := (List.range n).map fun k => ⟨plc (lbl (names.getD i []) k), i⟩
def rawI (n : Nat) (names : List T) (m : Nat) : List Pn := (List.range m).flatMap (ownI n names)
def rpts (n : Nat) (names : List T) : List Pn := (pts n names).map (un names)
theorem rawI_succ (n : Nat) (names : List T) (m : Nat) : rawI n names (m + 1) = rawI n names m ++ ownI n names m := by
  unfold rawI
  rw [List.range_succ, List.flatMap_append, List.flatMap_singleton]
theorem ownI_len (n : Nat) (names : List T) (i : Nat) : (ownI n names i).length = n := by unfold ownI; rw [List.length_map, List.length_range]
theorem rawI_len (n : Nat) (names : List T) : ∀ m, (rawI n names m).length = m * n
  | 0 => by simp [rawI]
  | m + 1 => by rw [rawI_succ, List.length_append, rawI_len n names m, ownI_len, Nat.succ_mul]
theorem rawI_r {n : Nat} {names : List T} {m : Nat} {p : Pn} (h : p ∈ rawI n names m) : p.r < m := by
  unfold rawI at h
  obtain ⟨i, hi, hp⟩ := List.mem_flatMap.1 h
  unfold ownI at hp
  obtain ⟨k, _, rfl⟩ := List.mem_map.1 hp
  exact List.mem_range.1 hi
theorem take_raw (n : Nat) (names : List T) : ∀ m, m ≤ names.length → (rawI n names m).map (nm names) = raw n (names.take m)
  | 0, _ => by simp [rawI, raw]
  | m + 1, h => by
    rw [rawI_succ, List.map_append, take_raw n names m (by omega), List.take_succ_eq_append_getElem (by omega)]
    unfold raw
    rw [List.flatMap_append, List.flatMap_singleton]
    congr 1
    unfold ownI ownP
    rw [List.map_map]
    apply List.map_congr_left
    intro k _
    have e : names.getD m [] = names[m] := by simp [List.getD, List.getElem?_eq_getElem (show m < names.length by omega)]
    simp only [nm, Function.comp, e]
theorem raw_nm (n : Nat) (names : List T) : (rawI n names names.length).map (nm names) = raw n names := by rw [take_raw n names _ (Nat.le_refl _), List.take_length]
theorem un_nm {names : List T} (hd : names.Nodup) {p : Pn} (h : p.r < names.length) : un names (nm names p) = p := by
  unfold un nm
  have e : names.getD p.r [] = names[p.r] := by simp [List.getD, List.getElem?_eq_getElem h]
  have e2 : names.idxOf names[p.r] = p.r := hd.idxOf_getElem p.r h
  cases p
  simp only [e] at *
  rw [e2]
/-- one list alone is sorted, and a permutation of all points -/
theorem rpts_of {n : Nat} {names : List T} {l : List Pn} (hd : names.Nodup) (hp : l.Perm (rawI n names names.length)) (hs : (l.map (nm names)).Pairwise fun x y => leN x y = true) : l = rpts n names := by
  have h1 : l.map (nm names) = pts n names := pts_of (by rw [← raw_nm]; exact hp.map _) hs
  unfold rpts
  rw [← h1, List.map_map]
  have : l.map (un names ∘ nm names) = l.map id := List.map_congr_left fun p hpm => un_nm hd (rawI_r (hp.mem_iff.1 hpm))
  rw [this, List.map_id]
theorem rpts_len (n : Nat) (names : List T) : (rpts n names).length = names.length * n := by unfold rpts; rw [List.length_map, pts_len]
theorem rpts_r {n : Nat} {names : List T} {p : Pn} (h : p ∈ rpts n names) : p.r < names.length := by
  unfold rpts at h
  obtain ⟨x, hx, rfl⟩ := List.mem_map.1 h
  exact List.idxOf_lt_length_of_mem (pts_mem hx)
def aLe (l : List Pn) : Prop := l.Pairwise fun x y => x.a ≤ y.a
theorem rpts_le (n : Nat) (names : List T) : aLe (rpts n names) := by
  unfold rpts aLe
  rw [List.pairwise_map]
  refine (pts_srt n names).imp fun {x y} h => ?_
  rw [leN_iff] at h
  show x.a ≤ y.a
  rcases h with h | h <;> omega
/-- regions of the points, as they come behind a place -/
def behR (l : List Pn) (p : Nat) : List Nat := ((l.filter fun x => decide (p ≤ x.a)) ++ l.filter fun x => !decide (p ≤ x.a)).map (·.r)
theorem behR_rpts (n : Nat) (names : List T) (p : Nat) : behR (rpts n names) p = (beh (pts n names) p).map (names.idxOf ·) := by
  unfold behR beh rpts
  rw [List.filter_map, List.filter_map, ← List.map_append, List.map_map, List.map_map]
  rfl
theorem split_le {l : List Pn} (h : aLe l) (p : Nat) : (l.filter fun x => decide (p ≤ x.a)) = l.drop (l.countP fun x => decide (x.a < p)) ∧ (l.filter fun x => !decide (p ≤ x.a)) = l.take (l.countP fun x => decide (x.a < p)) := by
  induction l with
  | nil => exact ⟨rfl, rfl⟩
  | cons x l ih =>
    have hx := (List.pairwise_cons.1 h).1
    have ih := ih (List.pairwise_cons.1 h).2
    by_cases hp : x.a < p
    · rw [List.filter_cons_of_neg (by simp; omega), List.filter_cons_of_pos (by simp; omega), List.countP_cons_of_pos (by simp; omega), ih.1, ih.2]
      exact ⟨rfl, rfl⟩
    · have h0 : l.countP (fun x => decide (x.a < p)) = 0 := List.countP_eq_zero.2 fun y hy => by
        have := hx y hy
        simp; omega
      rw [List.filter_cons_of_pos (by simp; omega), List.filter_cons_of_neg (by simp; omega), List.countP_cons_of_neg (by simp; omega), ih.1, ih.2, h0]
      exact ⟨rfl, rfl⟩
theorem behR_len (l : List Pn) (p : Nat) (h : aLe l) : (behR l p).length = l.length := by
  unfold behR
  rw [(split_le h p).1, (split_le h p).2, List.length_map, List.length_append, List.length_drop, List.length_take]
  have := List.countP_le_length (p := fun x : Pn => decide (x.a < p)) (l := l)
  omega
theorem behR_at {l : List Pn} (h : aLe l) (p k : Nat) (hk : k < l.length) : ∃ (h1 : (l.countP (fun x => decide (x.a < p)) + k) % l.length < l.length) (h2 : k < (behR l p).length), (behR l p)[k] = l[(l.countP (fun x => decide (x.a < p)) + k) % l.length].r := by
  have hc := List.countP_le_length (p := fun x : Pn => decide (x.a < p)) (l := l)
  refine ⟨Nat.mod_lt _ (by omega), by rw [behR_len l p h]; exact hk, ?_⟩
  have e : behR l p = (l.drop (l.countP fun x => decide (x.a < p)) ++ l.take (l.countP fun x => decide (x.a < p))).map (·.r) := by
    unfold behR
    rw [(split_le h p).1, (split_le h p).2]
  generalize l.countP (fun x => decide (x.a < p)) = f at *
  simp only [e, List.getElem_map]
  congr 1
  by_cases hlt : f + k < l.length
  · rw [List.getElem_append_left (by rw [List.length_drop]; omega), List.getElem_drop]
    congr 1
    exact (Nat.mod_eq_of_lt hlt).symm
  · rw [List.getElem_append_right (by rw [List.length_drop]; omega), List.getElem_take]
    congr 1
    rw [List.length_drop, Nat.mod_eq_sub_mod (by omega), Nat.mod_eq_of_lt (by omega)]
    omega
/-- a point more, put where it stands -/
theorem put_srt {l : List Np} {x : Np} {j : Nat} (h : l.Pairwise fun x y => leN x y = true) (h1 : ∀ y ∈ l.drop j, leN y x = false) (h2 : ∀ y ∈ l.take j, leN y x = true) : (l.take j ++ x :: l.drop j).Pairwise fun x y => leN x y = true := by
  rw [← List.take_append_drop j l, List.pairwise_append] at h
  rw [List.pairwise_append, List.pairwise_cons]
  refine ⟨h.1, ⟨fun y hy => ?_, h.2.1⟩, fun a ha b hb => ?_⟩
  · have := leN_total y x
    rw [h1 y hy, Bool.false_or] at this
    exact this
  · rcases List.mem_cons.1 hb with rfl | hb
    · exact h2 a ha
    · exact h.2.2 a ha b hb
theorem put_perm {α : Type} (l : List α) (x : α) (j : Nat) : (l.take j ++ x :: l.drop j).Perm (l ++ [x]) := by
  refine (List.perm_middle).trans ?_
  rw [List.take_append_drop]
  exact (List.perm_append_singleton x l).symm
/-- all ahead of one that stands ahead of x stand ahead of x -/
theorem ahead {l : List Np} {x : Np} {j : Nat} (h : l.Pairwise fun x y => leN x y = true) (hj : j < l.length) (h1 : leN l[j] x = true) : ∀ y ∈ l.take (j + 1), leN y x = true := by
  intro y hy
  obtain ⟨i, hi, rfl⟩ := List.getElem_of_mem hy
  rw [List.length_take] at hi
  rw [List.getElem_take]
  by_cases e : i = j
  · subst e; exact h1
  · exact leN_trans _ _ _ (List.pairwise_iff_getElem.1 h i j (by omega) hj (by omega)) h1
def ordR (n : Nat) (names : List T) (p : Nat) : List Nat := dd (behR (rpts n names) p)
theorem idx_inj {names : List T} {x y : T} (hx : x ∈ names) (hy : y ∈ names) (h : names.idxOf x = names.idxOf y) : x = y := by
  have h1 := List.getElem_idxOf (List.idxOf_lt_length_of_mem hx)
  have h2 := List.getElem_idxOf (List.idxOf_lt_length_of_mem hy)
  simp only [h] at h1
  rw [← h1, h2]
theorem ordR_eq {n : Nat} (names : List T) (p : Nat) : ordR n names p = (ordN n names p).map (names.idxOf ·) := by
  unfold ordR ordN
  rw [behR_rpts]
  refine dd_map _ _ fun x hx y hy h => ?_
  have hx : x ∈ names := by obtain ⟨z, hz, rfl⟩ := beh_mem.1 hx; exact pts_mem hz
  have hy : y ∈ names := by obtain ⟨z, hz, rfl⟩ := beh_mem.1 hy; exact pts_mem hz
  exact idx_inj hx hy h
def ownR (n : Nat) (names : List T) (p : Nat) : Nat := (behR (rpts n names) p).headD 0
theorem ownR_eq {n : Nat} (hn : 1 ≤ n) {names : List T} (h0 : names ≠ []) (p : Nat) : ownR n names p = names.idxOf (ownN n names p) := by
  unfold ownR ownN
  rw [behR_rpts]
  obtain ⟨a, l, e⟩ := List.exists_cons_of_ne_nil (beh_ne hn h0 p)
  rw [e]; rfl
theorem ownR_lt {n : Nat} (hn : 1 ≤ n) {names : List T} (h0 : names ≠ []) (p : Nat) : ownR n names p < names.length := by
  rw [ownR_eq hn h0]; exact List.idxOf_lt_length_of_mem (ownN_mem hn h0 p)
theorem ownR_name {n : Nat} (hn : 1 ≤ n) {names : List T} (h0 : names ≠ []) (p : Nat) : names.getD (ownR n names p) [] = ownN n names p := by
  have h := List.idxOf_lt_length_of_mem (ownN_mem hn h0 p)
  rw [ownR_eq hn h0, List.getD, List.getElem?_eq_getElem h, List.getElem_idxOf]; rfl
theorem ordR_len {n : Nat} (hn : 1 ≤ n) {names : List T} (hd : names.Nodup) (p : Nat) : (ordR n names p).length = names.length := by rw [ordR_eq, List.length_map, ordN_len hn hd]
theorem ordR_name {n : Nat} (hn : 1 ≤ n) {names : List T} (p i : Nat) (hi : i < (ordR n names p).length) : (ordR n names p)[i] < names.length ∧ names.getD (ordR n names p)[i] [] = (ordN n names p).getD i [] := by
  have e := ordR_eq (n := n) names p
  have hi2 : i < (ordN n names p).length := by rw [e, List.length_map] at hi; exact hi
  have hm : (ordN n names p)[i] ∈ names := (ordN_mem hn p _).1 (List.getElem_mem _)
  have h := List.idxOf_lt_length_of_mem hm
  have e2 : (ordR n names p)[i] = names.idxOf (ordN n names p)[i] := by simp only [e, List.getElem_map]
  rw [e2]
  refine ⟨h, ?_⟩
  rw [List.getD, List.getElem?_eq_getElem h, List.getElem_idxOf, List.getD, List.getElem?_eq_getElem hi2]
theorem ordR_head {n : Nat} (names : List T) (p : Nat) : (ordR n names p).headD 0 = ownR n names p := by
  unfold ordR ownR
  rw [List.headD_eq_head?_getD, List.headD_eq_head?_getD, dd_head]
end Go.Proofs.YtkababeeikhifaaDoor.rng
