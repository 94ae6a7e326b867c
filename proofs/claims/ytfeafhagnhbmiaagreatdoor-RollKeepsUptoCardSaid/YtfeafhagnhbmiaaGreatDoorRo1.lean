/- roll in plain lists: which clients may be, who is found, who shows itself, what is given. No condition. -/
import Derived.Test.YtfeafhagnhbmiaaGreatDoorGscp
import Derived.Test.YtfeafhagnhbmiaaGreatDoorGfld
namespace Go.Proofs.YtfeafhagnhbmiaaGreatDoor.rol
open Go.Proofs.YtfeafhagnhbmiaaGreatDoor.scp (lt lt_irrefl lt_trans wordB hasB hasB_iff Srt setP setP_mem setP_srt withinP within_iff printP srt_nodup len_sub setP_of_srt)
open Go.Proofs.YtfeafhagnhbmiaaGreatDoor.fld (unq quote Pr getV getN unq_quote itself itself_in qB)

abbrev T := List UInt8
def okP (c : UInt8) : Bool := decide (33 ≤ c.toNat) && decide (c.toNat ≤ 126)
def prB (s : T) (m : Nat) : Bool := s.all okP && (decide (1 ≤ s.length) && decide (s.length ≤ m))
def shB (s : T) : Bool := s.any (· == 35)
def wAC : T := [97, 117, 116, 104, 111, 114, 105, 122, 97, 116, 105, 111, 110, 95, 99, 111, 100, 101]
def wCC : T := [99, 108, 105, 101, 110, 116, 95, 99, 114, 101, 100, 101, 110, 116, 105, 97, 108, 115]
def wRT : T := [114, 101, 102, 114, 101, 115, 104, 95, 116, 111, 107, 101, 110]
def wId : T := [99, 108, 105, 101, 110, 116, 95, 105, 100]
def wSec : T := [99, 108, 105, 101, 110, 116, 95, 115, 101, 99, 114, 101, 116]
def wBas : T := [66, 97, 115, 105, 99, 32]
/-- a client -/
structure CT where
  id : T
  sec : T
  pub : Bool
  red : List T
  sco : List T
  gra : List T
def zCT : CT := ⟨[], [], false, [], [], []⟩
def mayB (pub : Bool) (g : T) : Bool := decide (g = wAC) || decide (g = wRT) || (decide (g = wCC) && !pub)
def secB (pub : Bool) (s : T) : Bool := if pub then decide (s = []) else prB s 128
def redAt (l : List T) (i : Nat) : Bool := prB (l.getD i []) 128 && (!shB (l.getD i []) && !hasB (l.take i) (l.getD i []))
def redB (l : List T) : Bool := decide (l.length ≤ 4) && (List.range l.length).all (redAt l)
def graAt (pub : Bool) (l : List T) (i : Nat) : Bool := mayB pub (l.getD i []) && (decide (i = 0) || lt (l.getD (i - 1) []) (l.getD i []))
def graB (pub : Bool) (l : List T) : Bool := (List.range l.length).all (graAt pub l)
def scoB (l : List T) : Bool := decide (l.length ≤ 32) && (decide (setP l = l) && decide ((printP l).length ≤ 128))
def rightB (c : CT) : Bool := prB c.id 64 && (secB c.pub c.sec && (redB c.red && (scoB c.sco && graB c.pub c.gra)))
def allAt (l : List CT) (i : Nat) : Bool := rightB (l.getD i zCT) && !hasB ((l.take i).map (·.id)) (l.getD i zCT).id
def allTo (l : List CT) (k : Nat) : Bool := (List.range k).all (allAt l)
def allB (l : List CT) : Bool := allTo l l.length && decide (l.length ≤ 64)
def findP (l : List CT) (id : T) : Option CT := l.find? (fun c => decide (c.id = id))
/-- (the client, is there one) -/
def lookP (l : List CT) (id : T) : CT × Bool := match findP l id with | some c => (c, true) | none => (zCT, false)
theorem prB_empty (m : Nat) : prB [] m = false := by simp [prB]
theorem prB_len {s : T} {m : Nat} (h : prB s m = true) : 1 ≤ s.length ∧ s.length ≤ m := by
  simp only [prB, Bool.and_eq_true, decide_eq_true_eq] at h
  exact h.2
theorem secB_iff (pub : Bool) (s : T) : secB pub s = true ↔ (pub = decide (s = []) ∧ (pub = false → prB s 128 = true)) := by
  unfold secB
  cases pub with
  | true => simp
  | false =>
    constructor
    · intro h
      have h2 : prB s 128 = true := h
      refine ⟨?_, fun _ => h2⟩
      have := (prB_len h2).1
      symm
      rw [decide_eq_false_iff_not]
      rintro rfl
      simp at this
    · rintro ⟨_, h⟩
      exact h rfl
theorem range_all_step {p : Nat → Bool} {k : Nat} (h : (List.range k).all p = true) (hp : p k = true) : (List.range (k + 1)).all p = true := by
  rw [List.range_succ, List.all_append, h]
  simp [hp]
theorem range_all_no {p : Nat → Bool} {k n : Nat} (hk : k < n) (hp : p k = false) : (List.range n).all p = false := by
  rw [List.all_eq_false]
  exact ⟨k, List.mem_range.2 hk, by rw [hp]; simp⟩
theorem range_all_iff {p : Nat → Bool} {n : Nat} : (List.range n).all p = true ↔ ∀ k, k < n → p k = true := by
  rw [List.all_eq_true]
  exact ⟨fun h k hk => h k (List.mem_range.2 hk), fun h k hk => h k (List.mem_range.1 hk)⟩
theorem getD_at {α : Type} (l : List α) (d : α) {i : Nat} (h : i < l.length) : l.getD i d = l[i] := by simp [List.getD, List.getElem?_eq_getElem h]
theorem gra_srt {pub : Bool} {l : List T} (h : graB pub l = true) : Srt l ∧ ∀ x ∈ l, mayB pub x = true := by
  have h1 := range_all_iff.1 h
  constructor
  · have h2 : ∀ n, n ≤ l.length → Srt (l.take n) := by
      intro n
      induction n with
      | zero => intro _; simp [Srt]
      | succ n ih =>
        intro hn
        have hn' : n < l.length := by omega
        rw [List.take_succ_eq_append_getElem hn']
        unfold Srt
        rw [List.pairwise_append]
        refine ⟨ih (by omega), by simp, ?_⟩
        intro a ha b hb
        rw [List.mem_singleton.1 hb]
        obtain ⟨i, hi, rfl⟩ := List.mem_iff_getElem.1 ha
        rw [List.length_take] at hi
        have hin : i < n := by omega
        rw [List.getElem_take]
        have h3 := h1 n hn'
        unfold graAt at h3
        simp only [Bool.and_eq_true, Bool.or_eq_true, decide_eq_true_eq] at h3
        rcases h3.2 with h4 | h4
        · omega
        · rw [getD_at l [] (show n - 1 < l.length by omega), getD_at l [] hn'] at h4
          by_cases e : i = n - 1
          · subst e; exact h4
          · have h5 := ih (by omega)
            unfold Srt at h5
            rw [List.pairwise_iff_getElem] at h5
            have h6 := h5 i (n - 1) (by rw [List.length_take]; omega) (by rw [List.length_take]; omega) (by omega)
            rw [List.getElem_take, List.getElem_take] at h6
            exact lt_trans h6 h4
    have := h2 l.length (Nat.le_refl _)
    rwa [List.take_length] at this
  · intro x hx
    obtain ⟨i, hi, rfl⟩ := List.mem_iff_getElem.1 hx
    have h3 := h1 i hi
    unfold graAt at h3
    rw [getD_at l [] hi] at h3
    simp only [Bool.and_eq_true] at h3
    exact h3.1
theorem mayB_in {pub : Bool} {g : T} (h : mayB pub g = true) : g ∈ [wAC, wCC, wRT] := by
  unfold mayB at h
  simp only [Bool.or_eq_true, Bool.and_eq_true, decide_eq_true_eq] at h
  rcases h with (rfl | rfl) | ⟨rfl, _⟩ <;> simp
theorem gra_len {pub : Bool} {l : List T} (h : graB pub l = true) : l.length ≤ 3 := by
  obtain ⟨h1, h2⟩ := gra_srt h
  exact len_sub l [wAC, wCC, wRT] (srt_nodup h1) fun x hx => mayB_in (h2 x hx)
theorem right_parts {c : CT} (h : rightB c = true) : prB c.id 64 = true ∧ secB c.pub c.sec = true ∧ redB c.red = true ∧ scoB c.sco = true ∧ graB c.pub c.gra = true := by
  simp only [rightB, Bool.and_eq_true] at h
  exact ⟨h.1, h.2.1, h.2.2.1, h.2.2.2.1, h.2.2.2.2⟩
/-- what a client that may be has -/
structure Small (c : CT) : Prop where
  id : c.id.length ≤ 64
  idp : 1 ≤ c.id.length
  sec : c.sec.length ≤ 128
  red : c.red.length ≤ 4
  reds : ∀ x ∈ c.red, x.length ≤ 128
  sco : c.sco.length ≤ 32
  scos : ∀ x ∈ c.sco, x.length ≤ 64
  gra : c.gra.length ≤ 3
  gras : ∀ x ∈ c.gra, x.length ≤ 128
  set : setP c.sco = c.sco
theorem right_small {c : CT} (h : rightB c = true) : Small c := by
  obtain ⟨h1, h2, h3, h4, h5⟩ := right_parts h
  have i1 := prB_len h1
  unfold redB at h3
  simp only [Bool.and_eq_true, decide_eq_true_eq] at h3
  unfold scoB at h4
  simp only [Bool.and_eq_true, decide_eq_true_eq] at h4
  refine ⟨i1.2, i1.1, ?_, h3.1, ?_, h4.1, ?_, gra_len h5, ?_, h4.2.1⟩
  · unfold secB at h2
    split at h2
    · rw [decide_eq_true_iff] at h2; rw [h2]; simp
    · exact (prB_len h2).2
  · intro x hx
    obtain ⟨i, hi, rfl⟩ := List.mem_iff_getElem.1 hx
    have h6 := range_all_iff.1 h3.2 i hi
    unfold redAt at h6
    rw [getD_at _ _ hi] at h6
    simp only [Bool.and_eq_true] at h6
    exact (prB_len h6.1).2
  · intro x hx
    rw [← h4.2.1] at hx
    exact (scp.word_len ((setP_mem _ _).1 hx).2).2
  · intro x hx
    have h6 := mayB_in ((gra_srt h5).2 x hx)
    simp only [List.mem_cons, List.not_mem_nil, or_false] at h6
    rcases h6 with rfl | rfl | rfl <;> decide
theorem small_z : zCT.id.length = 0 ∧ zCT.sec.length = 0 := ⟨rfl, rfl⟩
theorem allTo_right {l : List CT} {k : Nat} (h : allTo l k = true) (hk : k ≤ l.length) : ∀ c ∈ l.take k, rightB c = true := by
  intro c hc
  obtain ⟨i, hi, rfl⟩ := List.mem_iff_getElem.1 hc
  rw [List.length_take] at hi
  have h1 := range_all_iff.1 h i (by omega)
  unfold allAt at h1
  rw [getD_at l zCT (show i < l.length by omega)] at h1
  simp only [Bool.and_eq_true] at h1
  rw [List.getElem_take]
  exact h1.1
theorem allTo_nodup {l : List CT} {k : Nat} (h : allTo l k = true) (hk : k ≤ l.length) : ((l.take k).map (·.id)).Nodup := by
  induction k with
  | zero => simp
  | succ k ih =>
    have hk' : k < l.length := by omega
    have h1 := range_all_iff.1 h
    have h2 := h1 k (by omega)
    unfold allAt at h2
    rw [getD_at l zCT hk'] at h2
    simp only [Bool.and_eq_true, Bool.not_eq_true'] at h2
    rw [List.take_succ_eq_append_getElem hk', List.map_append, List.nodup_append]
    refine ⟨ih (range_all_iff.2 fun i hi => h1 i (by omega)) (by omega), by simp, ?_⟩
    intro a ha b hb e
    simp only [List.map_cons, List.map_nil, List.mem_singleton] at hb
    rw [hb] at e
    rw [e] at ha
    have := (hasB_iff _ _).2 ha
    rw [h2.2] at this
    cases this
theorem all_right {l : List CT} (h : allB l = true) : (∀ c ∈ l, rightB c = true) ∧ (l.map (·.id)).Nodup ∧ l.length ≤ 64 := by
  unfold allB at h
  simp only [Bool.and_eq_true, decide_eq_true_eq] at h
  have h1 := allTo_right h.1 (Nat.le_refl _)
  have h2 := allTo_nodup h.1 (Nat.le_refl _)
  rw [List.take_length] at h1 h2
  exact ⟨h1, h2, h.2⟩
theorem find_mem {l : List CT} {id : T} {c : CT} (h : findP l id = some c) : c ∈ l ∧ c.id = id := by
  unfold findP at h
  have h2 := List.find?_some h
  exact ⟨List.mem_of_find?_eq_some h, of_decide_eq_true h2⟩
theorem find_none {l : List CT} {id : T} : findP l id = none ↔ ∀ c ∈ l, c.id ≠ id := by
  unfold findP
  rw [List.find?_eq_none]
  simp
theorem find_at {l : List CT} (h : (l.map (·.id)).Nodup) {c : CT} (hc : c ∈ l) : findP l c.id = some c := by
  cases hf : findP l c.id with
  | none => exact absurd rfl (find_none.1 hf c hc)
  | some d =>
    obtain ⟨h1, h2⟩ := find_mem hf
    rw [List.nodup_iff_pairwise_ne, List.pairwise_map] at h
    obtain ⟨i, hi, rfl⟩ := List.mem_iff_getElem.1 hc
    obtain ⟨j, hj, rfl⟩ := List.mem_iff_getElem.1 h1
    rw [List.pairwise_iff_getElem] at h
    rcases Nat.lt_trichotomy i j with e | e | e
    · exact absurd h2.symm (h i j hi hj e)
    · subst e; rfl
    · exact absurd h2 (h j i hj hi e)
theorem look_yes {l : List CT} {id : T} (h : (lookP l id).2 = true) : (lookP l id).1 ∈ l ∧ (lookP l id).1.id = id ∧ findP l id = some (lookP l id).1 := by
  unfold lookP at h ⊢
  cases hf : findP l id with
  | none => rw [hf] at h; cases h
  | some c =>
    obtain ⟨h1, h2⟩ := find_mem hf
    exact ⟨h1, h2, rfl⟩
theorem look_no {l : List CT} {id : T} (h : (lookP l id).2 = false) : lookP l id = (zCT, false) ∧ ∀ c ∈ l, c.id ≠ id := by
  unfold lookP at h ⊢
  cases hf : findP l id with
  | none => exact ⟨rfl, find_none.1 hf⟩
  | some c => rw [hf] at h; cases h
theorem look_small {l : List CT} (h : allB l = true) (id : T) : (lookP l id).1.id.length ≤ 64 ∧ (lookP l id).1.sec.length ≤ 128 ∧ (lookP l id).1.red.length ≤ 4 ∧ (∀ x ∈ (lookP l id).1.red, x.length ≤ 128) ∧ (lookP l id).1.sco.length ≤ 32 ∧ (∀ x ∈ (lookP l id).1.sco, x.length ≤ 64) ∧ (lookP l id).1.gra.length ≤ 3 ∧ (∀ x ∈ (lookP l id).1.gra, x.length ≤ 128) := by
  cases hb : (lookP l id).2 with
  | true =>
    have hs := right_small ((all_right h).1 _ (look_yes hb).1)
    exact ⟨hs.id, hs.sec, hs.red, hs.reds, hs.sco, hs.scos, hs.gra, hs.gras⟩
  | false =>
    rw [(look_no hb).1]
    simp [zCT]
theorem look_empty {l : List CT} (h : allB l = true) : (lookP l []).2 = false := by
  cases hb : (lookP l []).2 with
  | false => rfl
  | true =>
    have hs := right_small ((all_right h).1 _ (look_yes hb).1)
    have h1 := hs.idp
    rw [(look_yes hb).2.1] at h1
    simp at h1
end Go.Proofs.YtfeafhagnhbmiaaGreatDoor.rol
