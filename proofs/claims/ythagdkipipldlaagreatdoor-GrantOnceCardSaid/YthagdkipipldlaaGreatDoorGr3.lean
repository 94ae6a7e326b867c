/- What families are right; commands keep them right. No condition. -/
import Derived.Test.YthagdkipipldlaaGreatDoorGr1
namespace Go.Proofs.YthagdkipipldlaaGreatDoor.gra
open Go.Proofs.YthagdkipipldlaaGreatDoor.krd
open Go.Proofs.YthagdkipipldlaaGreatDoor.scp (lt lt_irrefl lt_trans lt_total lt_asymm setP printP withinP wordB)

def itB (all : List T) (t : IT) : Bool := if t.k = 2 then !t.used && fitB t.sc && withinP t.sc all else if t.k = 3 then decide (t.sc = all) else false
def risB : List Int → Bool
  | [] => true
  | e :: r => inB e 0 31 && (match r with | [] => true | d :: _ => decide (e < d)) && risB r
def codeB (f : FT) : Bool := if f.code = 0 then decide (f.us = []) && decide (f.re = []) && decide (f.ch = []) && decide (f.me = []) && decide (f.tk ≠ []) else if f.code = 1 then shownB f.ch f.me && decide (f.tk = []) else if f.code = 2 then shownB f.ch f.me && decide (f.tk ≠ []) else false
def rightG (f : FT) : Bool := idB f.id && decide (f.cl ≠ []) && (shortB f.cl && shortB f.us && shortB f.re) && fitB f.sc && codeB f && (decide (f.tk.length ≤ 8) && f.tk.all (itB f.sc)) && risB f.le
/-- what a command that may be is -/
structure MayT (c : CT) : Prop where
  kind : 1 ≤ c.kind ∧ c.kind ≤ 7
  id : idB c.fam = true
  cl : shortB c.cl = true
  us : shortB c.us = true
  re : shortB c.re = true
  ve : shortB c.ve = true
  fit : fitB c.sc = true
  zero : zerosB c = true
  ser : 0 ≤ c.ser ∧ c.ser ≤ 1099511627776
  edge : 0 ≤ c.edge ∧ c.edge ≤ 31
  shown : shownB c.ch c.me = true
theorem inB_iff {n a b : Int} : inB n a b = true ↔ a ≤ n ∧ n ≤ b := by simp [inB]
theorem mayG_iff (c : CT) : mayG c = true ↔ MayT c := by
  unfold mayG
  simp only [Bool.and_eq_true, inB_iff]
  constructor
  · rintro ⟨⟨⟨⟨⟨⟨⟨h1, h2⟩, ⟨⟨h3, h4⟩, h5⟩, h6⟩, h7⟩, h8⟩, h9⟩, h10⟩, h11⟩
    exact ⟨h1, h2, h3, h4, h5, h6, h7, h8, h9, h10, h11⟩
  · rintro ⟨h1, h2, h3, h4, h5, h6, h7, h8, h9, h10, h11⟩
    exact ⟨⟨⟨⟨⟨⟨⟨h1, h2⟩, ⟨⟨h3, h4⟩, h5⟩, h6⟩, h7⟩, h8⟩, h9⟩, h10⟩, h11⟩
structure RT (f : FT) : Prop where
  id : idB f.id = true
  cl1 : f.cl ≠ []
  cl : shortB f.cl = true
  us : shortB f.us = true
  re : shortB f.re = true
  fit : fitB f.sc = true
  code : codeB f = true
  few : f.tk.length ≤ 8
  toks : f.tk.all (itB f.sc) = true
  le : risB f.le = true
theorem rightG_iff (f : FT) : rightG f = true ↔ RT f := by
  unfold rightG
  simp only [Bool.and_eq_true, decide_eq_true_eq]
  constructor
  · rintro ⟨⟨⟨⟨⟨⟨h1, h2⟩, ⟨h3, h4⟩, h5⟩, h6⟩, h7⟩, h8, h9⟩, h10⟩
    exact ⟨h1, h2, h3, h4, h5, h6, h7, h8, h9, h10⟩
  · rintro ⟨h1, h2, h3, h4, h5, h6, h7, h8, h9, h10⟩
    exact ⟨⟨⟨⟨⟨⟨h1, h2⟩, ⟨h3, h4⟩, h5⟩, h6⟩, h7⟩, h8, h9⟩, h10⟩
theorem zeros_cl {c : CT} (h : zerosB c = true) (hk : c.kind ≤ 5) : c.cl ≠ [] := by
  unfold zerosB at h
  simp only [Bool.and_eq_true, decide_eq_true_eq] at h
  exact h.1.1.1.1.1.1.1.1 hk
theorem zeros_tok {c : CT} (h : zerosB c = true) (hk : c.kind = 5 ∨ c.kind = 6) : 1 ≤ c.tok ∧ c.tok ≤ 3 := by
  unfold zerosB at h
  simp only [Bool.and_eq_true] at h
  have := h.2
  rw [if_pos hk, inB_iff] at this
  exact this
theorem zeros_four {c : CT} (h : zerosB c = true) (hk : c.kind = 4) : c.us = [] ∧ c.ch = [] ∧ c.me = [] ∧ c.re = [] := by
  unfold zerosB at h
  simp only [Bool.and_eq_true, Bool.or_eq_true, decide_eq_true_eq] at h
  have h1 := h.1.1.1.1.1.1.2
  have h2 := h.1.1.1.1.1.2
  rcases h1 with h1 | ⟨⟨h3, h4⟩, h5⟩
  · omega
  · rcases h2 with h2 | h2
    · omega
    · exact ⟨h3, h4, h5, h2⟩
theorem issG_right {f : FT} {too : List T} (r : Bool) (h1 : idB f.id = true) (h2 : f.cl ≠ []) (h3 : shortB f.cl = true) (h4 : shortB f.us = true) (h5 : shortB f.re = true) (h6 : fitB f.sc = true)
    (hc : (f.code = 0 ∧ f.us = [] ∧ f.re = [] ∧ f.ch = [] ∧ f.me = []) ∨ (f.code = 2 ∧ shownB f.ch f.me = true)) (hn : f.tk.length ≤ if r then 6 else 7) (ht : f.tk.all (itB f.sc) = true) (hl : risB f.le = true) (hf : fitB too = true) (hw : withinP too f.sc = true) : RT (issG f too r).1 := by
  have hcode : ∀ tk : List IT, tk ≠ [] → codeB { f with tk := tk } = true := fun tk hne => by
    unfold codeB
    rcases hc with ⟨e, a, b, c, d⟩ | ⟨e, s⟩
    · simp only [e, a, b, c, d, if_true, decide_true, Bool.true_and]
      simpa using hne
    · simp only [e, s, Bool.true_and]
      rw [if_neg (by decide), if_neg (by decide), if_pos trivial]
      simpa using hne
  have it2 : itB f.sc ⟨2, too, false⟩ = true := by unfold itB; rw [if_pos rfl, hf, hw]; rfl
  have it3 : itB f.sc ⟨3, f.sc, false⟩ = true := by unfold itB; rw [if_neg (show ¬ (3 : Int) = 2 by decide), if_pos rfl, decide_eq_true rfl]
  cases r with
  | true =>
    refine ⟨h1, h2, h3, h4, h5, h6, hcode _ (by simp), ?_, ?_, hl⟩
    · show (f.tk ++ _ ++ _).length ≤ 8
      simp only [if_true] at hn
      simp only [List.length_append, List.length_singleton]; omega
    · show (f.tk ++ _ ++ _).all (itB f.sc) = true
      simp only [List.all_append, ht, Bool.true_and, List.all_cons, List.all_nil, Bool.and_true]
      exact (by rw [it2, it3]; rfl)
  | false =>
    refine ⟨h1, h2, h3, h4, h5, h6, hcode _ (by simp), ?_, ?_, hl⟩
    · show (f.tk ++ _).length ≤ 8
      simp only [List.length_append, List.length_singleton]
      simp at hn; omega
    · show (f.tk ++ _).all (itB f.sc) = true
      simp only [List.all_append, ht, Bool.true_and, List.all_cons, List.all_nil, Bool.and_true]
      exact it2
theorem within_self (l : List T) : withinP l l = true := (scp.within_iff l l).2 fun _ hx _ => hx
theorem code_nz {f : FT} (h : codeB f = true) (h0 : f.code ≠ 0) : shownB f.ch f.me = true ∧ (f.code = 1 ∧ f.tk = [] ∨ f.code = 2 ∧ f.tk ≠ []) := by
  unfold codeB at h
  rw [if_neg h0] at h
  by_cases h1 : f.code = 1
  · rw [if_pos h1, Bool.and_eq_true, decide_eq_true_eq] at h
    exact ⟨h.1, Or.inl ⟨h1, h.2⟩⟩
  · rw [if_neg h1] at h
    by_cases h2 : f.code = 2
    · rw [if_pos h2, Bool.and_eq_true, decide_eq_true_eq] at h
      exact ⟨h.1, Or.inr ⟨h2, h.2⟩⟩
    · rw [if_neg h2] at h; cases h
theorem code_z {f : FT} (h : codeB f = true) (h0 : f.code = 0) : (f.us = [] ∧ f.re = [] ∧ f.ch = [] ∧ f.me = []) ∧ f.tk ≠ [] := by
  unfold codeB at h
  rw [if_pos h0] at h
  simp only [Bool.and_eq_true, decide_eq_true_eq] at h
  exact ⟨⟨h.1.1.1.1, h.1.1.1.2, h.1.1.2, h.1.2⟩, h.2⟩
theorem ris_iff (l : List Int) : risB l = true ↔ (∀ e ∈ l, 0 ≤ e ∧ e ≤ 31) ∧ l.Pairwise (· < ·) := by
  induction l with
  | nil => simp [risB]
  | cons e r ih =>
    cases r with
    | nil => simp [risB, inB_iff]
    | cons d r =>
      rw [show risB (e :: d :: r) = (inB e 0 31 && decide (e < d) && risB (d :: r)) from rfl, Bool.and_eq_true, Bool.and_eq_true, inB_iff, ih, decide_eq_true_eq, List.pairwise_cons (a := e)]
      constructor
      · rintro ⟨⟨h1, h2⟩, h3, h4⟩
        refine ⟨fun x hx => by rcases List.mem_cons.1 hx with rfl | hx; exact h1; exact h3 x hx, fun x hx => ?_, h4⟩
        rcases List.mem_cons.1 hx with rfl | hx
        · exact h2
        · have := (List.pairwise_cons.1 h4).1 x hx; omega
      · rintro ⟨h1, h2, h3⟩
        exact ⟨⟨h1 e List.mem_cons_self, h2 d List.mem_cons_self⟩, fun x hx => h1 x (List.mem_cons_of_mem _ hx), h3⟩
theorem ris_lease {l : List Int} {e : Int} (h : risB l = true) (he : 0 ≤ e ∧ e ≤ 31) : risB (leaseG l e) = true := by
  unfold leaseG
  split
  · exact h
  · rename_i hn
    rw [ris_iff] at h ⊢
    refine ⟨fun x hx => ?_, ?_⟩
    · rcases List.mem_append.1 hx with hx | hx
      · exact h.1 x (List.mem_filter.1 hx).1
      · rcases List.mem_cons.1 hx with rfl | hx
        · exact he
        · exact h.1 x (List.mem_filter.1 hx).1
    · rw [List.pairwise_append]
      refine ⟨h.2.filter _, ?_, ?_⟩
      · rw [List.pairwise_cons]
        exact ⟨fun b hb => by simpa using (List.mem_filter.1 hb).2, h.2.filter _⟩
      · intro a ha b hb
        have h1 : a < e := by simpa using (List.mem_filter.1 ha).2
        rcases List.mem_cons.1 hb with rfl | hb
        · exact h1
        · have h2 : e < b := by simpa using (List.mem_filter.1 hb).2
          omega
theorem all_modify {p : IT → Bool} {g : IT → IT} (l : List IT) (i : Nat) (h : l.all p = true) (hg : ∀ t, l[i]? = some t → p (g t) = true) : (l.modify i g).all p = true := by
  rw [List.all_eq_true] at h ⊢
  intro x hx
  obtain ⟨j, hj, e⟩ := List.mem_iff_getElem.1 hx
  rw [List.getElem_modify] at e
  split at e
  · rename_i hij
    subst hij
    rw [← e]
    refine hg _ ?_
    rw [List.getElem?_eq_getElem]
  · rw [← e]; exact h _ (List.getElem_mem _)
theorem tokG_some {f : FT} {k n : Int} {t : IT} (h : tokG f k n = some t) : 1 ≤ n ∧ n ≤ f.tk.length ∧ f.tk[(n - 1).toNat]? = some t ∧ t.k = k := by
  unfold tokG at h
  split at h
  · rename_i hn
    obtain ⟨h1, h2⟩ := Option.filter_eq_some_iff.1 h
    exact ⟨hn.1, hn.2, h1, by simpa using h2⟩
  · cases h
/-- a command keeps its family right -/
theorem step_right {full : Bool} {o : Option FT} {c : CT} (hc : MayT c) (ho : ∀ f, o = some f → RT f ∧ f.id = c.fam) : ∀ f, (stepG full o c).1 = some f → RT f ∧ f.id = c.fam := by
  intro f hf
  have hself : ∀ {g : FT} {a : AT}, ((some g, a) : Option FT × AT).1 = some f → g = f := fun h => by simpa using h
  have fall : ∀ g, RT g → RT (fallG g) := fun g h => ⟨h.id, h.cl1, h.cl, h.us, h.re, h.fit, h.code, h.few, h.toks, h.le⟩
  unfold stepG at hf
  by_cases k1 : c.kind = 1
  · rw [if_pos k1] at hf
    cases o with
    | some g => obtain rfl := hself hf; exact ho g rfl
    | none =>
      dsimp only at hf
      cases full with
      | true => simp at hf
      | false =>
        simp at hf
        subst hf
        exact ⟨⟨hc.id, zeros_cl hc.zero (by omega), hc.cl, hc.us, hc.re, hc.fit, by unfold codeB newG; rw [if_neg (by simp), if_pos rfl, hc.shown]; rfl, Nat.zero_le _, rfl, rfl⟩, rfl⟩
  rw [if_neg k1] at hf
  by_cases k4 : c.kind = 4
  · rw [if_pos k4] at hf
    cases o with
    | some g => obtain rfl := hself hf; exact ho g rfl
    | none =>
      dsimp only at hf
      cases full with
      | true => simp at hf
      | false =>
        simp at hf
        subst hf
        obtain ⟨z1, z2, z3, z4⟩ := zeros_four hc.zero k4
        exact ⟨issG_right (f := newG c 0) false hc.id (zeros_cl hc.zero (by omega)) hc.cl hc.us hc.re hc.fit (Or.inl ⟨rfl, z1, z4, z2, z3⟩) (Nat.zero_le _) rfl rfl hc.fit (within_self _), rfl⟩
  rw [if_neg k4] at hf
  by_cases k2 : c.kind = 2
  · rw [if_pos k2] at hf
    cases o with
    | none => simp at hf
    | some g =>
      obtain ⟨hr, hi⟩ := ho g rfl
      dsimp only at hf
      by_cases a1 : g.rev = true ∨ g.cl ≠ c.cl ∨ g.code = 0
      · rw [if_pos a1] at hf; obtain rfl := hself hf; exact ⟨hr, hi⟩
      rw [if_neg a1] at hf
      by_cases a2 : g.code = 2
      · rw [if_pos a2] at hf; obtain rfl := hself hf; exact ⟨fall g hr, hi⟩
      rw [if_neg a2] at hf
      by_cases a3 : g.re ≠ c.re ∨ checkG g c.ve = false
      · rw [if_pos a3] at hf; obtain rfl := hself hf; exact ⟨hr, hi⟩
      rw [if_neg a3] at hf
      obtain rfl := hself hf
      obtain ⟨s1, s2⟩ := code_nz hr.code (fun e => a1 (Or.inr (Or.inr e)))
      have hnil : g.tk = [] := by rcases s2 with ⟨_, h⟩ | ⟨h, _⟩; exact h; exact absurd h a2
      refine ⟨issG_right (f := { g with code := 2 }) c.rf hr.id hr.cl1 hr.cl hr.us hr.re hr.fit (Or.inr ⟨rfl, s1⟩) ?_ hr.toks hr.le hr.fit (within_self _), ?_⟩
      · show g.tk.length ≤ _; rw [hnil]; exact Nat.zero_le _
      · rw [← hi]; unfold issG; split <;> rfl
  rw [if_neg k2] at hf
  by_cases k3 : c.kind = 3
  · rw [if_pos k3] at hf
    cases o with
    | none => simp at hf
    | some g =>
      obtain ⟨hr, hi⟩ := ho g rfl
      dsimp only at hf
      by_cases a1 : g.rev = true ∨ g.cl ≠ c.cl
      · rw [if_pos a1] at hf; obtain rfl := hself hf; exact ⟨hr, hi⟩
      rw [if_neg a1] at hf
      cases ht : tokG g 3 c.ser with
      | none => rw [ht] at hf; obtain rfl := hself hf; exact ⟨hr, hi⟩
      | some t =>
        rw [ht] at hf
        dsimp only at hf
        by_cases a2 : t.used = true
        · rw [if_pos a2] at hf; obtain rfl := hself hf; exact ⟨fall g hr, hi⟩
        rw [if_neg a2] at hf
        by_cases a3 : withinP c.sc g.sc = false
        · rw [if_pos a3] at hf; obtain rfl := hself hf; exact ⟨hr, hi⟩
        rw [if_neg a3] at hf
        by_cases a4 : 6 < g.tk.length
        · rw [if_pos a4] at hf; obtain rfl := hself hf; exact ⟨hr, hi⟩
        rw [if_neg a4] at hf
        obtain rfl := hself hf
        obtain ⟨t1, t2, t3, t4⟩ := tokG_some ht
        have hne : g.tk ≠ [] := fun e => by rw [e] at t2; simp at t2; omega
        have hcd : (g.code = 0 ∧ g.us = [] ∧ g.re = [] ∧ g.ch = [] ∧ g.me = []) ∨ (g.code = 2 ∧ shownB g.ch g.me = true) := by
          by_cases e : g.code = 0
          · obtain ⟨⟨p1, p2, p3, p4⟩, _⟩ := code_z hr.code e
            exact Or.inl ⟨e, p1, p2, p3, p4⟩
          · obtain ⟨s1, s2⟩ := code_nz hr.code e
            rcases s2 with ⟨_, h⟩ | ⟨h, _⟩
            · exact absurd h hne
            · exact Or.inr ⟨h, s1⟩
        have hto : fitB (if c.sc = [] then g.sc else c.sc) = true ∧ withinP (if c.sc = [] then g.sc else c.sc) g.sc = true := by
          split
          · exact ⟨hr.fit, within_self _⟩
          · exact ⟨hc.fit, by simpa using a3⟩
        refine ⟨issG_right (f := useG g (c.ser - 1).toNat) true hr.id hr.cl1 hr.cl hr.us hr.re hr.fit hcd ?_ ?_ hr.le hto.1 hto.2, hi⟩
        · show (g.tk.modify _ _).length ≤ _
          rw [List.length_modify]; simp; omega
        · refine all_modify _ _ hr.toks fun u hu => ?_
          rw [t3] at hu
          injection hu with hu
          subst hu
          have hall := List.all_eq_true.1 hr.toks t (List.mem_of_getElem? t3)
          unfold itB at hall ⊢
          rw [t4, if_neg (by decide), if_pos rfl] at hall
          show (if t.k = 2 then _ else if t.k = 3 then decide (t.sc = g.sc) else false) = true
          rw [t4, if_neg (by decide), if_pos rfl]
          exact hall
  rw [if_neg k3] at hf
  by_cases k5 : c.kind = 5
  · rw [if_pos k5] at hf
    cases o with
    | none => simp at hf
    | some g =>
      obtain ⟨hr, hi⟩ := ho g rfl
      dsimp only at hf
      split at hf
      · obtain rfl := hself hf; exact ⟨hr, hi⟩
      · split at hf
        · obtain rfl := hself hf; exact ⟨fall g hr, hi⟩
        · obtain rfl := hself hf; exact ⟨hr, hi⟩
  rw [if_neg k5] at hf
  by_cases k6 : c.kind = 6
  · rw [if_pos k6] at hf
    cases o with
    | none => simp at hf
    | some g =>
      obtain ⟨hr, hi⟩ := ho g rfl
      dsimp only at hf
      split at hf
      · obtain rfl := hself hf; exact ⟨hr, hi⟩
      · split at hf
        · obtain rfl := hself hf; exact ⟨hr, hi⟩
        · split at hf
          · obtain rfl := hself hf; exact ⟨hr, hi⟩
          · obtain rfl := hself hf
            exact ⟨⟨hr.id, hr.cl1, hr.cl, hr.us, hr.re, hr.fit, hr.code, hr.few, hr.toks, ris_lease hr.le hc.edge⟩, hi⟩
  rw [if_neg k6] at hf
  cases o with
  | none => simp at hf
  | some g =>
    obtain ⟨hr, hi⟩ := ho g rfl
    dsimp only at hf
    split at hf
    · simp at hf
    · obtain rfl := hself hf; exact ⟨hr, hi⟩
/-- a book of right families, rising, within its room -/
structure BT (room : Nat) (l : List FT) : Prop where
  srt : SrtG l
  right : ∀ f ∈ l, RT f
  room : l.length ≤ room
theorem put_same {l : List FT} (hs : SrtG l) (id : T) : putG l id (getG l id) = l := by
  cases hg : getG l id with
  | none => exact delK_same FT.id hs (getK_none FT.id hg)
  | some f => exact insK_same FT.id hs (getK_some FT.id hg).1
theorem step_full {o : Option FT} {c : CT} {f : FT} (h : (stepG true o c).1 = some f) : o.isSome = true := by
  cases o with
  | some _ => rfl
  | none =>
    exfalso
    unfold stepG at h
    dsimp only at h
    split at h
    · simp at h
    · split at h
      · simp at h
      · split at h
        · simp at h
        · split at h
          · simp at h
          · split at h
            · simp at h
            · split at h <;> simp at h
theorem do_bt {room : Nat} {l : List FT} (h : BT room l) (c : CT) : BT room (doG room l c).1 := by
  unfold doG
  split
  · rename_i hm
    have hm := (mayG_iff c).1 hm
    have hr := step_right (full := decide (room ≤ l.length)) (o := getG l c.fam) hm fun f hf => by obtain ⟨h1, h2⟩ := getK_some FT.id hf; exact ⟨h.right f h1, h2⟩
    dsimp only
    cases hs : (stepG (decide (room ≤ l.length)) (getG l c.fam) c).1 with
    | none => exact ⟨delK_srt FT.id h.srt _, fun f hf => h.right f ((delK_mem FT.id).1 hf).1, Nat.le_trans (delK_len FT.id _) h.room⟩
    | some g =>
      obtain ⟨h1, h2⟩ := hr g hs
      refine ⟨insK_srt FT.id h.srt g, fun f hf => by rcases (insK_mem FT.id).1 hf with rfl | ⟨h3, _⟩; exact h1; exact h.right f h3, ?_⟩
      show (insK FT.id l g).length ≤ room
      rw [insK_len FT.id h.srt]
      split
      · exact h.room
      · rename_i hn
        by_cases hf : room ≤ l.length
        · rw [decide_eq_true hf] at hs
          have := step_full hs
          rw [h2] at hn
          exact absurd this hn
        · omega
  · exact h
end Go.Proofs.YthagdkipipldlaaGreatDoor.gra
