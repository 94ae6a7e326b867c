/- The developers' isKey, refusal, find$1. No condition. -/
import Derived.Test.YtpijnkfbgieabaaDoorTrH
namespace Go.Proofs.YtpijnkfbgieabaaDoor.tri
open Go.RowKit
open Go.Proofs.YtpijnkfbgieabaaDoor.oct Go.Proofs.YtpijnkfbgieabaaDoor.ref Go.Proofs.YtpijnkfbgieabaaDoor.rows Go.Proofs.YtpijnkfbgieabaaDoor.rowg Go.Proofs.YtpijnkfbgieabaaDoor.trn Go.Proofs.YtpijnkfbgieabaaDoor.qut
open Go.Proofs.YtpijnkfbgieabaaDoor.sha (digest digest_len dval Tabs wpList_index_row)
open Go.Lib (byteCells)

/-- may it be a key -/
def okKey (k : T) : Bool := decide (1 ≤ k.length) && decide (k.length ≤ 64)
theorem okKey_len {k : T} (h : okKey k = true) : k.length ≤ 64 := by
  unfold okKey at h
  simp at h
  exact h.2
theorem size_txt (l : T) : (⟨l.toArray⟩ : ByteArray).size = l.length := List.size_toArray
theorem isKey_c (k : T) (w : World) (hk : k.length ≤ 140737488355328) : Calls Tryd.prog 74 #[txt k] w fun e w' => e = .returned (.bool (okKey k)) ∧ w = w' := by
  have hsz := size_txt k
  obtain ⟨n, hn⟩ : ∃ n, k.length = n := ⟨_, rfl⟩
  rw [hn] at hsz hk
  have e9 : (k == ([] : T)) = decide (n = 0) := by
    rcases k with _ | ⟨x, k⟩
    · rw [← hn]; rfl
    · rw [← hn]; simp
  have HOK : Hid (okKey k = (decide (1 ≤ n) && decide (n ≤ 64))) := by show _ = _; unfold okKey; rw [hn]
  unfold txt
  obtain ⟨b, hb⟩ : ∃ b, okKey k = b := ⟨_, rfl⟩
  rw [hb] at HOK ⊢
  by_cases h0 : n = 0
  · have hbf : b = false := by rw [HOK.out, h0]; rfl
    subst hbf
    rw [decide_eq_true h0] at e9
    clear HOK hb hn
    go_enter Tryd.func74, Tryd.ntmps74
    go_wp2_with fail
    go_ret
    exact ⟨rfl, rfl⟩
  · rw [decide_eq_false h0] at e9
    by_cases h64 : n ≤ 64
    · have hbf : b = true := by rw [HOK.out, decide_eq_true (by omega), decide_eq_true h64]; rfl
      subst hbf
      have hI : (n : Int) ≤ 64 := by omega
      clear HOK hb hn
      go_enter Tryd.func74, Tryd.ntmps74
      go_wp2_with fail
      go_ret
      exact ⟨rfl, rfl⟩
    · have hbf : b = false := by rw [HOK.out, decide_eq_false h64, Bool.and_false]
      subst hbf
      have hI : ¬ (n : Int) ≤ 64 := by omega
      clear HOK hb hn
      go_enter Tryd.func74, Tryd.ntmps74
      go_wp2_with fail
      go_ret
      exact ⟨rfl, rfl⟩
/-- what refuses a pair -/
def refN (k v : T) : Nat := if okKey k then (if v.length ≤ 60000 then 0 else 2) else 1
theorem refusal_c (k v : T) (w : World) (hk : k.length ≤ 140737488355328) (hv : v.length ≤ 140737488355328) : Calls Tryd.prog 49 #[txt k, txt v] w fun e w' => e = .returned (.int .i64 (refN k v : Nat)) ∧ w = w' := by
  have HC := Lib.hid (isKey_c k w hk)
  have hsz := size_txt v
  obtain ⟨n, hn⟩ : ∃ n, v.length = n := ⟨_, rfl⟩
  rw [hn] at hsz hv
  have HRN : Hid (refN k v = if okKey k then (if n ≤ 60000 then 0 else 2) else 1) := by show _ = _; unfold refN; rw [hn]
  unfold txt at HC ⊢
  obtain ⟨b, hb⟩ : ∃ b, okKey k = b := ⟨_, rfl⟩
  rw [hb] at HC HRN
  obtain ⟨r, hr⟩ : ∃ r, refN k v = r := ⟨_, rfl⟩
  rw [hr] at HRN ⊢
  cases b with
  | false =>
    have hr1 : r = 1 := HRN.out
    subst hr1
    clear HRN hb hn hr
    go_enter Tryd.func49, Tryd.ntmps49
    go_wp2_with fail
    refine HC.out.mono ?_
    rintro e w' ⟨rfl, rfl⟩
    go_wp2_with fail
    go_ret
    exact ⟨rfl, rfl⟩
  | true =>
    by_cases h6 : n ≤ 60000
    · have hr1 : r = 0 := by rw [HRN.out, if_pos rfl, if_pos h6]
      subst hr1
      have hI : ¬ (n : Int) > 60000 := by omega
      clear HRN hb hn hr
      go_enter Tryd.func49, Tryd.ntmps49
      go_wp2_with fail
      refine HC.out.mono ?_
      rintro e w' ⟨rfl, rfl⟩
      go_wp2_with fail
      go_ret
      exact ⟨rfl, rfl⟩
    · have hr1 : r = 2 := by rw [HRN.out, if_pos rfl, if_neg h6]
      subst hr1
      have hI : (n : Int) > 60000 := by omega
      clear HRN hb hn hr
      go_enter Tryd.func49, Tryd.ntmps49
      go_wp2_with fail
      refine HC.out.mono ?_
      rintro e w' ⟨rfl, rfl⟩
      go_wp2_with fail
      go_ret
      exact ⟨rfl, rfl⟩
/-- the last pair of that key -/
def lastP (key : T) (l : List Pr) : Option Pr := l.foldl (fun a y => if y.n = key then some y else a) none
theorem lastP_snoc (key : T) (l : List Pr) (y : Pr) : lastP key (l ++ [y]) = if y.n = key then some y else lastP key l := by
  unfold lastP
  rw [List.foldl_append]
  rfl
theorem lastP_fold (key : T) : ∀ (l : List Pr) (a : Option Pr), (∀ y, a = some y → y.n = key) → ∀ y, l.foldl (fun a y => if y.n = key then some y else a) a = some y → (y ∈ l ∨ a = some y) ∧ y.n = key
  | [], a, ha, y, h => ⟨Or.inr h, ha y h⟩
  | x :: l, a, ha, y, h => by
    rw [List.foldl_cons] at h
    have h2 := lastP_fold key l (if x.n = key then some x else a) (fun y hy => by
      by_cases e : x.n = key
      · rw [if_pos e] at hy
        injection hy with hy
        rw [← hy, e]
      · rw [if_neg e] at hy
        exact ha y hy) y h
    refine ⟨?_, h2.2⟩
    rcases h2.1 with h3 | h3
    · exact Or.inl (List.mem_cons_of_mem _ h3)
    · by_cases e : x.n = key
      · rw [if_pos e] at h3
        injection h3 with h3
        rw [← h3]
        exact Or.inl (List.mem_cons_self ..)
      · rw [if_neg e] at h3
        exact Or.inr h3
theorem lastP_none (key : T) : ∀ (l : List Pr) (a : Option Pr), l.foldl (fun a y => if y.n = key then some y else a) a = none → a = none ∧ ∀ y ∈ l, y.n ≠ key
  | [], a, h => ⟨h, fun _ h => by cases h⟩
  | x :: l, a, h => by
    rw [List.foldl_cons] at h
    obtain ⟨h1, h2⟩ := lastP_none key l _ h
    by_cases e : x.n = key
    · rw [if_pos e] at h1; cases h1
    · rw [if_neg e] at h1
      exact ⟨h1, fun y hy => by
        rcases List.mem_cons.1 hy with rfl | hy
        · exact e
        · exact h2 y hy⟩
/-- in whatever order they come: it is the one -/
theorem lastP_ord {l : List Pr} (h : Srt l) (f d : Nat) (key : T) : lastP key (ordP f d l) = getP l key := by
  cases e : lastP key (ordP f d l) with
  | none =>
    have h1 := (lastP_none key _ none e).2
    exact (getP_none.2 fun y hy => h1 y ((ordP_mem f d l y).2 hy)).symm
  | some y =>
    have h1 := lastP_fold key _ none (fun _ h => by cases h) y e
    have h2 : y ∈ l := (ordP_mem f d l y).1 (h1.1.resolve_right fun h => by cases h)
    cases e2 : getP l key with
    | none => exact absurd h1.2 (getP_none.1 e2 y h2)
    | some z =>
      have h3 := getP_some e2
      rw [srt_one h h2 h3.1 (h1.2.trans h3.2.symm)]
def gotC : Option Pr → List Value
  | none => [.string ⟨#[]⟩, .string ⟨#[]⟩]
  | some y => [.string ⟨y.n.toArray⟩, .string ⟨y.v.toArray⟩]
/-- what find's closure has found -/
structure FR (w0 : World) (g3 g4 g5 : Nat) (key : T) (done : List Pr) (W : World) : Prop where
  turn : Turn (fun k => k = g4 ∨ k = g5) w0 W
  key3 : Blk W g3 9 [.string ⟨key.toArray⟩]
  got : Blk W g4 44 (gotC (lastP key done))
  is : Blk W g5 4 [.bool (lastP key done).isSome]
theorem FR.below {w0 : World} {g3 g4 g5 : Nat} {key : T} {done : List Pr} {W W' : World} (h : FR w0 g3 g4 g5 key done W) (hb : Below W.heap.size W W') : FR w0 g3 g4 g5 key done W' :=
  ⟨h.turn.next (Turn.of_below hb), h.key3.below hb, h.got.below hb, h.is.below hb⟩
theorem FR.put {w0 : World} {g3 g4 g5 : Nat} {key : T} {done : List Pr} {W : World} {y : Pr} (h : FR w0 g3 g4 g5 key done W) (h34 : g3 ≠ g4) (h35 : g3 ≠ g5) (h45 : g4 ≠ g5) (e : y.n = key) :
    FR w0 g3 g4 g5 key (done ++ [y]) (((W.setCell ⟨g4, 0, none⟩ (.string ⟨y.n.toArray⟩)).setCell ⟨g4, 1, none⟩ (.string ⟨y.v.toArray⟩)).setCell ⟨g5, 0, none⟩ (.bool true)) := by
  have hl : lastP key (done ++ [y]) = some y := by rw [lastP_snoc, if_pos e]
  refine ⟨?_, ?_, ?_, ?_⟩
  · exact ((h.turn.next (Turn.set (S := fun k => k = g4 ∨ k = g5) _ _ _ _ (Or.inl rfl))).next (Turn.set (S := fun k => k = g4 ∨ k = g5) _ _ _ _ (Or.inl rfl))).next (Turn.set (S := fun k => k = g4 ∨ k = g5) _ _ _ _ (Or.inr rfl))
  · exact ((h.key3.set_other (fun e => h34 e.symm) _ _).set_other (fun e => h34 e.symm) _ _).set_other (fun e => h35 e.symm) _ _
  · rw [hl]
    have h1 := h.got
    obtain ⟨a, b, hab⟩ : ∃ a b, gotC (lastP key done) = [a, b] := by cases lastP key done <;> exact ⟨_, _, rfl⟩
    rw [hab] at h1
    exact ((h1.set 0 _).set 1 _).set_other (fun e => h45 e.symm) _ _
  · rw [hl]
    exact ((h.is.set_other h45 _ _).set_other h45 _ _).set 0 _
theorem FR.skip {w0 : World} {g3 g4 g5 : Nat} {key : T} {done : List Pr} {W : World} {y : Pr} (h : FR w0 g3 g4 g5 key done W) (e : ¬ y.n = key) : FR w0 g3 g4 g5 key (done ++ [y]) W := by
  have hl : lastP key (done ++ [y]) = lastP key done := by rw [lastP_snoc, if_neg e]
  exact ⟨h.turn, h.key3, by rw [hl]; exact h.got, by rw [hl]; exact h.is⟩
set_option maxHeartbeats 4000000 in
theorem find1_c {w0 : World} {g3 g4 g5 : Nat} {key : T} {done : List Pr} {W : World} (y : Pr) (h : FR w0 g3 g4 g5 key done W) (h34 : g3 ≠ g4) (h35 : g3 ≠ g5) (h45 : g4 ≠ g5) :
    Calls Tryd.prog 76 #[.agg #[.string ⟨y.n.toArray⟩, .string ⟨y.v.toArray⟩], .pointer (some ⟨g3, 0, none⟩), .pointer (some ⟨g4, 0, none⟩), .pointer (some ⟨g5, 0, none⟩)] W fun e w' => e = .returned (.tuple #[]) ∧ FR w0 g3 g4 g5 key (done ++ [y]) w' := by
  have hbk := (Below.refl W.heap.size W).alloc (Nat.le_refl _) (.cells #[.string ⟨y.n.toArray⟩, .string ⟨y.v.toArray⟩] 44)
  have hB := blk_new W #[.string ⟨y.n.toArray⟩, .string ⟨y.v.toArray⟩] 44 [.string ⟨y.n.toArray⟩, .string ⟨y.v.toArray⟩] rfl
  have h1 := h.below hbk
  obtain ⟨W1, hW1⟩ : ∃ W1, W.alloc (.cells #[.string ⟨y.n.toArray⟩, .string ⟨y.v.toArray⟩] 44) = W1 := ⟨_, rfl⟩
  rw [hW1] at hB h1
  have a0 : W1.cell? ⟨W.heap.size, 0, none⟩ = some (.string ⟨y.n.toArray⟩) := hB.cell 0
  have a1 : W1.cell? ⟨W.heap.size, 1, none⟩ = some (.string ⟨y.v.toArray⟩) := hB.cell 1
  have a3 : W1.cell? ⟨g3, 0, none⟩ = some (.string ⟨key.toArray⟩) := h1.key3.cell 0
  obtain ⟨u, v, huv⟩ : ∃ a b, gotC (lastP key done) = [a, b] := by cases lastP key done <;> exact ⟨_, _, rfl⟩
  have hg := h1.got
  rw [huv] at hg
  have a4 : W1.cell? ⟨g4, 0, none⟩ = some u := hg.cell 0
  have a5 : W1.cell? ⟨g4, 1, none⟩ = some v := hg.cell 1
  have a6 : W1.cell? ⟨g5, 0, none⟩ = some (.bool (lastP key done).isSome) := h1.is.cell 0
  obtain ⟨bo, hbo⟩ : ∃ bo, (lastP key done).isSome = bo := ⟨_, rfl⟩
  rw [hbo] at a6
  have f4 := hg.frozen 0
  have f5 := hg.frozen 1
  have f6 := h1.is.frozen 0
  have H1 := Lib.hid h1
  have H34 := Lib.hid h34
  have H35 := Lib.hid h35
  have H45 := Lib.hid h45
  have h54 : g5 ≠ g4 := fun e => h45 e.symm
  clear h hbk hB hg huv hbo h1 h34 h35
  by_cases e : y.n = key
  · have e9 : (y.n == key) = true := by rw [beq_iff_eq]; exact e
    have HE := Lib.hid e
    clear e
    go_enter Tryd.func76, Tryd.ntmps76
    go_wp2_with fail
    go_end0
    exact ⟨rfl, H1.out.put H34.out H35.out H45.out HE.out⟩
  · have e9 : (y.n == key) = false := by rw [beq_eq_false_iff_ne]; exact e
    have HE := Lib.hid e
    clear e
    go_enter Tryd.func76, Tryd.ntmps76
    go_wp2_with fail
    go_end0
    exact ⟨rfl, H1.out.skip HE.out⟩
end Go.Proofs.YtpijnkfbgieabaaDoor.tri
