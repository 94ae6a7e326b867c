/- The developers' lane in memory (LA): its block, its row of packets, the bytes of each, the map of its shut links; R: the blocks that are its own. -/
import Derived.Test.YtdjgafemmihlgaaLan1
import Derived.Test.YtdjgafemmihlgaaTurn
import Derived.Test.YtdjgafemmihlgaaAfter
import Derived.Test.YtdjgafemmihlgaaRows2
import Derived.WideKeyPair
import Derived.DeepKeys4
namespace Go.Proofs.Ytdjgafemmihlgaa.lan
open Go.RowKit
open Go.Proofs.Ytdjgafemmihlgaa.oct Go.Proofs.Ytdjgafemmihlgaa.ref Go.Proofs.Ytdjgafemmihlgaa.rows Go.Proofs.Ytdjgafemmihlgaa.rowg Go.Proofs.Ytdjgafemmihlgaa.trn
open Go.Lib (byteCells)

/-- a packet as it lies in memory -/
structure Qk where
  a : Nat
  b : Nat
  p : Option Addr
  c : Nat
  d : T
instance : Inhabited Qk := ⟨⟨0, 0, none, 0, []⟩⟩
def Qk.f (x : Qk) : Pk := ⟨x.a, x.b, x.d⟩
def Qk.v (x : Qk) : Value := .slice x.p x.d.length x.c
def qenc (x : Qk) : List Value := [.int .i64 (x.a : Nat), .int .i64 (x.b : Nat), .slice x.p x.d.length x.c]
theorem qenc_len : ∀ a, (qenc a).length = 3 := fun _ => rfl
theorem qenc_one : ∀ a, ∀ u ∈ qenc a, u.oneCell' = true := fun a u h => by
  simp only [qenc, List.mem_cons, List.not_mem_nil, or_false] at h
  rcases h with rfl | rfl | rfl <;> rfl
/-- a packet's bytes lie in a block of R, which it has for itself -/
structure QOK (w : World) (R : Nat → Prop) (x : Qk) : Prop where
  own : w.ownsRow 0 5 1 x.v x.d.length (byteCells x.d)
  foot : ∀ b, x.v.ownBlock = some b → R b
theorem QOK.turn {S R : Nat → Prop} {w w' : World} {x : Qk} (h : QOK w R x) (ht : Turn S w w') (hd : ∀ k, R k → ¬ S k) : QOK w' R x := ⟨own_turn h.own ht fun b hb => hd b (h.foot b hb), h.foot⟩
theorem QOK.mono {R R2 : Nat → Prop} {w : World} {x : Qk} (h : QOK w R x) (hs : ∀ k, R k → R2 k) : QOK w R2 x := ⟨h.own, fun b e => hs b (h.foot b e)⟩
theorem QOK.in8 {w : World} {R : Nat → Prop} {x : Qk} (h : QOK w R x) : In8 w x.p x.d := by
  obtain ⟨_, p, cp, h2, h3⟩ := own_in8 h.own
  unfold Qk.v at h2
  injection h2 with h2
  rw [h2]
  exact h3
theorem QOK.room {w : World} {R : Nat → Prop} {x : Qk} (h : QOK w R x) : x.d.length ≤ x.c ∧ (x.p = none → x.c = 0) := by
  rcases (own_cells h.own).2 with ⟨h1, h2⟩ | ⟨g, cp, h1, _, _, h4, _⟩
  · unfold Qk.v at h1
    injection h1 with h1 h2 h3
    exact ⟨by omega, fun _ => h3⟩
  · unfold Qk.v at h1
    injection h1 with h1 h2 h3
    exact ⟨by omega, fun e => by rw [h1] at e; cases e⟩
/-- a row of packets -/
structure WayM (w : World) (R : Nat → Prop) (v : Value) (qs : List Qk) : Prop where
  own : w.ownsRow 0 44 3 v qs.length (cells qenc qs)
  foot : ∀ b, v.ownBlock = some b → R b
  each : ∀ x ∈ qs, QOK w R x
theorem WayM.turn {S R : Nat → Prop} {w w' : World} {v : Value} {qs : List Qk} (h : WayM w R v qs) (ht : Turn S w w') (hd : ∀ k, R k → ¬ S k) : WayM w' R v qs :=
  ⟨own_turn h.own ht fun b hb => hd b (h.foot b hb), h.foot, fun x hx => (h.each x hx).turn ht hd⟩
theorem WayM.mono {R R2 : Nat → Prop} {w : World} {v : Value} {qs : List Qk} (h : WayM w R v qs) (hs : ∀ k, R k → R2 k) : WayM w R2 v qs := ⟨h.own, fun b e => hs b (h.foot b e), fun x hx => (h.each x hx).mono hs⟩
/-- where a row's elements stand -/
theorem WayM.at {w : World} {R : Nat → Prop} {v : Value} {qs : List Qk} (h : WayM w R v qs) : ∃ p c, v = .slice p qs.length c ∧ qs.length ≤ c ∧ (p = none → c = 0) ∧ ∀ i (hi : i < qs.length), ∃ b, p = some ⟨b, 0, none⟩ ∧ w.cell? ⟨b, i * 3, none⟩ = some (.int .i64 ((qs[i]).a : Nat)) ∧ w.cell? ⟨b, i * 3 + 1, none⟩ = some (.int .i64 ((qs[i]).b : Nat)) ∧ w.cell? ⟨b, i * 3 + 2, none⟩ = some (qs[i]).v ∧ w.frozen? ⟨b, i * 3, none⟩ = false ∧ w.frozen? ⟨b, i * 3 + 1, none⟩ = false ∧ w.frozen? ⟨b, i * 3 + 2, none⟩ = false := by
  obtain ⟨p, c, rfl, h1, h2, h3⟩ := own_g qenc_len (by decide) h.own
  refine ⟨p, c, rfl, h1, h2, fun i hi => ?_⟩
  obtain ⟨b, o, e, hc⟩ := InG.cells h3 i hi
  subst e
  rcases h.own.2 with ⟨e1, _⟩ | ⟨g, cap, cur, e1, _, hg, _⟩
  · injection e1 with e1; cases e1
  · injection e1 with e1 _ _
    injection e1 with e1
    injection e1 with e1 e2 e3
    subst e1
    subst e2
    have hf : ∀ j, w.frozen? ⟨b, j, none⟩ = false := fun j => by simp [World.frozen?, hg]
    have h0 := hc 0 (by decide)
    have h1 := hc 1 (by decide)
    have h2 := hc 2 (by decide)
    rw [Nat.zero_add] at h0 h1 h2
    exact ⟨b, rfl, h0, h1, h2, hf _, hf _, hf _⟩
/-- the key of a link -/
abbrev lkv (a b : Nat) : Value := .agg #[.int .i64 ((min a b : Nat) : Int), .int .i64 ((max a b : Nat) : Int)]
def lk (a b : Nat) : Lit := .string (keyBytes [.int .i64 ((min a b : Nat) : Int), .int .i64 ((max a b : Nat) : Int)])
theorem laidOut : laidOutB Try.prog = true := by kernel_rfl
theorem linkArr : WideMaps.ArrKey Try.prog 71 3 2 := ⟨Try.underlying71, by kernel_rfl, by kernel_rfl, by kernel_rfl⟩
theorem linkLaw : WideMaps.KeyLaw Try.prog 71 := linkArr.law
theorem linkKeyed : Maps.Keyed Try.prog 71 := Maps.Keyed.of_law linkLaw
theorem nat_wf {n : Nat} (h : n ≤ 9223372036854775807) : (Lit.int .i64 (n : Int)).wf = true := by
  have h1 : IntKind.i64.min = -9223372036854775808 := rfl
  have h2 : IntKind.i64.max = 9223372036854775807 := rfl
  simp only [Lit.wf, Bool.and_eq_true, decide_eq_true_eq]
  omega
theorem keyLk {a b : Nat} (ha : a ≤ 9223372036854775807) (hb : b ≤ 9223372036854775807) : keyOf Try.prog 71 (lkv a b) = some (lk a b) :=
  WideMaps.keyOf_pair linkArr Try.underlying3 ⟨Try.prog.types.size - 1, by kernel_rfl⟩ (nat_wf (by omega)) (nat_wf (by omega))
theorem lk_inj {a b c d : Nat} (ha : a ≤ 100) (hb : b ≤ 100) (hc : c ≤ 100) (hd : d ≤ 100) (h : lk a b = lk c d) : (a = c ∧ b = d) ∨ (a = d ∧ b = c) := by
  have h1 := keyLk (a := a) (b := b) (by omega) (by omega)
  have h2 := keyLk (a := c) (b := d) (by omega) (by omega)
  rw [← h] at h2
  have h3 := linkKeyed.inj h1 h2
  unfold lkv at h3
  injection h3 with h3
  injection h3 with h3
  injection h3 with h4 h5
  injection h5 with h5 _
  injection h4 with _ h4
  injection h5 with _ h5
  omega
theorem lk_comm (a b : Nat) : lk a b = lk b a := by unfold lk; rw [Nat.min_comm, Nat.max_comm]
/-- what the map of shut links says -/
def IsShut (D : DataW Unit) (f : Nat → Nat → Bool) : Prop := ∀ a b : Nat, a < 32 → b < 32 → Maps.has D (lk a b) = f a b
theorem isShut_nil : IsShut (.map []) (fun _ _ => false) := fun a b _ _ => by simp [Maps.has]
theorem isShut_put {D : DataW Unit} {f : Nat → Nat → Bool} (hD : Maps.IsMap D) (h : IsShut D f) {a b : Nat} (ha : a < 32) (hb : b < 32) : IsShut (D.put (lk a b) (.agg [])) (linkS f a b true) := fun x y hx hy => by
  unfold linkS
  by_cases e : (x = a ∧ y = b) ∨ (x = b ∧ y = a)
  · rw [if_pos e]
    have : lk x y = lk a b := by rcases e with ⟨rfl, rfl⟩ | ⟨rfl, rfl⟩; rfl; exact lk_comm _ _
    rw [this]
    exact Maps.has_put_same hD (linkKeyed.key (keyLk (a := a) (b := b) (by omega) (by omega))) _
  · rw [if_neg e, Maps.has_put_other (fun h2 => e (lk_inj (by omega) (by omega) (by omega) (by omega) h2))]
    exact h x y hx hy
theorem isShut_del {D : DataW Unit} {f : Nat → Nat → Bool} (h : IsShut D f) {a b : Nat} (ha : a < 32) (hb : b < 32) : IsShut (D.del (lk a b)) (linkS f a b false) := fun x y hx hy => by
  unfold linkS
  by_cases e : (x = a ∧ y = b) ∨ (x = b ∧ y = a)
  · rw [if_pos e]
    have : lk x y = lk a b := by rcases e with ⟨rfl, rfl⟩ | ⟨rfl, rfl⟩; rfl; exact lk_comm _ _
    rw [this]
    exact Maps.has_del_same
  · rw [if_neg e, Maps.has_del_other (fun h2 => e (lk_inj (by omega) (by omega) (by omega) (by omega) h2))]
    exact h x y hx hy
/-- block g is the lane, part by part -/
structure LM (w : World) (R : Nat → Prop) (g : Nat) (v : Value) (qs : List Qk) (m cnt : Nat) (D : DataW Unit) (n : Nat) : Prop where
  mem : R g
  lt : ∀ k, R k → k < w.heap.size
  blk : Blk w g 62 [.int .i64 (n : Nat), v, .map (some m)]
  way : WayM w R v qs
  apart : qs.Pairwise fun x y => Disj x.v y.v
  map : w.ownsMap Try.prog 71 unitElem m cnt D
  mmem : R m
/-- block g is the lane in the state s -/
def LA (w : World) (R : Nat → Prop) (g : Nat) (s : LS) : Prop := ∃ v qs m cnt D, LM w R g v qs m cnt D s.n ∧ qs.map Qk.f = s.ps ∧ cnt ≤ s.cn ∧ IsShut D s.sh
theorem LM.turn {S R : Nat → Prop} {w w' : World} {g m cnt n : Nat} {v : Value} {qs : List Qk} {D : DataW Unit} (h : LM w R g v qs m cnt D n) (ht : Turn S w w') (hd : ∀ k, R k → ¬ S k) : LM w' R g v qs m cnt D n :=
  ⟨h.mem, fun k hk => Nat.lt_of_lt_of_le (h.lt k hk) ht.size, blk_turn h.blk ht (hd g h.mem), h.way.turn ht hd, h.apart, map_turn h.map ht (hd m h.mmem), h.mmem⟩
theorem LA.turn {S R : Nat → Prop} {w w' : World} {g : Nat} {s : LS} (h : LA w R g s) (ht : Turn S w w') (hd : ∀ k, R k → ¬ S k) : LA w' R g s := by
  obtain ⟨v, qs, m, cnt, D, h1, h2⟩ := h
  exact ⟨v, qs, m, cnt, D, h1.turn ht hd, h2⟩
theorem LA.below {R : Nat → Prop} {w w' : World} {g : Nat} {s : LS} (h : LA w R g s) (hb : Below w.heap.size w w') : LA w' R g s := h.turn (Turn.of_below (S := fun _ => False) hb) fun _ _ => id
theorem LA.lt {R : Nat → Prop} {w : World} {g : Nat} {s : LS} (h : LA w R g s) : ∀ k, R k → k < w.heap.size := by
  obtain ⟨_, _, _, _, _, h1, _⟩ := h
  exact h1.lt
/-- what a call makes of a lane: its state; blocks that are new may be its own now -/
def To (w w' : World) (R : Nat → Prop) (g : Nat) (s : LS) : Prop := ∃ R', LA w' R' g s ∧ Turn R w w' ∧ Grown R R' w
theorem To.refl {w : World} {R : Nat → Prop} {g : Nat} {s : LS} (h : LA w R g s) : To w w R g s := ⟨R, h, Turn.refl R w, Grown.refl R w⟩
theorem To.same {w w' : World} {R : Nat → Prop} {g : Nat} {s : LS} (h : LA w R g s) (hb : Below w.heap.size w w') : To w w' R g s := ⟨R, h.below hb, Turn.of_below hb, Grown.refl R w⟩
/-- the packets in memory, by their words -/
theorem map_len {qs : List Qk} {ps : List Pk} (h : qs.map Qk.f = ps) : qs.length = ps.length := by rw [← h, List.length_map]
theorem map_at {qs : List Qk} {ps : List Pk} (h : qs.map Qk.f = ps) {i : Nat} (hi : i < qs.length) : ps.getD i zeroPk = (qs[i]).f := by
  subst h
  rw [getD_at (by rw [List.length_map]; exact hi), List.getElem_map]
end Go.Proofs.Ytdjgafemmihlgaa.lan
