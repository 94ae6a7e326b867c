/- A trie's nodes in memory (Nd): what a pointer stands for; F: the blocks that are theirs. No condition. -/
import Derived.Test.YtpijnkfbgieabaaDoorTr1
import Derived.Test.YtpijnkfbgieabaaDoorBaseA
import Derived.Test.YtpijnkfbgieabaaDoorClnB
import Derived.Deep.MidRow
namespace Go.Proofs.YtpijnkfbgieabaaDoor.tri
open Go.RowKit
open Go.Proofs.YtpijnkfbgieabaaDoor.oct Go.Proofs.YtpijnkfbgieabaaDoor.ref Go.Proofs.YtpijnkfbgieabaaDoor.rows Go.Proofs.YtpijnkfbgieabaaDoor.rowg Go.Proofs.YtpijnkfbgieabaaDoor.trn
open Go.Proofs.YtpijnkfbgieabaaDoor.sha (digest digest_len dval)
open Go.Lib (byteCells)

def penc (x : Pr) : List Value := [.string ⟨x.n.toArray⟩, .string ⟨x.v.toArray⟩]
theorem penc_len : ∀ a, (penc a).length = 2 := fun _ => rfl
theorem penc_one : ∀ a : Pr, ∀ u ∈ penc a, u.oneCell' = true := fun a u hu => by
  rcases List.mem_cons.1 hu with rfl | hu
  · rfl
  · rw [List.mem_singleton.1 hu]; rfl
def nptr : Option Nat → Value
  | none => .pointer none
  | some b => .pointer (some ⟨b, 0, none⟩)
def kids (c : Nat → Option Nat) : List Value := (List.range 16).map fun k => nptr (c k)
theorem kids_len (c : Nat → Option Nat) : (kids c).length = 16 := by unfold kids; rw [List.length_map, List.length_range]
theorem kids_at (c : Nat → Option Nat) {k : Nat} (h : k < 16) : (kids c)[k]? = some (nptr (c k)) := by
  unfold kids
  rw [List.getElem?_map, List.getElem?_range h]
  rfl
def ncells (dg : T) (n : Nat) (v : Value) (way : T) (c : Nat → Option Nat) : List Value := byteCells dg ++ (.int .i64 (n : Nat) :: v :: (byteCells way ++ kids c))
/-- block b is a node -/
structure NodeB (w : World) (F : Nat → Prop) (b : Nat) (dg : T) (n : Nat) (v : Value) (way : T) (c : Nat → Option Nat) : Prop where
  blk : Blk w b 114 (ncells dg n v way c)
  dl : dg.length = 32
  wl : way.length = 32
  foot : F b
structure LeafB (w : World) (F : Nat → Prop) (b : Nat) (l : List Pr) (v : Value) (way : T) : Prop where
  nb : NodeB w F b (leafD l) l.length v way (fun _ => none)
  own : w.ownsRow 0 44 2 v l.length (cells penc l)
  of : ∀ k, v.ownBlock = some k → F k
  ways : ∀ x ∈ l, digest x.n = way
  pos : 1 ≤ l.length
def Leaf (w : World) (F : Nat → Prop) (b : Nat) (l : List Pr) : Prop := ∃ v way, LeafB w F b l v way
/-- what a pointer stands for: the pairs l, at depth d; f: how many numbers are left -/
def Nd (w : World) (F : Nat → Prop) : Nat → Nat → Option Nat → List Pr → Prop
  | 0, _, p, l => (p = none ∧ l = []) ∨ ∃ b, p = some b ∧ Leaf w F b l
  | f + 1, d, p, l => (p = none ∧ l = []) ∨ (∃ b, p = some b ∧ Leaf w F b l ∧ l.length = 1) ∨ ∃ b c, p = some b ∧ 2 ≤ l.length ∧ NodeB w F b (digP (f + 1) d l) l.length (.slice none 0 0) zeros c ∧ ∀ k, k < 16 → Nd w F f (d + 1) (c k) (sub l d k)
theorem NodeB.turn {S F F2 : Nat → Prop} {w w' : World} {b : Nat} {dg : T} {n : Nat} {v : Value} {way : T} {c : Nat → Option Nat} (h : NodeB w F b dg n v way c) (ht : Turn S w w') (hd : ∀ k, F k → ¬ S k) (hF : ∀ k, F k → F2 k) : NodeB w' F2 b dg n v way c :=
  ⟨blk_turn h.blk ht (hd b h.foot), h.dl, h.wl, hF b h.foot⟩
theorem Leaf.turn {S F F2 : Nat → Prop} {w w' : World} {b : Nat} {l : List Pr} (h : Leaf w F b l) (ht : Turn S w w') (hd : ∀ k, F k → ¬ S k) (hF : ∀ k, F k → F2 k) : Leaf w' F2 b l := by
  obtain ⟨v, way, h⟩ := h
  exact ⟨v, way, h.nb.turn ht hd hF, own_turn h.own ht fun k hk => hd k (h.of k hk), fun k hk => hF k (h.of k hk), h.ways, h.pos⟩
theorem Nd.turn {S F F2 : Nat → Prop} {w w' : World} (ht : Turn S w w') (hd : ∀ k, F k → ¬ S k) (hF : ∀ k, F k → F2 k) : ∀ {f d : Nat} {p : Option Nat} {l : List Pr}, Nd w F f d p l → Nd w' F2 f d p l
  | 0, _, _, _, h => h.imp id fun ⟨b, e, h⟩ => ⟨b, e, h.turn ht hd hF⟩
  | _ + 1, _, _, _, h => h.imp id fun h => h.imp (fun ⟨b, e, h, h1⟩ => ⟨b, e, h.turn ht hd hF, h1⟩) fun ⟨b, c, e, h2, hn, hk⟩ => ⟨b, c, e, h2, hn.turn ht hd hF, fun k h3 => Nd.turn ht hd hF (hk k h3)⟩
theorem Nd.below {F : Nat → Prop} {w w' : World} {f d : Nat} {p : Option Nat} {l : List Pr} (h : Nd w F f d p l) (hb : Below w.heap.size w w') : Nd w' F f d p l := Nd.turn (S := fun _ => False) (Turn.of_below hb) (fun _ _ => id) (fun _ => id) h
theorem Nd.mono {F F2 : Nat → Prop} {w : World} {f d : Nat} {p : Option Nat} {l : List Pr} (h : Nd w F f d p l) (hF : ∀ k, F k → F2 k) : Nd w F2 f d p l := Nd.turn (S := fun _ => False) (Turn.refl _ w) (fun _ _ => id) hF h
theorem Nd.nil (w : World) (F : Nat → Prop) (f d : Nat) : Nd w F f d none [] := by
  cases f with
  | zero => exact Or.inl ⟨rfl, rfl⟩
  | succ f => exact Or.inl ⟨rfl, rfl⟩
theorem Nd.one {w : World} {F : Nat → Prop} {b : Nat} {l : List Pr} (h : Leaf w F b l) (h1 : l.length = 1) (f d : Nat) : Nd w F f d (some b) l := by
  cases f with
  | zero => exact Or.inr ⟨b, rfl, h⟩
  | succ f => exact Or.inr (Or.inl ⟨b, rfl, h, h1⟩)
/-- what it is -/
theorem Nd.cases {w : World} {F : Nat → Prop} {f d : Nat} {p : Option Nat} {l : List Pr} (h : Nd w F f d p l) :
    (p = none ∧ l = []) ∨ (∃ b v way, p = some b ∧ LeafB w F b l v way ∧ (l.length = 1 ∨ f = 0)) ∨ ∃ f' b c, f = f' + 1 ∧ p = some b ∧ 2 ≤ l.length ∧ NodeB w F b (digP (f' + 1) d l) l.length (.slice none 0 0) zeros c ∧ ∀ k, k < 16 → Nd w F f' (d + 1) (c k) (sub l d k) := by
  cases f with
  | zero =>
    rcases h with h | ⟨b, e, v, way, h⟩
    · exact Or.inl h
    · exact Or.inr (Or.inl ⟨b, v, way, e, h, Or.inr rfl⟩)
  | succ f =>
    rcases h with h | ⟨b, e, ⟨v, way, h⟩, h1⟩ | ⟨b, c, e, h2, hn, hk⟩
    · exact Or.inl h
    · exact Or.inr (Or.inl ⟨b, v, way, e, h, Or.inl h1⟩)
    · exact Or.inr (Or.inr ⟨f, b, c, rfl, e, h2, hn, hk⟩)
/-- the digest of a leaf, wherever it stands -/
theorem leaf_dig {l : List Pr} {f d : Nat} (hp : 1 ≤ l.length) (h : l.length = 1 ∨ f = 0) : leafD l = digP f d l := by
  rcases h with h | rfl
  · rcases l with _ | ⟨x, _ | ⟨y, l⟩⟩
    · simp at hp
    · rw [digP_one]
    · simp at h
  · rw [digP_end]
    intro e
    rw [e] at hp
    simp at hp
/-- the cells of a node -/
theorem NodeB.lt {w : World} {F : Nat → Prop} {b : Nat} {dg : T} {n : Nat} {v : Value} {way : T} {c : Nat → Option Nat} (h : NodeB w F b dg n v way c) : b < w.heap.size := h.blk.lt
theorem NodeB.count {w : World} {F : Nat → Prop} {b : Nat} {dg : T} {n : Nat} {v : Value} {way : T} {c : Nat → Option Nat} (h : NodeB w F b dg n v way c) : w.cell? ⟨b, 32, none⟩ = some (.int .i64 (n : Nat)) := by
  rw [h.blk.cell]
  unfold ncells
  rw [List.getElem?_append_right (by rw [byteCells_len, h.dl]; exact Nat.le_refl _), byteCells_len, h.dl]
  rfl
theorem NodeB.row {w : World} {F : Nat → Prop} {b : Nat} {dg : T} {n : Nat} {v : Value} {way : T} {c : Nat → Option Nat} (h : NodeB w F b dg n v way c) : w.cell? ⟨b, 33, none⟩ = some v := by
  rw [h.blk.cell]
  unfold ncells
  rw [List.getElem?_append_right (by rw [byteCells_len, h.dl]; decide), byteCells_len, h.dl]
  rfl
end Go.Proofs.YtpijnkfbgieabaaDoor.tri
