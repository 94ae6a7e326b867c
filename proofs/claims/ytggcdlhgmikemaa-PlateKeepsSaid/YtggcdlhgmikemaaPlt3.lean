/- The reference's plate in memory (RP): its block, its row of files, the bytes of each; which blocks that are. -/
import Derived.Test.YtggcdlhgmikemaaPlt2
import Derived.Test.YtggcdlhgmikemaaTurn
import Derived.Test.YtggcdlhgmikemaaRows2
import Derived.Test.YtggcdlhgmikemaaAfter
import Derived.WalkKit
namespace Go.Proofs.Ytggcdlhgmikemaa.plt
open Go.RowKit
open Go.Proofs.Ytggcdlhgmikemaa.oct Go.Proofs.Ytggcdlhgmikemaa.ref Go.Proofs.Ytggcdlhgmikemaa.rows Go.Proofs.Ytggcdlhgmikemaa.rowg Go.Proofs.Ytggcdlhgmikemaa.trn
open Go.Lib (byteCells)

/-- a file as it lies in memory: where its bytes are, with what room -/
structure FA where
  n : T
  p : Option Addr
  c : Nat
  b : T
  s : Nat
instance : Inhabited FA := ⟨⟨[], none, 0, [], 0⟩⟩
def FA.f (x : FA) : F := ⟨x.n, x.b, x.s⟩
def fenc (x : FA) : List Value := [.string ⟨x.n.toArray⟩, .slice x.p x.b.length x.c, .int .i64 (x.s : Nat)]
theorem fenc_len : ∀ a, (fenc a).length = 3 := fun _ => rfl
theorem fenc_one : ∀ a, ∀ u ∈ fenc a, u.oneCell' = true := fun a u h => by
  simp only [fenc, List.mem_cons, List.not_mem_nil, or_false] at h
  rcases h with rfl | rfl | rfl <;> rfl
/-- a file's bytes lie in a block of R -/
structure FileOK (w : World) (R : Nat → Prop) (x : FA) : Prop where
  row : In8 w x.p x.b
  nil : x.p = none → x.c = 0
  room : x.b.length ≤ x.c
  foot : ∀ b o, x.p = some ⟨b, o, none⟩ → R b
/-- rows at blocks that have not turned -/
theorem in8_turnR {S R : Nat → Prop} {w w' : World} {p : Option Addr} {l : T} (h : In8 w p l) (ht : Turn S w w') (hf : ∀ b o, p = some ⟨b, o, none⟩ → R b) (hd : ∀ k, R k → ¬ S k) : In8 w' p l := by
  intro hl
  obtain ⟨b, o, rfl, hc⟩ := h hl
  exact ⟨b, o, rfl, fun i hi => (World.cell?_of_block (ht.block b (cell_lt (hc i hi)) (hd b (hf b o rfl)))).trans (hc i hi)⟩
theorem ing_turnR {S : Nat → Prop} {α : Type} {enc : α → List Value} {k : Nat} {w w' : World} {P : Option Addr} {ps : List α} (hk : ∀ a, (enc a).length = k) (h0 : 0 < k) (h : InG enc k w P ps) (ht : Turn S w w') (hf : ∀ b o, P = some ⟨b, o, none⟩ → ¬ S b) : InG enc k w' P ps := by
  intro hl
  obtain ⟨b, o, rfl, hc⟩ := h hl
  have h1 := hc 0 hl 0 h0
  have h2 : ∃ u, (enc (ps[0]))[0]? = some u := ⟨_, List.getElem?_eq_getElem (by rw [hk]; exact h0)⟩
  obtain ⟨u, hu⟩ := h2
  rw [hu] at h1
  have hlt : b < w.heap.size := cell_lt h1
  exact ⟨b, o, rfl, fun i hi j hj => (World.cell?_of_block (ht.block b hlt (hf b o rfl))).trans (hc i hi j hj)⟩
theorem FileOK.turn {S R : Nat → Prop} {w w' : World} {x : FA} (h : FileOK w R x) (ht : Turn S w w') (hd : ∀ k, R k → ¬ S k) : FileOK w' R x := ⟨in8_turnR h.row ht h.foot hd, h.nil, h.room, h.foot⟩
theorem FileOK.mono {R R2 : Nat → Prop} {w : World} {x : FA} (h : FileOK w R x) (hs : ∀ k, R k → R2 k) : FileOK w R2 x := ⟨h.row, h.nil, h.room, fun b o e => hs b (h.foot b o e)⟩
/-- block g is the reference's plate, field by field; R: the blocks of its files -/
structure RM (w : World) (R : Nat → Prop) (g : Nat) (P : Option Addr) (c : Nat) (fs : List FA) (room : Nat) (arm : Bool) (k : Int) (down : Bool) : Prop where
  lt : ∀ k, R k → k < w.heap.size
  own : ¬ R g
  blk : Blk w g 31 [.slice P fs.length c, .int .i64 (room : Nat), .bool arm, .int .i64 k, .bool down]
  row : InG fenc 3 w P fs
  nil : P = none → c = 0
  cap : fs.length ≤ c
  foot : ∀ b o, P = some ⟨b, o, none⟩ → R b
  files : ∀ x ∈ fs, FileOK w R x
/-- block g is the reference's plate in the state st -/
def RP (w : World) (R : Nat → Prop) (g : Nat) (st : PS) : Prop :=
  ∃ P c fs k, RM w R g P c fs st.room st.left.isSome k st.down ∧ fs.map FA.f = st.fs ∧ (∀ n, st.left = some n → k = (n : Int)) ∧ -9223372036854775808 ≤ k ∧ k ≤ 9223372036854775807
theorem RM.turn {S R : Nat → Prop} {w w' : World} {g c room : Nat} {P : Option Addr} {fs : List FA} {arm down : Bool} {k : Int} (h : RM w R g P c fs room arm k down) (ht : Turn S w w') (hd : ∀ k, R k → ¬ S k) (hg : ¬ S g) : RM w' R g P c fs room arm k down :=
  ⟨fun k hk => Nat.lt_of_lt_of_le (h.lt k hk) ht.size, h.own, (ht.block g h.blk.lt hg).trans h.blk, ing_turnR fenc_len (by decide) h.row ht (fun b o e => hd b (h.foot b o e)), h.nil, h.cap, h.foot, fun x hx => (h.files x hx).turn ht hd⟩
theorem RP.turn {S R : Nat → Prop} {w w' : World} {g : Nat} {st : PS} (h : RP w R g st) (ht : Turn S w w') (hd : ∀ k, R k → ¬ S k) (hg : ¬ S g) : RP w' R g st := by
  obtain ⟨P, c, fs, k, h1, h2⟩ := h
  exact ⟨P, c, fs, k, h1.turn ht hd hg, h2⟩
/-- one field of the block is written -/
theorem RM.other {R : Nat → Prop} {w w' : World} {g : Nat} {P : Option Addr} {fs : List FA} {c room : Nat} {arm down : Bool} {k : Int} (h : RM w R g P c fs room arm k down) (hg : w.grownBy w' (some g)) {room2 : Nat} {arm2 down2 : Bool} {k2 : Int}
    (hB : Blk w' g 31 [.slice P fs.length c, .int .i64 (room2 : Nat), .bool arm2, .int .i64 k2, .bool down2]) : RM w' R g P c fs room2 arm2 k2 down2 := by
  have ht : Turn (fun i => i = g) w w' := Turn.of_grown hg rfl
  have hd : ∀ k, R k → ¬ (k = g) := fun k hk e => h.own (e ▸ hk)
  exact ⟨fun k hk => Nat.lt_of_lt_of_le (h.lt k hk) hg.size, h.own, hB, ing_turnR fenc_len (by decide) h.row ht (fun b o e => hd b (h.foot b o e)), h.nil, h.cap, h.foot, fun x hx => (h.files x hx).turn ht hd⟩
theorem RM.at {R : Nat → Prop} {w : World} {g c room : Nat} {P : Option Addr} {fs : List FA} {arm down : Bool} {k : Int} (h : RM w R g P c fs room arm k down) (i : Nat) (hi : i < fs.length) : ∃ b o, P = some ⟨b, o, none⟩ ∧ w.cell? ⟨b, o + i * 3, none⟩ = some (.string ⟨(fs[i]).n.toArray⟩) ∧ w.cell? ⟨b, o + i * 3 + 1, none⟩ = some (.slice (fs[i]).p (fs[i]).b.length (fs[i]).c) ∧ w.cell? ⟨b, o + i * 3 + 2, none⟩ = some (.int .i64 ((fs[i]).s : Nat)) := by
  obtain ⟨b, o, e, hc⟩ := InG.cells h.row i hi
  exact ⟨b, o, e, hc 0 (by decide), hc 1 (by decide), hc 2 (by decide)⟩
end Go.Proofs.Ytggcdlhgmikemaa.plt
