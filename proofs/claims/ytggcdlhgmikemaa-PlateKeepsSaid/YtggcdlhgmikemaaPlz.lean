/- Both plates beside each other (QS), beside blocks of neither; a call of either. No condition. -/
import Derived.Test.YtggcdlhgmikemaaPka
import Derived.Test.YtggcdlhgmikemaaPlt9
namespace Go.Proofs.Ytggcdlhgmikemaa.plt
open Go.RowKit
open Go.Proofs.Ytggcdlhgmikemaa.oct Go.Proofs.Ytggcdlhgmikemaa.ref Go.Proofs.Ytggcdlhgmikemaa.rows Go.Proofs.Ytggcdlhgmikemaa.rowg Go.Proofs.Ytggcdlhgmikemaa.trn
open Go.Lib (byteCells)

/-- the reference's plate, its own block among R -/
def RB (w : World) (R : Nat → Prop) (g : Nat) (t : PS) : Prop := ∃ R0, RP w R0 g t ∧ ∀ k, R k ↔ R0 k ∨ k = g
theorem RB.lt {w : World} {R : Nat → Prop} {g : Nat} {t : PS} (h : RB w R g t) : ∀ k, R k → k < w.heap.size := by
  obtain ⟨R0, h1, h2⟩ := h
  intro k hk
  rcases (h2 k).1 hk with e | rfl
  · exact h1.lt.1 k e
  · exact h1.lt.2.1
theorem RB.turn {S R : Nat → Prop} {w w' : World} {g : Nat} {t : PS} (h : RB w R g t) (ht : Turn S w w') (hd : ∀ k, R k → ¬ S k) : RB w' R g t := by
  obtain ⟨R0, h1, h2⟩ := h
  exact ⟨R0, h1.turn ht (fun k hk => hd k ((h2 k).2 (Or.inl hk))) (hd g ((h2 g).2 (Or.inr rfl))), h2⟩
theorem RB.below {R : Nat → Prop} {w w' : World} {g : Nat} {t : PS} (h : RB w R g t) (hb : Below w.heap.size w w') : RB w' R g t := h.turn (Turn.of_below (S := fun _ => False) hb) fun _ _ => id
def RTo (w w' : World) (R : Nat → Prop) (g : Nat) (t : PS) : Prop := ∃ R', RB w' R' g t ∧ Turn R w w' ∧ Grown R R' w
theorem RB.to {w w' : World} {R R0 : Nat → Prop} {g : Nat} {t2 : PS} (h2 : ∀ k, R k ↔ R0 k ∨ k = g) (e2 : RP w' (Rx R0 w w') g t2) (e3 : w.grownBy w' (some g)) : RTo w w' R g t2 := by
  refine ⟨fun k => Rx R0 w w' k ∨ k = g, ⟨_, e2, fun k => Iff.rfl⟩, Turn.of_grown e3 ((h2 g).2 (Or.inr rfl)), ?_⟩
  rintro k ((hk | hk) | rfl)
  · exact Or.inl ((h2 k).2 (Or.inl hk))
  · exact Or.inr hk.1
  · exact Or.inl ((h2 _).2 (Or.inr rfl))
theorem RB.same {w w' : World} {R R0 : Nat → Prop} {g : Nat} {t2 : PS} (h2 : ∀ k, R k ↔ R0 k ∨ k = g) (e2 : RP w' R0 g t2) (e3 : w.grownBy w' (some g)) : RTo w w' R g t2 :=
  ⟨R, ⟨R0, e2, h2⟩, Turn.of_grown e3 ((h2 g).2 (Or.inr rfl)), Grown.refl R w⟩
/-- both plates, beside blocks that are none of theirs (X) -/
structure QR (w wx : World) (gl gr : Nat) (s t : PS) (X R1 R2 : Nat → Prop) : Prop where
  la : PA wx R1 gl s
  ra : RB wx R2 gr t
  two : ∀ k, R1 k → ¬ R2 k
  lo : ∀ k, R1 k → w.heap.size ≤ k
  ro : ∀ k, R2 k → w.heap.size ≤ k
  x1 : ∀ k, X k → ¬ R1 k
  x2 : ∀ k, X k → ¬ R2 k
  ext : ∀ k, X k → k < wx.heap.size
  ws : Wf s
  wt : Wf t
  below : Below w.heap.size w wx
def QS (w wx : World) (gl gr : Nat) (s t : PS) (X : Nat → Prop) : Prop := ∃ R1 R2, QR w wx gl gr s t X R1 R2
theorem QR.more {w wx w2 : World} {gl gr : Nat} {s t : PS} {X Y R1 R2 : Nat → Prop} (h : QR w wx gl gr s t X R1 R2) (hb : Below wx.heap.size wx w2) (hY : ∀ k, Y k → X k ∨ (wx.heap.size ≤ k ∧ k < w2.heap.size)) : QR w w2 gl gr s t Y R1 R2 :=
  ⟨h.la.below hb, h.ra.below hb, h.two, h.lo, h.ro, fun k hk hr => (hY k hk).elim (fun e => h.x1 k e hr) fun e => by have := h.la.lt k hr; omega,
    fun k hk hr => (hY k hk).elim (fun e => h.x2 k e hr) fun e => by have := h.ra.lt k hr; omega, fun k hk => (hY k hk).elim (fun e => Nat.lt_of_lt_of_le (h.ext k e) hb.size) fun e => e.2, h.ws, h.wt, bnext h.below hb⟩
theorem QS.more {w wx w2 : World} {gl gr : Nat} {s t : PS} {X Y : Nat → Prop} (h : QS w wx gl gr s t X) (hb : Below wx.heap.size wx w2) (hY : ∀ k, Y k → X k ∨ (wx.heap.size ≤ k ∧ k < w2.heap.size)) : QS w w2 gl gr s t Y := by
  obtain ⟨R1, R2, h⟩ := h
  exact ⟨R1, R2, h.more hb hY⟩
theorem QS.same {w wx w2 : World} {gl gr : Nat} {s t : PS} {X : Nat → Prop} (h : QS w wx gl gr s t X) (hb : Below wx.heap.size wx w2) : QS w w2 gl gr s t X := h.more hb fun _ e => Or.inl e
theorem QS.less {w wx : World} {gl gr : Nat} {s t : PS} {X Y : Nat → Prop} (h : QS w wx gl gr s t X) (hY : ∀ k, Y k → X k) : QS w wx gl gr s t Y := h.more (Below.refl _ _) fun k e => Or.inl (hY k e)
theorem QS.below {w wx : World} {gl gr : Nat} {s t : PS} {X : Nat → Prop} (h : QS w wx gl gr s t X) : Below w.heap.size w wx := by
  obtain ⟨_, _, h⟩ := h
  exact h.below
theorem QS.ws {w wx : World} {gl gr : Nat} {s t : PS} {X : Nat → Prop} (h : QS w wx gl gr s t X) : Wf s := by
  obtain ⟨_, _, h⟩ := h
  exact h.ws
theorem QS.wt {w wx : World} {gl gr : Nat} {s t : PS} {X : Nat → Prop} (h : QS w wx gl gr s t X) : Wf t := by
  obtain ⟨_, _, h⟩ := h
  exact h.wt
theorem QR.left {w wx w2 : World} {gl gr : Nat} {s t s2 : PS} {X R1 R2 : Nat → Prop} (h : QR w wx gl gr s t X R1 R2) (hw : Wf s2) (ht : To wx w2 R1 gl s2) : QS w w2 gl gr s2 t X ∧ Turn (fun k => ¬ X k) wx w2 := by
  obtain ⟨R', t1, t2, t3⟩ := ht
  exact ⟨⟨R', R2, t1, h.ra.turn t2 fun k hk hr => h.two k hr hk, fun k hk hr => (t3 k hk).elim (fun e => h.two k e hr) fun e => (by have := h.ra.lt k hr; omega), fun k hk => (t3 k hk).elim (h.lo k) fun e => Nat.le_trans h.below.size e, h.ro,
    fun k hk hr => (t3 k hr).elim (h.x1 k hk) fun e => (by have := h.ext k hk; omega), h.x2, fun k hk => Nat.lt_of_lt_of_le (h.ext k hk) t2.size, hw, h.wt, t2.below h.below h.lo h.below.size⟩, t2.mono fun k _ hk hx => h.x1 k hx hk⟩
theorem QR.right {w wx w2 : World} {gl gr : Nat} {s t t2 : PS} {X R1 R2 : Nat → Prop} (h : QR w wx gl gr s t X R1 R2) (hw : Wf t2) (ht : RTo wx w2 R2 gr t2) : QS w w2 gl gr s t2 X ∧ Turn (fun k => ¬ X k) wx w2 := by
  obtain ⟨R', t1, t2, t3⟩ := ht
  exact ⟨⟨R1, R', h.la.turn t2 fun k hk hr => h.two k hk hr, t1, fun k hk hr => (t3 k hr).elim (fun e => h.two k hk e) fun e => (by have := h.la.lt k hk; omega), h.lo, fun k hk => (t3 k hk).elim (h.ro k) fun e => Nat.le_trans h.below.size e, h.x1,
    fun k hk hr => (t3 k hr).elim (h.x2 k hk) fun e => (by have := h.ext k hk; omega), fun k hk => Nat.lt_of_lt_of_le (h.ext k hk) t2.size, h.ws, hw, t2.below h.below h.ro h.below.size⟩, t2.mono fun k _ hk hx => h.x2 k hx hk⟩
/-- a call of the program's plate -/
theorem QS.runL {w wx : World} {gl gr : Nat} {s t s2 : PS} {X : Nat → Prop} {P : Program} {f : FuncId} {args : Array Value} {Q : Ending → Prop} (h : QS w wx gl gr s t X) (hw : Wf s2)
    (hc : ∀ R, PA wx R gl s → Calls P f args wx fun e w2 => Q e ∧ To wx w2 R gl s2) : Calls P f args wx fun e w2 => Q e ∧ QS w w2 gl gr s2 t X ∧ Turn (fun k => ¬ X k) wx w2 := by
  obtain ⟨R1, R2, h⟩ := h
  exact (hc R1 h.la).mono fun e w2 ⟨hq, ht⟩ => ⟨hq, h.left hw ht⟩
/-- a call of the document's -/
theorem QS.runR {w wx : World} {gl gr : Nat} {s t t2 : PS} {X : Nat → Prop} {P : Program} {f : FuncId} {args : Array Value} {Q : Ending → Prop} (h : QS w wx gl gr s t X) (hw : Wf t2)
    (hc : ∀ R, RB wx R gr t → Calls P f args wx fun e w2 => Q e ∧ RTo wx w2 R gr t2) : Calls P f args wx fun e w2 => Q e ∧ QS w w2 gl gr s t2 X ∧ Turn (fun k => ¬ X k) wx w2 := by
  obtain ⟨R1, R2, h⟩ := h
  exact (hc R2 h.ra).mono fun e w2 ⟨hq, ht⟩ => ⟨hq, h.right hw ht⟩
/-- a cell of a block of X is written -/
theorem QR.set {w wx w2 : World} {gl gr : Nat} {s t : PS} {X R1 R2 : Nat → Prop} (h : QR w wx gl gr s t X R1 R2) {b : Nat} (hb : X b) (hw : w.heap.size ≤ b) (ht : Turn (fun k => k = b) wx w2) : QR w w2 gl gr s t X R1 R2 :=
  ⟨h.la.turn ht fun _ hk e => h.x1 b hb (e ▸ hk), h.ra.turn ht fun _ hk e => h.x2 b hb (e ▸ hk), h.two, h.lo, h.ro, h.x1, h.x2, fun k hk => Nat.lt_of_lt_of_le (h.ext k hk) ht.size, h.ws, h.wt, ht.below h.below (fun _ e => e ▸ hw) h.below.size⟩
theorem QS.set {w wx w2 : World} {gl gr : Nat} {s t : PS} {X : Nat → Prop} (h : QS w wx gl gr s t X) {b : Nat} (hb : X b) (hw : w.heap.size ≤ b) (ht : Turn (fun k => k = b) wx w2) : QS w w2 gl gr s t X := by
  obtain ⟨R1, R2, h⟩ := h
  exact ⟨R1, R2, h.set hb hw ht⟩
theorem out_of_ing {w : World} {p : Option Addr} {l : List Int} (h : InG ienc 1 w p l) (hl : l ≠ []) {b o : Nat} {x : Option Nat} (e : p = some ⟨b, o, x⟩) : b < w.heap.size := by
  obtain ⟨b1, o1, e1, hc⟩ := InG.cells h 0 (List.length_pos_iff.2 hl)
  have h5 := hc 0 (by decide)
  rw [e] at e1
  injection e1 with e1
  injection e1 with e1 _ _
  have h6 : ∃ u, (ienc (l[0]'(List.length_pos_iff.2 hl)))[0]? = some u := ⟨_, rfl⟩
  obtain ⟨u, hu⟩ := h6
  rw [hu] at h5
  have h7 := cell_lt h5
  dsimp only at h7
  omega
theorem in8_lt {w : World} {p : Option Addr} {l : T} (h : In8 w p l) (hl : l ≠ []) {b o : Nat} {x : Option Nat} (e : p = some ⟨b, o, x⟩) : b < w.heap.size := by
  obtain ⟨b1, o1, e1, hc⟩ := h (List.length_pos_iff.2 hl)
  rw [e] at e1
  injection e1 with e1
  injection e1 with e1 _ _
  have h5 := cell_lt (hc 0 (List.length_pos_iff.2 hl))
  dsimp only at h5
  omega
/-- the reference's calls, by blocks -/
theorem RB.append {w wx : World} {R : Nat → Prop} {g : Nat} {t : PS} (h : RB wx R g t) (hb : Below w.heap.size w wx) (hlo : ∀ k, R k → w.heap.size ≤ k) (hw : Wf t) (n : T) (hn : n.length ≤ 140737488351232) (p : Option Addr) (c : Nat) (b : T) (hp : In8 w p b) (hc : p = none → c = 0) (hbl : b.length ≤ 140737488355328) :
    Calls Try.prog 25 #[dptr g, .string ⟨n.toArray⟩, .slice p b.length c] wx fun e w' => e = .returned (.int .i64 ((appP t n b).1 : Nat)) ∧ RTo wx w' R g (appP t n b).2 := by
  obtain ⟨R0, h1, h2⟩ := h
  refine (rappend_c h1 hw n p c b (by omega) (hp.below hb) hc hbl fun hne k o e he => ?_).mono fun e w' ⟨e1, e2, e3⟩ => ⟨e1, RB.to h2 e2 e3⟩
  have h3 := in8_lt hp hne e
  have h4 := hlo g ((h2 g).2 (Or.inr rfl))
  omega
theorem RB.sync {wx : World} {R : Nat → Prop} {g : Nat} {t : PS} (h : RB wx R g t) (hw : Wf t) (n : T) (hn : n.length ≤ 140737488351232) :
    Calls Try.prog 30 #[dptr g, .string ⟨n.toArray⟩] wx fun e w' => e = .returned (.int .i64 ((synP t n).1 : Nat)) ∧ RTo wx w' R g (synP t n).2 := by
  obtain ⟨R0, h1, h2⟩ := h
  exact (rsync_c h1 hw n (by omega)).mono fun e w' ⟨e1, e2, e3⟩ => ⟨e1, RB.to h2 e2 e3⟩
theorem RB.cut {wx : World} {R : Nat → Prop} {g : Nat} {t : PS} (h : RB wx R g t) (hw : Wf t) (n : T) (hn : n.length ≤ 140737488351232) (k : Int) (h1k : -9223372036854775808 ≤ k) (h2k : k ≤ 9223372036854775807) :
    Calls Try.prog 31 #[dptr g, .string ⟨n.toArray⟩, .int .i64 k] wx fun e w' => e = .returned (.int .i64 ((cutP t n k).1 : Nat)) ∧ RTo wx w' R g (cutP t n k).2 := by
  obtain ⟨R0, h1, h2⟩ := h
  exact (rcut_c h1 hw n (by omega) k h1k h2k).mono fun e w' ⟨e1, e2, e3⟩ => ⟨e1, RB.to h2 e2 e3⟩
theorem RB.arm {wx : World} {R : Nat → Prop} {g : Nat} {t : PS} (h : RB wx R g t) (k : Int) (h1k : -9223372036854775808 ≤ k) (h2k : k ≤ 9223372036854775807) :
    Calls Try.prog 32 #[dptr g, .int .i64 k] wx fun e w' => e = .returned (.tuple #[]) ∧ RTo wx w' R g (armP t k) := by
  obtain ⟨R0, h1, h2⟩ := h
  exact (rarm_c h1 k h1k h2k).mono fun e w' ⟨e1, e2, e3⟩ => ⟨e1, RB.same h2 e2 e3⟩
theorem RB.asked {wx : World} {R : Nat → Prop} {g : Nat} {t : PS} (h : RB wx R g t) (n : T) (hn : n.length ≤ 140737488351232) (ch : Bool) :
    Calls Try.prog 33 #[dptr g, .string ⟨n.toArray⟩, .bool ch] wx fun e w' => e = .returned (.int .i64 ((askP t n ch).1 : Nat)) ∧ RTo wx w' R g (askP t n ch).2 := by
  obtain ⟨R0, h1, h2⟩ := h
  exact (rasked_c h1 n ch (by omega)).mono fun e w' ⟨e1, e2, e3⟩ => ⟨e1, RB.same h2 e2 e3⟩
theorem RB.crash {w wx : World} {R : Nat → Prop} {g : Nat} {t : PS} (h : RB wx R g t) (hb : Below w.heap.size w wx) (hlo : ∀ k, R k → w.heap.size ≤ k) (hw : Wf t) (p : Option Addr) (c : Nat) (ks : List Int) (hp : InG ienc 1 w p ks) (hl : ks.length ≤ 9223372036854775807) (hi : ∀ n ∈ ks, -9223372036854775808 ≤ n ∧ n ≤ 9223372036854775807) :
    Calls Try.prog 23 #[dptr g, .slice p ks.length c] wx fun e w' => e = .returned (.tuple #[]) ∧ RTo wx w' R g (crashP t ks) := by
  obtain ⟨R0, h1, h2⟩ := h
  refine (rcrash_c h1 hw p c ks (InG.below ienc_len (by decide) hp hb) hl hi fun hne b o e he => ?_).mono fun e w' ⟨e1, e2, e3⟩ => ⟨e1, RB.to h2 e2 e3⟩
  have h3 := out_of_ing hp hne e
  have h4 := hlo g ((h2 g).2 (Or.inr rfl))
  omega
end Go.Proofs.Ytggcdlhgmikemaa.plt
