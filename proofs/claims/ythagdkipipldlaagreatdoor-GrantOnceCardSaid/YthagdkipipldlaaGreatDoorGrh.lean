/- What stands ahead of a command's deed: its box, the answer's variable; the answer is written (written by tools/gen_grh.py). No condition beyond what slices and texts are. -/
import Derived.Test.YthagdkipipldlaaGreatDoorGrg
namespace Go.Proofs.YthagdkipipldlaaGreatDoor.gra
open Go.RowKit
open Go.Proofs.YthagdkipipldlaaGreatDoor.oct Go.Proofs.YthagdkipipldlaaGreatDoor.ref Go.Proofs.YthagdkipipldlaaGreatDoor.rows Go.Proofs.YthagdkipipldlaaGreatDoor.rowg Go.Proofs.YthagdkipipldlaaGreatDoor.mpt Go.Proofs.YthagdkipipldlaaGreatDoor.trn Go.Proofs.YthagdkipipldlaaGreatDoor.krd
open Go.Proofs.YthagdkipipldlaaGreatDoor.sha (Tabs)
open Go.Proofs.YthagdkipipldlaaGreatDoor.scp (tx senc senc_len senc_one InS ins_below ins_cell ins_one lt Lst lval lenc GoodL FitS RowA own_good infoStr clone_c key_txt skeyed withinP)


theorem set8_blk {w : World} {g : Nat} {t : TypeId} {a0 a1 a2 a3 a4 a5 a6 a7 : Value} (h : Blk w g t [a0, a1, a2, a3, a4, a5, a6, a7]) (v0 v1 v2 v3 v4 v5 v6 v7 : Value) : Blk ((((((((w.setCell ⟨g, 0, none⟩ v0).setCell ⟨g, 1, none⟩ v1).setCell ⟨g, 2, none⟩ v2).setCell ⟨g, 3, none⟩ v3).setCell ⟨g, 4, none⟩ v4).setCell ⟨g, 5, none⟩ v5).setCell ⟨g, 6, none⟩ v6).setCell ⟨g, 7, none⟩ v7) g t [v0, v1, v2, v3, v4, v5, v6, v7] := (((((((h.set 0 v0).set 1 v1).set 2 v2).set 3 v3).set 4 v4).set 5 v5).set 6 v6).set 7 v7
theorem set8_turn {w : World} {g : Nat} {v0 v1 v2 v3 v4 v5 v6 v7 : Value} : Turn (fun k => k = g) w ((((((((w.setCell ⟨g, 0, none⟩ v0).setCell ⟨g, 1, none⟩ v1).setCell ⟨g, 2, none⟩ v2).setCell ⟨g, 3, none⟩ v3).setCell ⟨g, 4, none⟩ v4).setCell ⟨g, 5, none⟩ v5).setCell ⟨g, 6, none⟩ v6).setCell ⟨g, 7, none⟩ v7) := (((((((Turn.set (S := fun k => k = g) w g _ _ rfl).next (Turn.set _ _ _ _ rfl)).next (Turn.set _ _ _ _ rfl)).next (Turn.set _ _ _ _ rfl)).next (Turn.set _ _ _ _ rfl)).next (Turn.set _ _ _ _ rfl)).next (Turn.set _ _ _ _ rfl)).next (Turn.set _ _ _ _ rfl)
theorem zer8 : zerA = [.int .i64 0, .int .i64 0, .int .i64 0, .slice none 0 0, .string ⟨#[]⟩, .string ⟨#[]⟩, .bool false, .bool false] := rfl
/-- the command's box, the answer's variable -/
structure PR (w w2 : World) (x : CM) : Prop where
  cmd : Blk w2 w.heap.size 48 (cenc x)
  ans : Blk w2 (w.heap.size + 1) 59 zerA
  bel : Below w.heap.size w w2
theorem PR.mk2 (w : World) (x : CM) (C Z : Array Value) (hC : C = (cenc x).toArray) (hZ : Z = zerA.toArray) : PR w ((w.alloc (.cells C 48)).alloc (.cells Z 59)) x := by
  subst hC hZ
  have hs : (w.alloc (.cells (cenc x).toArray 48)).heap.size = w.heap.size + 1 := by simp
  have hb2 := blk_new (w.alloc (.cells (cenc x).toArray 48)) zerA.toArray 59 zerA rfl
  rw [hs] at hb2
  exact ⟨blk_old (blk_new w _ _ _ rfl) _, hb2, ((Below.refl _ _).alloc (Nat.le_refl _) _).alloc (by rw [hs]; omega) _⟩
theorem PR.cells {w w2 W : World} {x : CM} (h : PR w w2 x) (hb : Below w2.heap.size w2 W) : W.cell? ⟨w.heap.size, 0, none⟩ = some (.int .i64 x.c.kind) ∧ W.cell? ⟨w.heap.size, 1, none⟩ = some (.string ⟨x.c.fam.toArray⟩) ∧ W.cell? ⟨w.heap.size, 2, none⟩ = some (.int .i64 x.c.ser) ∧ W.cell? ⟨w.heap.size, 3, none⟩ = some (.int .i64 x.c.tok) ∧ W.cell? ⟨w.heap.size, 4, none⟩ = some (.string ⟨x.c.cl.toArray⟩) ∧ W.cell? ⟨w.heap.size, 5, none⟩ = some (.string ⟨x.c.us.toArray⟩) ∧ W.cell? ⟨w.heap.size, 6, none⟩ = some (.slice x.p x.c.sc.length x.r) ∧ W.cell? ⟨w.heap.size, 7, none⟩ = some (.string ⟨x.c.re.toArray⟩) ∧ W.cell? ⟨w.heap.size, 8, none⟩ = some (.string ⟨x.c.ch.toArray⟩) ∧ W.cell? ⟨w.heap.size, 9, none⟩ = some (.string ⟨x.c.me.toArray⟩) ∧ W.cell? ⟨w.heap.size, 10, none⟩ = some (.string ⟨x.c.ve.toArray⟩) ∧ W.cell? ⟨w.heap.size, 11, none⟩ = some (.bool x.c.rf) ∧ W.cell? ⟨w.heap.size, 12, none⟩ = some (.int .i64 x.c.edge) := by
  have c := cellsC (h.cmd.below hb)
  exact ⟨c.c0, c.c1, c.c2, c.c3, c.c4, c.c5, c.c6, c.c7, c.c8, c.c9, c.c10, c.c11, c.c12⟩
theorem ans_cells {w W : World} (h : Blk W (w.heap.size + 1) 59 zerA) : W.cell? ⟨w.heap.size + 1, 0, none⟩ = some (.int .i64 0) ∧ W.cell? ⟨w.heap.size + 1, 1, none⟩ = some (.int .i64 0) ∧ W.cell? ⟨w.heap.size + 1, 2, none⟩ = some (.int .i64 0) ∧ W.cell? ⟨w.heap.size + 1, 3, none⟩ = some (.slice none 0 0) ∧ W.cell? ⟨w.heap.size + 1, 4, none⟩ = some (.string ⟨#[]⟩) ∧ W.cell? ⟨w.heap.size + 1, 5, none⟩ = some (.string ⟨#[]⟩) ∧ W.cell? ⟨w.heap.size + 1, 6, none⟩ = some (.bool false) ∧ W.cell? ⟨w.heap.size + 1, 7, none⟩ = some (.bool false) ∧ W.frozen? ⟨w.heap.size + 1, 0, none⟩ = false ∧ W.frozen? ⟨w.heap.size + 1, 1, none⟩ = false ∧ W.frozen? ⟨w.heap.size + 1, 2, none⟩ = false ∧ W.frozen? ⟨w.heap.size + 1, 3, none⟩ = false ∧ W.frozen? ⟨w.heap.size + 1, 4, none⟩ = false ∧ W.frozen? ⟨w.heap.size + 1, 5, none⟩ = false ∧ W.frozen? ⟨w.heap.size + 1, 6, none⟩ = false ∧ W.frozen? ⟨w.heap.size + 1, 7, none⟩ = false := ⟨h.cell 0, h.cell 1, h.cell 2, h.cell 3, h.cell 4, h.cell 5, h.cell 6, h.cell 7, h.frozen 0, h.frozen 1, h.frozen 2, h.frozen 3, h.frozen 4, h.frozen 5, h.frozen 6, h.frozen 7⟩
theorem cmd_cells {w W : World} {x : CM} (h : Blk W w.heap.size 48 (cenc x)) : W.cell? ⟨w.heap.size, 0, none⟩ = some (.int .i64 x.c.kind) ∧ W.cell? ⟨w.heap.size, 1, none⟩ = some (.string ⟨x.c.fam.toArray⟩) ∧ W.cell? ⟨w.heap.size, 2, none⟩ = some (.int .i64 x.c.ser) ∧ W.cell? ⟨w.heap.size, 3, none⟩ = some (.int .i64 x.c.tok) ∧ W.cell? ⟨w.heap.size, 4, none⟩ = some (.string ⟨x.c.cl.toArray⟩) ∧ W.cell? ⟨w.heap.size, 5, none⟩ = some (.string ⟨x.c.us.toArray⟩) ∧ W.cell? ⟨w.heap.size, 6, none⟩ = some (.slice x.p x.c.sc.length x.r) ∧ W.cell? ⟨w.heap.size, 7, none⟩ = some (.string ⟨x.c.re.toArray⟩) ∧ W.cell? ⟨w.heap.size, 8, none⟩ = some (.string ⟨x.c.ch.toArray⟩) ∧ W.cell? ⟨w.heap.size, 9, none⟩ = some (.string ⟨x.c.me.toArray⟩) ∧ W.cell? ⟨w.heap.size, 10, none⟩ = some (.string ⟨x.c.ve.toArray⟩) ∧ W.cell? ⟨w.heap.size, 11, none⟩ = some (.bool x.c.rf) ∧ W.cell? ⟨w.heap.size, 12, none⟩ = some (.int .i64 x.c.edge) := by
  have c := cellsC h
  exact ⟨c.c0, c.c1, c.c2, c.c3, c.c4, c.c5, c.c6, c.c7, c.c8, c.c9, c.c10, c.c11, c.c12⟩
/-- nothing has changed but what is the call's own -/
theorem fin_same {w W : World} {R : Nat → Prop} {g m room : Nat} {D : DataW Nat} {fl : List DF} (h : BM w R g m D fl room) (hall : ∀ x ∈ fl, RT x.f) (hb : Below w.heap.size w W) (hl : w.heap.size + 1 < W.heap.size) (a : AT) (hs : a.sc = []) (v0 v1 v2 v3 v4 v5 v6 v7 : Value) :
    DoA w ((((((((W.setCell ⟨w.heap.size + 1, 0, none⟩ v0).setCell ⟨w.heap.size + 1, 1, none⟩ v1).setCell ⟨w.heap.size + 1, 2, none⟩ v2).setCell ⟨w.heap.size + 1, 3, none⟩ v3).setCell ⟨w.heap.size + 1, 4, none⟩ v4).setCell ⟨w.heap.size + 1, 5, none⟩ v5).setCell ⟨w.heap.size + 1, 6, none⟩ v6).setCell ⟨w.heap.size + 1, 7, none⟩ v7) R g room (fl.map DF.f, a) (.returned (ansv a none 0)) :=
  doA_same ⟨m, D, fl, h, rfl, hall⟩ (Turn.below hb set8_turn (fun k hk => by omega) (by omega)) hs
/-- the family x is another one -/
theorem fin_fam {w W : World} {R : Nat → Prop} {g m room : Nat} {D : DataW Nat} {fl : List DF} (h : BM w R g m D fl room) (hall : ∀ x ∈ fl, RT x.f) {x y : DF} {f : FT} {E : Nat → Prop} (hx : x ∈ fl) (hi : IS w W x y f E) (hE1 : E (w.heap.size + 1)) (hr : RT f) (hid : f.id = x.id) (a : AT) (p : Option Addr) (q : Nat)
    (ho : W.ownsRow (w.heap.size + 2) 9 1 (.slice p a.sc.length q) a.sc.length (cells senc a.sc)) (hE : ∀ k, (Value.slice p a.sc.length q).ownBlock = some k → E k) (v0 v1 v2 v3 v4 v5 v6 v7 : Value) :
    DoA w ((((((((W.setCell ⟨w.heap.size + 1, 0, none⟩ v0).setCell ⟨w.heap.size + 1, 1, none⟩ v1).setCell ⟨w.heap.size + 1, 2, none⟩ v2).setCell ⟨w.heap.size + 1, 3, none⟩ v3).setCell ⟨w.heap.size + 1, 4, none⟩ v4).setCell ⟨w.heap.size + 1, 5, none⟩ v5).setCell ⟨w.heap.size + 1, 6, none⟩ v6).setCell ⟨w.heap.size + 1, 7, none⟩ v7) R g room (insG (fl.map DF.f) f, a) (.returned (ansv a p q)) :=
  doA_fam h hall hx (hi.own (S := fun k => k = w.heap.size + 1) set8_turn fun k hk => by rw [hk]; exact hE1) hr hid a p q (own_baseR (own_turn ho (set8_turn (g := w.heap.size + 1)) fun b hb e => by have := (ho.lt b hb).1; omega) (by omega)) hE
theorem get_map {fl : List DF} {n : T} {o : Option DF} (h : getD fl n = o) : getG (fl.map DF.f) n = o.map DF.f := by rw [← f_get, h]
/-- a command's family, told by the book's -/
def specG (room : Nat) (l : List FT) (c : CT) : List FT × AT := (putG l c.fam (stepG (decide (room ≤ l.length)) (getG l c.fam) c).1, (stepG (decide (room ≤ l.length)) (getG l c.fam) c).2)
theorem spec_same {R : Nat → Prop} {w : World} {g m room : Nat} {D : DataW Nat} {fl : List DF} (h : BM w R g m D fl room) {c : CT} {o : Option DF} (hg : getD fl c.fam = o) {a : AT} (hs : ∀ b, stepG b (o.map DF.f) c = (o.map DF.f, a)) : specG room (fl.map DF.f) c = (fl.map DF.f, a) := by
  unfold specG
  rw [get_map hg, hs]
  dsimp only
  rw [← get_map hg, put_same ((f_srt fl).1 h.srt)]
theorem spec_fam {fl : List DF} {room : Nat} {c : CT} {x : DF} (hg : getD fl c.fam = some x) {f : FT} {a : AT} (hs : ∀ b, stepG b (some x.f) c = (some f, a)) : specG room (fl.map DF.f) c = (insG (fl.map DF.f) f, a) := by
  unfold specG
  rw [get_map hg, show (some x).map DF.f = some x.f from rfl, hs]
  rfl
end Go.Proofs.YthagdkipipldlaaGreatDoor.gra
