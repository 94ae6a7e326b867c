/- A client whose lists are the call's own; what copied holds ahead of its answer. No condition beyond what slices and texts are. -/
import Derived.Test.YtfeafhagnhbmiaaGreatDoorRoA
import Derived.Deep.RegionHeld3
namespace Go.Proofs.YtfeafhagnhbmiaaGreatDoor.rol
open Go.RowKit
open Go.Proofs.YtfeafhagnhbmiaaGreatDoor.oct Go.Proofs.YtfeafhagnhbmiaaGreatDoor.ref Go.Proofs.YtfeafhagnhbmiaaGreatDoor.rows Go.Proofs.YtfeafhagnhbmiaaGreatDoor.rowg Go.Proofs.YtfeafhagnhbmiaaGreatDoor.trn
open Go.Proofs.YtfeafhagnhbmiaaGreatDoor.scp (tx senc senc_len senc_one InS ins_below ins_cell ins_one lt hasB hasB_iff Lst lval lenc GoodL FitS setP printP RowA own_good infoStr setCell_same clone_c)

theorem own_baseR {w : World} {B B2 e k n : Nat} {v : Value} {xs : List Value} (h : w.ownsRow B e k v n xs) (hb : B2 ≤ B) : w.ownsRow B2 e k v n xs := by
  refine ⟨h.1, ?_⟩
  rcases h.2 with h2 | ⟨g, cap, cur, h1, h2, h3⟩
  · exact Or.inl h2
  · exact Or.inr ⟨g, cap, cur, h1, Nat.le_trans hb h2, h3⟩
/-- a client whose lists are the call's own -/
structure OwnC (w : World) (B : Nat) (y : Cm) : Prop where
  red : w.ownsRow B 9 1 (lval y.red) y.red.2.2.length (cells senc y.red.2.2)
  sco : w.ownsRow B 9 1 (lval y.sco) y.sco.2.2.length (cells senc y.sco.2.2)
  gra : w.ownsRow B 9 1 (lval y.gra) y.gra.2.2.length (cells senc y.gra.2.2)
/-- lists that a client in memory may have -/
structure Few (x : Cm) : Prop where
  red : x.red.2.2.length ≤ 4194304
  sco : x.sco.2.2.length ≤ 4194304
  gra : x.gra.2.2.length ≤ 4194304
/-- a client that is copied, ahead of the answer -/
structure CopI (w wz : World) (S0 S1 : ByteArray) (pub : Bool) (n3 n4 n5 : Nat) (l3 l4 l5 : List T) (p3 : Option Addr) (q3 : Nat) (p4 : Option Addr) (q4 : Nat) (p5 : Option Addr) (q5 : Nat) : Prop where
  blk : Blk wz w.heap.size 49 [.string S0, .string S1, .bool pub, .slice p3 n3 q3, .slice p4 n4 q4, .slice p5 n5 q5]
  res : Blk wz (w.heap.size + 1) 49 [.string ⟨#[]⟩, .string ⟨#[]⟩, .bool false, .slice none 0 0, .slice none 0 0, .slice none 0 0]
  r3 : wz.ownsRow (w.heap.size + 2) 9 1 (.slice p3 n3 q3) n3 (cells senc l3)
  r4 : wz.ownsRow (w.heap.size + 2) 9 1 (.slice p4 n4 q4) n4 (cells senc l4)
  r5 : wz.ownsRow (w.heap.size + 2) 9 1 (.slice p5 n5 q5) n5 (cells senc l5)
  bel : Below w.heap.size w wz
theorem copI_mk {w wx wq w2 w3 w4 : World} {S0 S1 : ByteArray} {pub : Bool} {n3 n4 n5 : Nat} {l3 l4 l5 : List T} {p3 p4 p5 P3 P4 P5 : Option Addr} {q3 q4 q5 C3 C4 C5 : Nat}
    (_ : l3.length = n3) (_ : l4.length = n4) (_ : l5.length = n5) (hb : Below w.heap.size w wx) (hR : Blk wq (w.heap.size + 1) 49 [.string ⟨#[]⟩, .string ⟨#[]⟩, .bool false, .slice none 0 0, .slice none 0 0, .slice none 0 0]) (hq : Below wx.heap.size wx wq)
    (h2 : Below wq.heap.size wq w2) (h3 : Below w2.heap.size w2 w3) (h4 : Below w3.heap.size w3 w4) (hB : Blk w4 w.heap.size 49 [.string S0, .string S1, .bool pub, .slice P3 n3 C3, .slice P4 n4 C4, .slice P5 n5 C5])
    (o3 : w2.ownsRow wq.drew.heap.size 9 1 (.slice p3 n3 q3) n3 (cells senc l3)) (o4 : w3.ownsRow w2.heap.size 9 1 (.slice p4 n4 q4) n4 (cells senc l4)) (o5 : w4.ownsRow w3.heap.size 9 1 (.slice p5 n5 q5) n5 (cells senc l5)) :
    CopI w (((w4.setCell ⟨w.heap.size, 3, none⟩ (.slice p3 n3 q3)).setCell ⟨w.heap.size, 4, none⟩ (.slice p4 n4 q4)).setCell ⟨w.heap.size, 5, none⟩ (.slice p5 n5 q5)) S0 S1 pub n3 n4 n5 l3 l4 l5 p3 q3 p4 q4 p5 q5 := by
  have hT : Turn (fun k => k = w.heap.size) w4 (((w4.setCell ⟨w.heap.size, 3, none⟩ (.slice p3 n3 q3)).setCell ⟨w.heap.size, 4, none⟩ (.slice p4 n4 q4)).setCell ⟨w.heap.size, 5, none⟩ (.slice p5 n5 q5)) := ((Turn.set (S := fun k => k = w.heap.size) w4 _ _ _ rfl).next (Turn.set _ _ _ _ rfl)).next (Turn.set _ _ _ _ rfl)
  have s0 := hR.lt
  have e2 : w.heap.size + 2 ≤ wq.heap.size := by omega
  have s2 := h2.size
  have s3 := h3.size
  have s4 := h4.size
  refine ⟨((hB.set 3 _).set 4 _).set 5 _, ?_, ?_, ?_, ?_, ?_⟩
  · exact blk_turn (((hR.below h2).below h3).below h4) hT (by simp)
  · exact own_turn (own_baseR (own_belowG (own_belowG o3 h3) h4) e2) hT fun b hb e => by have := (o3.lt b hb).1; have e5 : wq.drew.heap.size = wq.heap.size := rfl; omega
  · exact own_turn (own_baseR (own_belowG o4 h4) (by omega)) hT fun b hb e => by have := (o4.lt b hb).1; omega
  · exact own_turn (own_baseR o5 (by omega)) hT fun b hb e => by have := (o5.lt b hb).1; omega
  · have hbq := bnext (bnext (bnext (bnext hb hq) h2) h3) h4
    exact Turn.below hbq hT (fun k hk => by rw [hk]; exact Nat.le_refl _) (by have := hB.lt; omega)
theorem set6_blk {w : World} {g : Nat} {t : TypeId} {a0 a1 a2 a3 a4 a5 : Value} (h : Blk w g t [a0, a1, a2, a3, a4, a5]) (v0 v1 v2 v3 v4 v5 : Value) : Blk ((((((w.setCell ⟨g, 0, none⟩ v0).setCell ⟨g, 1, none⟩ v1).setCell ⟨g, 2, none⟩ v2).setCell ⟨g, 3, none⟩ v3).setCell ⟨g, 4, none⟩ v4).setCell ⟨g, 5, none⟩ v5) g t [v0, v1, v2, v3, v4, v5] := (((((h.set 0 v0).set 1 v1).set 2 v2).set 3 v3).set 4 v4).set 5 v5
theorem set6_turn {w : World} {g : Nat} {v0 v1 v2 v3 v4 v5 : Value} : Turn (fun k => k = g) w ((((((w.setCell ⟨g, 0, none⟩ v0).setCell ⟨g, 1, none⟩ v1).setCell ⟨g, 2, none⟩ v2).setCell ⟨g, 3, none⟩ v3).setCell ⟨g, 4, none⟩ v4).setCell ⟨g, 5, none⟩ v5) := (((((Turn.set (S := fun k => k = g) w g _ _ rfl).next (Turn.set _ _ _ _ rfl)).next (Turn.set _ _ _ _ rfl)).next (Turn.set _ _ _ _ rfl)).next (Turn.set _ _ _ _ rfl)).next (Turn.set _ _ _ _ rfl)
end Go.Proofs.YtfeafhagnhbmiaaGreatDoor.rol
