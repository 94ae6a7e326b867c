/- ShaNil and ShaKeeps by the interfaces (Api, Hashes, NilHash). UNBUILT: needs a seat that holds all of sha's laws. -/
import Derived.Test.YtohmhcglmaifpaaDoorShaHash
import Derived.Test.YtohmhcglmaifpaaDoorShaNil
import Derived.Test.YtohmhcglmaifpaaDoorShaKeeps
namespace Go.Proofs.YtohmhcglmaifpaaDoor.sha
open Go.RowKit
open Go.Proofs.YtohmhcglmaifpaaDoor.oct Go.Proofs.YtohmhcglmaifpaaDoor.ref Go.Proofs.YtohmhcglmaifpaaDoor.rows
open Go.Lib (byteCells)

structure NilHash (T : World → Prop) : Prop where
  write : ∀ p cp l w, T w → In8 w p l → Calls Tryd.prog 19 #[.pointer none, .slice p l.length cp] w fun e w' => (∃ v, e = .returned v) ∧ Below w.heap.size w w'
  len : ∀ w, T w → Calls Tryd.prog 20 #[.pointer none] w fun e w' => e = .returned (.int .i64 0) ∧ Below w.heap.size w w'
  told : ∀ w, T w → Calls Tryd.prog 21 #[.pointer none] w fun e w' => e = .returned (dval (digest [])) ∧ Below w.heap.size w w'

theorem in8_none (w : World) : In8 w none [] := fun h => absurd h (by simp)
theorem inP_none (w : World) : InP w none [] := ⟨fun h => absurd h (by simp), fun x hx => by cases hx⟩

theorem law_nilhash {T : World → Prop} {Has : World → Nat → List UInt8 → Prop} (X : Api T Has) (Z : NilHash T) (p : Option Addr) (cp : Nat) (l : List UInt8) (w : World) (hp : In8 w p l) (ht : T w) :
    Calls Tryd.prog 9 #[.slice p l.length cp] w fun e w' => e = .returned (.bool true) ∧ Below w.heap.size w w' :=
  law_nil (A := (byteCells (digest [])).toArray) X.tbelow (fun w h => known_c X w h) (fun w => agg_eq (digest []) w (digest_len _)) Z.write Z.len (fun w h => Z.told w h)
    (fun w h => X.sum none 0 [] w h (in8_none w) (by simp) ⟨(fun _ => rfl), (Nat.le_refl _)⟩) (fun w h => X.all none 0 [] w h (inP_none w) (by simp) (by simp [joined])) p cp l w hp ht

theorem inP_at {w : World} {q : Option Addr} {cq g : Nat} {l : List UInt8} (hq : In8 w q l) (hqn : Rm q cq l.length) (hc : w.cell? ⟨g, 0, none⟩ = some (.slice q l.length cq)) : InP w (some ⟨g, 0, none⟩) [⟨q, cq, l⟩] := by
  refine ⟨fun _ => ⟨g, 0, rfl, fun i hi => ?_⟩, fun x hx => ?_⟩
  · obtain rfl : i = 0 := by simp at hi; omega
    exact hc
  · simp only [List.mem_cons, List.not_mem_nil, or_false] at hx
    subst hx
    exact ⟨hq, hqn⟩

theorem law_keeps {T : World → Prop} {Has : World → Nat → List UInt8 → Prop} (X : Api T Has) (Y : Hashes T Has) (p : Option Addr) (cp : Nat) (k : List UInt8) (q : Option Addr) (cq : Nat) (l : List UInt8) (w : World)
    (hp : In8 w p k) (hk : k.length ≤ 140737488351232) (hpn : Rm p cp k.length) (hq : In8 w q l) (hl : l.length ≤ 140737488351232) (hqn : Rm q cq l.length) (ht : T w) :
    Calls Tryd.prog 10 #[.slice p k.length cp, .slice q l.length cq] w fun e w' => e = .returned (.bool true) ∧ Below w.heap.size w w' :=
  law_keeps_by (S := fun l => byteCells (digest l)) (M := fun k l => byteCells (mac k l)) X.tbelow X.keep X.lt (fun k l => by rw [byteCells_len]; exact digest_len _) (fun k l => bytes_one _)
    (fun l w => agg_eq (digest l) w (digest_len _)) (fun k l w => agg_eq (mac k l) w (digest_len _)) (fun w h => known_c X w h) Y.new Y.write (fun g L w h1 h2 h3 => Y.told g L w h1 h2 h3)
    (fun p cp l w h1 h2 h3 h4 => X.sum p cp l w h1 h2 (by omega) h4)
    (fun p cp k q cq l w g h1 h2 h3 h4 h5 h6 h7 h8 => by
      have h := X.mac p cp k (some ⟨g, 0, none⟩) 1 [⟨q, cq, l⟩] w h1 h2 (by omega) h4 (inP_at h5 h7 h8) (by simp) (by rw [joined_one]; omega)
      rw [joined_one] at h
      exact h)
    p cp k q cq l w hp hk hpn hq hl hqn ht
end Go.Proofs.YtohmhcglmaifpaaDoor.sha
