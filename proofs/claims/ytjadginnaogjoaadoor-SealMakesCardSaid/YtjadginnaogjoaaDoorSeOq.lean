/- Opening an api.Token with the length of its family; SealMakes in its card's shape. -/
import Derived.Test.YtjadginnaogjoaaDoorSeOp
import Derived.Test.YtjadginnaogjoaaDoorSeG
namespace Go.Proofs.YtjadginnaogjoaaDoor.opn
set_option maxRecDepth 100000
open Go.ChangeShapes Go.WideShapes Go.ChangeAt Go.RowKit
open Go.Proofs.YtjadginnaogjoaaDoor.sea (Tk tok txt St)

theorem open_tokq {H : Type} {enc : TypeId × Value → H} {W : World} {r : Reach} {b0 : Nat} {v : Value} {d0 : DataW H} {p : List MemPlace}
    (hval : Value.okWide Tryd.prog W r b0 24 v) (h0 : DataW.Trod enc Tryd.prog W 0 (fun _ => true) true 24 v d0 p) :
    ∃ x : Tk, v = tok x ∧ ∃ n, n ∈ d0.weights Tryd.prog 24 ∧ x.f.length ≤ n := by
  obtain ⟨x, rfl⟩ := open_tokv hval h0
  refine ⟨x, rfl, x.f.length, ?_, Nat.le_refl _⟩
  obtain ⟨fuel, hf0⟩ := h0
  have h : DataW.trod enc Tryd.prog W 0 (fun _ => true) true fuel 24 [.int .i64 x.k, .string ⟨x.f.toArray⟩, .int .i64 x.n] = some (d0, p) := by simpa [sea.tok, sea.txt, Value.cells] using hf0
  obtain ⟨xs, n, _, hx, hcl, hxl, hf⟩ := DataW.trod_struct Tryd.underlying24 h
  have hcs : Tryd.prog.cellsOf 9 = 1 := by kernel_rfl
  match xs, hxl with
  | [y0, y1, y2], _ =>
    have f1 := hf 1 _ rfl
    have g1 : DataW.trod enc Tryd.prog W 0 (fun _ => true) true n 9 [.string ⟨x.f.toArray⟩] = some y1 := by
      have this : DataW.trod enc Tryd.prog W 0 (fun _ => true) true n 9 (List.take (Tryd.prog.cellsOf 9) (List.drop 1 [.int .i64 x.k, .string ⟨x.f.toArray⟩, .int .i64 x.n])) = some y1 := f1
      rw [hcs] at this
      exact this
    obtain ⟨s1, e1, r1, w1⟩ := DataW.trod_string Tryd.underlying9 g1
    cases e1
    cases r1
    simp only [Prod.mk.injEq] at hx
    rw [hx.1]
    simp [DataW.weights, DataW.weightsEach, Tryd.underlying24]
end Go.Proofs.YtjadginnaogjoaaDoor.opn
namespace Go.Proofs.YtjadginnaogjoaaDoor.sea
open Go.RowKit
open Go.Proofs.YtjadginnaogjoaaDoor.oct (In8)
theorem g_makes (p : Option Addr) (cp : Nat) (key : T) (t : Tk) (w : World) (hp : In8 w p key) (hk : key.length ≤ 140737488351232) (hn : (p = none → cp = 0) ∧ key.length ≤ cp) (hf : t.f.length ≤ 140737488351232) (ht : St w) :
    Calls Tryd.prog 3 #[.slice p key.length cp, tok t] w fun e w' => e = .returned (.bool true) ∧ Below w.heap.size w w' := law_makes p cp key t w ht hp (by omega) hn (by omega)
end Go.Proofs.YtjadginnaogjoaaDoor.sea
