/- Rows of values of several cells each: a cut from n on, copy within a row of the call's own, as equations. No condition. -/
import Derived.Test.YtdjgafemmihlgaaMem0
namespace Go.Proofs.Ytdjgafemmihlgaa.rowg
open Go.RowKit
open Go.Proofs.Ytdjgafemmihlgaa.oct

/-- where a slice begins that is cut from n on (elements of z cells) -/
def cutG (b o cq n z : Nat) : Option Addr := if cq = n then some ⟨b, o, none⟩ else some ⟨b, o + n * z, none⟩
theorem run_cutG {P : Program} (w : World) (t e : TypeId) (len cq b o n z : Nat) (x : Int) (hx : x = (n : Int)) (h : P.underlying t = some (.slice e)) (he : (P.info? e).map (·.size) = some z) (hn : n ≤ len) :
    (Instr.sliceAt t (.slice (some ⟨b, o, none⟩) len cq) (some (.int .i64 x)) none none).run P w = .ok (.slice (cutG b o cq n z) (len - n) (cq - n)) w := by
  subst hx
  cases hq : P.info? e with
  | none => simp [hq] at he
  | some j =>
    have hs : j.size = z := by simpa [hq] using he
    unfold cutG
    by_cases hc : cq = n
    · simp [Instr.sliceAt, Instr.slice, run_underlying h, Instr.sliceBounds, Instr.sliceBound, asIntOf, hc, hn, sizeOf, typeInfo, hq, Sem.run_bind]
    · simp [Instr.sliceAt, Instr.slice, run_underlying h, Instr.sliceBounds, Instr.sliceBound, asIntOf, hc, hn, sizeOf, typeInfo, hq, hs, Sem.run_bind, Addr.add]
theorem run_copyG {P : Program} (w : World) (dT sT ty elem : TypeId) (g o dLen dCap z : Nat) (a : Addr) (sLen sCap : Nat) (cur : Array Value) (t : TypeId) (cs : List Value)
    (hu : P.underlying dT = some (.slice elem)) (hs : (P.info? elem).map (·.size) = some z)
    (hg : w.heap[g]? = some (.cells cur t (0, 0))) (hn : cs.length = Nat.min sLen dLen * z)
    (hsrc : ∀ j v, cs[j]? = some v → w.cell? (a.add j) = some v) (hfit : o + cs.length ≤ cur.size) (h1 : ∀ v ∈ cs, v.oneCell' = true) :
    (Builtin.copy_ #[dT, sT] ty #[.slice (some ⟨g, o, none⟩) dLen dCap, .slice (some a) sLen sCap]).run P w =
      .ok (goInt (Nat.min sLen dLen)) (w.setRow g (cur.toList.take o ++ cs ++ cur.toList.drop (o + cs.length)).toArray) := by
  have hl := run_loadCells_list (P := P) w a cs hsrc
  have hst := run_storeCells_at P g o t cs 0 cur w hg (by simpa using hfit) h1
  cases hq : P.info? elem with
  | none => simp [hq] at hs
  | some i =>
    have hi : i.size = z := by simpa [hq] using hs
    simp [Builtin.copy_, run_underlying hu, Builtin.lenOf, Builtin.firstCells, sizeOf, typeInfo, hq, hi, ← hn, hl, hst]
end Go.Proofs.Ytdjgafemmihlgaa.rowg
