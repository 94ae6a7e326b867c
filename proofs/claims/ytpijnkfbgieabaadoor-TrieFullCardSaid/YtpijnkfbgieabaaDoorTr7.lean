/- A node is built of its parts: its cells. No condition. -/
import Derived.Test.YtpijnkfbgieabaaDoorTr6
import Derived.Laws.Tables
namespace Go.Proofs.YtpijnkfbgieabaaDoor.tri
open Go.RowKit
open Go.Proofs.YtpijnkfbgieabaaDoor.oct Go.Proofs.YtpijnkfbgieabaaDoor.ref Go.Proofs.YtpijnkfbgieabaaDoor.rows Go.Proofs.YtpijnkfbgieabaaDoor.rowg Go.Proofs.YtpijnkfbgieabaaDoor.trn
open Go.Proofs.YtpijnkfbgieabaaDoor.sha (digest digest_len dval)
open Go.Lib (byteCells)

theorem fold_set : ∀ (vs : List Value) (cs : Array Value) (k off : Nat), off + k + vs.length ≤ cs.size →
    ((vs.zipIdx k).foldl (fun cs x => cs.setIfInBounds (off + x.2) x.1) cs).toList = cs.toList.take (off + k) ++ (vs ++ cs.toList.drop (off + k + vs.length))
  | [], cs, k, off, _ => by simp
  | v :: vs, cs, k, off, h => by
    rw [List.length_cons] at h
    rw [List.zipIdx_cons, List.foldl_cons, fold_set vs _ (k + 1) off (by rw [Array.size_setIfInBounds]; omega), Array.toList_setIfInBounds]
    have hk : off + k < cs.toList.length := by rw [Array.length_toList]; omega
    have e1 : (cs.toList.set (off + k) v).take (off + (k + 1)) = cs.toList.take (off + k) ++ [v] := by
      rw [show off + (k + 1) = off + k + 1 by omega, List.take_succ_eq_append_getElem (by rw [List.length_set]; exact hk), List.take_set_of_le (Nat.le_refl _)]
      simp
    have e2 : (cs.toList.set (off + k) v).drop (off + (k + 1) + vs.length) = cs.toList.drop (off + k + (v :: vs).length) := by
      rw [List.drop_set_of_lt (by omega), List.length_cons]
      congr 1
      omega
    rw [e1, e2, List.append_assoc]
    rfl
/-- one part is filled in -/
theorem fill_one (place : Nat → Option (Nat × Nat)) (A B R : List Value) (i : Nat) (v : Value) (X : List Value) (rest : List (Nat × Value)) (hv : v.cells = X.toArray) (hp : place i = some (A.length, X.length)) (hB : B.length = X.length) :
    Instr.fill place (A ++ (B ++ R)).toArray ((i, v) :: rest) = Instr.fill place (A ++ (X ++ R)).toArray rest := by
  rw [Instr.fill, hp]
  dsimp only
  rw [hv, List.size_toArray, List.size_toArray, if_neg (by simp; omega)]
  congr 1
  apply Array.toList_inj.1
  have h := fold_set X (A ++ (B ++ R)).toArray 0 A.length (by simp; omega)
  have e : ∀ (f : Array Value → Value × Nat → Array Value), (X.toArray.zipIdx).foldl f (A ++ (B ++ R)).toArray = (X.zipIdx 0).foldl f (A ++ (B ++ R)).toArray := fun f => by
    rw [← Array.foldl_toList, Array.toList_zipIdx]
  rw [e, h, Nat.add_zero]
  dsimp only
  rw [List.take_left, ← hB, ← List.append_assoc A B R, show A.length + B.length = (A ++ B).length by rw [List.length_append], List.drop_left]
theorem infoN : (Tryd.prog.info? 114).map (fun it => it.zero.map (·.cells)) = some (some (ncells zeros 0 (.slice none 0 0) zeros noKid).toArray) := by kernel_rfl
theorem sizeN : (Tryd.prog.info? 114).map (·.size) = some 82 := by kernel_rfl
def nplaces : List (Nat × Nat) := [(0, 32), (32, 1), (33, 1), (34, 32), (66, 16)]
theorem placesN : (match Tryd.prog.underlying 114 with | some (.struct fields) => fields.toList.mapM (fun f => (Tryd.prog.info? f.type).map fun i => (f.offset, i.size)) | _ => none) = some nplaces := by kernel_rfl
set_option maxRecDepth 100000 in
theorem built_eq (parts : List (Nat × Value)) : Tryd.prog.built 114 parts = Instr.fill (nplaces.toArray[·]?) (ncells zeros 0 (.slice none 0 0) zeros noKid).toArray parts := by
  have h1 := infoN
  have h2 := placesN
  unfold Program.built
  cases hi : Tryd.prog.info? 114 with
  | none => rw [hi] at h1; cases h1
  | some it =>
    rw [hi] at h1
    cases hu : Tryd.prog.underlying 114 with
    | none => rw [hu] at h2; cases h2
    | some d =>
      rw [hu] at h2
      cases d with
      | struct fields =>
        cases hz : it.zero with
        | none => rw [Option.map_some, hz] at h1; cases h1
        | some z =>
          rw [Option.map_some, hz] at h1
          have h3 : z.cells = (ncells zeros 0 (.slice none 0 0) zeros noKid).toArray := Option.some.inj (Option.some.inj h1)
          dsimp only at h2 ⊢
          rw [h2, hz, ← h3]
      | _ => cases h2
theorem ncells_parts (dg : T) (n : Nat) (v : Value) (way : T) (c : Nat → Option Nat) : ncells dg n v way c = [] ++ (byteCells dg ++ ([.int .i64 (n : Nat)] ++ ([v] ++ (byteCells way ++ (kids c ++ []))))) := by
  unfold ncells
  simp
theorem zeros_len : zeros.length = 32 := rfl
set_option maxRecDepth 100000 in
/-- a fork -/
theorem built_fork (dg : T) (n : Nat) (c : Nat → Option Nat) (hd : dg.length = 32) : Tryd.prog.built 114 [(0, .agg (byteCells dg).toArray), (1, .int .i64 (n : Nat)), (4, .agg (kids c).toArray)] = some (ncells dg n (.slice none 0 0) zeros c).toArray := by
  have hl : (byteCells dg).length = 32 := by rw [byteCells_len, hd]
  have hz : (byteCells zeros).length = 32 := rfl
  rw [built_eq, ncells_parts, fill_one _ [] (byteCells zeros) _ 0 _ (byteCells dg) _ rfl (by rw [hl]; rfl) (by rw [hl, hz])]
  rw [show ([] ++ (byteCells dg ++ ([.int .i64 ((0 : Nat) : Int)] ++ ([.slice none 0 0] ++ (byteCells zeros ++ (kids noKid ++ [])))))) = byteCells dg ++ ([.int .i64 ((0 : Nat) : Int)] ++ ([.slice none 0 0] ++ (byteCells zeros ++ (kids noKid ++ [])))) from rfl]
  rw [fill_one _ (byteCells dg) [.int .i64 ((0 : Nat) : Int)] _ 1 _ [.int .i64 (n : Nat)] _ rfl (by rw [hl]; rfl) rfl]
  rw [show byteCells dg ++ ([.int .i64 ((n : Nat) : Int)] ++ ([.slice none 0 0] ++ (byteCells zeros ++ (kids noKid ++ [])))) = (byteCells dg ++ [.int .i64 ((n : Nat) : Int)] ++ [.slice none 0 0] ++ byteCells zeros) ++ (kids noKid ++ []) by simp]
  rw [fill_one _ _ (kids noKid) [] 4 _ (kids c) _ rfl (by simp only [List.length_append, hl, hz, kids_len, List.length_singleton]; rfl) (by rw [kids_len, kids_len])]
  rw [Instr.fill]
  unfold ncells
  simp
set_option maxRecDepth 100000 in
/-- where a way ends -/
theorem built_leaf (dg : T) (n : Nat) (v : Value) (way : T) (hv : v.cells = #[v]) (hd : dg.length = 32) (hw : way.length = 32) : Tryd.prog.built 114 [(0, .agg (byteCells dg).toArray), (1, .int .i64 (n : Nat)), (2, v), (3, .agg (byteCells way).toArray)] = some (ncells dg n v way noKid).toArray := by
  have hl : (byteCells dg).length = 32 := by rw [byteCells_len, hd]
  have hwl : (byteCells way).length = 32 := by rw [byteCells_len, hw]
  have hz : (byteCells zeros).length = 32 := rfl
  rw [built_eq, ncells_parts, fill_one _ [] (byteCells zeros) _ 0 _ (byteCells dg) _ rfl (by rw [hl]; rfl) (by rw [hl, hz])]
  rw [show ([] ++ (byteCells dg ++ ([.int .i64 ((0 : Nat) : Int)] ++ ([.slice none 0 0] ++ (byteCells zeros ++ (kids noKid ++ [])))))) = byteCells dg ++ ([.int .i64 ((0 : Nat) : Int)] ++ ([.slice none 0 0] ++ (byteCells zeros ++ (kids noKid ++ [])))) from rfl]
  rw [fill_one _ (byteCells dg) [.int .i64 ((0 : Nat) : Int)] _ 1 _ [.int .i64 (n : Nat)] _ rfl (by rw [hl]; rfl) rfl]
  rw [show byteCells dg ++ ([.int .i64 ((n : Nat) : Int)] ++ ([.slice none 0 0] ++ (byteCells zeros ++ (kids noKid ++ [])))) = (byteCells dg ++ [.int .i64 ((n : Nat) : Int)]) ++ ([.slice none 0 0] ++ (byteCells zeros ++ (kids noKid ++ []))) by simp]
  rw [fill_one _ _ [.slice none 0 0] _ 2 _ [v] _ hv (by simp only [List.length_append, hl, List.length_singleton]; rfl) rfl]
  rw [show (byteCells dg ++ [.int .i64 ((n : Nat) : Int)]) ++ ([v] ++ (byteCells zeros ++ (kids noKid ++ []))) = (byteCells dg ++ [.int .i64 ((n : Nat) : Int)] ++ [v]) ++ (byteCells zeros ++ (kids noKid ++ [])) by simp]
  rw [fill_one _ _ (byteCells zeros) _ 3 _ (byteCells way) _ rfl (by simp only [List.length_append, hl, hwl, List.length_singleton]; rfl) (by rw [hz, hwl])]
  rw [Instr.fill]
  unfold ncells
  simp
end Go.Proofs.YtpijnkfbgieabaaDoor.tri
