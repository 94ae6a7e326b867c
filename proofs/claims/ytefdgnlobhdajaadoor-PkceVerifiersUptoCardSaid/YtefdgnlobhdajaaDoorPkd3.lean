/- The contracts of the developers' ways, chosen. -/
import Derived.Test.YtefdgnlobhdajaaDoorPkcApi
import Derived.Test.YtefdgnlobhdajaaDoorShCln
import Derived.Laws.EntriesVeiled
import Derived.LoopN
namespace Go.Proofs.YtefdgnlobhdajaaDoor.pkc
open Go.RowKit
open Go.Proofs.YtefdgnlobhdajaaDoor.oct Go.Proofs.YtefdgnlobhdajaaDoor.ref Go.Proofs.YtefdgnlobhdajaaDoor.rows Go.Proofs.YtefdgnlobhdajaaDoor.sha

set_option maxRecDepth 100000 in
theorem pclone_c (s : ByteArray) (w : World) (hs : s.size ≤ 281474976710656) : Calls Tryd.prog 30 #[.string s] w fun e w' => e = .returned (.string s) ∧ Below w.heap.size w w' := by
  have HI := Lib.hid (sh.sclone s w hs)
  go_enter Tryd.func30, Tryd.ntmps30
  go_wp2_with (go_at_call 39; refine HI.out.mono ?_; rintro e w' ⟨rfl, hb⟩)
  go_ret
  exact ⟨rfl, hb⟩
/-- what ways answers: a row of two ways -/
def waysO : Obj := .cells #[.string ⟨#[112, 108, 97, 105, 110]⟩, .func (.func 8) #[] #[], .func (.func 30) #[] #[], .string ⟨#[83, 50, 53, 54]⟩, .func (.func 31) #[] #[], .func (.func 32) #[] #[]] 34
set_option maxRecDepth 100000 in
set_option maxHeartbeats 4000000 in
theorem ways_c (w : World) :
    Calls Tryd.prog 23 #[] w fun e w' => e = .returned (.slice (some ⟨w.heap.size, 0, none⟩) 2 2) ∧ w' = w.alloc waysO := by
  go_enter Tryd.func23, Tryd.ntmps23
  go_wp2_with fail
  go_ret
  exact ⟨rfl, rfl⟩
theorem results_rowone {P : Program} {fn : Func} {p q : Tmp} {ty : TypeId} (h : fn.results = #[.cell p ty, .tmp q]) (tmps : Array Value) (w : World) (g : Nat) (t : TypeId) (X : List Value) {d : TypeDesc} (y : Value)
    (hp : tmps.getD p undef = .pointer (some ⟨g, 0, none⟩)) (hq : tmps.getD q undef = y) (hB : Blk w g t X)
    (hu : P.underlying ty = some d) (hd : (match d with | .struct _ | .array _ _ => true | _ => false) = true) (hi : (P.info? ty).map (·.size) = some X.length) :
    (results fn tmps).run P w = .ok (.tuple #[.agg X.toArray, y]) w := by
  have hp' : tmps[p]?.getD undef = .pointer (some ⟨g, 0, none⟩) := by simpa using hp
  have hq' : tmps[q]?.getD undef = y := by simpa using hq
  have hl := run_loadVar_row (P := P) w g t ty X.toArray (0, 0) d hB hu hd (by simpa using hi)
  simp [results, h, hp', hq', asAddr, hl]
theorem infoWay : (Tryd.prog.info? 34).map (·.size) = some 3 := by kernel_rfl
def wayP : List Value := [.string ⟨#[112, 108, 97, 105, 110]⟩, .func (.func 8) #[] #[], .func (.func 30) #[] #[]]
def wayS : List Value := [.string ⟨#[83, 50, 53, 54]⟩, .func (.func 31) #[] #[], .func (.func 32) #[] #[]]
def wayN : List Value := [.string ⟨#[]⟩, .nilFunc, .nilFunc]
theorem way_world (w : World) (X : List Value) (o1 o2 : Obj) : Blk (((w.alloc (.cells X.toArray 34)).alloc o1).alloc o2) w.heap.size 34 X ∧ Below w.heap.size w (((w.alloc (.cells X.toArray 34)).alloc o1).alloc o2) :=
  ⟨blk_old (blk_old (blk_new w _ _ _ rfl) _) _, (((Below.refl _ _).alloc (Nat.le_refl _) _).alloc (by simp) _).alloc (by simp; omega) _⟩
theorem way_world2 (w : World) (X : List Value) (o1 o2 o3 : Obj) : Blk ((((w.alloc (.cells X.toArray 34)).alloc o1).alloc o2).alloc o3) w.heap.size 34 X ∧ Below w.heap.size w ((((w.alloc (.cells X.toArray 34)).alloc o1).alloc o2).alloc o3) :=
  ⟨blk_old (way_world w X o1 o2).1 _, (way_world w X o1 o2).2.alloc (by simp; omega) _⟩
set_option maxRecDepth 100000 in
set_option maxHeartbeats 4000000 in
theorem chosen_plain (w : World) :
    Calls Tryd.prog 17 #[txt plainM] w fun e w' => e = .returned (.tuple #[.agg wayP.toArray, .bool true]) ∧ Below w.heap.size w w' := by
  have HC := Lib.hid (fun w => ways_c w)
  have HW := Lib.hid (fun o1 o2 => way_world w wayP o1 o2)
  unfold waysO at HC
  unfold txt plainM
  go_enter Tryd.func17, Tryd.ntmps17
  go_wp2_with (go_at_call 23; refine (HC.out _).mono ?_; rintro e w' ⟨rfl, rfl⟩)
  refine wp_loop_rounds 4 ?_
  rw [rounds_succ]
  go_wp2
  refine bodyPost_ret (results_rowone Tryd.results17 _ _ w.heap.size 34 wayP (.bool true) rfl rfl (HW.out _ _).1 Tryd.underlying34 rfl infoWay) rfl ?_
  exact ⟨rfl, (HW.out _ _).2⟩
set_option maxRecDepth 100000 in
set_option maxHeartbeats 4000000 in
theorem chosen_hash (w : World) :
    Calls Tryd.prog 17 #[txt hashM] w fun e w' => e = .returned (.tuple #[.agg wayS.toArray, .bool true]) ∧ Below w.heap.size w w' := by
  have HC := Lib.hid (fun w => ways_c w)
  have HW := Lib.hid (fun o1 o2 o3 => way_world2 w wayS o1 o2 o3)
  unfold waysO at HC
  unfold txt hashM
  go_enter Tryd.func17, Tryd.ntmps17
  go_wp2_with (go_at_call 23; refine (HC.out _).mono ?_; rintro e w' ⟨rfl, rfl⟩)
  refine wp_loop_rounds 4 ?_
  rw [rounds_succ]
  go_wp2
  rw [rounds_succ]
  go_wp2
  refine bodyPost_ret (results_rowone Tryd.results17 _ _ w.heap.size 34 wayS (.bool true) rfl rfl (HW.out _ _ _).1 Tryd.underlying34 rfl infoWay) rfl ?_
  exact ⟨rfl, (HW.out _ _ _).2⟩
set_option maxRecDepth 100000 in
set_option maxHeartbeats 4000000 in
theorem chosen_none (m : T) (w : World) (h1 : m ≠ plainM) (h2 : m ≠ hashM) :
    Calls Tryd.prog 17 #[txt m] w fun e w' => e = .returned (.tuple #[.agg wayN.toArray, .bool false]) ∧ Below w.heap.size w w' := by
  have HC := Lib.hid (fun w => ways_c w)
  have HW := Lib.hid (fun o1 o2 o3 => way_world2 w wayN o1 o2 o3)
  unfold waysO at HC
  have hb : ([112, 108, 97, 105, 110] == m) = false := by simpa using fun h => h1 (show m = plainM from h.symm)
  have hb2 : ([83, 50, 53, 54] == m) = false := by simpa using fun h => h2 (show m = hashM from h.symm)
  clear h1 h2
  unfold txt
  go_enter Tryd.func17, Tryd.ntmps17
  go_wp2_with (go_at_call 23; refine (HC.out _).mono ?_; rintro e w' ⟨rfl, rfl⟩)
  refine wp_loop_rounds 4 ?_
  rw [rounds_succ]
  go_wp2
  rw [rounds_succ]
  go_wp2
  rw [rounds_succ]
  go_wp2
  refine bodyPost_ret (results_rowone Tryd.results17 _ _ w.heap.size 34 wayN (.bool false) rfl rfl (HW.out _ _ _).1 Tryd.underlying34 rfl infoWay) rfl ?_
  exact ⟨rfl, (HW.out _ _ _).2⟩
end Go.Proofs.YtefdgnlobhdajaaDoor.pkc
