/- The developers' caught: what look throws is caught by a deferred call. No condition beside the closure's contract. -/
import Derived.Test.YtjadginnaogjoaaGreatDoorSe5
import Derived.Defers
import Derived.Recover
import Derived.Laws.Pointers
namespace Go.Proofs.YtjadginnaogjoaaGreatDoor.sea
open Go.RowKit
open Go.Proofs.YtjadginnaogjoaaGreatDoor.oct Go.Proofs.YtjadginnaogjoaaGreatDoor.ref Go.Proofs.YtjadginnaogjoaaGreatDoor.rows Go.Proofs.YtjadginnaogjoaaGreatDoor.trn
open Go.Lib (byteCells)

set_option maxHeartbeats 4000000 in
theorem catch_idle (B : Nat) (w : World) :
    CallsD Tryz.prog 17 #[.pointer (some ⟨B, 0, none⟩)] .returning w fun e u' w' => e = .returned (.tuple #[]) ∧ u' = .returning ∧ w' = w := by
  refine callsD_of_wpS Tryz.func17 rfl fun c₀ cs hu => ?_
  apply wpS_seq
  apply wpS_region
  simp [wpOpsS, go_sem, recoverD, hu, Tryz.ntmps17, Exit.thenS]
  rw [show (#[Value.pointer (some { block := B, off := 0 })] ++ ((Array.replicate 14 undef).setIfInBounds 3 Value.nilIface).setIfInBounds 0 Value.nilIface) = #[.pointer (some ⟨B, 0, none⟩), .nilIface, undef, undef, .nilIface, undef, undef, undef, undef, undef, undef, undef, undef, undef, undef] from rfl]
  refine wpS_of_wp ?_
  go_wp2_with fail
  cases c₀
  simp_all [bodyPostS, results, Tryz.results17]
set_option maxRecDepth 100000 in
set_option maxHeartbeats 4000000 in
theorem catch_fault (B : Nat) (y : Value) (n : Int) (older : List PanicEntry) (w : World) (hB : Blk w B 25 [y]) :
    CallsD Tryz.prog 17 #[.pointer (some ⟨B, 0, none⟩)] (.panicking ({ v := .iface 46 (.agg #[.int .i64 n]), recovered := false } :: older)) w fun e u' w' =>
      e = .returned (.tuple #[]) ∧ u' = .panicking ({ v := .iface 46 (.agg #[.int .i64 n]), recovered := true } :: older) ∧ Blk w' B 25 [.int .i64 n] ∧ Turn (fun k => k = B) w w' := by
  have b0 : w.cell? ⟨B, 0, none⟩ = some y := hB.cell 0
  have fb := hB.frozen 0
  have hta : ∀ w, (Instr.typeAssert (.iface 46 (.agg #[.int .i64 n])) 20 46 true).run Tryz.prog w = .ok (.tuple #[.agg #[.int .i64 n], .bool true]) w := fun w => by kernel_rfl
  obtain ⟨w1, hw1⟩ : ∃ w1, w.setCell ⟨B, 0, none⟩ (.int .i64 3) = w1 := ⟨_, rfl⟩
  have hB1 : Blk w1 B 25 [.int .i64 3] := by rw [← hw1]; exact hB.set 0 _
  have hT1 : Turn (fun k => k = B) w w1 := by rw [← hw1]; exact Turn.set w B 0 _ rfl
  have hs1 := hB1.lt
  obtain ⟨w2, hw2⟩ : ∃ w2, w1.alloc (.cells #[.int .i64 0] 46) = w2 := ⟨_, rfl⟩
  have hN2 : Blk w2 w1.heap.size 46 [.int .i64 0] := by rw [← hw2]; exact blk_new w1 _ _ _ rfl
  have hB2 : Blk w2 B 25 [.int .i64 3] := by rw [← hw2]; exact blk_old hB1 _
  have hT2 : Turn (fun k => k = B) w w2 := by rw [← hw2]; exact hT1.next (Turn.alloc _ w1 _)
  have c2 : w2.cell? ⟨w1.heap.size, 0, none⟩ = some (.int .i64 0) := hN2.cell 0
  have f2 := hN2.frozen 0
  obtain ⟨w3, hw3⟩ : ∃ w3, w2.setCell ⟨w1.heap.size, 0, none⟩ (.int .i64 n) = w3 := ⟨_, rfl⟩
  have hN3 : Blk w3 w1.heap.size 46 [.int .i64 n] := by rw [← hw3]; exact hN2.set 0 _
  have hB3 : Blk w3 B 25 [.int .i64 3] := by rw [← hw3]; exact hB2.set_other (by omega) 0 _
  have hT3 : Turn (fun k => k = B) w w3 := by rw [← hw3]; exact hT2.trans (fun k hk => hk.elim Or.inl (fun e => Or.inr (by rw [e]; exact hT1.size))) (Turn.set (S := fun k => k = B ∨ k = w1.heap.size) w2 w1.heap.size 0 _ (Or.inr rfl))
  have c3 : w3.cell? ⟨w1.heap.size, 0, none⟩ = some (.int .i64 n) := hN3.cell 0
  have b3 : w3.cell? ⟨B, 0, none⟩ = some (.int .i64 3) := hB3.cell 0
  have f3 := hB3.frozen 0
  have HBF : Hid (Blk (w3.setCell ⟨B, 0, none⟩ (.int .i64 n)) B 25 [.int .i64 n]) := hB3.set 0 _
  have HTF : Hid (Turn (fun k => k = B) w (w3.setCell ⟨B, 0, none⟩ (.int .i64 n))) := hT3.next (Turn.set w3 B 0 _ rfl)
  clear hB hB1 hT1 hs1 hN2 hB2 hT2 hN3 hB3 hT3
  refine callsD_of_wpS Tryz.func17 rfl fun c₀ cs hu => ?_
  apply wpS_seq
  apply wpS_region
  simp [wpOpsS, go_sem, recoverD, hu, Tryz.ntmps17, Exit.thenS]
  rw [show (#[Value.pointer (some { block := B, off := 0 })] ++ ((Array.replicate 14 undef).setIfInBounds 3 (Value.iface 46 (.agg #[.int .i64 n]))).setIfInBounds 0 (Value.iface 46 (.agg #[.int .i64 n]))) = #[.pointer (some ⟨B, 0, none⟩), .iface 46 (.agg #[.int .i64 n]), undef, undef, .iface 46 (.agg #[.int .i64 n]), undef, undef, undef, undef, undef, undef, undef, undef, undef, undef] from rfl]
  refine wpS_of_wp ?_
  go_wp2_with fail
  have h1 := HBF.out
  have h2 := HTF.out
  clear HBF HTF hw1 hw2 hw3 c2 f2 c3 b3 f3 b0 fb hta
  obtain ⟨wz, hz⟩ : ∃ wz, w3.setCell ⟨B, 0, none⟩ (.int .i64 n) = wz := ⟨_, rfl⟩
  rw [hz] at h1 h2 ⊢
  clear hz
  cases c₀
  simp_all [bodyPostS, results, Tryz.results17]
/-- a token or an error -/
abbrev Out := Sum Tk Int
def AE (o : Out) (e : Ending) : Prop := match o with
  | .inl t => e = .returned (tok t)
  | .inr n => e = .panicked [{ v := .iface 46 (.agg #[.int .i64 n]), recovered := false }]
def tokO : Out → Tk
  | .inl t => t
  | .inr _ => ⟨0, [], 0⟩
def errO : Out → Int
  | .inl _ => 0
  | .inr n => n
theorem load_one {P : Program} {w : World} {b : Nat} {t t' : TypeId} {x : Value} (h : Blk w b t' [x]) (ha : (isAgg t).run P w = .ok false w) : (loadVar t ⟨b, 0, none⟩).run P w = .ok x w := by
  have hc := h.cell 0
  simp only [List.getElem?_cons_zero] at hc
  simp [loadVar, ha, go_sem, hc]
/-- results: a struct in a box, a value in a box -/
theorem results_sc {P : Program} {fn : Func} {p q : Tmp} {t1 t2 : TypeId} (h : fn.results = #[.cell p t1, .cell q t2]) (tmps : Array Value) (w : World) (g b : Nat) (u1 u2 : TypeId) (X : List Value) {d : TypeDesc} (y : Value)
    (hp : tmps.getD p undef = .pointer (some ⟨g, 0, none⟩)) (hq : tmps.getD q undef = .pointer (some ⟨b, 0, none⟩)) (hB : Blk w g u1 X) (hC : Blk w b u2 [y])
    (hu : P.underlying t1 = some d) (hd : (match d with | .struct _ | .array _ _ => true | _ => false) = true) (hi : (P.info? t1).map (·.size) = some X.length) (ha : ∀ w, (isAgg t2).run P w = .ok false w) :
    (results fn tmps).run P w = .ok (.tuple #[.agg X.toArray, y]) w := by
  have hp' : tmps[p]?.getD undef = .pointer (some ⟨g, 0, none⟩) := by simpa using hp
  have hq' : tmps[q]?.getD undef = .pointer (some ⟨b, 0, none⟩) := by simpa using hq
  have hl := run_loadVar_row (P := P) w g u1 t1 X.toArray (0, 0) d hB hu hd (by simpa using hi)
  have l2 := load_one hC (ha w)
  simp [results, h, hp', hq', asAddr, hl, l2]
set_option maxRecDepth 100000 in
set_option maxHeartbeats 8000000 in
theorem caught_c (K : FuncId) (caps : Array Value) (o : Out) (w : World) (hen : ∀ args w, (callFunc K args).run Tryz.prog w = .ok (.enter K args) w)
    (hc : ∀ W, Below w.heap.size w W → Calls Tryz.prog K caps W fun e W' => AE o e ∧ Below W.heap.size W W') :
    Calls Tryz.prog 7 #[.func (.func K) #[] caps] w fun e w' => e = .returned (.tuple #[tok (tokO o), .int .i64 (errO o)]) ∧ Below w.heap.size w w' := by
  have hmf : ∀ (fn : Fn) (first cap : Array Value) (w : World), (Instr.makeFunc fn first cap).run Tryz.prog w = .ok (.func fn first cap) w := fun _ _ _ _ => rfl
  obtain ⟨w0, hw0⟩ : ∃ w0, (w.alloc (.cells #[.int .i64 0, .string ⟨#[]⟩, .int .i64 0] 24)).alloc (.cells #[.int .i64 0] 25) = w0 := ⟨_, rfl⟩
  have hA0 : Blk w0 w.heap.size 24 [.int .i64 0, .string ⟨#[]⟩, .int .i64 0] := by rw [← hw0]; exact blk_old (blk_new w _ _ _ rfl) _
  have hB0 : Blk w0 (w.heap.size + 1) 25 [.int .i64 0] := by
    rw [← hw0]
    have h := blk_new (w.alloc (.cells #[.int .i64 0, .string ⟨#[]⟩, .int .i64 0] 24)) #[.int .i64 0] 25 _ rfl
    simpa using h
  have hb0 : Below w.heap.size w w0 := by rw [← hw0]; exact ((Below.refl _ w).alloc (Nat.le_refl _) _).alloc (by simp) _
  have HC := Lib.hid (hc w0 hb0)
  have HA0 := Lib.hid hA0
  have HB0 := Lib.hid hB0
  have HBW := Lib.hid hb0
  clear hc hA0 hB0 hb0
  go_enter_defers Tryz.func7, Tryz.ntmps7
  go_wp2_with fail
  have hsz0 : w0.heap.size = w.heap.size + 2 := by rw [← hw0]; simp
  clear hw0 hen hmf
  refine HC.out.mono ?_
  rintro e w2 ⟨hae, hb2⟩
  have hA2 := HA0.out.below hb2
  have hB2 := HB0.out.below hb2
  have hbw2 := bnext HBW.out hb2
  cases o with
  | inl t =>
    obtain rfl : e = _ := hae
    clear HC HA0 HB0 HBW
    cases t with
    | mk k f n =>
      unfold tok txt
      dsimp only
      obtain ⟨S, hS⟩ : ∃ S, (⟨f.toArray⟩ : ByteArray) = S := ⟨_, rfl⟩
      simp only [hS]
      have HS := Lib.hid hS
      obtain ⟨c0, c1, c2⟩ := blk3 hA2
      obtain ⟨f0, f1, f2⟩ := frz3 hA2
      obtain ⟨w3, hw3⟩ : ∃ w3, ((w2.setCell ⟨w.heap.size, 0, none⟩ (.int .i64 k)).setCell ⟨w.heap.size, 1, none⟩ (.string S)).setCell ⟨w.heap.size, 2, none⟩ (.int .i64 n) = w3 := ⟨_, rfl⟩
      have hA3 : Blk w3 w.heap.size 24 [.int .i64 k, .string S, .int .i64 n] := by rw [← hw3]; exact set3 hA2 _ _ _
      have hB3 : Blk w3 (w.heap.size + 1) 25 [.int .i64 0] := by rw [← hw3]; exact ((hB2.set_other (by omega) 0 _).set_other (by omega) 1 _).set_other (by omega) 2 _
      have hbw3 : Below w.heap.size w w3 := by rw [← hw3]; exact set3_below hbw2 (Nat.le_refl _) _ _ _
      have b3 : w3.cell? ⟨w.heap.size + 1, 0, none⟩ = some (.int .i64 0) := hB3.cell 0
      have f3 := hB3.frozen 0
      have HAF := Lib.hid (hA3.set_other (b := w.heap.size + 1) (by omega) 0 (.int .i64 0))
      have HBF := Lib.hid (hB3.set 0 (.int .i64 0))
      have HWF := Lib.hid (hbw3.setCell (p := ⟨w.heap.size + 1, 0, none⟩) (by simp) (.int .i64 0))
      clear hA2 hB2 hbw2 hA3 hB3 hbw3 hb2 hsz0 hS
      go_wp2_with fail
      refine leaves_cons (f := 17) (args := #[.pointer (some ⟨w.heap.size + 1, 0, none⟩)]) (by simp) (by simp [go_sem]) ?_
      refine (catch_idle (w.heap.size + 1) _).mono ?_
      rintro e u' w'' ⟨rfl, rfl, rfl⟩
      refine ⟨_, results_sc Tryz.results7 _ _ w.heap.size (w.heap.size + 1) _ _ _ _ rfl rfl HAF.out HBF.out Tryz.underlying24 rfl infoTk Tryz.isAgg25, ?_⟩
      exact ⟨by rw [← HS.out]; rfl, HWF.out⟩
  | inr n =>
    obtain rfl : e = _ := hae
    have HA2 := Lib.hid hA2
    have HB2 := Lib.hid hB2
    have HW2 := Lib.hid hbw2
    clear HC HA0 HB0 HBW hA2 hB2 hbw2
    go_wp2_with fail
    refine leaves_cons (f := 17) (args := #[.pointer (some ⟨w.heap.size + 1, 0, none⟩)]) (by simp) (by simp [go_sem]) ?_
    refine (catch_fault (w.heap.size + 1) _ n [] _ HB2.out).mono ?_
    rintro e u' w'' ⟨rfl, rfl, hBz, hTz⟩
    have hAz := blk_turn HA2.out hTz (by simp)
    have hbz : Below w.heap.size w w'' := Turn.below HW2.out hTz (fun k hk => by rw [hk]; exact Nat.le_succ _) HW2.out.size
    refine ⟨_, results_sc Tryz.results7 _ _ w.heap.size (w.heap.size + 1) _ _ _ _ rfl rfl hAz hBz Tryz.underlying24 rfl infoTk Tryz.isAgg25, ?_⟩
    exact ⟨rfl, hbz⟩
end Go.Proofs.YtjadginnaogjoaaGreatDoor.sea
