/- The contract of the developers' Get. Members whose names and texts are within the reach. -/
import Derived.Test.YtbgnoobgnpebdaaDoorJdvG
namespace Go.Proofs.YtbgnoobgnpebdaaDoor.jdv
open Go.RowKit
open Go.Proofs.YtbgnoobgnpebdaaDoor.oct Go.Proofs.YtbgnoobgnpebdaaDoor.ref Go.Proofs.YtbgnoobgnpebdaaDoor.rows Go.Proofs.YtbgnoobgnpebdaaDoor.rowg Go.Proofs.YtbgnoobgnpebdaaDoor.jsn
open Go.Lib (byteCells hasPrefix trimPrefix)

/-- what a cell holds, stored into it, turns nothing -/
theorem setCell_same {w : World} {g i : Nat} {v : Value} (h : w.cell? ⟨g, i, none⟩ = some v) : w.setCell ⟨g, i, none⟩ v = w := by
  have hh : (w.setCell ⟨g, i, none⟩ v).heap = w.heap := by
    apply Array.ext_getElem?
    intro k
    by_cases hk : k = g
    · subst hk
      unfold World.cell? at h
      simp only [World.setCell, Array.getElem?_modify, if_true]
      cases ho : w.heap[k]? with
      | none => rfl
      | some o =>
        rw [ho] at h
        cases o with
        | cells c t fz =>
          simp only at h
          simp only [Option.map_some]
          congr 2
          apply Array.ext_getElem?
          intro j
          have h' : c[i]? = some v := by simpa using h
          by_cases hj : j = i
          · subst hj
            rw [h']
            simp [(Array.getElem?_eq_some_iff.1 h').1]
          · simp [Ne.symm hj]
        | _ => rfl
    · exact Below.heap_setCell _ _ _ _ hk
  cases w
  simp only [World.setCell] at hh ⊢
  rw [hh]
/-- two results: a variable of five cells, and a slot -/
theorem results_mb {P : Program} {fn : Func} {p q : Tmp} {ty : TypeId} (h : fn.results = #[.cell p ty, .tmp q]) (tmps : Array Value) (w : World) (g : Nat) (t : TypeId) (X : List Value) (u : Value) {d : TypeDesc}
    (hp : tmps.getD p undef = .pointer (some ⟨g, 0, none⟩)) (hq : tmps.getD q undef = u) (hB : Blk w g t X) (hu : P.underlying ty = some d) (hd : (match d with | .struct _ | .array _ _ => true | _ => false) = true) (hi : (P.info? ty).map (·.size) = some X.length) :
    (results fn tmps).run P w = .ok (.tuple #[.agg X.toArray, u]) w := results_rowtmp h tmps w g t X u hp hq hB hu hd hi
set_option maxRecDepth 100000 in
set_option maxHeartbeats 8000000 in
theorem get_c (P : Option Addr) (C : Nat) (ms : List Mem) (n : List UInt8) (w : World) (hp : InM w P ms) (hl : ms.length ≤ 2513169434916) (hf : FitM ms) :
    Calls Tryd.prog 19 #[.slice P ms.length C, tx n] w fun e w' => e = .returned (getV (findM ms n)) ∧ Below w.heap.size w w' := by
  have HP := Lib.hid hp
  have HF := Lib.hid hf
  have hE : Blk (w.alloc (.cells #[.string ⟨#[]⟩, .int .i64 0, .string ⟨#[]⟩, .int .i64 0, .bool false] 38)) w.heap.size 38 [.string ⟨#[]⟩, .int .i64 0, .string ⟨#[]⟩, .int .i64 0, .bool false] := blk_new w _ _ _ rfl
  have HE := Lib.hid hE
  have HB0 := Lib.hid ((Below.refl w.heap.size w).alloc (Nat.le_refl _) (.cells #[.string ⟨#[]⟩, .int .i64 0, .string ⟨#[]⟩, .int .i64 0, .bool false] 38))
  clear hp hE hf
  unfold tx
  go_enter Tryd.func19, Tryd.ntmps19
  go_wp2_with fail
  go_loopg [10] ms.length (fun g s10 wx => ∃ k : Nat, k + g = ms.length ∧ s10 = .int .i64 k ∧ Hid (findM (ms.take k) n = none) ∧ Hid (Blk wx w.heap.size 38 [.string ⟨#[]⟩, .int .i64 0, .string ⟨#[]⟩, .int .i64 0, .bool false]) ∧ Hid (Below w.heap.size w wx) ∧ w.heap.size < wx.heap.size)
  case atStart => exact ⟨0, by omega, rfl, rfl, HE.out, HB0.out, by simp⟩
  case round =>
    obtain ⟨k, hkg, rfl, HN, HR, HB, hsz⟩ := hrel
    rcases gk with _ | g
    · obtain rfl : k = ms.length := by omega
      have HV : Hid (findM ms n = none) := by have h := HN.out; rwa [List.take_length] at h
      have hE2 := HR.out
      have c0 := hE2.cell 0
      have c1 := hE2.cell 1
      have c2 := hE2.cell 2
      have c3 := hE2.cell 3
      have c4 := hE2.cell 4
      have f0 := hE2.frozen 0
      have f1 := hE2.frozen 1
      have f2 := hE2.frozen 2
      have f3 := hE2.frozen 3
      have f4 := hE2.frozen 4
      clear hE2
      go_wp2_with fail
      clear c0 c1 c2 c3 c4 f0 f1 f2 f3 f4
      refine bodyPost_ret (v := .tuple #[.agg ([.string ⟨#[]⟩, .int .i64 0, .string ⟨#[]⟩, .int .i64 0, .bool false] : List Value).toArray, .bool false]) (results_mb Tryd.results19 _ _ w.heap.size 38 [.string ⟨#[]⟩, .int .i64 0, .string ⟨#[]⟩, .int .i64 0, .bool false] _ rfl rfl (set5_blk HR.out _ _ _ _ _) Tryd.underlying38 rfl infoMem) rfl ⟨by rw [HV.out]; rfl, HB.out.trans (set5_below _ _ _ _ _ _ _)⟩
    · have hk : k < ms.length := by omega
      have hkI : (k : Int) < (ms.length : Int) := by omega
      obtain ⟨b, o, rfl, c0, c1, c2, c3, c4⟩ := mem_cells (inm_below HP.out HB.out) k hk
      obtain ⟨h1, h2⟩ := findM_take ms n k hk HN.out
      have hfk := HF.out _ (List.getElem_mem hk)
      obtain ⟨m, hm⟩ : ∃ m, ms[k] = m := ⟨_, rfl⟩
      rw [hm] at c0 c1 c2 c3 c4 h1 h2 hfk
      obtain ⟨x0, x1, x2, x3, x4⟩ := m
      dsimp only at c0 c1 c2 c3 c4 h1 h2 hfk
      obtain ⟨l0, l2, _⟩ := hfk
      have H1 := Lib.hid h1
      have H2 := Lib.hid h2
      clear h1 h2 hm
      by_cases he : (x0 == n) = true
      · have HV := Lib.hid (H1.out he)
        have HC0 := Lib.hid (fun w => clone_c ⟨x0.toArray⟩ w (by rw [size_mk]; omega))
        have HC2 := Lib.hid (fun w => clone_c ⟨x2.toArray⟩ w (by rw [size_mk]; omega))
        go_wp2_with fail
        have hM : Blk (wr.alloc (.cells #[.string ⟨x0.toArray⟩, .int .i64 x1, .string ⟨x2.toArray⟩, .int .i64 x3, .bool x4] 38)) wr.heap.size 38 [.string ⟨x0.toArray⟩, .int .i64 x1, .string ⟨x2.toArray⟩, .int .i64 x3, .bool x4] := blk_new wr _ _ _ rfl
        have hR : Blk (wr.alloc (.cells #[.string ⟨x0.toArray⟩, .int .i64 x1, .string ⟨x2.toArray⟩, .int .i64 x3, .bool x4] 38)) w.heap.size 38 [.string ⟨#[]⟩, .int .i64 0, .string ⟨#[]⟩, .int .i64 0, .bool false] := blk_old HR.out _
        have hbw : Below w.heap.size w (wr.alloc (.cells #[.string ⟨x0.toArray⟩, .int .i64 x1, .string ⟨x2.toArray⟩, .int .i64 x3, .bool x4] 38)) := HB.out.alloc HB.out.size _
        obtain ⟨W, hW⟩ : ∃ W, wr.alloc (.cells #[.string ⟨x0.toArray⟩, .int .i64 x1, .string ⟨x2.toArray⟩, .int .i64 x3, .bool x4] 38) = W := ⟨_, rfl⟩
        rw [hW] at hM hR hbw ⊢
        obtain ⟨M, hMM⟩ : ∃ M, wr.heap.size = M := ⟨_, rfl⟩
        rw [hMM] at hM hsz ⊢
        obtain ⟨S0, hS0⟩ : ∃ S0, (⟨x0.toArray⟩ : ByteArray) = S0 := ⟨_, rfl⟩
        obtain ⟨S2, hS2⟩ : ∃ S2, (⟨x2.toArray⟩ : ByteArray) = S2 := ⟨_, rfl⟩
        rw [hS0] at hM HC0 ⊢
        rw [hS2] at hM HC2 ⊢
        have HW := Lib.hid hW
        clear hW hMM c0 c1 c2 c3 c4
        have e0 : ∀ x : After W, x.v.cell? ⟨M, 0, none⟩ = some (.string S0) := fun x => (hM.below x.below).cell 0
        have e2 : ∀ x : After W, x.v.cell? ⟨M, 2, none⟩ = some (.string S2) := fun x => (hM.below x.below).cell 2
        have g0 : ∀ x : After W, x.v.frozen? ⟨M, 0, none⟩ = false := fun x => (hM.below x.below).frozen 0
        have g2 : ∀ x : After W, x.v.frozen? ⟨M, 2, none⟩ = false := fun x => (hM.below x.below).frozen 2
        have s0 : ∀ x : After W, x.v.setCell ⟨M, 0, none⟩ (.string S0) = x.v := fun x => setCell_same (e0 x)
        have s2 : ∀ x : After W, x.v.setCell ⟨M, 2, none⟩ (.string S2) = x.v := fun x => setCell_same (e2 x)
        have C0 := Lib.hid (fun x : After W => after_of x (HC0.out x.v))
        have C2 := Lib.hid (fun x : After W => after_of x (HC2.out x.v))
        have HM := Lib.hid hM
        have HRW := Lib.hid hR
        have HBW := Lib.hid hbw
        clear hM hR hbw
        refine wp_region_after (by kernel_rfl) (by kernel_rfl) ?_
        repeat (go_big_quiet_step (first | (rename_i x; go_at_call_of 33 (Value.string S0); with_reducible exact C0.out x) | (rename_i x; go_at_call 33; with_reducible exact C2.out x)))
        refine wpQuiet_nil ?_
        rintro ⟨wq, hxb⟩
        dsimp only
        clear e0 e2 g0 g2 s0 s2 C0 C2
        have hMq := HM.out.below hxb
        have hRq := HRW.out.below hxb
        have HRQ := Lib.hid hRq
        have HBQ := Lib.hid (bnext HBW.out hxb)
        have d0 := hMq.cell 0
        have d1 := hMq.cell 1
        have d2 := hMq.cell 2
        have d3 := hMq.cell 3
        have d4 := hMq.cell 4
        have c0 := hRq.cell 0
        have c1 := hRq.cell 1
        have c2 := hRq.cell 2
        have c3 := hRq.cell 3
        have c4 := hRq.cell 4
        have f0 := hRq.frozen 0
        have f1 := hRq.frozen 1
        have f2 := hRq.frozen 2
        have f3 := hRq.frozen 3
        have f4 := hRq.frozen 4
        simp only [List.getElem?_cons_zero, List.getElem?_cons_succ] at d0 d1 d2 d3 d4 c0 c1 c2 c3 c4
        clear hMq hRq hxb
        go_wp2_with fail
        clear d0 d1 d2 d3 d4 c0 c1 c2 c3 c4 f0 f1 f2 f3 f4
        refine bodyPost_ret (v := .tuple #[.agg ([.string S0, .int .i64 x1, .string S2, .int .i64 x3, .bool x4] : List Value).toArray, .bool true]) (results_mb Tryd.results19 _ _ w.heap.size 38 [.string S0, .int .i64 x1, .string S2, .int .i64 x3, .bool x4] _ rfl rfl (set5_blk HRQ.out _ _ _ _ _) Tryd.underlying38 rfl infoMem) rfl ⟨by rw [HV.out, ← hS0, ← hS2]; rfl, HBQ.out.trans (set5_below _ _ _ _ _ _ _)⟩
      · have hef : (x0 == n) = false := by simpa using he
        have HN2 := Lib.hid (H2.out hef)
        clear he
        go_wp2_with fail
        go_roundg g
        case measure => omega
        case rel => exact ⟨k + 1, by omega, by go_num, HN2, blk_old HR.out _, HB.out.alloc HB.out.size _, by simp; omega⟩
end Go.Proofs.YtbgnoobgnpebdaaDoor.jdv
