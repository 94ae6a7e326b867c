/- The contract of the developers' Parse: a deferred call recovers the reader's panic. Every text within the reach; JT. -/
import Derived.Test.YtbgnoobgnpebdaaDoorJdvB
import Derived.Defers
import Derived.Recover
import Derived.Laws.Pointers
namespace Go.Proofs.YtbgnoobgnpebdaaDoor.jdv
open Go.RowKit
open Go.Proofs.YtbgnoobgnpebdaaDoor.oct Go.Proofs.YtbgnoobgnpebdaaDoor.ref Go.Proofs.YtbgnoobgnpebdaaDoor.rows Go.Proofs.YtbgnoobgnpebdaaDoor.rowg Go.Proofs.YtbgnoobgnpebdaaDoor.jsn
open Go.Lib (byteCells hasPrefix trimPrefix)

theorem catch_panicking (A B : Nat) (x y : Value) (u : TypeId) (pv : Value) (older : List PanicEntry) (w : World) (hA : Blk w A 22 [x]) (hB : Blk w B 23 [y]) (hAB : A ≠ B) :
    CallsD Tryd.prog 29 #[.pointer (some ⟨A, 0, none⟩), .pointer (some ⟨B, 0, none⟩)] (.panicking ({ v := .iface u pv, recovered := false } :: older)) w fun e u' w' =>
      e = .returned (.tuple #[]) ∧ u' = .panicking ({ v := .iface u pv, recovered := true } :: older) ∧ w' = (w.setCell ⟨A, 0, none⟩ (.slice none 0 0)).setCell ⟨B, 0, none⟩ (.int .i64 3) := by
  have a0 := hA.cell 0
  have fa := hA.frozen 0
  have hB2 := hB.set_other (b := A) hAB 0 (.slice none 0 0)
  have b0 := hB2.cell 0
  have fb := hB2.frozen 0
  clear hA hB hB2
  refine callsD_of_wpS Tryd.func29 rfl fun c₀ cs hu => ?_
  apply wpS_seq
  apply wpS_region
  simp [wpOpsS, go_sem, recoverD, hu, Tryd.ntmps29, Exit.thenS]
  refine wpS_cond (t := true) (by simp [Act.eval, Array.replicate]) ?_
  simp only [if_true]
  apply wpS_region
  simp [wpOpsS, go_sem, a0, fa, b0, fb, bodyPostS, results, Tryd.results29]
theorem catch_idle (A B : Nat) (w : World) :
    CallsD Tryd.prog 29 #[.pointer (some ⟨A, 0, none⟩), .pointer (some ⟨B, 0, none⟩)] .returning w fun e u' w' => e = .returned (.tuple #[]) ∧ u' = .returning ∧ w' = w := by
  refine callsD_of_wpS Tryd.func29 rfl fun c₀ cs hu => ?_
  apply wpS_seq
  apply wpS_region
  simp [wpOpsS, go_sem, recoverD, hu, Tryd.ntmps29, Exit.thenS]
  refine wpS_cond (t := false) (by simp [Act.eval, Array.replicate]) ?_
  simp only [Bool.false_eq_true, if_false]
  refine wpS_of_wp (wp_skip ?_)
  cases c₀
  simp_all [bodyPostS, results, Tryd.results29]
theorem load_blk1 {P : Program} {w : World} {b : Nat} {t t' : TypeId} {x : Value} (h : Blk w b t' [x]) (ha : (isAgg t).run P w = .ok false w) : (loadVar t ⟨b, 0, none⟩).run P w = .ok x w := by
  have hc := h.cell 0
  simp only [List.getElem?_cons_zero] at hc
  simp [loadVar, ha, go_sem, hc]
/-- two results that lie in boxes -/
theorem results_two {P : Program} {fn : Func} {p q : Tmp} {t1 t2 : TypeId} (h : fn.results = #[.cell p t1, .cell q t2]) (tmps : Array Value) (w : World) (b2 b3 : Nat) (x y : Value)
    (hp : tmps.getD p undef = .pointer (some ⟨b2, 0, none⟩)) (hq : tmps.getD q undef = .pointer (some ⟨b3, 0, none⟩)) (h2 : Blk w b2 t1 [x]) (h3 : Blk w b3 t2 [y])
    (a1 : ∀ w, (isAgg t1).run P w = .ok false w) (a2 : ∀ w, (isAgg t2).run P w = .ok false w) : (results fn tmps).run P w = .ok (.tuple #[x, y]) w := by
  have hp' : tmps[p]?.getD undef = .pointer (some ⟨b2, 0, none⟩) := by simpa using hp
  have hq' : tmps[q]?.getD undef = .pointer (some ⟨b3, 0, none⟩) := by simpa using hq
  have l1 := load_blk1 h2 (a1 w)
  have l2 := load_blk1 h3 (a2 w)
  simp [results, h, hp', hq', asAddr, l1, l2]
set_option maxRecDepth 100000 in
set_option maxHeartbeats 8000000 in
theorem parse_c (l : List UInt8) (w : World) (hl : l.length ≤ 140737488351232) (ht : JT w) :
    Calls Tryd.prog 13 #[.string ⟨l.toArray⟩] w fun e w' => ParseV w w' (parseJ l) e := by
  have hmf : ∀ (fn : Fn) (first cap : Array Value) (w : World), (Instr.makeFunc fn first cap).run Tryd.prog w = .ok (.func fn first cap) w := fun _ _ _ _ => rfl
  have hsz : (⟨l.toArray⟩ : ByteArray).size = l.length := size_mk l
  obtain ⟨S, hS⟩ : ∃ S, (⟨l.toArray⟩ : ByteArray) = S := ⟨_, rfl⟩
  rw [hS] at hsz ⊢
  by_cases h0 : 16384 < l.length
  · have HV : Hid (parseJ l = (2, [])) := by show _ = _; unfold parseJ; rw [if_pos h0]
    have hI : (S.size : Int) > 16384 := by omega
    clear hS hsz h0 hl ht
    go_enter_defers Tryd.func13, Tryd.ntmps13
    go_wp2_with fail
    have hA : Blk ((w.alloc (.cells #[.slice none 0 0] 22)).alloc (.cells #[.int .i64 2] 23)) w.heap.size 22 [.slice none 0 0] := blk_old (blk_new w _ _ _ rfl) _
    have hB : Blk ((w.alloc (.cells #[.slice none 0 0] 22)).alloc (.cells #[.int .i64 2] 23)) (w.heap.size + 1) 23 [.int .i64 2] := by
      have h := blk_new (w.alloc (.cells #[.slice none 0 0] 22)) #[.int .i64 2] 23 _ rfl
      simpa using h
    refine ⟨_, results_two Tryd.results13 _ _ w.heap.size (w.heap.size + 1) _ _ rfl rfl hA hB Tryd.isAgg22 Tryd.isAgg23, ?_⟩
    rw [HV.out]
    exact ⟨_, rfl, World.ownsRow_nil _ _ _ _, ((Below.refl _ w).alloc (Nat.le_refl _) _).alloc (by simp) _⟩
  · have HV := Lib.hid (obj_parse l (by omega))
    have hI : ¬ (S.size : Int) > 16384 := by omega
    have hl2 : l.length ≤ 16384 := by omega
    have HT := Lib.hid ht
    have hS' := hS.symm
    clear hsz h0 hl ht hS
    obtain ⟨w0, hw0⟩ : ∃ w0, (w.alloc (.cells #[.slice none 0 0] 22)).alloc (.cells #[.int .i64 0] 23) = w0 := ⟨_, rfl⟩
    have hA0 : Blk w0 w.heap.size 22 [.slice none 0 0] := by rw [← hw0]; exact blk_old (blk_new w _ _ _ rfl) _
    have hB0 : Blk w0 (w.heap.size + 1) 23 [.int .i64 0] := by
      rw [← hw0]
      have h := blk_new (w.alloc (.cells #[.slice none 0 0] 22)) #[.int .i64 0] 23 _ rfl
      simpa using h
    have hb0 : Below w.heap.size w w0 := by rw [← hw0]; exact ((Below.refl _ w).alloc (Nat.le_refl _) _).alloc (by simp) _
    have hsz0 : w0.heap.size = w.heap.size + 2 := by rw [← hw0]; simp
    have HA0 := Lib.hid hA0
    have HB0 := Lib.hid hB0
    have HBW := Lib.hid hb0
    have HW0 := Lib.hid hw0
    have hrd : Rd (w0.alloc (.cells #[.string S] 60)) w0.heap.size l := by rw [hS']; exact blk_new w0 _ _ _ rfl
    have HRD := Lib.hid hrd
    have HO := Lib.hid (object_c w0.heap.size l _ hrd hl2 ((HT.out.below hb0).below ((Below.refl _ _).alloc (Nat.le_refl _) _)))
    clear hA0 hB0 hb0 hw0 hrd hS'
    go_enter_defers Tryd.func13, Tryd.ntmps13
    go_wp2_with fail
    rw [HW0.out, show w.heap.size + 1 + 1 = w0.heap.size by omega]
    have hA1 : Blk (w0.alloc (.cells #[.string S] 60)) w.heap.size 22 [.slice none 0 0] := blk_old HA0.out _
    have hB1 : Blk (w0.alloc (.cells #[.string S] 60)) (w.heap.size + 1) 23 [.int .i64 0] := blk_old HB0.out _
    have hbw1 : Below w.heap.size w (w0.alloc (.cells #[.string S] 60)) := HBW.out.alloc HBW.out.size _
    have hs1 : (w0.alloc (.cells #[.string S] 60)).heap.size = w.heap.size + 3 := by simp; omega
    obtain ⟨w1, hw1⟩ : ∃ w1, w0.alloc (.cells #[.string S] 60) = w1 := ⟨_, rfl⟩
    rw [hw1] at HO hA1 hB1 hbw1 hs1 ⊢
    have HA1 := Lib.hid hA1
    have HB1 := Lib.hid hB1
    have HBW1 := Lib.hid hbw1
    clear hA1 hB1 hbw1 hw1 HRD HW0
    obtain ⟨c, hc⟩ : ∃ c, w0.heap.size = c := ⟨_, rfl⟩
    rw [hc] at HO hsz0 ⊢
    clear hc HA0 HB0 HBW
    cases ho : objP l with
    | some ms =>
      have hv := HV.out
      rw [ho] at hv
      dsimp only at hv
      have HVV := Lib.hid hv
      refine (HO.out.mono fun e w' h => h.yes ho).mono ?_
      rintro e w2 ⟨v, rfl, hrow, hk2⟩
      have hA2 := hk2.blk HA1.out (by omega)
      have hB2 := hk2.blk HB1.out (by omega)
      have hb2 : Below w.heap.size w w2 := HBW1.out.trans (hk2.below (by omega) (by omega))
      have hr2 : RowV w2 (w.heap.size + 3) ms v := hrow.base (by omega)
      obtain ⟨p, cp, rfl, _, _, _⟩ := hr2.shape
      have a0 := hA2.cell 0
      have fa := hA2.frozen 0
      have hB3 := hB2.set_other (b := w.heap.size) (by omega) 0 (.slice p ms.length cp)
      have b0 := hB3.cell 0
      have fb := hB3.frozen 0
      have HA2 := Lib.hid hA2
      have HB3 := Lib.hid hB3
      have HBW2 := Lib.hid hb2
      have HR2 := Lib.hid hr2
      clear hA2 hB2 hB3 hb2 hr2 hrow hk2 hv ho HV HO
      go_wp2_with fail
      clear a0 fa b0 fb
      have hAf := (HA2.out.set 0 (.slice p ms.length cp)).set_other (b := w.heap.size + 1) (by omega) 0 (.int .i64 0)
      have hBf := HB3.out.set 0 (.int .i64 0)
      have hrf := ownsRow_setCell_below (ownsRow_setCell_below HR2.out (a := ⟨w.heap.size, 0, none⟩) (by simp) (.slice p ms.length cp)) (a := ⟨w.heap.size + 1, 0, none⟩) (by simp) (.int .i64 0)
      have hbf := (HBW2.out.setCell (p := ⟨w.heap.size, 0, none⟩) (Nat.le_refl _) (.slice p ms.length cp)).setCell (p := ⟨w.heap.size + 1, 0, none⟩) (by simp) (.int .i64 0)
      refine leaves_cons (f := 29) (args := #[.pointer (some ⟨w.heap.size, 0, none⟩), .pointer (some ⟨w.heap.size + 1, 0, none⟩)]) (by simp) (by simp [go_sem]) ?_
      refine (catch_idle w.heap.size (w.heap.size + 1) _).mono ?_
      rintro e u' w'' ⟨rfl, rfl, rfl⟩
      refine ⟨_, results_two Tryd.results13 _ _ w.heap.size (w.heap.size + 1) _ _ rfl rfl hAf hBf Tryd.isAgg22 Tryd.isAgg23, ?_⟩
      rw [HVV.out]
      exact ⟨_, rfl, RowV.base hrf (by omega), hbf⟩
    | none =>
      have hv := HV.out
      rw [ho] at hv
      dsimp only at hv
      have HVV := Lib.hid hv
      refine (HO.out.mono fun e w' h => h.no ho).mono ?_
      rintro e w2 ⟨rfl, hk2⟩
      have hA2 := hk2.blk HA1.out (by omega)
      have hB2 := hk2.blk HB1.out (by omega)
      have hb2 : Below w.heap.size w w2 := HBW1.out.trans (hk2.below (by omega) (by omega))
      have HA2 := Lib.hid hA2
      have HB2 := Lib.hid hB2
      have HBW2 := Lib.hid hb2
      clear hA2 hB2 hb2 hk2 hv ho HV HO
      go_wp2_with fail
      have hAf := (HA2.out.set 0 (.slice none 0 0)).set_other (b := w.heap.size + 1) (by omega) 0 (.int .i64 3)
      have hBf := (HB2.out.set_other (b := w.heap.size) (by omega) 0 (.slice none 0 0)).set 0 (.int .i64 3)
      have hbf := (HBW2.out.setCell (p := ⟨w.heap.size, 0, none⟩) (Nat.le_refl _) (.slice none 0 0)).setCell (p := ⟨w.heap.size + 1, 0, none⟩) (by simp) (.int .i64 3)
      refine leaves_cons (f := 29) (args := #[.pointer (some ⟨w.heap.size, 0, none⟩), .pointer (some ⟨w.heap.size + 1, 0, none⟩)]) (by simp) (by simp [go_sem]) ?_
      refine (catch_panicking w.heap.size (w.heap.size + 1) _ _ _ _ [] _ HA2.out HB2.out (by omega)).mono ?_
      rintro e u' w'' ⟨rfl, rfl, rfl⟩
      refine ⟨_, results_two Tryd.results13 _ _ w.heap.size (w.heap.size + 1) _ _ rfl rfl hAf hBf Tryd.isAgg22 Tryd.isAgg23, ?_⟩
      rw [HVV.out]
      exact ⟨_, rfl, World.ownsRow_nil _ _ _ _, hbf⟩
end Go.Proofs.YtbgnoobgnpebdaaDoor.jdv
