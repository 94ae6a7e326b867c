/- The contract of the developers' object. Texts of at most 16384 bytes; JT. -/
import Derived.Test.YtbgnoobgnpebdaaDoorJdvA
namespace Go.Proofs.YtbgnoobgnpebdaaDoor.jdv
open Go.RowKit
open Go.Proofs.YtbgnoobgnpebdaaDoor.oct Go.Proofs.YtbgnoobgnpebdaaDoor.ref Go.Proofs.YtbgnoobgnpebdaaDoor.rows Go.Proofs.YtbgnoobgnpebdaaDoor.rowg Go.Proofs.YtbgnoobgnpebdaaDoor.jsn
open Go.Lib (byteCells hasPrefix trimPrefix)

theorem fit_mem {m : Mem} (n : Nat) (h1 : inForm m = true) (h2 : i64 m) (h3 : (memT m).length ≤ n) (hn : n ≤ 140737488351232) : m.name.length ≤ 140737488351232 ∧ m.text.length ≤ 140737488351232 ∧ i64 m := by
  obtain ⟨h4, h5⟩ := memT_len m h1
  exact ⟨by omega, by omega, h2⟩
theorem commas_mem : ∀ (b : List Mem) (x : Mem), x ∈ b → (memT x).length ≤ (commas b).length
  | [], x, hx => by cases hx
  | y :: b, x, hx => by
    unfold commas
    rw [List.flatMap_cons, List.length_append, List.length_cons]
    rcases List.mem_cons.1 hx with rfl | hx
    · omega
    · have := commas_mem b x hx
      unfold commas at this
      omega
theorem memsP_fit {l r : List UInt8} {ms : List Mem} (h : memsP l = some (ms, r)) (hl : l.length ≤ 16384) : FitM ms ∧ ms.length ≤ 64 ∧ r.length ≤ l.length := by
  unfold memsP at h
  by_cases h0 : hasPrefix l [125] = true
  · rw [if_pos h0] at h
    cases h
    exact ⟨fitM_nil, by decide, Nat.le_refl _⟩
  · rw [if_neg h0] at h
    cases h1 : memP l with
    | none => rw [h1] at h; cases h
    | some y =>
      obtain ⟨m, r1⟩ := y
      rw [h1] at h
      dsimp only at h
      obtain ⟨b, rfl, h2, h3, h4⟩ := moreP_sound _ _ _ _ _ h
      obtain ⟨h5, h6, h7⟩ := memP_sound h1
      have e : l.length = (memT m).length + ((commas b).length + r.length) := by rw [h5, h2, List.length_append, List.length_append]
      refine ⟨fun x hx => ?_, by simp; omega, by omega⟩
      rcases List.mem_cons.1 (by simpa using hx) with rfl | hx
      · exact fit_mem l.length h6 h7 (by omega) (by omega)
      · have hxl := commas_mem b x hx
        exact fit_mem l.length (h4 x hx).1 (h4 x hx).2 (by omega) (by omega)
def ObjV (b : Nat) (w w' : World) (o : Option (List Mem)) (e : Ending) : Prop :=
  RK b w w' ∧ match o with | some ms => ∃ v, e = .returned v ∧ RowV w' w.heap.size ms v | none => e = .panicked [{ v := .iface 23 (.int .i64 3), recovered := false }]
theorem ObjV.mk_yes {b : Nat} {w w' : World} {o : Option (List Mem)} {ms : List Mem} {v : Value} (ho : o = some ms) (h1 : RK b w w') (h2 : RowV w' w.heap.size ms v) : ObjV b w w' o (.returned v) := by
  subst ho
  exact ⟨h1, v, rfl, h2⟩
theorem ObjV.mk_no {b : Nat} {w w' : World} {o : Option (List Mem)} (ho : o = none) (h1 : RK b w w') : ObjV b w w' o (.panicked [{ v := .iface 23 (.int .i64 3), recovered := false }]) := by
  subst ho
  exact ⟨h1, rfl⟩
theorem ObjV.yes {b : Nat} {w w' : World} {o : Option (List Mem)} {e : Ending} {ms : List Mem} (h : ObjV b w w' o e) (ho : o = some ms) : ∃ v, e = .returned v ∧ RowV w' w.heap.size ms v ∧ RK b w w' := by
  subst ho
  obtain ⟨h1, v, h2, h3⟩ := h
  exact ⟨v, h2, h3, h1⟩
theorem ObjV.no {b : Nat} {w w' : World} {o : Option (List Mem)} {e : Ending} (h : ObjV b w w' o e) (ho : o = none) : e = .panicked [{ v := .iface 23 (.int .i64 3), recovered := false }] ∧ RK b w w' := by
  subst ho
  exact ⟨h.2, h.1⟩
set_option maxRecDepth 100000 in
set_option maxHeartbeats 8000000 in
theorem object_c (b : Nat) (l : List UInt8) (w : World) (hr : Rd w b l) (hl : l.length ≤ 16384) (ht : JT w) :
    Calls Tryd.prog 30 #[.pointer (some ⟨b, 0, none⟩)] w fun e w' => ObjV b w w' (objP l) e := by
  have hbB := hr.lt
  have HR := Lib.hid hr
  have HT := Lib.hid ht
  by_cases h0 : hasPrefix l [123] = true
  · have H0 := Lib.hid (take_yes b l [123] w hr h0)
    have hdl : (l.drop 1).length ≤ 16384 := by rw [List.length_drop]; omega
    have HOB : Hid (objP l = match memsP (l.drop 1) with
      | none => none
      | some (ms, r) => if hasPrefix r [125] = true then (if r.drop 1 = [] ∧ unl ms = true then some ms else none) else none) := by show _ = _; unfold objP; rw [if_pos h0]; rfl
    obtain ⟨s, hs⟩ : ∃ s, l.drop 1 = s := ⟨_, rfl⟩
    simp only [List.length_cons, List.length_nil, Nat.zero_add] at H0
    rw [hs] at hdl HOB H0
    clear hr ht h0 hs hl
    cases h1 : memsP s with
    | none =>
      have HV : Hid (objP l = none) := by show _ = _; rw [HOB.out, h1]
      have HME := Lib.hid (fun w hr ht => (members_c b s w hr hdl ht).mono fun e w' h => h.no h1)
      clear h1 HOB
      go_enter Tryd.func30, Tryd.ntmps30
      go_wp2_with fail
      refine H0.out.mono ?_
      rintro e w1 ⟨rfl, hk1, hr1⟩
      have H1 := Lib.hid (HME.out w1 hr1 (HT.out.rk HR.out hk1))
      have HK1 := Lib.hid hk1
      clear hk1 hr1
      go_wp2_with fail
      refine H1.out.mono ?_
      rintro e w2 ⟨rfl, hk2⟩
      go_wp2_with fail
      exact ⟨rfl, ObjV.mk_no HV.out (HK1.out.trans hk2)⟩
    | some y =>
      obtain ⟨ms, r⟩ := y
      obtain ⟨hfit, hml, hrl⟩ := memsP_fit h1 hdl
      have HFT := Lib.hid hfit
      have HOM : Hid (objP l = if hasPrefix r [125] = true then (if r.drop 1 = [] ∧ unl ms = true then some ms else none) else none) := by show _ = _; rw [HOB.out, h1]
      have HME := Lib.hid (fun w hr ht => (members_c b s w hr hdl ht).mono fun e w' h => h.yes h1)
      clear h1 HOB hfit
      by_cases h2 : hasPrefix r [125] = true
      · have H2 := Lib.hid (fun w hr => take_yes b r [125] w hr h2)
        simp only [List.length_cons, List.length_nil, Nat.zero_add] at H2
        have HOR : Hid (objP l = if r.drop 1 = [] ∧ unl ms = true then some ms else none) := by show _ = _; rw [HOM.out, if_pos h2]
        obtain ⟨q, hq⟩ : ∃ q, r.drop 1 = q := ⟨_, rfl⟩
        rw [hq] at H2 HOR
        clear h2 HOM hq
        by_cases h3 : q = []
        · subst h3
          cases h4 : unl ms with
          | true =>
            have HV : Hid (objP l = some ms) := by show _ = _; rw [HOR.out, if_pos ⟨rfl, h4⟩]
            go_enter Tryd.func30, Tryd.ntmps30
            go_wp2_with fail
            refine H0.out.mono ?_
            rintro e w1 ⟨rfl, hk1, hr1⟩
            have H1 := Lib.hid (HME.out w1 hr1 (HT.out.rk HR.out hk1))
            have HK1 := Lib.hid hk1
            have hs1 := hk1.size
            clear hk1 hr1
            go_wp2_with fail
            refine H1.out.mono ?_
            rintro e w2 ⟨v, rfl, hrow, hk2, hr2⟩
            have HRW := Lib.hid (hrow.base hs1)
            have HK2 := Lib.hid (HK1.out.trans hk2)
            have H3 := Lib.hid (H2.out w2 hr2)
            clear hrow hk2 hr2
            go_wp2_with fail
            refine H3.out.mono ?_
            rintro e w3 ⟨rfl, hk3, hr3⟩
            have c3 := hr3.cell
            have hrow3 := HRW.out.rk hk3 hbB
            obtain ⟨p, c, rfl, _, _, hin⟩ := hrow3.shape
            have HU := Lib.hid (unlike_c p c ms w3 hin (by omega) HFT.out)
            rw [h4] at HU
            have HK3 := Lib.hid (HK2.out.trans hk3)
            have HRW3 := Lib.hid hrow3
            clear hr3 hk3 hrow3 hin h4
            go_wp2_with (go_at_call 22; refine HU.out.mono ?_; rintro e w4 ⟨rfl, hb4⟩)
            go_ret
            exact ObjV.mk_yes HV.out (HK3.out.trans (RK.of_below hb4)) (HRW3.out.below hb4)
          | false =>
            have HV : Hid (objP l = none) := by show _ = _; rw [HOR.out, if_neg (by rw [h4]; simp)]
            go_enter Tryd.func30, Tryd.ntmps30
            go_wp2_with fail
            refine H0.out.mono ?_
            rintro e w1 ⟨rfl, hk1, hr1⟩
            have H1 := Lib.hid (HME.out w1 hr1 (HT.out.rk HR.out hk1))
            have HK1 := Lib.hid hk1
            have hs1 := hk1.size
            clear hk1 hr1
            go_wp2_with fail
            refine H1.out.mono ?_
            rintro e w2 ⟨v, rfl, hrow, hk2, hr2⟩
            have HRW := Lib.hid (hrow.base hs1)
            have HK2 := Lib.hid (HK1.out.trans hk2)
            have H3 := Lib.hid (H2.out w2 hr2)
            clear hrow hk2 hr2
            go_wp2_with fail
            refine H3.out.mono ?_
            rintro e w3 ⟨rfl, hk3, hr3⟩
            have c3 := hr3.cell
            have hrow3 := HRW.out.rk hk3 hbB
            obtain ⟨p, c, rfl, _, _, hin⟩ := hrow3.shape
            have HU := Lib.hid (unlike_c p c ms w3 hin (by omega) HFT.out)
            rw [h4] at HU
            have HK3 := Lib.hid (HK2.out.trans hk3)
            have HRW3 := Lib.hid hrow3
            clear hr3 hk3 hrow3 hin h4
            go_wp2_with (first | (go_at_call 22; refine HU.out.mono ?_; rintro e w4 ⟨rfl, hb4⟩) | (go_at_call 42; refine (giveUp_c _).mono ?_; rintro e w5 ⟨rfl, rfl⟩))
            exact ⟨rfl, ObjV.mk_no HV.out (HK3.out.trans (RK.of_below hb4))⟩
        · have HV : Hid (objP l = none) := by show _ = _; rw [HOR.out, if_neg (fun h => h3 h.1)]
          have hqe : (⟨q.toArray⟩ : ByteArray).toList.isEmpty = false := by rw [mk_empty]; cases q with | nil => exact absurd rfl h3 | cons _ _ => rfl
          obtain ⟨S, hS⟩ : ∃ S, (⟨q.toArray⟩ : ByteArray) = S := ⟨_, rfl⟩
          rw [hS] at hqe
          go_enter Tryd.func30, Tryd.ntmps30
          go_wp2_with fail
          refine H0.out.mono ?_
          rintro e w1 ⟨rfl, hk1, hr1⟩
          have H1 := Lib.hid (HME.out w1 hr1 (HT.out.rk HR.out hk1))
          have HK1 := Lib.hid hk1
          have hs1 := hk1.size
          clear hk1 hr1
          go_wp2_with fail
          refine H1.out.mono ?_
          rintro e w2 ⟨v, rfl, hrow, hk2, hr2⟩
          have HRW := Lib.hid (hrow.base hs1)
          have HK2 := Lib.hid (HK1.out.trans hk2)
          have H3 := Lib.hid (H2.out w2 hr2)
          clear hrow hk2 hr2
          go_wp2_with fail
          refine H3.out.mono ?_
          rintro e w3 ⟨rfl, hk3, hr3⟩
          have c3 := hr3.cell
          rw [hS] at c3
          have HK3 := Lib.hid (HK2.out.trans hk3)
          clear hr3 hk3 h3 hS
          go_wp2_with (go_at_call 42; refine (giveUp_c _).mono ?_; rintro e w5 ⟨rfl, rfl⟩)
          exact ⟨rfl, ObjV.mk_no HV.out HK3.out⟩
      · have HV : Hid (objP l = none) := by show _ = _; rw [HOM.out, if_neg h2]
        have H2 := Lib.hid (fun w hr => take_no b r [125] w hr (by simpa using h2))
        clear h2 HOM
        go_enter Tryd.func30, Tryd.ntmps30
        go_wp2_with fail
        refine H0.out.mono ?_
        rintro e w1 ⟨rfl, hk1, hr1⟩
        have H1 := Lib.hid (HME.out w1 hr1 (HT.out.rk HR.out hk1))
        have HK1 := Lib.hid hk1
        have hs1 := hk1.size
        clear hk1 hr1
        go_wp2_with fail
        refine H1.out.mono ?_
        rintro e w2 ⟨v, rfl, hrow, hk2, hr2⟩
        have HRW := Lib.hid (hrow.base hs1)
        have HK2 := Lib.hid (HK1.out.trans hk2)
        have H3 := Lib.hid (H2.out w2 hr2)
        clear hrow hk2 hr2
        go_wp2_with fail
        refine H3.out.mono ?_
        rintro e w3 ⟨rfl, hk3⟩
        go_wp2_with fail
        exact ⟨rfl, ObjV.mk_no HV.out (HK2.out.trans hk3)⟩
  · have HV : Hid (objP l = none) := by show _ = _; unfold objP; rw [if_neg h0]
    have H0 := Lib.hid (take_no b l [123] w hr (by simpa using h0))
    clear hr ht h0
    go_enter Tryd.func30, Tryd.ntmps30
    go_wp2_with fail
    refine H0.out.mono ?_
    rintro e w1 ⟨rfl, hk1⟩
    go_wp2_with fail
    exact ⟨rfl, ObjV.mk_no HV.out hk1⟩
end Go.Proofs.YtbgnoobgnpebdaaDoor.jdv
