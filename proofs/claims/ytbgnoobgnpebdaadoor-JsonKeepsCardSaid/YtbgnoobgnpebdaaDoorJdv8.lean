/- The contract of the developers' member. Texts of at most 16384 bytes; JT. -/
import Derived.Test.YtbgnoobgnpebdaaDoorJdv7
namespace Go.Proofs.YtbgnoobgnpebdaaDoor.jdv
open Go.RowKit
open Go.Proofs.YtbgnoobgnpebdaaDoor.oct Go.Proofs.YtbgnoobgnpebdaaDoor.ref Go.Proofs.YtbgnoobgnpebdaaDoor.rows Go.Proofs.YtbgnoobgnpebdaaDoor.rowg Go.Proofs.YtbgnoobgnpebdaaDoor.jsn
open Go.Lib (byteCells hasPrefix trimPrefix)

theorem textP_le {l t r : List UInt8} (h : textP l = some (t, r)) : t.length + r.length + 2 ≤ l.length := by
  rw [textP_sound h, List.length_append]
  have := (strB_len t).1
  unfold strT
  rw [List.length_cons, List.length_append, List.length_singleton]
  omega
theorem hasPre (l p : List UInt8) (w : World) : Calls Tryd.prog 53 #[.string ⟨l.toArray⟩, .string ⟨p.toArray⟩] w fun e w' => e = .returned (.bool (hasPrefix l p)) ∧ w = w' :=
  (sh.hasPrefix ⟨l.toArray⟩ ⟨p.toArray⟩ w).mono fun _ _ ⟨h1, h2⟩ => ⟨h1, h2.symm⟩
/-- five cells of block g written -/
def set5 (u : World) (g : Nat) (x0 x1 x2 x3 x4 : Value) : World := ((((u.setCell ⟨g, 0, none⟩ x0).setCell ⟨g, 1, none⟩ x1).setCell ⟨g, 2, none⟩ x2).setCell ⟨g, 3, none⟩ x3).setCell ⟨g, 4, none⟩ x4
theorem set5_below (u : World) (g : Nat) (x0 x1 x2 x3 x4 : Value) : Below g u (set5 u g x0 x1 x2 x3 x4) :=
  (((((Below.refl g u).setCell (p := ⟨g, 0, none⟩) (Nat.le_refl _) x0).setCell (p := ⟨g, 1, none⟩) (Nat.le_refl _) x1).setCell (p := ⟨g, 2, none⟩) (Nat.le_refl _) x2).setCell (p := ⟨g, 3, none⟩) (Nat.le_refl _) x3).setCell (p := ⟨g, 4, none⟩) (Nat.le_refl _) x4
theorem set5_blk {u : World} {g e : Nat} {y0 y1 y2 y3 y4 : Value} (h : Blk u g e [y0, y1, y2, y3, y4]) (x0 x1 x2 x3 x4 : Value) : Blk (set5 u g x0 x1 x2 x3 x4) g e [x0, x1, x2, x3, x4] :=
  ((((h.set 0 x0).set 1 x1).set 2 x2).set 3 x3).set 4 x4
set_option maxRecDepth 100000 in
set_option maxHeartbeats 8000000 in
theorem member_c (b : Nat) (l : List UInt8) (w : World) (hr : Rd w b l) (hl : l.length ≤ 16384) (ht : JT w) :
    Calls Tryd.prog 54 #[.pointer (some ⟨b, 0, none⟩)] w fun e w' => RdV b w w' (memP l) mv e := by
  obtain ⟨w0, hw0⟩ : ∃ w0, w.alloc (.cells #[.string ⟨#[]⟩, .int .i64 0, .string ⟨#[]⟩, .int .i64 0, .bool false] 38) = w0 := ⟨_, rfl⟩
  have hba : Below w.heap.size w w0 := by rw [← hw0]; exact (Below.refl _ w).alloc (Nat.le_refl _) _
  have hE0 : Blk w0 w.heap.size 38 [.string ⟨#[]⟩, .int .i64 0, .string ⟨#[]⟩, .int .i64 0, .bool false] := by rw [← hw0]; exact blk_new w _ _ _ rfl
  have hbM : b < w.heap.size := hr.lt
  have hr0 := hr.below hba
  have HT0 := Lib.hid (ht.below hba)
  have HR0 := Lib.hid hr0
  have HE0 := Lib.hid hE0
  have HK0 := Lib.hid (RK.of_below (b := b) hba)
  have HTX := Lib.hid (text_c b l w0 hr0 (by omega))
  have HW0 := Lib.hid hw0
  clear hw0 hba hE0 hr0 hr ht
  cases h1 : textP l with
  | none =>
    have HV : Hid (memP l = none) := by show _ = _; unfold memP; rw [h1]
    have HC := Lib.hid (HTX.out.mono fun e w' h => h.no h1)
    clear h1 HTX
    go_enter Tryd.func54, Tryd.ntmps54
    go_wp2_with fail
    rw [HW0.out]
    refine HC.out.mono ?_
    rintro e w1 ⟨rfl, hk1⟩
    go_wp2_with fail
    exact ⟨rfl, RdV.mk_no HV.out (HK0.out.trans hk1)⟩
  | some y =>
    obtain ⟨nm, r⟩ := y
    have hle := textP_le h1
    have HMP : Hid (memP l = if hasPrefix r [58] = true then valP nm (r.drop 1) else none) := by show _ = _; unfold memP; rw [h1]
    have HC := Lib.hid (HTX.out.mono fun e w' h => h.yes h1)
    clear h1 HTX
    by_cases h2 : hasPrefix r [58] = true
    · have HMV : Hid (memP l = valP nm (r.drop 1)) := by show _ = _; rw [HMP.out, if_pos h2]
      have hle2 : (r.drop 1).length ≤ 16384 := by rw [List.length_drop]; omega
      have HTK := Lib.hid (fun w hr => take_yes b r [58] w hr h2)
      simp only [List.length_cons, List.length_nil] at HTK
      obtain ⟨s, hs⟩ : ∃ s, r.drop 1 = s := ⟨_, rfl⟩
      rw [show (0 + 1 : Nat) = 1 from rfl] at HTK
      rw [hs] at HTK HMV hle2
      clear h2 HMP hs
      have HPP : Hid (∀ w, Calls Tryd.prog 53 #[.string ⟨s.toArray⟩, .string ⟨#[34]⟩] w fun e w' => e = .returned (.bool (hasPrefix s [34])) ∧ w = w') := fun w => hasPre s [34] w
      by_cases h3 : hasPrefix s [34] = true
      · have HVP : Hid (valP nm s = (textP s).map (fun y => (⟨nm, 0, y.1, 0, false⟩, y.2))) := by show _ = _; unfold valP; rw [if_pos h3]
        rw [h3] at HPP
        clear h3
        cases h4 : textP s with
        | none =>
          have HV : Hid (memP l = none) := by show _ = _; rw [HMV.out, HVP.out, h4]; rfl
          have HT3 := Lib.hid (fun w hr => (text_c b s w hr (by omega)).mono fun e w' h => h.no h4)
          clear h4 HVP
          go_enter Tryd.func54, Tryd.ntmps54
          go_wp2_with fail
          rw [HW0.out]
          refine HC.out.mono ?_
          rintro e w1 ⟨rfl, hk1, hr1⟩
          have HK1 := Lib.hid (HK0.out.trans hk1)
          have HE1 := Lib.hid (hk1.blk HE0.out (by omega))
          have HT1 := Lib.hid (HT0.out.rk HR0.out hk1)
          have H2 := Lib.hid (HTK.out w1 hr1)
          have HRx := Lib.hid hr1
          clear hk1 hr1
          go_wp2_with fail
          refine H2.out.mono ?_
          rintro e w2 ⟨rfl, hk2, hr2⟩
          have c2 := hr2.cell
          have HK2 := Lib.hid (HK1.out.trans hk2)
          have HE2 := Lib.hid (hk2.blk HE1.out (by omega))
          have HT2 := Lib.hid (HT1.out.rk HRx.out hk2)
          have HR2 := Lib.hid hr2
          clear hk2 hr2 H2 HK1 HE1 HT1 HRx HC HTK
          go_wp2_with fail
          refine (HPP.out _).mono ?_
          rintro e w3 ⟨rfl, rfl⟩
          have H3 := Lib.hid (HT3.out w2 HR2.out)
          go_wp2_with fail
          refine H3.out.mono ?_
          rintro e w4 ⟨rfl, hk4⟩
          go_wp2_with fail
          exact ⟨rfl, RdV.mk_no HV.out (HK2.out.trans hk4)⟩
        | some y =>
          obtain ⟨t, r2⟩ := y
          have HV : Hid (memP l = some (⟨nm, 0, t, 0, false⟩, r2)) := by show _ = _; rw [HMV.out, HVP.out, h4]; rfl
          have HT3 := Lib.hid (fun w hr => (text_c b s w hr (by omega)).mono fun e w' h => h.yes h4)
          clear h4 HVP
          go_enter Tryd.func54, Tryd.ntmps54
          go_wp2_with fail
          rw [HW0.out]
          refine HC.out.mono ?_
          rintro e w1 ⟨rfl, hk1, hr1⟩
          have HK1 := Lib.hid (HK0.out.trans hk1)
          have HE1 := Lib.hid (hk1.blk HE0.out (by omega))
          have HT1 := Lib.hid (HT0.out.rk HR0.out hk1)
          have H2 := Lib.hid (HTK.out w1 hr1)
          have HRx := Lib.hid hr1
          clear hk1 hr1
          go_wp2_with fail
          refine H2.out.mono ?_
          rintro e w2 ⟨rfl, hk2, hr2⟩
          have c2 := hr2.cell
          have HK2 := Lib.hid (HK1.out.trans hk2)
          have HE2 := Lib.hid (hk2.blk HE1.out (by omega))
          have HT2 := Lib.hid (HT1.out.rk HRx.out hk2)
          have HR2 := Lib.hid hr2
          clear hk2 hr2 H2 HK1 HE1 HT1 HRx HC HTK
          go_wp2_with fail
          refine (HPP.out _).mono ?_
          rintro e w3 ⟨rfl, rfl⟩
          have H3 := Lib.hid (HT3.out w2 HR2.out)
          go_wp2_with fail
          refine H3.out.mono ?_
          rintro e w4 ⟨rfl, hk4, hr4⟩
          have HK4 := Lib.hid (HK2.out.trans hk4)
          have HE4 := Lib.hid (hk4.blk HE2.out (by omega))
          have HR4 := Lib.hid hr4
          clear hk4 hr4 c2
          have hE := HE4.out
          have c0 := hE.cell 0
          have c1 := hE.cell 1
          have c2 := hE.cell 2
          have c3 := hE.cell 3
          have c4 := hE.cell 4
          have f0 := hE.frozen 0
          have f1 := hE.frozen 1
          have f2 := hE.frozen 2
          have f3 := hE.frozen 3
          have f4 := hE.frozen 4
          clear hE
          go_wp2_with fail
          clear c0 c1 c2 c3 c4 f0 f1 f2 f3 f4
          refine bodyPost_ret (v := .agg ([.string ⟨nm.toArray⟩, .int .i64 0, .string ⟨t.toArray⟩, .int .i64 0, .bool false] : List Value).toArray) (results_blk Tryd.results54 _ _ w.heap.size 38 [.string ⟨nm.toArray⟩, .int .i64 0, .string ⟨t.toArray⟩, .int .i64 0, .bool false] _ rfl (set5_blk (HE4.out) (.string ⟨nm.toArray⟩) (.int .i64 0) (.string ⟨t.toArray⟩) (.int .i64 0) (.bool false)) Tryd.underlying38 rfl infoMem) rfl ?_
          exact RdV.mk_yes (f := mv) (a := ⟨nm, 0, t, 0, false⟩) HV.out ((HK4.out).step (set5_below _ _ (.string ⟨nm.toArray⟩) (.int .i64 0) (.string ⟨t.toArray⟩) (.int .i64 0) (.bool false)) (Nat.le_refl _)) ((HR4.out).step (set5_below _ _ (.string ⟨nm.toArray⟩) (.int .i64 0) (.string ⟨t.toArray⟩) (.int .i64 0) (.bool false)) hbM)
      · have h3' : hasPrefix s [34] = false := by simpa using h3
        rw [h3'] at HPP
        by_cases h5 : hasPrefix s [116, 114, 117, 101] = true
        · have HV : Hid (memP l = some (⟨nm, 2, [], 0, true⟩, s.drop 4)) := by show _ = _; rw [HMV.out]; unfold valP; rw [if_neg h3, if_pos h5]
          have HA := Lib.hid (fun w hr => took_yes b s [116, 114, 117, 101] w hr h5)
          clear h3 h3' h5
          go_enter Tryd.func54, Tryd.ntmps54
          go_wp2_with fail
          rw [HW0.out]
          refine HC.out.mono ?_
          rintro e w1 ⟨rfl, hk1, hr1⟩
          have HK1 := Lib.hid (HK0.out.trans hk1)
          have HE1 := Lib.hid (hk1.blk HE0.out (by omega))
          have HT1 := Lib.hid (HT0.out.rk HR0.out hk1)
          have H2 := Lib.hid (HTK.out w1 hr1)
          have HRx := Lib.hid hr1
          clear hk1 hr1
          go_wp2_with fail
          refine H2.out.mono ?_
          rintro e w2 ⟨rfl, hk2, hr2⟩
          have c2 := hr2.cell
          have HK2 := Lib.hid (HK1.out.trans hk2)
          have HE2 := Lib.hid (hk2.blk HE1.out (by omega))
          have HT2 := Lib.hid (HT1.out.rk HRx.out hk2)
          have HR2 := Lib.hid hr2
          clear hk2 hr2 H2 HK1 HE1 HT1 HRx HC HTK
          go_wp2_with fail
          refine (HPP.out _).mono ?_
          rintro e w3 ⟨rfl, rfl⟩
          have H3 := Lib.hid (HA.out w2 HR2.out)
          go_wp2_with fail
          refine H3.out.mono ?_
          rintro e w4 ⟨rfl, hk4, hr4⟩
          have HK4 := Lib.hid (HK2.out.trans hk4)
          have HE4 := Lib.hid (hk4.blk HE2.out (by omega))
          have HR4 := Lib.hid hr4
          clear hk4 hr4 c2
          have hE := HE4.out
          have c0 := hE.cell 0
          have c1 := hE.cell 1
          have c2 := hE.cell 2
          have c3 := hE.cell 3
          have c4 := hE.cell 4
          have f0 := hE.frozen 0
          have f1 := hE.frozen 1
          have f2 := hE.frozen 2
          have f3 := hE.frozen 3
          have f4 := hE.frozen 4
          clear hE
          go_wp2_with fail
          clear c0 c1 c2 c3 c4 f0 f1 f2 f3 f4
          refine bodyPost_ret (v := .agg ([.string ⟨nm.toArray⟩, .int .i64 2, .string ⟨#[]⟩, .int .i64 0, .bool true] : List Value).toArray) (results_blk Tryd.results54 _ _ w.heap.size 38 [.string ⟨nm.toArray⟩, .int .i64 2, .string ⟨#[]⟩, .int .i64 0, .bool true] _ rfl (set5_blk (HE4.out) (.string ⟨nm.toArray⟩) (.int .i64 2) (.string ⟨#[]⟩) (.int .i64 0) (.bool true)) Tryd.underlying38 rfl infoMem) rfl ?_
          exact RdV.mk_yes (f := mv) (a := ⟨nm, 2, [], 0, true⟩) HV.out ((HK4.out).step (set5_below _ _ (.string ⟨nm.toArray⟩) (.int .i64 2) (.string ⟨#[]⟩) (.int .i64 0) (.bool true)) (Nat.le_refl _)) ((HR4.out).step (set5_below _ _ (.string ⟨nm.toArray⟩) (.int .i64 2) (.string ⟨#[]⟩) (.int .i64 0) (.bool true)) hbM)
        · have h5' : hasPrefix s [116, 114, 117, 101] = false := by simpa using h5
          have HA := Lib.hid (fun w hr => took_no b s [116, 114, 117, 101] w hr h5')
          by_cases h6 : hasPrefix s [102, 97, 108, 115, 101] = true
          · have HV : Hid (memP l = some (⟨nm, 2, [], 0, false⟩, s.drop 5)) := by show _ = _; rw [HMV.out]; unfold valP; rw [if_neg h3, if_neg h5, if_pos h6]
            have HB := Lib.hid (fun w hr => took_yes b s [102, 97, 108, 115, 101] w hr h6)
            clear h3 h3' h5 h5' h6
            go_enter Tryd.func54, Tryd.ntmps54
            go_wp2_with fail
            rw [HW0.out]
            refine HC.out.mono ?_
            rintro e w1 ⟨rfl, hk1, hr1⟩
            have HK1 := Lib.hid (HK0.out.trans hk1)
            have HE1 := Lib.hid (hk1.blk HE0.out (by omega))
            have HT1 := Lib.hid (HT0.out.rk HR0.out hk1)
            have H2 := Lib.hid (HTK.out w1 hr1)
            have HRx := Lib.hid hr1
            clear hk1 hr1
            go_wp2_with fail
            refine H2.out.mono ?_
            rintro e w2 ⟨rfl, hk2, hr2⟩
            have c2 := hr2.cell
            have HK2 := Lib.hid (HK1.out.trans hk2)
            have HE2 := Lib.hid (hk2.blk HE1.out (by omega))
            have HT2 := Lib.hid (HT1.out.rk HRx.out hk2)
            have HR2 := Lib.hid hr2
            clear hk2 hr2 H2 HK1 HE1 HT1 HRx HC HTK
            go_wp2_with fail
            refine (HPP.out _).mono ?_
            rintro e w3 ⟨rfl, rfl⟩
            have H3 := Lib.hid (HA.out w2 HR2.out)
            go_wp2_with fail
            refine H3.out.mono ?_
            rintro e w4 ⟨rfl, hk4, hr4⟩
            have HK4 := Lib.hid (HK2.out.trans hk4)
            have HE4 := Lib.hid (hk4.blk HE2.out (by omega))
            have H4 := Lib.hid (HB.out w4 hr4)
            clear hk4 hr4 c2
            go_wp2_with fail
            refine H4.out.mono ?_
            rintro e w5 ⟨rfl, hk5, hr5⟩
            have HK5 := Lib.hid (HK4.out.trans hk5)
            have HE5 := Lib.hid (hk5.blk HE4.out (by omega))
            have HR5 := Lib.hid hr5
            clear hk5 hr5
            have hE := HE5.out
            have c0 := hE.cell 0
            have c1 := hE.cell 1
            have c2 := hE.cell 2
            have c3 := hE.cell 3
            have c4 := hE.cell 4
            have f0 := hE.frozen 0
            have f1 := hE.frozen 1
            have f2 := hE.frozen 2
            have f3 := hE.frozen 3
            have f4 := hE.frozen 4
            clear hE
            go_wp2_with fail
            clear c0 c1 c2 c3 c4 f0 f1 f2 f3 f4
            refine bodyPost_ret (v := .agg ([.string ⟨nm.toArray⟩, .int .i64 2, .string ⟨#[]⟩, .int .i64 0, .bool false] : List Value).toArray) (results_blk Tryd.results54 _ _ w.heap.size 38 [.string ⟨nm.toArray⟩, .int .i64 2, .string ⟨#[]⟩, .int .i64 0, .bool false] _ rfl (set5_blk (HE5.out) (.string ⟨nm.toArray⟩) (.int .i64 2) (.string ⟨#[]⟩) (.int .i64 0) (.bool false)) Tryd.underlying38 rfl infoMem) rfl ?_
            exact RdV.mk_yes (f := mv) (a := ⟨nm, 2, [], 0, false⟩) HV.out ((HK5.out).step (set5_below _ _ (.string ⟨nm.toArray⟩) (.int .i64 2) (.string ⟨#[]⟩) (.int .i64 0) (.bool false)) (Nat.le_refl _)) ((HR5.out).step (set5_below _ _ (.string ⟨nm.toArray⟩) (.int .i64 2) (.string ⟨#[]⟩) (.int .i64 0) (.bool false)) hbM)
          · have h6' : hasPrefix s [102, 97, 108, 115, 101] = false := by simpa using h6
            have HB := Lib.hid (fun w hr => took_no b s [102, 97, 108, 115, 101] w hr h6')
            have HVP : Hid (valP nm s = (numP s).map (fun y => (⟨nm, 1, [], y.1, false⟩, y.2))) := by show _ = _; unfold valP; rw [if_neg h3, if_neg h5, if_neg h6]
            clear h3 h3' h5 h5' h6 h6'
            cases h7 : numP s with
            | none =>
              have HV : Hid (memP l = none) := by show _ = _; rw [HMV.out, HVP.out, h7]; rfl
              have HN := Lib.hid (fun w hr ht => (number_c b s w hr (by omega) ht).mono fun e w' h => h.no h7)
              clear h7 HVP
              go_enter Tryd.func54, Tryd.ntmps54
              go_wp2_with fail
              rw [HW0.out]
              refine HC.out.mono ?_
              rintro e w1 ⟨rfl, hk1, hr1⟩
              have HK1 := Lib.hid (HK0.out.trans hk1)
              have HE1 := Lib.hid (hk1.blk HE0.out (by omega))
              have HT1 := Lib.hid (HT0.out.rk HR0.out hk1)
              have H2 := Lib.hid (HTK.out w1 hr1)
              have HRx := Lib.hid hr1
              clear hk1 hr1
              go_wp2_with fail
              refine H2.out.mono ?_
              rintro e w2 ⟨rfl, hk2, hr2⟩
              have c2 := hr2.cell
              have HK2 := Lib.hid (HK1.out.trans hk2)
              have HE2 := Lib.hid (hk2.blk HE1.out (by omega))
              have HT2 := Lib.hid (HT1.out.rk HRx.out hk2)
              have HR2 := Lib.hid hr2
              clear hk2 hr2 H2 HK1 HE1 HT1 HRx HC HTK
              go_wp2_with fail
              refine (HPP.out _).mono ?_
              rintro e w3 ⟨rfl, rfl⟩
              have H3 := Lib.hid (HA.out w2 HR2.out)
              go_wp2_with fail
              refine H3.out.mono ?_
              rintro e w4 ⟨rfl, hk4, hr4⟩
              have HK4 := Lib.hid (HK2.out.trans hk4)
              have HT4 := Lib.hid (HT2.out.rk HR2.out hk4)
              have HR4 := Lib.hid hr4
              have H4 := Lib.hid (HB.out w4 hr4)
              clear hk4 hr4 c2
              go_wp2_with fail
              refine H4.out.mono ?_
              rintro e w5 ⟨rfl, hk5, hr5⟩
              have HK5 := Lib.hid (HK4.out.trans hk5)
              have H5 := Lib.hid (HN.out w5 hr5 (HT4.out.rk HR4.out hk5))
              clear hk5 hr5
              go_wp2_with fail
              refine H5.out.mono ?_
              rintro e w6 ⟨rfl, hk6⟩
              go_wp2_with fail
              exact ⟨rfl, RdV.mk_no HV.out (HK5.out.trans hk6)⟩
            | some y =>
              obtain ⟨n, r2⟩ := y
              have HV : Hid (memP l = some (⟨nm, 1, [], n, false⟩, r2)) := by show _ = _; rw [HMV.out, HVP.out, h7]; rfl
              have HN := Lib.hid (fun w hr ht => (number_c b s w hr (by omega) ht).mono fun e w' h => h.yes h7)
              clear h7 HVP
              go_enter Tryd.func54, Tryd.ntmps54
              go_wp2_with fail
              rw [HW0.out]
              refine HC.out.mono ?_
              rintro e w1 ⟨rfl, hk1, hr1⟩
              have HK1 := Lib.hid (HK0.out.trans hk1)
              have HE1 := Lib.hid (hk1.blk HE0.out (by omega))
              have HT1 := Lib.hid (HT0.out.rk HR0.out hk1)
              have H2 := Lib.hid (HTK.out w1 hr1)
              have HRx := Lib.hid hr1
              clear hk1 hr1
              go_wp2_with fail
              refine H2.out.mono ?_
              rintro e w2 ⟨rfl, hk2, hr2⟩
              have c2 := hr2.cell
              have HK2 := Lib.hid (HK1.out.trans hk2)
              have HE2 := Lib.hid (hk2.blk HE1.out (by omega))
              have HT2 := Lib.hid (HT1.out.rk HRx.out hk2)
              have HR2 := Lib.hid hr2
              clear hk2 hr2 H2 HK1 HE1 HT1 HRx HC HTK
              go_wp2_with fail
              refine (HPP.out _).mono ?_
              rintro e w3 ⟨rfl, rfl⟩
              have H3 := Lib.hid (HA.out w2 HR2.out)
              go_wp2_with fail
              refine H3.out.mono ?_
              rintro e w4 ⟨rfl, hk4, hr4⟩
              have HK4 := Lib.hid (HK2.out.trans hk4)
              have HE4 := Lib.hid (hk4.blk HE2.out (by omega))
              have HT4 := Lib.hid (HT2.out.rk HR2.out hk4)
              have HR4 := Lib.hid hr4
              have H4 := Lib.hid (HB.out w4 hr4)
              clear hk4 hr4 c2
              go_wp2_with fail
              refine H4.out.mono ?_
              rintro e w5 ⟨rfl, hk5, hr5⟩
              have HK5 := Lib.hid (HK4.out.trans hk5)
              have HE5 := Lib.hid (hk5.blk HE4.out (by omega))
              have H5 := Lib.hid (HN.out w5 hr5 (HT4.out.rk HR4.out hk5))
              clear hk5 hr5
              go_wp2_with fail
              refine H5.out.mono ?_
              rintro e w6 ⟨rfl, hk6, hr6⟩
              have HK6 := Lib.hid (HK5.out.trans hk6)
              have HE6 := Lib.hid (hk6.blk HE5.out (by omega))
              have HR6 := Lib.hid hr6
              clear hk6 hr6
              have hE := HE6.out
              have c0 := hE.cell 0
              have c1 := hE.cell 1
              have c2 := hE.cell 2
              have c3 := hE.cell 3
              have c4 := hE.cell 4
              have f0 := hE.frozen 0
              have f1 := hE.frozen 1
              have f2 := hE.frozen 2
              have f3 := hE.frozen 3
              have f4 := hE.frozen 4
              clear hE
              go_wp2_with fail
              clear c0 c1 c2 c3 c4 f0 f1 f2 f3 f4
              refine bodyPost_ret (v := .agg ([.string ⟨nm.toArray⟩, .int .i64 1, .string ⟨#[]⟩, .int .i64 n, .bool false] : List Value).toArray) (results_blk Tryd.results54 _ _ w.heap.size 38 [.string ⟨nm.toArray⟩, .int .i64 1, .string ⟨#[]⟩, .int .i64 n, .bool false] _ rfl (set5_blk (HE6.out) (.string ⟨nm.toArray⟩) (.int .i64 1) (.string ⟨#[]⟩) (.int .i64 n) (.bool false)) Tryd.underlying38 rfl infoMem) rfl ?_
              exact RdV.mk_yes (f := mv) (a := ⟨nm, 1, [], n, false⟩) HV.out ((HK6.out).step (set5_below _ _ (.string ⟨nm.toArray⟩) (.int .i64 1) (.string ⟨#[]⟩) (.int .i64 n) (.bool false)) (Nat.le_refl _)) ((HR6.out).step (set5_below _ _ (.string ⟨nm.toArray⟩) (.int .i64 1) (.string ⟨#[]⟩) (.int .i64 n) (.bool false)) hbM)
    · have HV : Hid (memP l = none) := by show _ = _; rw [HMP.out, if_neg h2]
      have HTK := Lib.hid (fun w hr => take_no b r [58] w hr (by simpa using h2))
      clear h2 HMP
      go_enter Tryd.func54, Tryd.ntmps54
      go_wp2_with fail
      rw [HW0.out]
      refine HC.out.mono ?_
      rintro e w1 ⟨rfl, hk1, hr1⟩
      have H2 := Lib.hid (HTK.out w1 hr1)
      have HK1 := Lib.hid (HK0.out.trans hk1)
      clear hk1 hr1
      go_wp2_with fail
      refine H2.out.mono ?_
      rintro e w2 ⟨rfl, hk2⟩
      go_wp2_with fail
      exact ⟨rfl, RdV.mk_no HV.out (HK1.out.trans hk2)⟩
end Go.Proofs.YtbgnoobgnpebdaaDoor.jdv
