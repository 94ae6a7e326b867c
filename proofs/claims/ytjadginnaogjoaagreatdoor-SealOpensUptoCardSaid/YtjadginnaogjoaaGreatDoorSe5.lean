/- The developers' read. Texts of at most 140737488355328 bytes; St. -/
import Derived.Test.YtjadginnaogjoaaGreatDoorSeC
import Derived.Test.YtjadginnaogjoaaGreatDoorRefA
namespace Go.Proofs.YtjadginnaogjoaaGreatDoor.sea
open Go.RowKit
open Go.Proofs.YtjadginnaogjoaaGreatDoor.oct Go.Proofs.YtjadginnaogjoaaGreatDoor.ref Go.Proofs.YtjadginnaogjoaaGreatDoor.rows
open Go.Lib (byteCells)

theorem mk_sz (l : T) : (⟨l.toArray⟩ : ByteArray).size = l.length := List.size_toArray
theorem ex_take (l : T) (n : Nat) : (⟨l.toArray⟩ : ByteArray).extract 0 n = ⟨(l.take n).toArray⟩ := ba_of (by rw [Lib.extract_data]; simp)
theorem ex_drop (l : T) (n : Nat) : (⟨l.toArray⟩ : ByteArray).extract n (⟨l.toArray⟩ : ByteArray).size = ⟨(l.drop n).toArray⟩ := by
  rw [mk_sz]
  refine ba_of ?_
  rw [Lib.extract_data]
  simp only []
  rw [List.take_of_length_le (by simp)]
theorem blk3 {w : World} {g e : Nat} {a b c : Value} (h : Blk w g e [a, b, c]) : w.cell? ⟨g, 0, none⟩ = some a ∧ w.cell? ⟨g, 1, none⟩ = some b ∧ w.cell? ⟨g, 2, none⟩ = some c := ⟨h.cell 0, h.cell 1, h.cell 2⟩
theorem frz3 {w : World} {g e : Nat} {a b c : Value} (h : Blk w g e [a, b, c]) : w.frozen? ⟨g, 0, none⟩ = false ∧ w.frozen? ⟨g, 1, none⟩ = false ∧ w.frozen? ⟨g, 2, none⟩ = false := ⟨h.frozen 0, h.frozen 1, h.frozen 2⟩
theorem set3 {w : World} {g e : Nat} {a b c : Value} (h : Blk w g e [a, b, c]) (x y z : Value) : Blk (((w.setCell ⟨g, 0, none⟩ x).setCell ⟨g, 1, none⟩ y).setCell ⟨g, 2, none⟩ z) g e [x, y, z] := ((h.set 0 x).set 1 y).set 2 z
theorem set3_below {B : Nat} {w0 w : World} {g : Nat} (h : Below B w0 w) (hg : B ≤ g) (x y z : Value) : Below B w0 (((w.setCell ⟨g, 0, none⟩ x).setCell ⟨g, 1, none⟩ y).setCell ⟨g, 2, none⟩ z) :=
  ((h.setCell (p := ⟨g, 0, none⟩) hg x).setCell (p := ⟨g, 1, none⟩) hg y).setCell (p := ⟨g, 2, none⟩) hg z
theorem set3_size {w : World} {g : Nat} (x y z : Value) : (((w.setCell ⟨g, 0, none⟩ x).setCell ⟨g, 1, none⟩ y).setCell ⟨g, 2, none⟩ z).heap.size = w.heap.size := by simp
theorem infoTk : (Tryz.prog.info? 24).map (·.size) = some 3 := by kernel_rfl
/-- results: a struct in a box, two values -/
theorem results_row3 {P : Program} {fn : Func} {p q r : Tmp} {ty : TypeId} (h : fn.results = #[.cell p ty, .tmp q, .tmp r]) (tmps : Array Value) (w : World) (g : Nat) (t : TypeId) (X : List Value) {d : TypeDesc} (y z : Value)
    (hp : tmps.getD p undef = .pointer (some ⟨g, 0, none⟩)) (hq : tmps.getD q undef = y) (hr : tmps.getD r undef = z) (hB : Blk w g t X)
    (hu : P.underlying ty = some d) (hd : (match d with | .struct _ | .array _ _ => true | _ => false) = true) (hi : (P.info? ty).map (·.size) = some X.length) :
    (results fn tmps).run P w = .ok (.tuple #[.agg X.toArray, y, z]) w := by
  have hp' : tmps[p]?.getD undef = .pointer (some ⟨g, 0, none⟩) := by simpa using hp
  have hq' : tmps[q]?.getD undef = y := by simpa using hq
  have hr' : tmps[r]?.getD undef = z := by simpa using hr
  have hl := run_loadVar_row (P := P) w g t ty X.toArray (0, 0) d hB hu hd (by simpa using hi)
  simp [results, h, hp', hq', hr', asAddr, hl]
/-- what read turns out -/
def RE (s : T) (w w' : World) (e : Ending) : Prop := (match readP s with
  | some t => e = .returned (.tuple #[tok t, txt (headT t), txt (s.drop (s.length - 16))])
  | none => e = .panicked [{ v := .iface 46 (.agg #[.int .i64 3]), recovered := false }]) ∧ Below w.heap.size w w'
theorem RE.no {s : T} {w w' : World} {e : Ending} (h : readP s = none) (he : e = .panicked [{ v := .iface 46 (.agg #[.int .i64 3]), recovered := false }]) (hb : Below w.heap.size w w') : RE s w w' e := by
  unfold RE
  rw [h]
  exact ⟨he, hb⟩
theorem RE.yes {s : T} {w w' : World} {e : Ending} {t : Tk} (h : readP s = some t) (he : e = .returned (.tuple #[tok t, txt (headT t), txt (s.drop (s.length - 16))])) (hb : Below w.heap.size w w') : RE s w w' e := by
  unfold RE
  rw [h]
  exact ⟨he, hb⟩
theorem readP_short {s : T} (h : s.length < 16) : readP s = none := by unfold readP; rw [if_pos (Or.inl h)]
theorem readP_tag {s : T} (h : webs (s.drop (s.length - 16)) = false) : readP s = none := by unfold readP; rw [if_pos (Or.inr h)]
theorem readP_go {s : T} (h : ¬ s.length < 16) (h2 : webs (s.drop (s.length - 16)) = true) : readP s = (match tokP (s.take (s.length - 16)) with
  | none => none
  | some t => if Rt t ∧ headT t = s.take (s.length - 16) then some t else none) := by
  unfold readP
  rw [if_neg (by rw [h2]; simpa using h)]
  rfl
theorem tokP_kind {h : T} (k : kindP (cutL h) = none) : tokP h = none := by unfold tokP; rw [k]
theorem tokP_ser {h : T} {k : Int} (h1 : kindP (cutL h) = some k) (h2 : serP (cutL (cutR (cutR h))) = none) : tokP h = none := by unfold tokP; rw [h1]; dsimp only; rw [h2]
theorem tokP_yes {h : T} {k n : Int} (h1 : kindP (cutL h) = some k) (h2 : serP (cutL (cutR (cutR h))) = some n) : tokP h = some ⟨k, cutL (cutR h), n⟩ := by unfold tokP; rw [h1]; dsimp only; rw [h2]
set_option maxRecDepth 100000 in
set_option maxHeartbeats 8000000 in
theorem read_c (s : T) (w : World) (ht : St w) (hs : s.length ≤ 140737488355328) :
    Calls Tryz.prog 9 #[txt s] w fun e w' => RE s w w' e := by
  have HD1 := Lib.hid (fun n w => demand_yes n w)
  have HD0 := Lib.hid (fun n w => demand_no n w)
  have hsz := mk_sz s
  by_cases h16 : s.length < 16
  · have HR := Lib.hid (readP_short h16)
    unfold txt
    obtain ⟨S, hS⟩ : ∃ S, (⟨s.toArray⟩ : ByteArray) = S := ⟨_, rfl⟩
    rw [hS] at hsz ⊢
    have c0 : IntKind.i64.wrap ((S.size : Int) - 16) = (S.size : Int) - 16 := by rw [IntKind.wrap_i64]; omega
    have c1 : ¬ ((S.size : Int) - 16 ≥ 0) := by omega
    have c2 : ¬ ((0 : Int) ≤ (S.size : Int) - 16) := by omega
    have c3 : ¬ ((16 : Int) ≤ (S.size : Int)) := by omega
    clear ht h16 hsz hS hs
    go_enter Tryz.func9, Tryz.ntmps9
    go_wp2_with (go_at_call 10; refine (HD0.out _ _).mono ?_; rintro e w' ⟨rfl, rfl⟩)
    exact ⟨rfl, RE.no HR.out rfl ((Below.refl _ _).alloc (Nat.le_refl _) _)⟩
  · obtain ⟨A, hA⟩ : ∃ A, s.length - 16 = A := ⟨_, rfl⟩
    have HE1 : Hid ((⟨s.toArray⟩ : ByteArray).extract 0 A = ⟨(s.take A).toArray⟩) := ex_take s A
    have HE2 : Hid ((⟨s.toArray⟩ : ByteArray).extract A (⟨s.toArray⟩ : ByteArray).size = ⟨(s.drop A).toArray⟩) := ex_drop s A
    have HTG := Lib.hid (fun (h : webs (s.drop A) = false) => readP_tag (s := s) (by rw [hA]; exact h))
    have HGO := Lib.hid (fun (h : webs (s.drop A) = true) => readP_go (s := s) h16 (by rw [hA]; exact h))
    rw [hA] at HGO
    obtain ⟨H, hH⟩ : ∃ H, s.take A = H := ⟨_, rfl⟩
    obtain ⟨G, hG⟩ : ∃ G, s.drop A = G := ⟨_, rfl⟩
    have hHl : H.length ≤ 140737488355328 := by rw [← hH, List.length_take]; omega
    have hGl : G.length = 16 := by rw [← hG, List.length_drop]; omega
    have HYES : Hid (∀ (w w' : World) (e : Ending) (t : Tk), readP s = some t → headT t = H → e = .returned (.tuple #[tok t, txt H, txt G]) → Below w.heap.size w w' → RE s w w' e) := Lib.hid fun w w' e t h1 h2 h3 h4 => RE.yes h1 (by rw [hA, hG, h2]; exact h3) h4
    rw [hH] at HE1 HGO
    rw [hG] at HE2 HTG HGO
    unfold txt
    obtain ⟨S, hS⟩ : ∃ S, (⟨s.toArray⟩ : ByteArray) = S := ⟨_, rfl⟩
    rw [hS] at hsz HE1 HE2 ⊢
    have c0 : wrap64 (A : Int) = (A : Int) := by unfold wrap64; omega
    have c1 : (S.size : Int) - 16 = (A : Int) := by omega
    have c2 : (0 : Int) ≤ (A : Int) := by omega
    have c3 : (A : Int) ≤ (S.size : Int) := by omega
    have c4 : (A : Int) ≥ 0 := by omega
    have hb0 : Below w.heap.size w (w.alloc (.cells #[.int .i64 0, .string ⟨#[]⟩, .int .i64 0] 24)) := (Below.refl _ _).alloc (Nat.le_refl _) _
    have hB0 : Blk (w.alloc (.cells #[.int .i64 0, .string ⟨#[]⟩, .int .i64 0] 24)) w.heap.size 24 [.int .i64 0, .string ⟨#[]⟩, .int .i64 0] := blk_new w _ _ _ rfl
    have HT := Lib.hid (ht.below hb0)
    have HTW := Lib.hid ht
    have HB0 := Lib.hid hb0
    have HK0 := Lib.hid hB0
    clear hS hA hH hG h16 hsz hs ht hb0 hB0
    go_enter Tryz.func9, Tryz.ntmps9
    go_wp2_with (go_at_call 10; refine (HD1.out _ _).mono ?_; rintro e w' ⟨rfl, rfl⟩)
    go_quiet (fail)
    rw [HE1.out, HE2.out]
    obtain ⟨w0, hw0⟩ : ∃ w0, (w.alloc (.cells #[.int .i64 0, .string ⟨#[]⟩, .int .i64 0] 24)).drewN nq = w0 := ⟨_, rfl⟩
    have hdr : Below (w.alloc (.cells #[.int .i64 0, .string ⟨#[]⟩, .int .i64 0] 24)).heap.size (w.alloc (.cells #[.int .i64 0, .string ⟨#[]⟩, .int .i64 0] 24)) w0 := by rw [← hw0]; exact below_drewN (Below.refl _ _) nq
    have HB1 := Lib.hid (bnext HB0.out hdr)
    have HK1 := Lib.hid (HK0.out.below hdr)
    have HT1 := Lib.hid (HT.out.below hdr)
    rw [hw0]
    clear hw0 hdr HB0 HK0 HT HE1 HE2 c0 c1 c2 c3 c4
    have HAW := Lib.hid (fun w => areWeb_c G w (by omega))
    unfold txt at HAW
    cases hwb : webs G
    · have HR := Lib.hid (HTG.out hwb)
      rw [hwb] at HAW
      go_wp2_with (first
        | (go_at_call 18; refine (HAW.out _).mono ?_; rintro e w' ⟨rfl, rfl⟩)
        | (go_at_call 10; refine (HD0.out _ _).mono ?_; rintro e w' ⟨rfl, rfl⟩))
      exact ⟨rfl, RE.no HR.out rfl HB1.out⟩
    · have HG2 := Lib.hid (HGO.out hwb)
      rw [hwb] at HAW
      clear hwb HTG HGO hGl
      go_wp2_with (first
        | (go_at_call 18; refine (HAW.out _).mono ?_; rintro e w' ⟨rfl, rfl⟩)
        | (go_at_call 10; refine (HD1.out _ _).mono ?_; rintro e w' ⟨rfl, rfl⟩))
      clear HAW
      have HC1 := Lib.hid (cutT_c H w0 (by omega))
      have hl1 := cutR_len H
      have hl2 := cutL_len (cutR H)
      have hl3 := cutR_len (cutR H)
      have hl4 := cutL_len (cutR (cutR H))
      have HKN := Lib.hid (fun h => tokP_kind (h := H) h)
      have HSN := Lib.hid (fun k h1 h2 => tokP_ser (h := H) (k := k) h1 h2)
      have HYS := Lib.hid (fun k n h1 h2 => tokP_yes (h := H) (k := k) (n := n) h1 h2)
      obtain ⟨L1, hL1⟩ : ∃ x, cutL H = x := ⟨_, rfl⟩
      obtain ⟨R1, hR1⟩ : ∃ x, cutR H = x := ⟨_, rfl⟩
      rw [hR1] at hl1 hl2 hl3 hl4
      rw [hL1] at HKN HSN HYS
      rw [hR1] at HSN HYS
      rw [hL1, hR1] at HC1
      have HC2 := Lib.hid (fun w => cutT_c R1 w (by omega))
      obtain ⟨F, hF⟩ : ∃ x, cutL R1 = x := ⟨_, rfl⟩
      obtain ⟨R2, hR2⟩ : ∃ x, cutR R1 = x := ⟨_, rfl⟩
      rw [hF] at hl2 HYS
      rw [hR2] at hl3 hl4 HSN HYS
      rw [hF, hR2] at HC2
      have HC3 := Lib.hid (fun w => cutT_c R2 w (by omega))
      obtain ⟨D, hD⟩ : ∃ x, cutL R2 = x := ⟨_, rfl⟩
      obtain ⟨R3, hR3⟩ : ∃ x, cutR R2 = x := ⟨_, rfl⟩
      rw [hD] at hl4 HSN HYS
      rw [hD, hR3] at HC3
      have hDl : D.length ≤ 140737488355328 := by omega
      have hFl : F.length ≤ 140737488355328 := by omega
      have HKO := Lib.hid (fun w ht => kindOf_c L1 w ht)
      have HSO := Lib.hid (fun w ht => serialOf_c D w ht hDl)
      obtain ⟨b1, hb1⟩ : ∃ b, decide ((46 : UInt8) ∈ H) = b := ⟨_, rfl⟩
      obtain ⟨b2, hb2⟩ : ∃ b, decide ((46 : UInt8) ∈ R1) = b := ⟨_, rfl⟩
      obtain ⟨b3, hb3⟩ : ∃ b, decide ((46 : UInt8) ∈ R2) = b := ⟨_, rfl⟩
      rw [hb1] at HC1
      rw [hb2] at HC2
      rw [hb3] at HC3
      clear hL1 hR1 hF hR2 hD hR3 hl1 hl2 hl3 hl4 hHl hb1 hb2 hb3 hDl
      unfold txt at *
      refine HC1.out.mono ?_
      rintro e w1 ⟨rfl, hb1⟩
      have HB2 := Lib.hid (bnext HB1.out hb1)
      have HK2 := Lib.hid (HK1.out.below hb1)
      have HT2 := Lib.hid (HT1.out.below hb1)
      clear hb1 HC1 HB1 HK1 HT1
      go_wp2_with fail
      refine (HC2.out _).mono ?_
      rintro e w2 ⟨rfl, hb1⟩
      have HB1 := Lib.hid (bnext HB2.out hb1)
      have HK1 := Lib.hid (HK2.out.below hb1)
      have HT1 := Lib.hid (HT2.out.below hb1)
      clear hb1 HC2 HB2 HK2 HT2
      go_wp2_with fail
      refine (HC3.out _).mono ?_
      rintro e w3 ⟨rfl, hb1⟩
      have HB2 := Lib.hid (bnext HB1.out hb1)
      have HK2 := Lib.hid (HK1.out.below hb1)
      have HT2 := Lib.hid (HT1.out.below hb1)
      clear hb1 HC3 HB1 HK1 HT1
      go_wp2_with fail
      refine (HKO.out _ HT2.out).mono ?_
      rintro e w4 ⟨hke, rfl⟩
      cases hkk : kindP L1 with
      | none =>
        rw [hkk] at hke
        obtain rfl : e = _ := hke
        have HR : Hid (readP s = none) := by show _ = _; rw [HG2.out, HKN.out hkk]
        go_wp2_with fail
        exact ⟨rfl, RE.no HR.out rfl HB2.out⟩
      | some k =>
        rw [hkk] at hke
        obtain rfl : e = _ := hke
        have HSN2 := Lib.hid (HSN.out k hkk)
        have HYS2 := Lib.hid (fun n => HYS.out k n hkk)
        clear hkk HKN HSN HYS HKO
        go_wp2_with fail
        refine (HSO.out _ HT2.out).mono ?_
        rintro e w5 ⟨hke, hb1⟩
        have HB1 := Lib.hid (bnext HB2.out hb1)
        have HK1 := Lib.hid (HK2.out.below hb1)
        have HT1 := Lib.hid (HT2.out.below hb1)
        clear hb1 HB2 HK2 HT2 HSO
        cases hkk : serP D with
        | none =>
          rw [hkk] at hke
          obtain rfl : e = _ := hke
          have HR : Hid (readP s = none) := by show _ = _; rw [HG2.out, HSN2.out hkk]
          go_wp2_with fail
          exact ⟨rfl, RE.no HR.out rfl HB1.out⟩
        | some n =>
          rw [hkk] at hke
          obtain rfl : e = _ := hke
          have HTK : Hid (tokP H = some ⟨k, F, n⟩) := Lib.hid (HYS2.out n hkk)
          rw [HTK.out] at HG2
          have HG3 := Lib.hid HG2.out
          dsimp only at HG3
          clear hkk HSN2 HYS2 HTK HG2
          obtain ⟨c0, c1, c2⟩ := blk3 HK1.out
          obtain ⟨f0, f1, f2⟩ := frz3 HK1.out
          obtain ⟨SF, hSF⟩ : ∃ SF, (⟨F.toArray⟩ : ByteArray) = SF := ⟨_, rfl⟩
          rw [hSF]
          obtain ⟨w6, hw6⟩ : ∃ w6, ((w5.setCell ⟨w.heap.size, 0, none⟩ (.int .i64 k)).setCell ⟨w.heap.size, 1, none⟩ (.string SF)).setCell ⟨w.heap.size, 2, none⟩ (.int .i64 n) = w6 := ⟨_, rfl⟩
          have hK6 : Blk w6 w.heap.size 24 [.int .i64 k, .string SF, .int .i64 n] := by rw [← hw6]; exact set3 HK1.out _ _ _
          have hB6 : Below w.heap.size w w6 := by rw [← hw6]; exact set3_below HB1.out (Nat.le_refl _) _ _ _
          have HT6 := Lib.hid (HTW.out.below hB6)
          have HB6 := Lib.hid hB6
          have HK6 := Lib.hid hK6
          obtain ⟨d0, d1, d2⟩ := blk3 hK6
          have HRC := Lib.hid (right_c ⟨k, F, n⟩ w6 HT6.out)
          unfold tok txt at HRC
          simp only [hSF] at HRC
          clear hK6 hB6 HB1 HK1 HT1
          by_cases hrt : Rt ⟨k, F, n⟩
          · rw [decide_eq_true hrt] at HRC
            go_wp2_with fail
            refine HRC.out.mono ?_
            rintro e w7 ⟨rfl, hb1⟩
            have HB7 := Lib.hid (bnext HB6.out hb1)
            have HK7 := Lib.hid (HK6.out.below hb1)
            have HT7 := Lib.hid (HT6.out.below hb1)
            have HHC := Lib.hid (headOf_c ⟨k, F, n⟩ w7 hrt HT7.out)
            unfold tok txt at HHC
            simp only [hSF] at HHC
            obtain ⟨HD, hHD⟩ : ∃ x, headT ⟨k, F, n⟩ = x := ⟨_, rfl⟩
            rw [hHD] at HHC HG3
            clear hb1 HB6 HK6 HT6 HRC d0 d1 d2 c0 c1 c2 f0 f1 f2 hw6
            obtain ⟨c0, c1, c2⟩ := blk3 HK7.out
            by_cases heq : HD = H
            · have HY := Lib.hid (HYES.out w)
              have HR : Hid (readP s = some ⟨k, F, n⟩) := by show _ = _; rw [HG3.out, if_pos ⟨hrt, heq⟩]
              have HHQ : Hid (headT ⟨k, F, n⟩ = H) := Lib.hid (by rw [hHD, heq])
              clear HG3 hrt hHD
              subst heq
              have q1 : (HD == HD) = true := by simp
              go_wp2_with (first
                | (go_at_call 23; refine HHC.out.mono ?_; rintro e w8 ⟨rfl, hb1⟩; have HB8 := Lib.hid (bnext HB7.out hb1); have HK8 := Lib.hid (HK7.out.below hb1); clear hb1)
                | (go_at_call 10; refine (HD1.out _ _).mono ?_; rintro e w' ⟨rfl, rfl⟩))
              have HCL := Lib.hid (fdv.clone_c SF w8 (by rw [← hSF, mk_sz]; omega))
              refine HCL.out.mono ?_
              rintro e w9 ⟨rfl, hb1⟩
              have HB9 := Lib.hid (bnext HB8.out hb1)
              have HK9 := Lib.hid (HK8.out.below hb1)
              clear hb1 HB7 HK7 HT7 HB8 HK8 HCL HHC c0 c1 c2
              obtain ⟨c0, c1, c2⟩ := blk3 HK9.out
              obtain ⟨f0, f1, f2⟩ := frz3 HK9.out
              obtain ⟨wa, hwa⟩ : ∃ wa, w9.setCell ⟨w.heap.size, 1, none⟩ (.string SF) = wa := ⟨_, rfl⟩
              have hKa : Blk wa w.heap.size 24 [.int .i64 k, .string SF, .int .i64 n] := by rw [← hwa]; exact HK9.out.set 1 (.string SF)
              have hBa : Below w.heap.size w wa := by rw [← hwa]; exact HB9.out.setCell (p := ⟨w.heap.size, 1, none⟩) (Nat.le_refl _) _
              obtain ⟨d0, d1, d2⟩ := blk3 hKa
              obtain ⟨g0, g1, g2⟩ := frz3 hKa
              obtain ⟨wb, hwb⟩ : ∃ wb, ((wa.setCell ⟨w.heap.size, 0, none⟩ (.int .i64 k)).setCell ⟨w.heap.size, 1, none⟩ (.string SF)).setCell ⟨w.heap.size, 2, none⟩ (.int .i64 n) = wb := ⟨_, rfl⟩
              have HKb : Hid (Blk wb w.heap.size 24 [.int .i64 k, .string SF, .int .i64 n]) := by rw [← hwb]; exact set3 hKa _ _ _
              have HBb : Hid (Below w.heap.size w wb) := by rw [← hwb]; exact set3_below hBa (Nat.le_refl _) _ _ _
              clear hKa hBa HB9 HK9
              go_wp2_with fail
              refine bodyPost_ret (results_row3 Tryz.results9 _ _ w.heap.size 24 [.int .i64 k, .string SF, .int .i64 n] (.string ⟨HD.toArray⟩) (.string ⟨G.toArray⟩) rfl rfl rfl HKb.out Tryz.underlying24 rfl infoTk) rfl ?_
              refine HY.out _ _ ⟨k, F, n⟩ HR.out HHQ.out ?_ HBb.out
              unfold tok txt
              simp only [hSF]
            · have q1 : (HD == H) = false := by simpa using heq
              have HR : Hid (readP s = none) := by show _ = _; rw [HG3.out, if_neg (fun h => heq h.2)]
              clear heq HG3
              go_wp2_with (first
                | (go_at_call 23; refine HHC.out.mono ?_; rintro e w8 ⟨rfl, hb1⟩; have HB8 := Lib.hid (bnext HB7.out hb1); clear hb1)
                | (go_at_call 10; refine (HD0.out _ _).mono ?_; rintro e w' ⟨rfl, rfl⟩))
              exact ⟨rfl, RE.no HR.out rfl HB8.out⟩
          · rw [decide_eq_false hrt] at HRC
            have HR : Hid (readP s = none) := by show _ = _; rw [HG3.out, if_neg (fun h => hrt h.1)]
            go_wp2_with (first
              | (go_at_call 22; refine HRC.out.mono ?_; rintro e w7 ⟨rfl, hb1⟩; have HB7 := Lib.hid (bnext HB6.out hb1); clear hb1)
              | (go_at_call 10; refine (HD0.out _ _).mono ?_; rintro e w' ⟨rfl, rfl⟩))
            exact ⟨rfl, RE.no HR.out rfl HB7.out⟩
end Go.Proofs.YtjadginnaogjoaaGreatDoor.sea
