/- FieldQuotes, FieldUnquotes, FieldPrints, FieldGets, FieldParses by FApi. -/
import Derived.Test.YtfgenbmobfbifaaFldApi
namespace Go.Proofs.Ytfgenbmobfbifaa.fld
open Go.RowKit
open Go.Proofs.Ytfgenbmobfbifaa.oct Go.Proofs.Ytfgenbmobfbifaa.ref Go.Proofs.Ytfgenbmobfbifaa.rows
open Go.Lib (byteCells)

theorem runquote_l (l : List UInt8) (w : World) (hl : l.length ≤ 140737488351232) :
    Calls Try.prog 16 #[.string ⟨l.toArray⟩] w fun e w' => e = .returned (unqV (unq l)) ∧ Below w.heap.size w w' := by
  have h := runquote_c ⟨l.toArray⟩ w (by rw [size_mk]; exact hl)
  simpa using h
theorem rparse_l (l : List UInt8) (w : World) (hl : l.length ≤ 140737488351232) :
    Calls Try.prog 20 #[.string ⟨l.toArray⟩] w fun e w' => ParseV w w' (parse l) e := by
  have h := rparse_c ⟨l.toArray⟩ w (by rw [size_mk]; exact hl)
  simpa using h

theorem rsame_eq (P : Option Addr) (C : Nat) (Q : Option Addr) (D : Nat) (ps : List Pr) (w : World) (hp : InPr w P ps) (hq : InPr w Q ps) (hl : ps.length ≤ 140737488355328) :
    Calls Try.prog 21 #[.slice P ps.length C, .slice Q ps.length D] w fun e w' => e = .returned (.bool true) ∧ ∃ n, w' = w.drewN n := by
  have h := rsame_c P C ps Q D ps w hp hq hl hl
  rw [decide_eq_true rfl] at h
  exact h
theorem runP_few (ps : List (List UInt8)) (acc : List Pr) (ha : acc.length ≤ 64) : (runP ps acc).2.length ≤ 64 := by
  by_cases h : (runP ps acc).1 = 0
  · obtain ⟨l, _, h2, h3⟩ := runP_zero ps acc ha h
    rw [h3, List.length_append]; exact h2
  · rw [(runP_err ps acc h).1]; simp
theorem parse_few (l : List UInt8) : (parse l).2.length ≤ 64 := by
  unfold parse
  split
  · simp
  · exact runP_few _ _ (by simp)

set_option maxHeartbeats 1000000 in
theorem law_quotes {T : World → Prop} (X : FApi T) (l : List UInt8) (w : World) (hl : l.length ≤ 1048576) (ht : T w) :
    Calls Try.prog 3 #[.string ⟨l.toArray⟩] w fun e w' => e = .returned (.bool true) ∧ Below w.heap.size w w' := by
  have HT := Lib.hid ht
  have HX := Lib.hid X
  clear ht X
  go_enter Try.func3, Try.ntmps3
  go_wp2_with fail
  refine (fknown_c HX.out w HT.out).mono ?_
  rintro e w1 ⟨rfl, hb1⟩
  go_wp2_with fail
  refine (HX.out.quote l w1 (HX.out.tbelow _ _ HT.out hb1) hl).mono ?_
  rintro e w2 ⟨rfl, hb2⟩
  have hbw := bnext hb1 hb2
  clear hb1 hb2
  go_wp2_with fail
  refine (rquote_l l w2 (by omega)).mono ?_
  rintro e w3 ⟨rfl, hb3⟩
  have HB := Lib.hid (bnext hbw hb3)
  clear hbw hb3
  go_wp2_with fail
  go_ret
  exact ⟨rfl, HB.out⟩

set_option maxHeartbeats 1000000 in
theorem law_unquotes {T : World → Prop} (X : FApi T) (l : List UInt8) (w : World) (hl : l.length ≤ 140737488351232) (ht : T w) :
    Calls Try.prog 4 #[.string ⟨l.toArray⟩] w fun e w' => e = .returned (.bool true) ∧ Below w.heap.size w w' := by
  have HT := Lib.hid ht
  have HX := Lib.hid X
  have HLL := Lib.hid hl
  clear ht X hl
  go_enter Try.func4, Try.ntmps4
  go_wp2_with fail
  refine (HX.out.unquote l w HT.out HLL.out).mono ?_
  rintro e w1 ⟨rfl, hb1⟩
  have HV : Hid (∃ t n, unqV (unq l) = .tuple #[.string t, .int .i64 n]) := by
    cases unq l with
    | none => exact ⟨_, _, rfl⟩
    | some m => exact ⟨_, _, rfl⟩
  obtain ⟨t, n, hv⟩ := HV.out
  have HVe := Lib.hid hv
  rw [hv]
  clear hv
  go_wp2_with fail
  refine (runquote_l l w1 HLL.out).mono ?_
  rintro e w2 ⟨rfl, hb2⟩
  rw [HVe.out]
  have hbw := bnext hb1 hb2
  clear hb1 hb2
  go_wp2_with fail
  refine (fknown_c HX.out w2 (HX.out.tbelow _ _ HT.out hbw)).mono ?_
  rintro e w3 ⟨rfl, hb3⟩
  have HB := Lib.hid (bnext hbw hb3)
  clear hbw hb3
  go_wp2_with fail
  go_ret
  exact ⟨rfl, HB.out⟩

set_option maxHeartbeats 1000000 in
theorem law_prints {T : World → Prop} (X : FApi T) (P : Option Addr) (C : Nat) (ps : List Pr) (w : World) (hp : InPr w P ps) (hl : ps.length ≤ 1048576) (hc : ps.length ≤ C) (hn : P = none → C = 0) (hs : Small ps) (ht : T w) :
    Calls Try.prog 5 #[.slice P ps.length C] w fun e w' => e = .returned (.bool true) ∧ Below w.heap.size w w' := by
  have HT := Lib.hid ht
  have HX := Lib.hid X
  have HP := Lib.hid hp
  have HS := Lib.hid hs
  clear ht X hp hs
  go_enter Try.func5, Try.ntmps5
  go_wp2_with fail
  refine (HX.out.print P C ps w HT.out HP.out (by omega) hc hn (fit_small HS.out)).mono ?_
  rintro e w1 ⟨rfl, hb1⟩
  unfold tx
  go_wp2_with fail
  refine (rprint_c P C ps w1 (HP.out.below hb1) (by omega) HS.out).mono ?_
  rintro e w2 ⟨rfl, hb2⟩
  unfold tx
  have hbw := bnext hb1 hb2
  clear hb1 hb2
  go_wp2_with fail
  refine (fknown_c HX.out w2 (HX.out.tbelow _ _ HT.out hbw)).mono ?_
  rintro e w3 ⟨rfl, hb3⟩
  have HB := Lib.hid (bnext hbw hb3)
  clear hbw hb3
  go_wp2_with fail
  go_ret
  exact ⟨rfl, HB.out⟩

set_option maxHeartbeats 1000000 in
theorem law_gets {T : World → Prop} (X : FApi T) (P : Option Addr) (C : Nat) (ps : List Pr) (n : List UInt8) (w : World) (hp : InPr w P ps) (hl : ps.length ≤ 4398046511104) (hc : ps.length ≤ C) (hn : P = none → C = 0) (hv : Vals ps) (ht : T w) :
    Calls Try.prog 7 #[.slice P ps.length C, .string ⟨n.toArray⟩] w fun e w' => e = .returned (.bool true) ∧ Below w.heap.size w w' := by
  have HT := Lib.hid ht
  have HX := Lib.hid X
  have HP := Lib.hid hp
  have HLL := Lib.hid hl
  have HVL := Lib.hid hv
  clear ht X hp hl hv
  go_enter Try.func7, Try.ntmps7
  go_wp2_with fail
  refine (HX.out.get P C ps n w HT.out HP.out HLL.out hc hn HVL.out).mono ?_
  rintro e w1 ⟨rfl, hb1⟩
  unfold tx
  go_wp2_with fail
  refine (rget_c P C ps n w1 (HP.out.below hb1) (by have := HLL.out; omega)).mono ?_
  rintro e w2 ⟨rfl, rfl⟩
  unfold tx
  go_wp2_with fail
  refine (fknown_c HX.out w1 (HX.out.tbelow _ _ HT.out hb1)).mono ?_
  rintro e w3 ⟨rfl, hb3⟩
  have HB := Lib.hid (bnext hb1 hb3)
  clear hb1 hb3
  go_wp2_with fail
  go_ret
  exact ⟨rfl, HB.out⟩

set_option maxHeartbeats 1000000 in
theorem law_parses {T : World → Prop} (X : FApi T) (l : List UInt8) (w : World) (hl : l.length ≤ 140737488351232) (ht : T w) :
    Calls Try.prog 6 #[.string ⟨l.toArray⟩] w fun e w' => e = .returned (.bool true) ∧ Below w.heap.size w w' := by
  have HT := Lib.hid ht
  have HX := Lib.hid X
  have HL := Lib.hid (parse_few l)
  have HLL := Lib.hid hl
  clear ht X hl
  go_enter Try.func6, Try.ntmps6
  go_wp2_with fail
  refine (HX.out.parse l w HT.out HLL.out).mono ?_
  rintro e w1 ⟨v, rfl, hown, hb1⟩
  obtain ⟨p, c, rfl, _, _, hin⟩ := own_pairs hown
  have HI := Lib.hid hin
  clear hown hin
  go_wp2_with fail
  refine (rparse_l l w1 HLL.out).mono ?_
  rintro e w2 ⟨v, rfl, hown, hb2⟩
  obtain ⟨p2, c2, rfl, _, _, hin2⟩ := own_pairs hown
  have HI2 := Lib.hid hin2
  have HI1 := Lib.hid (HI.out.below hb2)
  have hbw := bnext hb1 hb2
  clear hown hin2 hb1 hb2
  go_wp2_with fail
  refine (fknown_c HX.out w2 (HX.out.tbelow _ _ HT.out hbw)).mono ?_
  rintro e w3 ⟨rfl, hb3⟩
  have HB := Lib.hid (bnext hbw hb3)
  have HS := Lib.hid (rsame_eq p c p2 c2 (parse l).2 w3 (HI1.out.below hb3) (HI2.out.below hb3) (by have := HL.out; omega))
  clear hbw hb3
  go_wp2_with fail
  refine HS.out.mono ?_
  rintro e w4 ⟨rfl, n, rfl⟩
  go_wp2_with fail
  go_ret
  exact ⟨rfl, below_drewN HB.out n⟩
end Go.Proofs.Ytfgenbmobfbifaa.fld
