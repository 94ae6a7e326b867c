/- The law's known: the chapter's examples; two tokens held against each other. St. -/
import Derived.Test.YtjadginnaogjoaaGreatDoorSe8
import Derived.Laws.StructEq
namespace Go.Proofs.YtjadginnaogjoaaGreatDoor.sea
open Go.RowKit
open Go.Proofs.YtjadginnaogjoaaGreatDoor.oct Go.Proofs.YtjadginnaogjoaaGreatDoor.ref Go.Proofs.YtjadginnaogjoaaGreatDoor.rows Go.Proofs.YtjadginnaogjoaaGreatDoor.trn
open Go.Proofs.YtjadginnaogjoaaGreatDoor.sha (Rm)
open Go.Proofs.YtjadginnaogjoaaGreatDoor.jsn (natD intD natD_small natD_big valD valD_natD)
open Go.Lib (byteCells)

/-- two tokens, the parts given -/
theorem eq3 (k n k' n' : Int) (S S' : ByteArray) (w : World) :
    (binOp .eql 24 (.agg #[.int .i64 k, .string S, .int .i64 n]) (.agg #[.int .i64 k', .string S', .int .i64 n'])).run Tryz.prog w = .ok (.bool ((k == k') && ((S.toList == S'.toList) && (n == n')))) w := by
  have hs : Tryz.prog.underlying 24 = some (.struct (Tryz.prog.fieldsOf 24)) := by kernel_rfl
  have hp : Tryz.prog.stoodInHeld 24 = false := by kernel_rfl
  rw [run_eql_struct, run_equalIn_struct w 9999 _ _ _ hs hp]
  simp [go_sem, Program.fieldsOf, Tryz.underlying24, Tryz.underlying3, Tryz.underlying9, Op.eqFields]
  by_cases h1 : k = k'
  · by_cases h2 : S.toList = S'.toList
    · by_cases h3 : n = n' <;> simp [h1, h2, h3]
    · simp [h1, h2]
  · simp [h1]
theorem guard3 : Tryz.prog.eqGuardType Tryz.prog.depth 24 = false := by kernel_rfl
def kt1 : T := [99, 46, 102, 49, 46, 48, 46, 65, 65, 65, 65, 65, 65, 65, 65, 65, 65, 65, 65, 65, 65, 65, 65]
def kt2 : T := [97, 46, 102, 49, 46, 48, 55, 46, 65, 65, 65, 65, 65, 65, 65, 65, 65, 65, 65, 65, 65, 65, 65, 65]
theorem intD_small (n : Nat) (h : n < 10) : intD (n : Int) = [UInt8.ofNat (48 + n)] := by
  rw [intD_pos (by omega), show ((n : Int)).toNat = n by omega, natD_small h]
theorem kt1_read : outP kt1 = .inl ⟨1, [102, 49], 0⟩ := by
  refine outP_some (readP_iff.2 ⟨List.replicate 16 65, ?_⟩)
  refine ⟨⟨by decide, by decide, by decide, by decide, by decide, by decide, by decide⟩, ?_, by decide, by decide⟩
  unfold headT
  rw [show intD (0 : Int) = [48] from intD_small 0 (by decide)]
  decide
theorem kt2_read : outP kt2 = .inr 3 := by
  refine outP_none (readP_none fun t g h => ?_)
  have h1 : kt2.take (kt2.length - 16) = headT t := h.take
  have h2 : cutL (cutR (cutR (headT t))) = intD t.n := cutL_head3 h.r
  rw [← h1] at h2
  have h3 : cutL (cutR (cutR (kt2.take (kt2.length - 16)))) = [48, 55] := by decide
  rw [h3, intD_pos h.r.n0] at h2
  have h4 : t.n.toNat = 7 := by
    rw [← valD_natD t.n.toNat, ← h2]
    decide
  rw [h4, natD_small (by decide)] at h2
  exact absurd h2 (by decide)
def kt3 : Tk := ⟨2, [102, 49], 7⟩
theorem kt3_right : Rt kt3 := ⟨by decide, by decide, by decide, by decide, by decide, by decide, by decide⟩
theorem kt3_head : headT kt3 = [97, 46, 102, 49, 46, 55, 46] := by
  unfold headT kt3
  rw [show intD (7 : Int) = [55] from intD_small 7 (by decide)]
  decide
theorem kt3_make (k : T) : mkE kt3 = 0 ∧ (mkS k kt3).length = 23 ∧ (mkS k kt3).take 7 = [97, 46, 102, 49, 46, 55, 46] := by
  unfold mkE mkS
  rw [if_pos kt3_right, if_pos kt3_right, kt3_head]
  refine ⟨rfl, ?_, ?_⟩
  · rw [List.length_append, tag_len]; rfl
  · rw [List.take_left']; rfl
set_option maxRecDepth 100000 in
set_option maxHeartbeats 8000000 in
theorem known16_c (w : World) (ht : St w) : Calls Tryz.prog 6 #[] w fun e w' => e = .returned (.bool true) ∧ Below w.heap.size w w' := by
  have kc := fun (w : World) (C : Array Value) n c => Lib.run_convert_bytes_const (P := Tryz.prog) w 22 5 C n c Tryz.underlying22 Tryz.underlying5
  have HP1 := Lib.hid (fun w h => peek_c kt1 w h (by decide))
  have HP2 := Lib.hid (fun w h => peek_c kt2 w h (by decide))
  rw [kt1_read] at HP1
  rw [kt2_read] at HP2
  have HT := Lib.hid ht
  have hguard := guard3
  obtain ⟨m1, m2, m3⟩ := kt3_make [107]
  have HM := Lib.hid (fun p cp w h hp hn => make_c p cp [107] kt3 w h hp (by decide) hn)
  rw [m1] at HM
  obtain ⟨M, hM⟩ : ∃ M, mkS [107] kt3 = M := ⟨_, rfl⟩
  rw [hM] at HM m2 m3
  have x1 : (⟨M.toArray⟩ : ByteArray).size = 23 := by rw [mk_sz]; exact m2
  have x2 : (⟨M.toArray⟩ : ByteArray).extract 0 7 = ⟨#[97, 46, 102, 49, 46, 55, 46]⟩ := by rw [ex_take, m3]
  unfold txt tok txt tokO errO kt1 at HP1
  unfold txt tok txt tokO errO kt2 at HP2
  unfold txt tok txt kt3 at HM
  dsimp only at HP1 HP2 HM
  obtain ⟨S, hS⟩ : ∃ S, (⟨M.toArray⟩ : ByteArray) = S := ⟨_, rfl⟩
  simp only [hS] at HM x1 x2
  clear ht m1 m2 m3 hM hS
  go_enter Tryz.func6, Tryz.ntmps6
  go_wp2_with fail
  refine (HP1.out _ HT.out).mono ?_
  rintro e w1 ⟨rfl, hb1⟩
  obtain ⟨wa, wb, hv⟩ := var3 w1 (.int .i64 1) (.string ⟨#[102, 49]⟩) (.int .i64 0)
  have ha := hv.a
  have hb := hv.s
  obtain ⟨d0, d1, d2⟩ := blk3 hv.zero
  obtain ⟨f0, f1, f2⟩ := frz3 hv.zero
  have HB1 := Lib.hid (bnext hb1 hv.below)
  have HK1 := Lib.hid hv.blk
  clear hv hb1
  go_wp2_with fail
  clear ha hb d0 d1 d2 f0 f1 f2
  refine (HP2.out _ (HT.out.below HB1.out)).mono ?_
  rintro e w2 ⟨rfl, hb1⟩
  obtain ⟨wc, wd, hv⟩ := var3 w2 (.int .i64 0) (.string ⟨#[]⟩) (.int .i64 0)
  have ha := hv.a
  have hb := hv.s
  obtain ⟨d0, d1, d2⟩ := blk3 hv.zero
  obtain ⟨f0, f1, f2⟩ := frz3 hv.zero
  have HB2 := Lib.hid (bnext (bnext HB1.out hb1) hv.below)
  have HK2 := Lib.hid (HK1.out.below (bnext hb1 hv.below))
  clear hv hb1 HB1 HK1
  go_wp2_with fail
  clear ha hb d0 d1 d2 f0 f1 f2
  have hb9 : Below wd.heap.size wd (wd.alloc (.cells #[.int .u8 107] 5 (1, 2))) := (Below.refl _ _).alloc (Nat.le_refl _) _
  refine (HM.out (some ⟨wd.heap.size, 0, none⟩) 1 _ (HT.out.below (bnext HB2.out hb9)) (sha.in8_mark wd _ (1, 2) [107] rfl) ⟨(fun h => by cases h), by decide⟩).mono ?_
  rintro e w3 ⟨rfl, hb1⟩
  have HB3 := Lib.hid (bnext (bnext HB2.out hb9) hb1)
  obtain ⟨d0, d1, d2⟩ := blk3 ((HK2.out.below hb9).below hb1)
  have heq := eq3 1 0 1 0 ⟨#[102, 49]⟩ ⟨#[102, 49]⟩
  clear hb9 hb1 HB2 HK2 kc HM HP1 HP2
  go_wp2_with fail
  go_ret
  exact ⟨ret_bool (by decide), HB3.out⟩
end Go.Proofs.YtjadginnaogjoaaGreatDoor.sea
