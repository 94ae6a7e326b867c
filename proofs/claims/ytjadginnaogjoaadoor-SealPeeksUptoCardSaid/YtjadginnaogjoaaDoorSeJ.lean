/- The law SealPeeks, for texts of at most 1048576 bytes; its card's shape. St. -/
import Derived.Test.YtjadginnaogjoaaDoorSeI
import Derived.Test.YtjadginnaogjoaaDoorSeOp
namespace Go.Proofs.YtjadginnaogjoaaDoor.sea
open Go.RowKit
open Go.Proofs.YtjadginnaogjoaaDoor.oct Go.Proofs.YtjadginnaogjoaaDoor.ref Go.Proofs.YtjadginnaogjoaaDoor.rows Go.Proofs.YtjadginnaogjoaaDoor.trn
open Go.Lib (byteCells)

set_option maxRecDepth 100000 in
set_option maxHeartbeats 8000000 in
theorem law_peeks (s : T) (w : World) (ht : St w) (hs : s.length ≤ 1048576) :
    Calls Tryd.prog 4 #[txt s] w fun e w' => e = .returned (.bool true) ∧ Below w.heap.size w w' := by
  have HT := Lib.hid ht
  have HP1 := Lib.hid (fun w h => peek_c s w h (by omega))
  have HP2 := Lib.hid (fun w => rpeek_c s w hs)
  have hguard := guard3
  obtain ⟨t, htk⟩ : ∃ t, tokO (outP s) = t := ⟨_, rfl⟩
  obtain ⟨er, her⟩ : ∃ er, errO (outP s) = er := ⟨_, rfl⟩
  rw [htk, her] at HP1 HP2
  clear ht htk her hs
  cases t with
  | mk k f n =>
    unfold tok at HP1 HP2
    unfold txt at *
    dsimp only at HP1 HP2
    obtain ⟨S, hS⟩ : ∃ S, (⟨f.toArray⟩ : ByteArray) = S := ⟨_, rfl⟩
    simp only [hS] at HP1 HP2
    clear hS
    have heq := eq3 k n k n S S
    go_enter Tryd.func4, Tryd.ntmps4
    go_wp2_with fail
    refine (HP1.out _ HT.out).mono ?_
    rintro e w1 ⟨rfl, hb1⟩
    obtain ⟨wa, wb, hv⟩ := var3 w1 (.int .i64 k) (.string S) (.int .i64 n)
    have ha := hv.a
    have hb := hv.s
    obtain ⟨d0, d1, d2⟩ := blk3 hv.zero
    obtain ⟨f0, f1, f2⟩ := frz3 hv.zero
    have HB1 := Lib.hid (bnext hb1 hv.below)
    have HK1 := Lib.hid hv.blk
    clear hv hb1
    go_wp2_with fail
    clear ha hb d0 d1 d2 f0 f1 f2
    refine (HP2.out _).mono ?_
    rintro e w2 ⟨rfl, hb1⟩
    obtain ⟨wc, wd, hv⟩ := var3 w2 (.int .i64 k) (.string S) (.int .i64 n)
    have ha := hv.a
    have hb := hv.s
    obtain ⟨d0, d1, d2⟩ := blk3 hv.zero
    obtain ⟨f0, f1, f2⟩ := frz3 hv.zero
    have HB2 := Lib.hid (bnext (bnext HB1.out hb1) hv.below)
    have HK2 := Lib.hid (HK1.out.below (bnext hb1 hv.below))
    have HV2 := Lib.hid hv.blk
    clear hv hb1 HB1 HK1
    go_wp2_with fail
    clear ha hb d0 d1 d2 f0 f1 f2
    refine (known16_c _ (HT.out.below HB2.out)).mono ?_
    rintro e w3 ⟨rfl, hb1⟩
    have HB3 := Lib.hid (bnext HB2.out hb1)
    obtain ⟨d0, d1, d2⟩ := blk3 (HK2.out.below hb1)
    obtain ⟨v0, v1, v2⟩ := blk3 (HV2.out.below hb1)
    clear hb1 HB2 HK2 HV2
    go_wp2_with fail
    go_ret
    exact ⟨ret_bool (by simp), HB3.out⟩
theorem g_peeks (s : ByteArray) (w : World) (hs : s.size ≤ 1048576) (ht : St w) :
    Calls Tryd.prog 4 #[.string s] w fun e w' => e = .returned (.bool true) ∧ Below w.heap.size w w' := by
  have h := law_peeks s.data.toList w ht (by rw [sz_of]; exact hs)
  rw [txt_of] at h
  exact h
end Go.Proofs.YtjadginnaogjoaaDoor.sea
