/- The developers' cloned, copied, has, of. No condition beyond what slices and texts are. -/
import Derived.Test.YtfeafhagnhbmiaaGreatDoorRo9
namespace Go.Proofs.YtfeafhagnhbmiaaGreatDoor.rol
open Go.RowKit
open Go.Proofs.YtfeafhagnhbmiaaGreatDoor.oct Go.Proofs.YtfeafhagnhbmiaaGreatDoor.ref Go.Proofs.YtfeafhagnhbmiaaGreatDoor.rows Go.Proofs.YtfeafhagnhbmiaaGreatDoor.rowg
open Go.Proofs.YtfeafhagnhbmiaaGreatDoor.scp (tx senc senc_len senc_one InS ins_below ins_cell ins_one lt hasB hasB_iff Lst lval lenc GoodL FitS setP printP RowA own_good infoStr)

set_option maxRecDepth 100000 in
set_option maxHeartbeats 8000000 in
theorem cloned_r (x : Lst) (w : World) (hx : LL w x) (hf : x.2.2.length ≤ 4194304) :
    Calls Tryz.prog 26 #[lval x] w fun e w' => RowA w w' x.2.2 e := by
  obtain ⟨P, C, l⟩ := x
  show Calls _ _ #[.slice P l.length C] w fun e w' => RowA w w' l e
  have hfl : l.length ≤ 4194304 := hf
  have HP : Hid (InS w P l) := Lib.hid hx.row
  have HFT : Hid (FitS l) := Lib.hid hx.fit
  obtain ⟨i0, hi0, hz0, hz1, hz2⟩ := info_parts infoStr
  obtain ⟨n, hn⟩ : ∃ n, l.length = n := ⟨_, rfl⟩
  rw [hn] at hfl ⊢
  have HN := Lib.hid hn
  clear hx hf hn
  go_enter Tryz.func26, Tryz.ntmps26
  go_wp2_with fail
  go_loopg [3, 8] n (fun g s3 s8 wx => ∃ k : Nat, k + g = n ∧ s8 = .int .i64 k ∧ Hid (wx.ownsRow w.heap.size 9 1 s3 k (cells senc (l.take k))) ∧ Hid (Below w.heap.size w wx))
  case atStart => exact ⟨0, by omega, rfl, World.ownsRow_nil _ _ _ _, Lib.hid (Below.refl _ _)⟩
  case round =>
    obtain ⟨k, hkg, rfl, HOW, HBX⟩ := hrel
    rcases gk with _ | g
    · obtain rfl : k = n := by omega
      have HR := HOW.out
      rw [← HN.out, List.take_length] at HR
      have HO := Lib.hid HR
      obtain ⟨p, co, hv, hco, hno, hin⟩ := own_g senc_len (by decide) HR
      subst hv
      clear hin HR HOW
      go_wp2_with fail
      go_ret
      exact ⟨_, rfl, HO.out, HBX.out⟩
    · have hk : k < l.length := by rw [HN.out]; omega
      have hkI : (k : Int) < (n : Int) := by omega
      obtain ⟨b, o, hP, c0⟩ := ins_cell (ins_below HP.out HBX.out) k hk
      have htk : (l.take k).length = k := by rw [List.length_take]; omega
      have HT := Lib.hid (List.take_succ_eq_append_getElem hk)
      have hfit := HFT.out _ (List.getElem_mem hk)
      obtain ⟨x, hx⟩ : ∃ x, l[k] = x := ⟨_, rfl⟩
      rw [hx] at c0 HT hfit
      have HCL := Lib.hid (fun W => scp.clone_c ⟨x.toArray⟩ W (by rw [size_mk]; omega))
      subst hP
      have HOW2 : Hid (wr.ownsRow w.heap.size 9 1 u3 k (cells senc (l.take k))) := HOW
      clear hx hfit hk htk HOW
      go_wp2_with (first
        | (go_at_call 23; (with_reducible refine (HCL.out _).mono ?_); rintro e w2 ⟨rfl, hb2⟩; have HB2 := Lib.hid (bnext HBX.out hb2); have HO2 := Lib.hid (own_belowG HOW2.out hb2); clear hb2)
        | (at_builtin; refine wpList_append_g senc_len (by decide) senc_one rfl (.tmp 12) (.tmp 15) 25 9 rfl Tryz.underlying25 hi0 hz0 hz1 hz2 rfl w.heap.size _ k _ rfl (HO2.out.alloc _) (some ⟨w2.heap.size, 0, none⟩) 1 1 [x] rfl (ins_one w2 x _) rfl (fun h => by cases h) (by unfold maxLen; omega) (by omega) (by have := HB2.out.size; simp; omega) ?_; intro v3 w3 hown3 hgrow3; have hb3 := (HB2.out.alloc HB2.out.size _).grown hgrow3 (by have := HB2.out.size; simp; omega) (fun k hk => (HO2.out.lt k hk).1); have HO3 := Lib.hid hown3; have HB3 := Lib.hid hb3; clear hown3 hgrow3 hb3))
      go_roundg g
      case measure => omega
      case rel =>
        refine ⟨k + 1, by omega, by go_num, ?_, HB3⟩
        show w3.ownsRow _ _ _ _ _ _
        rw [HT.out, cells_append]
        exact HO3.out
theorem cloned_c (x : Lst) (w : World) (hx : LL w x) (hf : x.2.2.length ≤ 4194304) :
    Calls Tryz.prog 26 #[lval x] w fun e w' => ∃ p c, e = .returned (.slice p x.2.2.length c) ∧ w'.ownsRow w.heap.size 9 1 (.slice p x.2.2.length c) x.2.2.length (cells senc x.2.2) ∧ GoodL w' (p, c, x.2.2) ∧ Below w.heap.size w w' := (cloned_r x w hx hf).mono fun e w' ⟨v, h1, h2, h3⟩ => by
  obtain ⟨p, c, rfl, h5⟩ := own_good h2 hx.fit hf
  exact ⟨p, c, h1, h2, h5, h3⟩
end Go.Proofs.YtfeafhagnhbmiaaGreatDoor.rol
