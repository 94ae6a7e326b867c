/- The developers' isFit, isChallenge, fieldsMayBe, May (written by tools/gen_gr5.py). No condition beyond what slices and texts are. -/
import Derived.Test.YthagdkipipldlaaGreatDoorGr4
import Derived.Test.YthagdkipipldlaaGreatDoorSeq
import Derived.Test.YthagdkipipldlaaGreatDoorGscq
import Derived.Test.YthagdkipipldlaaGreatDoorGpkd
namespace Go.Proofs.YthagdkipipldlaaGreatDoor.gra
open Go.RowKit
open Go.Proofs.YthagdkipipldlaaGreatDoor.oct Go.Proofs.YthagdkipipldlaaGreatDoor.ref Go.Proofs.YthagdkipipldlaaGreatDoor.rows Go.Proofs.YthagdkipipldlaaGreatDoor.rowg Go.Proofs.YthagdkipipldlaaGreatDoor.mpt Go.Proofs.YthagdkipipldlaaGreatDoor.trn Go.Proofs.YthagdkipipldlaaGreatDoor.krd
open Go.Proofs.YthagdkipipldlaaGreatDoor.scp (tx senc senc_len senc_one InS ins_below ins_cell ins_new lt Lst lval lenc GoodL FitS own_good fit_set setP setP_len printP)

set_option maxRecDepth 100000 in
set_option maxHeartbeats 4000000 in
theorem isFit_c (x : Lst) (w : World) (hx : LL w x) :
    Calls Tryz.prog 55 #[lval x] w fun e w' => e = .returned (.bool (fitB x.2.2)) ∧ Below w.heap.size w w' := by
  by_cases h32 : x.2.2.length ≤ 32
  · have hg : GoodL w x := hx.good (by omega)
    have HS := Lib.hid (scp.set_c x w hg)
    have HP := Lib.hid (fun W (hW : Below w.heap.size w W) => scp.print_c x W (hg.below hW))
    have HG : Hid (∀ W, Below w.heap.size w W → InS W x.1 x.2.2) := fun W hW => ins_below hg.row hW
    obtain ⟨P, R, l⟩ := x
    unfold lval tx at *
    dsimp only at *
    have HF : Hid (fitB l = (decide (setP l = l) && decide ((printP l).length ≤ 128))) := by show _ = _; unfold fitB; rw [decide_eq_true h32]; rfl
    have hI : (l.length : Int) ≤ 32 := by omega
    have HL : Hid (l.length ≤ 32) := h32
    have hsz := mk_sz (printP l)
    clear hx hg h32
    go_enter Tryz.func55, Tryz.ntmps55
    go_wp2_with fail
    refine HS.out.mono ?_
    rintro e w1 ⟨v, rfl, hown, hb1⟩
    obtain ⟨p, c, rfl, hgs⟩ := own_good hown (fit_set l) (by have := setP_len l; have := HL.out; omega)
    have HE := Lib.hid (sequal_c P R l p c (setP l) w1 (HG.out w1 hb1) hgs.row (by have := HL.out; omega) (by have := setP_len l; have := HL.out; omega))
    have HB1 := Lib.hid hb1
    unfold lval
    dsimp only
    clear hown hgs hb1
    by_cases hs : setP l = l
    · rw [decide_eq_true (show l = setP l from hs.symm)] at HE
      rw [decide_eq_true hs] at HF
      clear hs
      by_cases hp : (printP l).length ≤ 128
      · rw [decide_eq_true hp] at HF
        obtain ⟨S, hS⟩ : ∃ S, (⟨(printP l).toArray⟩ : ByteArray) = S := ⟨_, rfl⟩
        rw [hS] at HP hsz
        have hz : (S.size : Int) ≤ 128 := by omega
        clear hS hsz hp
        go_wp2_with (first
          | (go_at_call 84; (with_reducible refine HE.out.mono ?_); rintro e w2 ⟨rfl, nd, rfl⟩; have HB2 := Lib.hid (below_drewN HB1.out nd))
          | (go_at_call 86; (with_reducible refine (HP.out _ HB2.out).mono ?_); rintro e w3 ⟨rfl, hb3⟩; have HB3 := Lib.hid (bnext HB2.out hb3); clear hb3))
        go_ret
        exact ⟨ret_bool HF.out.symm, HB3.out⟩
      · rw [decide_eq_false hp] at HF
        obtain ⟨S, hS⟩ : ∃ S, (⟨(printP l).toArray⟩ : ByteArray) = S := ⟨_, rfl⟩
        rw [hS] at HP hsz
        have hz : ¬ (S.size : Int) ≤ 128 := by omega
        clear hS hsz hp
        go_wp2_with (first
          | (go_at_call 84; (with_reducible refine HE.out.mono ?_); rintro e w2 ⟨rfl, nd, rfl⟩; have HB2 := Lib.hid (below_drewN HB1.out nd))
          | (go_at_call 86; (with_reducible refine (HP.out _ HB2.out).mono ?_); rintro e w3 ⟨rfl, hb3⟩; have HB3 := Lib.hid (bnext HB2.out hb3); clear hb3))
        go_ret
        exact ⟨ret_bool (by rw [HF.out, decide_eq_false (by omega)]; rfl), HB3.out⟩
    · rw [decide_eq_false (show ¬ l = setP l from fun e => hs e.symm)] at HE
      rw [decide_eq_false hs] at HF
      clear hs hsz
      go_wp2_with (go_at_call 84; (with_reducible refine HE.out.mono ?_); rintro e w2 ⟨rfl, nd, rfl⟩; have HB2 := Lib.hid (below_drewN HB1.out nd))
      go_ret
      exact ⟨ret_bool HF.out.symm, HB2.out⟩
  · obtain ⟨P, R, l⟩ := x
    unfold lval
    dsimp only at *
    have HF : Hid (fitB l = false) := by show _ = _; unfold fitB; rw [decide_eq_false h32]; rfl
    have hI : ¬ (l.length : Int) ≤ 32 := by omega
    clear hx h32
    go_enter Tryz.func55, Tryz.ntmps55
    go_wp2_with fail
    go_ret
    exact ⟨ret_bool HF.out.symm, Below.refl _ _⟩
set_option maxRecDepth 100000 in
theorem isChallenge_c (c m : T) (w : World) :
    Calls Tryz.prog 77 #[.string ⟨c.toArray⟩, .string ⟨m.toArray⟩] w fun e w' => e = .returned (.bool (shownB c m)) ∧ Below w.heap.size w w' := by
  have HM := Lib.hid (pkc.may_c c m w)
  unfold pkc.txt at HM
  have y1 := mk_empty c
  have y2 := mk_empty m
  cases c with
  | nil =>
    have HF : Hid (shownB [] m = m.isEmpty) := by show _ = _; unfold shownB; rw [if_pos rfl]; cases m <;> rfl
    clear HM
    go_enter Tryz.func77, Tryz.ntmps77
    go_wp2_with fail
    go_ret
    exact ⟨ret_bool (by rw [HF.out]), Below.refl _ _⟩
  | cons a c =>
    have HF : Hid (shownB (a :: c) m = pkc.mayP (a :: c) m) := by show _ = _; unfold shownB; rw [if_neg (by simp)]
    rw [HF.out]
    obtain ⟨r, hr⟩ : ∃ r, pkc.mayP (a :: c) m = r := ⟨_, rfl⟩
    rw [hr] at HM ⊢
    have he : (⟨(a :: c).toArray⟩ : ByteArray).toList.isEmpty = false := by rw [y1]; rfl
    obtain ⟨S, hS⟩ : ∃ S, (⟨(a :: c).toArray⟩ : ByteArray) = S := ⟨_, rfl⟩
    rw [hS] at HM he ⊢
    clear hr HF y1 y2 hS
    go_enter Tryz.func77, Tryz.ntmps77
    go_wp2_with fail
    refine HM.out.mono ?_
    rintro e w1 ⟨rfl, hb1⟩
    have HB1 := Lib.hid hb1
    clear hb1
    go_wp2_with fail
    go_ret
    exact ⟨rfl, HB1.out⟩
/-- four texts in a row that is new -/
theorem four_row (W : World) (a b c d : T) (e : Nat) : InS (W.alloc (.cells #[.string ⟨a.toArray⟩, .string ⟨b.toArray⟩, .string ⟨c.toArray⟩, .string ⟨d.toArray⟩] e)) (some ⟨W.heap.size, 0, none⟩) [a, b, c, d] := ins_new W [a, b, c, d] e

end Go.Proofs.YthagdkipipldlaaGreatDoor.gra
