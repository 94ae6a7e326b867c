/- The developers' Cut. Names of at most 2^47 bytes. -/
import Derived.Test.YtggcdlhgmikemaaPdo
namespace Go.Proofs.Ytggcdlhgmikemaa.plt
open Go.RowKit
open Go.Proofs.Ytggcdlhgmikemaa.oct Go.Proofs.Ytggcdlhgmikemaa.ref Go.Proofs.Ytggcdlhgmikemaa.rows Go.Proofs.Ytggcdlhgmikemaa.rowg Go.Proofs.Ytggcdlhgmikemaa.mpt Go.Proofs.Ytggcdlhgmikemaa.cln Go.Proofs.Ytggcdlhgmikemaa.trn
open Go.Lib (byteCells)

theorem ok_files {fl : List DF} {st : PS} (hf : fl.map DF.f = st.fs) (hw : Wf st) : ∀ x ∈ fl, x.b ≠ [] ∧ x.s ≤ x.b.length := fun x hx => by
  have h := hw.each x.f (by rw [← hf]; exact List.mem_map_of_mem hx)
  exact ⟨h.1, h.2.1⟩
theorem ShortA.to {w w' : World} {R : Nat → Prop} {g m room : Nat} {k : Int} {down : Bool} {L : List F} {s1 : PS} (h : ShortA w w' R g m room k down L) (hk : leftOf k = s1.left ∧ -9223372036854775808 ≤ k ∧ k ≤ 9223372036854775807) (hr : s1.room = room) (hd : s1.down = down) : To w w' R g { s1 with fs := L } := by
  obtain ⟨R', D', fl', h1, h2, h3, h4⟩ := h
  subst hr
  subst hd
  exact ⟨R', ⟨m, D', fl', k, h1, h2, hk⟩, h3, h4⟩
theorem To.behind {w w1 w' : World} {R : Nat → Prop} {g : Nat} {s : PS} (ht : Turn R w w1) (h : To w1 w' R g s) : To w w' R g s := by
  obtain ⟨R', h1, h2, h3⟩ := h
  exact ⟨R', h1, ht.next h2, fun i hi => (h3 i hi).imp id fun e => Nat.le_trans ht.size e⟩
set_option maxRecDepth 100000 in
set_option maxHeartbeats 8000000 in
theorem pcut_c {w : World} {R : Nat → Prop} {g : Nat} {st : PS} (h : PA w R g st) (hw : Wf st) (n : T) (hn : n.length ≤ 140737488351232) (c : Int) (hc : (Lit.int .i64 c).wf = true) :
    Calls Try.prog 29 #[dptr g, .string ⟨n.toArray⟩, .int .i64 c] w fun e w' => e = .returned (.int .i64 ((cutP st n c).1 : Nat)) ∧ To w w' R g (cutP st n c).2 := by
  have _ := hc
  have HA := Lib.hid (pchange_c h n hn)
  have hus := hw.used
  have hro := hw.room
  have HWF := Lib.hid hw
  have HQ := Lib.hid (askP_fs st n true)
  clear h hw hc
  unfold cutP
  by_cases h0 : (askP st n true).1 = 0
  · rw [if_neg (by omega)]
    obtain ⟨q, hq⟩ : ∃ q, askP st n true = q := ⟨_, rfl⟩
    rw [hq] at HA HQ h0 ⊢
    obtain ⟨e1, s1⟩ := q
    dsimp only at h0 HA HQ ⊢
    subst h0
    clear hq
    have hgl := get_le HWF.out.srt n
    by_cases hneg : c < 0
    · rw [if_pos (Or.inl hneg)]
      clear hus hro hgl
      go_enter Try.func29, Try.ntmps29
      go_wp2_with fail
      refine HA.out.mono ?_
      rintro e w1 ⟨rfl, hp1, ht1⟩
      have HP := Lib.hid hp1
      have HT := Lib.hid ht1
      clear hp1 ht1
      go_wp2_with fail
      go_ret
      exact ⟨rfl, R, HP.out, HT.out, Grown.refl R w⟩
    · obtain ⟨j, rfl⟩ : ∃ j : Nat, c = (j : Int) := ⟨c.toNat, by omega⟩
      have i0 : ¬ ((j : Int) < 0) := hneg
      by_cases hbig : ((getF st.fs n).b.length : Int) < (j : Int)
      · rw [if_pos (Or.inr hbig)]
        have HBG := Lib.hid hbig
        clear hus hro hgl hneg hbig
        go_enter Try.func29, Try.ntmps29
        go_wp2_with fail
        refine HA.out.mono ?_
        rintro e w1 ⟨rfl, hp1, ht1⟩
        have HP := Lib.hid hp1
        have HT := Lib.hid ht1
        obtain ⟨m, D, fl, k, hM, hfs, hk⟩ := hp1
        have hfx := atD_f hM.srt n
        rw [hfs, HQ.out.1] at hfx
        have HO := Lib.hid (of_c hM n hn)
        have hi1 : (j : Int) > ((atD fl n).b.length : Int) := by have := HBG.out; rw [hfx] at this; exact this
        obtain ⟨x, hx⟩ : ∃ x, atD fl n = x := ⟨_, rfl⟩
        rw [hx] at HO hi1
        unfold DF.v at HO
        clear hM ht1 hfs hk hfx hx
        go_wp2_with fail
        refine HO.out.mono ?_
        rintro e w2 ⟨rfl, hb2⟩
        have HB2 := Lib.hid hb2
        have hf0 := field0 (.slice x.p x.b.length x.c) (.int .i64 (x.s : Nat)) w2
        clear hb2
        go_wp2_with fail
        go_ret
        exact ⟨rfl, R, HP.out.below HB2.out, HT.out.next (Turn.of_below HB2.out), Grown.refl R w⟩
      · rw [if_neg (fun h => h.elim hneg hbig)]
        have HBG := Lib.hid hbig
        clear hgl hneg hbig
        go_enter Try.func29, Try.ntmps29
        go_wp2_with fail
        refine HA.out.mono ?_
        rintro e w1 ⟨rfl, hp1, ht1⟩
        have HT := Lib.hid ht1
        obtain ⟨m, D, fl, k, hM, hfs, hk⟩ := hp1
        have hfx := atD_f hM.srt n
        have HFX := Lib.hid hfx
        rw [hfs, HQ.out.1] at hfx
        have HO := Lib.hid (of_c hM n hn)
        have hi1 : ¬ ((j : Int) > ((atD fl n).b.length : Int)) := by have h9 := HBG.out; rw [hfx] at h9; exact Int.not_lt.2 h9
        have HL : Hid (j ≤ (getF (fl.map DF.f) n).b.length) := by show _ ≤ _; rw [HFX.out]; show j ≤ (atD fl n).b.length; omega
        have HFS : Hid (fl.map DF.f = st.fs) := by show _ = _; rw [hfs, HQ.out.1]
        have HK := Lib.hid hk
        have HMM : Hid (PM w1 R g m D fl s1.room (usedP (fl.map DF.f)) k s1.down) := by show PM _ _ _ _ _ _ _ _ _ _; rw [hfs]; exact hM
        obtain ⟨x, hx⟩ : ∃ x, atD fl n = x := ⟨_, rfl⟩
        rw [hx] at HO hi1
        unfold DF.v at HO
        clear hM ht1 hfs hk hfx hx
        go_wp2_with fail
        refine HO.out.mono ?_
        rintro e w2 ⟨rfl, hb2⟩
        have HB2 := Lib.hid hb2
        have HS := Lib.hid (shorten_c (HMM.out.turn (S := fun _ => False) (Turn.of_below hb2) fun _ _ => id) (ok_files HFS.out HWF.out) (by rw [HFS.out]; omega) n hn j HL.out)
        have hf0 := field0 (.slice x.p x.b.length x.c) (.int .i64 (x.s : Nat)) w2
        clear hb2
        go_wp2_with fail
        refine HS.out.mono ?_
        rintro e w3 ⟨rfl, hs3⟩
        rw [HFS.out] at hs3
        have HTO := Lib.hid ((hs3.to HK.out rfl rfl).behind (HT.out.next (Turn.of_below HB2.out)))
        clear hs3
        go_wp2_with fail
        go_ret
        exact ⟨rfl, HTO.out⟩
  · rw [if_pos h0]
    obtain ⟨q, hq⟩ : ∃ q, askP st n true = q := ⟨_, rfl⟩
    rw [hq] at HA h0 ⊢
    obtain ⟨r, s1⟩ := q
    dsimp only at h0 HA ⊢
    have e0 : ((r : Int) != 0) = true := by rw [bne_iff_ne]; omega
    have e1 : ((r : Int) == 0) = false := by rw [beq_eq_false_iff_ne]; omega
    clear hq h0 HQ hus hro
    go_enter Try.func29, Try.ntmps29
    go_wp2_with fail
    refine HA.out.mono ?_
    rintro e w1 ⟨rfl, hp1, ht1⟩
    have HP := Lib.hid hp1
    have HT := Lib.hid ht1
    clear hp1 ht1
    go_wp2_with fail
    go_ret
    exact ⟨rfl, R, HP.out, HT.out, Grown.refl R w⟩
end Go.Proofs.Ytggcdlhgmikemaa.plt
