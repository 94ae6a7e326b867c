/- The developers' Sync. Names of at most 2^47 bytes. -/
import Derived.Test.YtggcdlhgmikemaaPdk
namespace Go.Proofs.Ytggcdlhgmikemaa.plt
open Go.RowKit
open Go.Proofs.Ytggcdlhgmikemaa.oct Go.Proofs.Ytggcdlhgmikemaa.ref Go.Proofs.Ytggcdlhgmikemaa.rows Go.Proofs.Ytggcdlhgmikemaa.rowg Go.Proofs.Ytggcdlhgmikemaa.mpt Go.Proofs.Ytggcdlhgmikemaa.cln Go.Proofs.Ytggcdlhgmikemaa.trn
open Go.Lib (byteCells)

/-- a file's second cell is another one -/
theorem PM.resync {w : World} {R : Nat → Prop} {g m room used : Nat} {D : DataW Nat} {fl : List DF} {k : Int} {down : Bool} (h : PM w R g m D fl room used k down) {x : DF} (hx : x ∈ fl) (s : Nat) :
    PM (w.setCell ⟨x.g, 1, none⟩ (.int .i64 (s : Nat))) (Rn R w (w.setCell ⟨x.g, 1, none⟩ (.int .i64 (s : Nat)))) g m D (insD fl ⟨x.n, x.g, x.p, x.c, x.b, s⟩) room used k down ∧ Turn R w (w.setCell ⟨x.g, 1, none⟩ (.int .i64 (s : Nat))) := by
  have hf := h.files x hx
  have t2 : Turn (fun i => i = x.g) w (w.setCell ⟨x.g, 1, none⟩ (.int .i64 (s : Nat))) := Turn.set _ _ _ _ rfl
  refine h.changed hx ⟨x.n, x.g, x.p, x.c, x.b, s⟩ rfl rfl (t2.mono fun i _ e => Or.inl e) ⟨hf.blk.set 1 _, ?_, fun i hi => Or.inl hi⟩
  exact own_turn hf.own t2 fun b hb e => absurd (row_blk hf.own (e ▸ hb) hf.blk) (by decide)
set_option maxRecDepth 100000 in
set_option maxHeartbeats 4000000 in
theorem psync_c {w : World} {R : Nat → Prop} {g : Nat} {st : PS} (h : PA w R g st) (hw : Wf st) (n : T) (hn : n.length ≤ 140737488351232) :
    Calls Try.prog 28 #[dptr g, .string ⟨n.toArray⟩] w fun e w' => e = .returned (.int .i64 ((synP st n).1 : Nat)) ∧ To w w' R g (synP st n).2 := by
  have HA := Lib.hid (pchange_c h n hn)
  have HWF := Lib.hid hw
  have HQ := Lib.hid (askP_fs st n true)
  clear h hw
  unfold synP
  by_cases h0 : (askP st n true).1 = 0
  · rw [if_neg (by omega)]
    obtain ⟨q, hq⟩ : ∃ q, askP st n true = q := ⟨_, rfl⟩
    rw [hq] at HA HQ h0 ⊢
    obtain ⟨e1, s1⟩ := q
    dsimp only at h0 HA HQ ⊢
    subst h0
    clear hq
    go_enter Try.func28, Try.ntmps28
    go_wp2_with fail
    refine HA.out.mono ?_
    rintro e w1 ⟨rfl, hp1, ht1⟩
    have HP := Lib.hid hp1
    have HT := Lib.hid ht1
    obtain ⟨m, D, fl, k, hM, hfs, hk⟩ := hp1
    have c2 : w1.cell? ⟨g, 2, none⟩ = some (.map (some m)) := hM.blk.cell 2
    have HFS : Hid (fl.map DF.f = st.fs) := by show _ = _; rw [hfs, HQ.out.1]
    have HM := Lib.hid hM
    have HK := Lib.hid hk
    rcases atD_cases fl n with ⟨h1, h3⟩ | ⟨h1, h3⟩
    · have hl := look_hit hM.map hM.says hM.srt h1 (by rw [h3]; exact hn)
      rw [h3] at hl
      have hX := Lib.hid (hM.resync h1 (atD fl n).b.length)
      have HXF : Hid ((atD fl n).f = getF st.fs n) := by show _ = _; rw [← HFS.out, atD_f hM.srt]
      have hB := (hM.files _ h1).blk
      have HX3 := Lib.hid h3
      have HX1 := Lib.hid h1
      obtain ⟨x, hx⟩ : ∃ x, atD fl n = x := ⟨_, rfl⟩
      rw [hx] at hl hB hX HXF HX3 HX1
      have d0 : w1.cell? ⟨x.g, 0, none⟩ = some (.slice x.p x.b.length x.c) := hB.cell 0
      have d1 := hB.frozen 1
      have d2 : w1.cell? ⟨x.g, 1, none⟩ = some (.int .i64 (x.s : Nat)) := hB.cell 1
      have dl := hB.lt
      clear hM ht1 hfs hk h1 h3 hB hx
      go_wp2_with fail
      go_ret
      refine ⟨rfl, Rn R w1 (w1.setCell ⟨x.g, 1, none⟩ (.int .i64 (x.b.length : Nat))), ⟨m, D, insD fl ⟨x.n, x.g, x.p, x.c, x.b, x.b.length⟩, k, ?_, ?_, HK.out⟩, HT.out.next hX.out.2, RnG (Grown.refl R w) HT.out.size⟩
      · have hb : x.b = (getF st.fs n).b := congrArg F.b HXF.out
        have h5 := used_lay HWF.out.srt ⟨n, x.b, x.b.length⟩
        dsimp only at h5
        rw [← hb] at h5
        dsimp only
        rw [← hb, show usedP (layP st.fs ⟨n, x.b, x.b.length⟩) = usedP s1.fs by rw [HQ.out.1]; omega]
        exact hX.out.1
      · have hb : x.b = (getF st.fs n).b := congrArg F.b HXF.out
        have hne : x.b ≠ [] := by
          have hm : x.f ∈ st.fs := by rw [← HFS.out]; exact List.mem_map_of_mem HX1.out
          exact wf_b HWF.out _ hm
        dsimp only
        rw [insD_f fl ⟨x.n, x.g, x.p, x.c, x.b, x.b.length⟩ hne, HFS.out, ← hb, ← HX3.out]
        rfl
    · have hl := look_miss hM.map hM.says h3 hn
      have HE : Hid (layP st.fs ⟨n, (getF st.fs n).b, (getF st.fs n).b.length⟩ = s1.fs) := by
        show _ = _
        have h5 : getF st.fs n = ⟨n, [], 0⟩ := by rw [← HFS.out]; exact getF_miss h3
        have h6 := lay_same HWF.out.srt (wf_b HWF.out) n
        rw [h5] at h6 ⊢
        rw [HQ.out.1]
        exact h6
      clear hM ht1 hfs hk h1 h3
      go_wp2_with fail
      go_ret
      rw [HE.out]
      exact ⟨rfl, R, HP.out, HT.out, Grown.refl R w⟩
  · rw [if_pos h0]
    obtain ⟨q, hq⟩ : ∃ q, askP st n true = q := ⟨_, rfl⟩
    rw [hq] at HA h0 ⊢
    obtain ⟨r, s1⟩ := q
    dsimp only at h0 HA ⊢
    have e0 : ((r : Int) != 0) = true := by rw [bne_iff_ne]; omega
    have e1 : ((r : Int) == 0) = false := by rw [beq_eq_false_iff_ne]; omega
    clear hq h0 HQ
    go_enter Try.func28, Try.ntmps28
    go_wp2_with fail
    refine HA.out.mono ?_
    rintro e w1 ⟨rfl, hp1, ht1⟩
    have HP := Lib.hid hp1
    have HT := Lib.hid ht1
    clear hp1 ht1
    go_wp2_with fail
    go_ret
    exact ⟨rfl, R, HP.out, HT.out, Grown.refl R w⟩
end Go.Proofs.Ytggcdlhgmikemaa.plt
