/- The developers' change, Append, Sync. Names of at most 2^47 bytes. -/
import Derived.Test.YtggcdlhgmikemaaPdj
import Derived.BigQuiet
namespace Go.Proofs.Ytggcdlhgmikemaa.plt
open Go.RowKit
open Go.Proofs.Ytggcdlhgmikemaa.oct Go.Proofs.Ytggcdlhgmikemaa.ref Go.Proofs.Ytggcdlhgmikemaa.rows Go.Proofs.Ytggcdlhgmikemaa.rowg Go.Proofs.Ytggcdlhgmikemaa.mpt Go.Proofs.Ytggcdlhgmikemaa.cln Go.Proofs.Ytggcdlhgmikemaa.trn
open Go.Lib (byteCells)

theorem leftOf_nat (j : Nat) : leftOf (j : Int) = some j := by
  unfold leftOf
  rw [if_neg (by omega)]
  rfl
theorem leftOf_neg {k : Int} (h : k < 0) : leftOf k = none := by
  unfold leftOf
  rw [if_pos h]
theorem chD_ask (s : PS) (n : T) (k : Int) (hk : leftOf k = s.left) : (chD n k s.down).1 = (askP s n true).1 ∧ leftOf (chD n k s.down).2.1 = (askP s n true).2.left ∧ (chD n k s.down).2.2 = (askP s n true).2.down := by
  obtain ⟨fs, room, left, down⟩ := s
  dsimp only at hk ⊢
  subst hk
  by_cases h1 : nameOk n = false
  · have e1 : chD n k down = (1, k, down) := by unfold chD refD; rw [if_pos h1]; rfl
    have e2 : askP ⟨fs, room, leftOf k, down⟩ n true = (1, ⟨fs, room, leftOf k, down⟩) := by unfold askP; rw [if_pos h1]
    rw [e1, e2]
    exact ⟨rfl, rfl, rfl⟩
  · cases down with
    | true =>
      have e1 : chD n k true = (9, k, true) := by unfold chD refD; rw [if_neg h1]; rfl
      have e2 : askP ⟨fs, room, leftOf k, true⟩ n true = (9, ⟨fs, room, leftOf k, true⟩) := by unfold askP; rw [if_neg h1]; rfl
      rw [e1, e2]
      exact ⟨rfl, rfl, rfl⟩
    | false =>
      have er : refD n false = 0 := by unfold refD; rw [if_neg h1]; rfl
      by_cases k0 : k < 0
      · have e1 : chD n k false = (0, k, false) := by unfold chD; rw [er, if_neg (by simp), if_neg (by omega), if_neg (by omega)]
        have e2 : askP ⟨fs, room, leftOf k, false⟩ n true = (0, ⟨fs, room, leftOf k, false⟩) := by unfold askP; rw [if_neg h1, leftOf_neg k0]; rfl
        rw [e1, e2]
        exact ⟨rfl, rfl, rfl⟩
      · obtain ⟨j, rfl⟩ : ∃ j : Nat, k = (j : Int) := ⟨k.toNat, by omega⟩
        rw [leftOf_nat]
        cases j with
        | zero =>
          have e1 : chD n ((0 : Nat) : Int) false = (9, ((0 : Nat) : Int), true) := by unfold chD; rw [er, if_neg (by simp), if_pos (by rfl)]
          have e2 : askP ⟨fs, room, some 0, false⟩ n true = (9, ⟨fs, room, some 0, true⟩) := by unfold askP; rw [if_neg h1]; rfl
          rw [e1, e2]
          exact ⟨rfl, rfl, rfl⟩
        | succ j =>
          have e1 : chD n ((j + 1 : Nat) : Int) false = (0, (j : Int), false) := by
            unfold chD
            rw [er, if_neg (by simp), if_neg (by omega), if_pos (by omega), show ((j + 1 : Nat) : Int) - 1 = (j : Int) by omega]
          have e2 : askP ⟨fs, room, some (j + 1), false⟩ n true = (0, ⟨fs, room, some j, false⟩) := by unfold askP; rw [if_neg h1]; rfl
          rw [e1, e2]
          exact ⟨rfl, leftOf_nat j, rfl⟩
theorem chD_rng {n : T} {k : Int} {d : Bool} (h1 : -9223372036854775808 ≤ k) (h2 : k ≤ 9223372036854775807) : -9223372036854775808 ≤ (chD n k d).2.1 ∧ (chD n k d).2.1 ≤ 9223372036854775807 := by
  unfold chD
  split
  · exact ⟨h1, h2⟩
  · split
    · exact ⟨h1, h2⟩
    · split
      · dsimp only; omega
      · exact ⟨h1, h2⟩
theorem pchange_c {w : World} {R : Nat → Prop} {g : Nat} {st : PS} (h : PA w R g st) (n : T) (hn : n.length ≤ 140737488351232) :
    Calls Try.prog 42 #[dptr g, .string ⟨n.toArray⟩] w fun e w' => e = .returned (.int .i64 ((askP st n true).1 : Nat)) ∧ PA w' R g (askP st n true).2 ∧ Turn R w w' := by
  obtain ⟨m, D, fl, k, hM, hfs, hk, hk1, hk2⟩ := h
  refine (change_c hM.blk hk1 hk2 n (by omega)).mono fun e w' ⟨e1, e2, e3⟩ => ?_
  obtain ⟨c1, c2, c3⟩ := chD_ask st n k hk
  have hr := chD_rng (n := n) (d := st.down) hk1 hk2
  obtain ⟨f1, f2⟩ := askP_fs st n true
  rw [c1] at e1
  refine ⟨e1, ⟨m, D, fl, (chD n k st.down).2.1, ?_, by rw [f1]; exact hfs, c2, hr.1, hr.2⟩, Turn.of_grown e3 hM.mem⟩
  rw [f1, f2, ← c3]
  exact hM.cells e3 e2
theorem infoByteA : (Try.prog.info? 5).map (fun i => (i.zero, i.size, i.bytes)) = some (some (.int .u8 0), 1, 1) := infoByte
/-- a file's bytes have grown -/
theorem PM.grew {w w4 : World} {R : Nat → Prop} {g m room used g2 cap : Nat} {D : DataW Nat} {fl : List DF} {k : Int} {down : Bool} (h : PM w R g m D fl room used k down) {x : DF} (hx : x ∈ fl) (b : T)
    (ho : w4.ownsRow 0 5 1 (.slice (some ⟨g2, 0, none⟩) (x.b.length + b.length) cap) (x.b.length + b.length) (byteCells x.b ++ byteCells b)) (hg : w.grownBy w4 x.v.ownBlock) (hl : x.v.ownBlock = some g2 ∨ g2 = w.heap.size) (h2 : g2 < w4.heap.size) :
    Blk w4 x.g 72 [x.v, .int .i64 (x.s : Nat)] ∧ PM (w4.setCell ⟨x.g, 0, none⟩ (.slice (some ⟨g2, 0, none⟩) (x.b.length + b.length) cap)) (Rn R w (w4.setCell ⟨x.g, 0, none⟩ (.slice (some ⟨g2, 0, none⟩) (x.b.length + b.length) cap))) g m D (insD fl ⟨x.n, x.g, some ⟨g2, 0, none⟩, cap, x.b ++ b, x.s⟩) room used k down ∧ Turn R w (w4.setCell ⟨x.g, 0, none⟩ (.slice (some ⟨g2, 0, none⟩) (x.b.length + b.length) cap)) := by
  have hf := h.files x hx
  have t1 : Turn (fun i => x.v.ownBlock = some i) w w4 := Turn.of_row hg fun b e => e
  have hB : Blk w4 x.g 72 [x.v, .int .i64 (x.s : Nat)] := blk_turn hf.blk t1 fun e => absurd (row_blk hf.own e hf.blk) (by decide)
  have t2 : Turn (fun i => i = x.g) w4 (w4.setCell ⟨x.g, 0, none⟩ (.slice (some ⟨g2, 0, none⟩) (x.b.length + b.length) cap)) := Turn.set _ _ _ _ rfl
  have ht : Turn x.has w (w4.setCell ⟨x.g, 0, none⟩ (.slice (some ⟨g2, 0, none⟩) (x.b.length + b.length) cap)) := (t1.mono fun i _ e => Or.inr e).next (t2.mono fun i _ e => Or.inl e)
  refine ⟨hB, ?_⟩
  have ho5 := own_turn ho t2 fun b hb e => absurd (row_blk ho (e ▸ hb) hB) (by decide)
  refine h.changed hx ⟨x.n, x.g, some ⟨g2, 0, none⟩, cap, x.b ++ b, x.s⟩ rfl rfl ht ⟨?_, ?_, ?_⟩
  · have := hB.set 0 (.slice (some ⟨g2, 0, none⟩) (x.b.length + b.length) cap)
    unfold DF.v
    rw [List.length_append]
    exact this
  · unfold DF.v
    dsimp only
    rw [List.length_append, byteCells_append]
    exact ho5
  · intro i hi
    rcases hi with hi | hi
    · exact Or.inl (Or.inl hi)
    · have e : g2 = i := by
        unfold DF.v at hi
        injection hi
      subst e
      rcases hl with hl | rfl
      · exact Or.inl (Or.inr hl)
      · exact Or.inr ⟨Nat.le_refl _, Nat.lt_of_lt_of_le h2 t2.size⟩
theorem RnG {R R' : Nat → Prop} {w w1 w2 : World} (h : Grown R R' w) (hs : w.heap.size ≤ w1.heap.size) : Grown R (Rn R' w1 w2) w := fun k hk => hk.elim (h k) fun e => Or.inr (Nat.le_trans hs e.1)
/-- what is laid in a list comes to what the plain lists say -/
theorem lay_app {fl : List DF} (hs : SrtD fl) {x y : DF} (hn : y.n = x.n) (hb : y.b ≠ []) : (insD (insD fl x) y).map DF.f = layP (fl.map DF.f) y.f := by
  have _ := hs
  rw [insD_twice fl hn, insD_f _ _ hb]
theorem drewN_below (w : World) (j : Nat) : Below w.heap.size w (w.drewN j) := ⟨rfl, rfl, rfl, Nat.le_refl _, fun _ _ => rfl⟩
/-- what stands once made has answered, bytes have come to the file, and the room is told -/
theorem app_end {w w2 w4 : World} {R R' : Nat → Prop} {g m room used g2 cap : Nat} {D : DataW Nat} {fl : List DF} {k : Int} {down : Bool} {x : DF} {s1 : PS} {b : T} (hM : PM w2 R' g m D (insD fl x) room used k down) (ht : Turn R w w2) (hG : Grown R R' w) (hxf : x.f = getF (fl.map DF.f) x.n) (hs : SrtD fl) (hfs : fl.map DF.f = s1.fs)
    (ho : w4.ownsRow 0 5 1 (.slice (some ⟨g2, 0, none⟩) (x.b.length + b.length) cap) (x.b.length + b.length) (byteCells x.b ++ byteCells b)) (hg : w2.grownBy w4 x.v.ownBlock) (hl : x.v.ownBlock = some g2 ∨ g2 = w2.heap.size) (h2 : g2 < w4.heap.size) (hb : b ≠ [])
    (hk : leftOf k = s1.left ∧ -9223372036854775808 ≤ k ∧ k ≤ 9223372036854775807) (hr : s1.room = room) (hu : usedP s1.fs = used) (hd : s1.down = down) :
    Blk w4 x.g 72 [x.v, .int .i64 (x.s : Nat)] ∧ ∃ w5, w4.setCell ⟨x.g, 0, none⟩ (.slice (some ⟨g2, 0, none⟩) (x.b.length + b.length) cap) = w5 ∧ Blk w5 g 64 (pcells room used (.map (some m)) k down) ∧
      To w (w5.setCell ⟨g, 1, none⟩ (.int .i64 ((used : Int) + (b.length : Int)))) R g { s1 with fs := layP s1.fs ⟨x.n, (getF s1.fs x.n).b ++ b, (getF s1.fs x.n).safe⟩ } := by
  obtain ⟨a1, a2, a3⟩ := hM.grew (insD_self fl x) b ho hg hl h2
  refine ⟨a1, _, rfl, a2.blk, ?_⟩
  rw [show (used : Int) + (b.length : Int) = ((used + b.length : Nat) : Int) by omega]
  have a4 := a2.cells (grownSet g 1 (.int .i64 ((used + b.length : Nat) : Int))) (room2 := room) (used2 := used + b.length) (k2 := k) (down2 := down) (a2.blk.set 1 _)
  have hxb : x.b = (getF s1.fs x.n).b := by rw [← hfs]; exact congrArg F.b hxf
  have hxs : x.s = (getF s1.fs x.n).safe := by rw [← hfs]; exact congrArg F.safe hxf
  have hne : x.b ++ b ≠ [] := fun e => hb (List.append_eq_nil_iff.1 e).2
  have he := lay_app hs (x := x) (y := ⟨x.n, x.g, some ⟨g2, 0, none⟩, cap, x.b ++ b, x.s⟩) rfl hne
  rw [hfs] at he
  have hsr : Srt s1.fs := by rw [← hfs]; exact srtD_iff.1 hs
  have hf : (⟨x.n, (getF s1.fs x.n).b ++ b, (getF s1.fs x.n).safe⟩ : F) = DF.f ⟨x.n, x.g, some ⟨g2, 0, none⟩, cap, x.b ++ b, x.s⟩ := by rw [← hxb, ← hxs]; rfl
  have hus := used_lay hsr (DF.f ⟨x.n, x.g, some ⟨g2, 0, none⟩, cap, x.b ++ b, x.s⟩)
  refine ⟨Rn R' w2 (w4.setCell ⟨x.g, 0, none⟩ (.slice (some ⟨g2, 0, none⟩) (x.b.length + b.length) cap)), ⟨m, D, insD (insD fl x) ⟨x.n, x.g, some ⟨g2, 0, none⟩, cap, x.b ++ b, x.s⟩, k, ?_, ?_, hk⟩, ht.trans hG (a3.next (Turn.set _ _ _ _ hM.mem)), RnG hG ht.size⟩
  · dsimp only
    rw [hr, hd, hf]
    have : usedP (layP s1.fs (DF.f ⟨x.n, x.g, some ⟨g2, 0, none⟩, cap, x.b ++ b, x.s⟩)) = used + b.length := by
      dsimp only [DF.f] at hus
      rw [← hxb, List.length_append] at hus
      show usedP (layP s1.fs ⟨x.n, x.b ++ b, x.s⟩) = _
      omega
    rw [this]
    exact a4
  · rw [hf]
    exact he
set_option maxRecDepth 100000 in
set_option maxHeartbeats 8000000 in
theorem pappend_c {w : World} {R : Nat → Prop} {g : Nat} {st : PS} (h : PA w R g st) (hw : Wf st) (n : T) (pb : Option Addr) (cb : Nat) (b : T) (hn : n.length ≤ 140737488351232) (hb : In8 w pb b) (hbl : b.length ≤ 140737488355328) (hbg : b ≠ [] → ∀ i o x, pb = some ⟨i, o, x⟩ → i < w.heap.size → ¬ R i) :
    Calls Try.prog 22 #[dptr g, .string ⟨n.toArray⟩, .slice pb b.length cb] w fun e w' => e = .returned (.int .i64 ((appP st n b).1 : Nat)) ∧ To w w' R g (appP st n b).2 := by
  have HA := Lib.hid (pchange_c h n hn)
  have hus := hw.used
  have hro := hw.room
  have HWF := Lib.hid hw
  have HB8 : Hid (∀ wx, Turn R w wx → In8 wx pb b) := by
    intro wx hx
    by_cases e : b = []
    · rw [e]
      exact fun h => absurd h (by simp)
    · exact in8_turn hb hx (hbg e)
  have HQ := Lib.hid (askP_fs st n true)
  clear h hb hbg hw
  unfold appP
  by_cases h0 : (askP st n true).1 = 0
  · rw [if_neg (by omega)]
    obtain ⟨q, hq⟩ : ∃ q, askP st n true = q := ⟨_, rfl⟩
    rw [hq] at HA HQ h0 ⊢
    obtain ⟨e1, s1⟩ := q
    dsimp only at h0 HA HQ ⊢
    subst h0
    clear hq
    have iw : IntKind.i64.wrap ((st.room : Int) - (usedP st.fs : Int)) = (st.room : Int) - (usedP st.fs : Int) := by rw [IntKind.wrap_i64]; omega
    by_cases hfull : st.room < usedP st.fs + b.length
    · rw [if_pos (by rw [HQ.out.2]; exact hfull)]
      have i1 : (b.length : Int) > (st.room : Int) - (usedP st.fs : Int) := by omega
      obtain ⟨d, hd⟩ : ∃ d, (st.room : Int) - (usedP st.fs : Int) = d := ⟨_, rfl⟩
      rw [hd] at i1
      rw [hd] at iw
      obtain ⟨u, hu⟩ : ∃ u, usedP st.fs = u := ⟨_, rfl⟩
      have HU := Lib.hid hu
      rw [hu] at hd
      clear hfull hro hus hu
      go_enter Try.func22, Try.ntmps22
      go_wp2_with fail
      refine HA.out.mono ?_
      rintro e w1 ⟨rfl, hp1, ht1⟩
      have HP := Lib.hid hp1
      have HT := Lib.hid ht1
      obtain ⟨m, D, fl, k, hM, _⟩ := hp1
      have c0 : w1.cell? ⟨g, 0, none⟩ = some (.int .i64 (st.room : Nat)) := by have := hM.blk.cell 0; rw [HQ.out.2] at this; exact this
      have c1 : w1.cell? ⟨g, 1, none⟩ = some (.int .i64 (u : Nat)) := by have := hM.blk.cell 1; rw [HQ.out.1, HU.out] at this; exact this
      clear hM ht1
      go_wp2_with fail
      go_quiet (fail)
      go_wp2_with fail
      go_ret
      have hb := drewN_below w1 nq
      exact ⟨rfl, R, HP.out.below hb, HT.out.next (Turn.of_below hb), Grown.refl R w⟩
    · rw [if_neg (by rw [HQ.out.2]; exact hfull)]
      have i1 : ¬ ((b.length : Int) > (st.room : Int) - (usedP st.fs : Int)) := by omega
      obtain ⟨d, hd⟩ : ∃ d, (st.room : Int) - (usedP st.fs : Int) = d := ⟨_, rfl⟩
      rw [hd] at i1
      rw [hd] at iw
      obtain ⟨u, hu⟩ : ∃ u, usedP st.fs = u := ⟨_, rfl⟩
      have HU := Lib.hid hu
      rw [hu] at hd hus hfull
      have hbu : u + b.length ≤ 268435456 := by omega
      clear hfull hus hu
      go_enter Try.func22, Try.ntmps22
      go_wp2_with fail
      refine HA.out.mono ?_
      rintro e w1 ⟨rfl, hp1, ht1⟩
      have HP := Lib.hid hp1
      have HT := Lib.hid ht1
      obtain ⟨m, D, fl, k, hM, hfs, hk⟩ := hp1
      have c0 : w1.cell? ⟨g, 0, none⟩ = some (.int .i64 (st.room : Nat)) := by have := hM.blk.cell 0; rw [HQ.out.2] at this; exact this
      have c1 : w1.cell? ⟨g, 1, none⟩ = some (.int .i64 (u : Nat)) := by have := hM.blk.cell 1; rw [HQ.out.1, HU.out] at this; exact this
      have HU1 : Hid (usedP s1.fs = u) := by show _ = _; rw [HQ.out.1, HU.out]
      have hlen : fl.length ≤ 268435456 := hM.len (st := st) (by rw [hfs, HQ.out.1]) HWF.out
      have HSR := Lib.hid hM.srt
      rw [HU1.out] at hM
      have HM := Lib.hid hM
      have HFS := Lib.hid hfs
      have HK := Lib.hid hk
      have HXL : Hid (∀ x : DF, x.n = n → x.f = getF (fl.map DF.f) n → x.b.length ≤ u) := by
        intro x _ hx
        have h1 := get_le HWF.out.srt n
        have h2 := congrArg (fun f : F => f.b.length) hx
        dsimp only [DF.f] at h2
        rw [hfs, HQ.out.1] at h2
        rw [HU.out] at h1
        omega
      clear hM ht1 hfs hk
      go_wp2_with fail
      go_quiet (fail)
      have HB1 := Lib.hid (drewN_below w1 nq)
      obtain ⟨w1', hw1⟩ : ∃ w1', w1.drewN nq = w1' := ⟨_, rfl⟩
      rw [hw1] at HB1 ⊢
      clear hw1 c0 c1
      by_cases hbe : b = []
      · have i2 : ¬ ((b.length : Int) > 0) := by rw [hbe]; simp
        have HE : Hid (layP st.fs ⟨n, (getF st.fs n).b ++ b, (getF st.fs n).safe⟩ = s1.fs) := by
          show _ = _
          rw [hbe, List.append_nil, lay_eta rfl rfl, lay_same HWF.out.srt (wf_b HWF.out), HQ.out.1]
        clear hbe
        go_wp2_with fail
        go_ret
        rw [HE.out]
        exact ⟨rfl, R, HP.out.below HB1.out, HT.out.next (Turn.of_below HB1.out), Grown.refl R w⟩
      · have hb0 : 0 < b.length := List.length_pos_iff.2 hbe
        have i2 : (b.length : Int) > 0 := by omega
        have HC := Lib.hid (made_c (HM.out.turn (S := fun _ => False) (Turn.of_below HB1.out) fun _ _ => id) n hn hlen)
        have HBE := Lib.hid hbe
        clear hbe
        go_wp2_with fail
        refine HC.out.mono ?_
        rintro e w2 ⟨x, D', R', rfl, hxn, hxf, hM2, ht2, hG2⟩
        have hxl := HXL.out x hxn hxf
        have HTW : Hid (Turn R w w2) := (HT.out.next (Turn.of_below HB1.out)).next ht2
        have HGW : Hid (Grown R R' w) := fun i hi => (hG2 i hi).imp id fun e => Nat.le_trans (HT.out.next (Turn.of_below HB1.out)).size e
        have HM2 := Lib.hid hM2
        have hF := hM2.files x (insD_self fl x)
        have HOW := Lib.hid hF.own
        have d0 : w2.cell? ⟨x.g, 0, none⟩ = some (.slice x.p x.b.length x.c) := hF.blk.cell 0
        have hB2 := Lib.hid (HB8.out w2 HTW.out)
        obtain ⟨bi, bo, hpb, _⟩ := In8.at hB2.out hb0
        have HEND := Lib.hid (fun (w4 : World) (g2 cap : Nat) a1 a2 a3 a4 => app_end (w4 := w4) (g2 := g2) (cap := cap) (b := b) (s1 := s1) HM2.out HTW.out HGW.out (by rw [hxn]; exact hxf) HSR.out HFS.out a1 a2 a3 a4 HBE.out HK.out rfl HU1.out rfl)
        have HXN := Lib.hid hxn
        obtain ⟨j0, hj, hy0, hy1, hy2⟩ := info_parts infoByte
        subst hpb
        have HSC : Hid (∀ j u, (byteCells b)[j]? = some u → w2.cell? ((⟨bi, bo, none⟩ : Addr).add j) = some u) := src_cells hB2.out
        clear hM2 ht2 hG2 hF hxf hxn HC
        go_wp2_with (at_builtin; go_loud (refine wpList_append_lies _ rfl (.tmp 37) (.tmp 38) 33 rfl 0 5 j0 (.int .u8 0) 1 1 Try.underlying33 hj hy0 hy1 hy2 rfl (by decide) x.v x.b.length (byteCells x.b) rfl HOW.out ⟨bi, bo, none⟩ b.length cb (byteCells b) rfl (by rw [byteCells_len]; omega) HSC.out (byteCells_one b) hb0 (by unfold maxLen; omega) (by omega) (Nat.zero_le _) _ rfl ?_; intro g2 cap w4 how hgr hg2 hlt; have HE2 := Lib.hid (HEND.out w4 g2 cap how hgr hg2 hlt); clear how hgr hg2 hlt; obtain ⟨hb4, w5, hw5, hb5, hto⟩ := HE2.out; have HTO := Lib.hid hto; have k0 := hb4.cell 0; have k1 := hb4.frozen 0; have kl := hb4.lt; have g1 : w5.cell? ⟨g, 1, none⟩ = some (.int .i64 (u : Nat)) := hb5.cell 1; have g1f := hb5.frozen 1; have g1l := hb5.lt; clear hb4 hb5 hto))
        go_ret
        have hto := HTO.out
        rw [HXN.out, HQ.out.1] at hto
        exact ⟨rfl, hto⟩
  · rw [if_pos h0]
    obtain ⟨q, hq⟩ : ∃ q, askP st n true = q := ⟨_, rfl⟩
    rw [hq] at HA h0 ⊢
    obtain ⟨r, s1⟩ := q
    dsimp only at h0 HA ⊢
    have e0 : ((r : Int) != 0) = true := by rw [bne_iff_ne]; omega
    have e1 : ((r : Int) == 0) = false := by rw [beq_eq_false_iff_ne]; omega
    clear hq h0 HQ hus hro
    go_enter Try.func22, Try.ntmps22
    go_wp2_with fail
    refine HA.out.mono ?_
    rintro e w1 ⟨rfl, hp1, ht1⟩
    have HP := Lib.hid hp1
    have HT := Lib.hid ht1
    clear hp1 ht1
    go_wp2_with fail
    go_ret
    exact ⟨rfl, R, HP.out, HT.out, Grown.refl R w⟩
end Go.Proofs.Ytggcdlhgmikemaa.plt
