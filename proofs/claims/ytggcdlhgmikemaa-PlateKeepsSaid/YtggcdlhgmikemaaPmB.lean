/- PlateArmed. -/
import Derived.Test.YtggcdlhgmikemaaPmA
namespace Go.Proofs.Ytggcdlhgmikemaa.plt
open Go.RowKit
open Go.Proofs.Ytggcdlhgmikemaa.oct Go.Proofs.Ytggcdlhgmikemaa.ref Go.Proofs.Ytggcdlhgmikemaa.rows Go.Proofs.Ytggcdlhgmikemaa.rowg Go.Proofs.Ytggcdlhgmikemaa.trn
open Go.Lib (byteCells)
open Go.Proofs.Ytggcdlhgmikemaa.opn (SP spenc spenc_len GoodS)

theorem umod (a : Int) {n : Nat} (h0 : 0 < n) (h1 : n ≤ 65544) : ∃ k : Nat, k < n ∧ wrap64 ((IntKind.u64.wrap a).tmod (n : Int)) = (k : Int) := by
  have hu : 0 ≤ IntKind.u64.wrap a := by
    have h : IntKind.u64.wrap a = a % 18446744073709551616 := rfl
    rw [h]
    omega
  obtain ⟨u, hu2⟩ := Int.eq_ofNat_of_zero_le hu
  rw [hu2]
  refine ⟨u % n, Nat.mod_lt _ h0, ?_⟩
  have h2 : ((u : Int)).tmod (n : Int) = ((u % n : Nat) : Int) := by rw [Int.ofNat_tmod]
  rw [h2]
  have h3 := Nat.mod_lt u h0
  obtain ⟨k, hk⟩ : ∃ k, u % n = k := ⟨_, rfl⟩
  rw [hk] at h3 ⊢
  unfold wrap64
  omega
theorem TW.down {w wy : World} {gp gq : Nat} {sp sq : PS} {Z : Nat → Prop} (h : TW w wy gp gq sp sq Z) : Calls Try.prog 17 #[dptr gp] wy fun e w' => e = .returned (.bool sp.down) ∧ wy = w' := by
  obtain ⟨Rp, Rq, h⟩ := h
  obtain ⟨m, D, fl, k, hM, _⟩ := h.pa
  exact pdown_c hM.blk
theorem TW.used {w wy : World} {gp gq : Nat} {sp sq : PS} {Z : Nat → Prop} (h : TW w wy gp gq sp sq Z) : Calls Try.prog 21 #[dptr gp] wy fun e w' => e = .returned (.int .i64 (usedP sp.fs : Nat)) ∧ wy = w' := by
  obtain ⟨Rp, Rq, h⟩ := h
  obtain ⟨m, D, fl, k, hM, _⟩ := h.pa
  exact pused_c hM.blk
/-- what stands within a round: the step's box, both fresh plates of the document's -/
structure AR (w w5 : World) (gp gq kb gx gy : Nat) (sp sq : PS) (st : List Value) : Prop where
  tw : TW w w5 gp gq sp sq (fun k => k = kb ∨ k = gx ∨ k = gy)
  box : Blk w5 kb 36 st
  rx : RB w5 (fun k => k = gx) gx (newP 100000)
  ry : RB w5 (fun k => k = gy) gy (newP 100000)
  xw : w.heap.size ≤ gx
  yw : w.heap.size ≤ gy
  bx : kb ≠ gx
  xy : gx ≠ gy
  by_ : kb ≠ gy
theorem ar_start {w wr w3 : World} {gp gq : Nat} {sp sq : PS} (h : TW w wr gp gq sp sq (fun _ => False)) (st : List Value) (h3 : w3 = wr.alloc (.cells st.toArray 36)) :
    AR w ((w3.alloc (.cells (rzero 100000) 31)).alloc (.cells (rzero 100000) 31)) gp gq wr.heap.size w3.heap.size (w3.heap.size + 1) sp sq st := by
  have b3 := (Below.refl wr.heap.size wr).alloc (Nat.le_refl _) (.cells st.toArray 36)
  have s3 : (wr.alloc (.cells st.toArray 36)).heap.size = wr.heap.size + 1 := by simp
  have B3 := blk_new wr st.toArray 36 st rfl
  rw [← h3] at b3 s3 B3
  have b4 := (Below.refl w3.heap.size w3).alloc (Nat.le_refl _) (.cells (rzero 100000) 31)
  have s4 : (w3.alloc (.cells (rzero 100000) 31)).heap.size = w3.heap.size + 1 := by simp
  have r4 := rb_new w3 100000
  obtain ⟨w4, hw4⟩ : ∃ w4, w3.alloc (.cells (rzero 100000) 31) = w4 := ⟨_, rfl⟩
  rw [hw4] at b4 s4 r4 ⊢
  have b5 := (Below.refl w4.heap.size w4).alloc (Nat.le_refl _) (.cells (rzero 100000) 31)
  have s5 : (w4.alloc (.cells (rzero 100000) 31)).heap.size = w4.heap.size + 1 := by simp
  have r5 := rb_new w4 100000
  rw [s4] at r5
  have hbw := h.below.size
  have b35 := bnext b3 (bnext b4 b5)
  refine ⟨h.more b35 fun k hk => Or.inr ?_, (B3.below b4).below b5, r4.below b5, r5, by omega, by omega, by omega, by omega, by omega⟩
  rcases hk with rfl | rfl | rfl <;> omega
theorem crash_same {n : Nat} {sp sq : PS} (h : ArmI n sp sq) : crashP sp [] = crashP sq [] := by
  unfold crashP
  rw [h.fs, h.room]
theorem TW.names {w wy : World} {gp gq : Nat} {sp sq : PS} {Z : Nat → Prop} (h : TW w wy gp gq sp sq Z) : Calls Try.prog 15 #[dptr gp] wy fun e w' => (∃ p c, e = .returned (.slice p sp.fs.length c) ∧ w'.ownsRow wy.heap.size 9 1 (.slice p sp.fs.length c) sp.fs.length (cells tenc (sp.fs.map (·.name)))) ∧ Below wy.heap.size wy w' := by
  obtain ⟨Rp, Rq, h⟩ := h
  refine (pnames_c h.pa h.wp).mono fun e w' ⟨v, e1, ho, hb⟩ => ⟨?_, hb⟩
  rw [List.length_map] at ho
  obtain ⟨p, c, rfl⟩ := Go.Proofs.Ytggcdlhgmikemaa.cln.own_slice ho
  exact ⟨p, c, e1, ho⟩
theorem TW.crash0 {w wy : World} {gp gq : Nat} {sp sq : PS} {Z : Nat → Prop} (h : TW w wy gp gq sp sq Z) (hw : Wf sp) : Calls Try.prog 14 #[dptr gp, .slice none 0 0] wy fun e w' => e = .returned (.tuple #[]) ∧ TW w w' gp gq (crashP sp []) sq Z :=
  h.run (wf_crash hw []) fun R _ hR hwf => pcrash_c hR hwf none 0 [] (fun h => absurd h (by simp)) (by simp) (fun n h => by cases h) (fun h => absurd rfl h)
theorem TW.wfp {w wy : World} {gp gq : Nat} {sp sq : PS} {Z : Nat → Prop} (h : TW w wy gp gq sp sq Z) : Wf sp := by
  obtain ⟨Rp, Rq, h⟩ := h
  exact h.wp
theorem TW.read {w wy : World} {gp gq : Nat} {sp sq : PS} {Z : Nat → Prop} (h : TW w wy gp gq sp sq Z) (n : T) (hn : n.length ≤ 140737488351232) : Calls Try.prog 18 #[dptr gp, .string ⟨n.toArray⟩] wy fun e w' => ∃ p c, e = .returned (.tuple #[.slice p (readP sp n).2.length c, .int .i64 ((readP sp n).1 : Nat)]) ∧ In8 w' p (readP sp n).2 ∧ Below wy.heap.size wy w' := by
  obtain ⟨Rp, Rq, h⟩ := h
  refine (pread_c h.pa h.wp n hn).mono fun e w' ⟨v, e1, ho, hb⟩ => ?_
  obtain ⟨p, c, rfl, h8⟩ := own_in8' ho
  exact ⟨p, c, e1, h8, hb⟩
theorem read_len {s : PS} (h : Wf s) (n : T) : (readP s n).2.length ≤ 268435456 := by
  unfold readP
  dsimp only
  split
  · have h1 := get_le h.srt n
    have h2 := h.used
    have h3 := h.room
    omega
  · simp
set_option maxRecDepth 100000 in
set_option maxHeartbeats 16000000 in
theorem g_armed (P : Option Addr) (C : Nat) (l : List SP) (n : Int) (w : World) (hP : InG spenc 5 w P l) (hg : ∀ x ∈ l, GoodS w x) (_hn : (Lit.int .i64 n).wf = true) :
    Calls Try.prog 5 #[.slice P l.length C, .int .i64 n] w fun e w' => e = .returned (.bool true) ∧ Below w.heap.size w w' := by
  have HP := Lib.hid hP
  have HG := Lib.hid hg
  have HNEW := Lib.hid (fun W => pnew_c W 100000 (by decide))
  obtain ⟨m, hm, hn1⟩ := umod n (n := 120) (by decide) (by decide)
  have HN1 : Hid (wrap64 ((IntKind.u64.wrap n).tmod 120) = (m : Int)) := hn1
  have HKN := Lib.hid (fun w0 => known_c w0 w0 (Below.refl _ _))
  clear hP hg hn1
  go_enter Try.func5, Try.ntmps5
  go_wp2_with fail
  rw [HN1.out]
  refine (HNEW.out _).mono ?_
  rintro e w1 hnp1
  obtain ⟨gp, Rp, rfl, hpa, hRp, hb1⟩ := newpl_pa hnp1
  have HPA := Lib.hid hpa
  have HRP := Lib.hid hRp
  have HB1 := Lib.hid hb1
  clear hnp1 hpa hRp hb1
  go_wp2_with fail
  refine (HNEW.out _).mono ?_
  rintro e w2 hnp2
  obtain ⟨gq, Rq, rfl, hqa, hRq, hb2⟩ := newpl_pa hnp2
  have HTW0 : Hid (TW w w2 gp gq (newP 100000) (newP 100000) (fun _ => False)) :=
    ⟨Rp, Rq, ⟨HPA.out.below hb2, hqa, fun k h1 h2 => by have := HPA.out.lt k h1; have := hRq k h2; omega, HRP.out, fun k hk => Nat.le_trans HB1.out.size (hRq k hk), (fun k e => e.elim), (fun k e => e.elim), (fun k e => e.elim), wf_new (by decide), wf_new (by decide), bnext HB1.out hb2⟩⟩
  have HARM := Lib.hid (HTW0.out.run (s2 := armP (newP 100000) (m : Int)) (Q := fun e => e = .returned (.tuple #[])) (wf_arm (wf_new (by decide)) _) (f := 20) (P := Try.prog) (args := #[dptr gp, .int .i64 (m : Int)]) fun R _ hR _ => parm_p hR (m : Int) (by omega) (by omega))
  clear hnp2 hqa hRq hb2 HPA HRP HB1 HTW0
  go_wp2_with fail
  refine HARM.out.mono ?_
  rintro e w3 ⟨rfl, htw⟩
  have HI : Hid (ArmI m (armP (newP 100000) (m : Int)) (newP 100000)) := by
    have e : armP (newP 100000) (m : Int) = { newP 100000 with left := some m } := by
      unfold armP newP
      rw [if_neg (by simp), if_neg (by omega)]
      rfl
    show ArmI _ _ _
    rw [e]
    exact ⟨rfl, rfl, rfl, rfl, rfl, fun _ => rfl⟩
  have HTW := Lib.hid htw
  clear htw HARM HN1
  go_wp2_with fail
  go_loopg [1, 9, 10, 11, 12] 120 (fun gk s1 s9 _ _ _ wy => ∃ (i j : Nat) (sp sq : PS), i + gk = 120 ∧ s9 = .int .i64 (i : Int) ∧ s1 = .int .i64 (j : Int) ∧ j < 120 ∧ Hid (TW w wy gp gq sp sq (fun _ => False)) ∧ Hid (ArmI j sp sq))
  case atStart => exact ⟨0, m, _, _, by omega, rfl, rfl, hm, HTW, HI⟩
  case round =>
    obtain ⟨i, j, sp, sq, hig, rfl, rfl, hj, HT, HA⟩ := hrel
    by_cases hin : i < l.length ∧ i < 120
    · obtain ⟨hin1, hin2⟩ := hin
      have j1 : (i : Int) < l.length := by omega
      have j2 : (i : Int) < 120 := by omega
      obtain ⟨b, o, rfl, hc⟩ := InG.cells (InG.below spenc_len (by decide) HP.out HT.out.below) i hin1
      have hgd := HG.out _ (List.getElem_mem hin1)
      obtain ⟨x, hx⟩ : ∃ x, l[i] = x := ⟨_, rfl⟩
      rw [hx] at hc hgd
      have d0 : wr.cell? ⟨b, o + i * 5, none⟩ = some (.int .i64 x.k) := hc 0 (by decide)
      have d1 : wr.cell? ⟨b, o + i * 5 + 1, none⟩ = some (.string ⟨x.n.toArray⟩) := hc 1 (by decide)
      have d2 : wr.cell? ⟨b, o + i * 5 + 2, none⟩ = some (.slice x.p x.d.length x.c) := hc 2 (by decide)
      have d3 : wr.cell? ⟨b, o + i * 5 + 3, none⟩ = some (.int .i64 x.m) := hc 3 (by decide)
      have d4 : wr.cell? ⟨b, o + i * 5 + 4, none⟩ = some (.slice x.q x.ks.length x.e) := hc 4 (by decide)
      have HGD := Lib.hid hgd
      have b3 := (Below.refl wr.heap.size wr).alloc (Nat.le_refl _) (.cells #[.int .i64 x.k, .string ⟨x.n.toArray⟩, .slice x.p x.d.length x.c, .int .i64 x.m, .slice x.q x.ks.length x.e] 36)
      have HB3 := Lib.hid b3
      clear hc hx hgd b3
      by_cases hok : okStep x
      · obtain ⟨hk, hnm⟩ := hok
        have hnl := name_ok.1 hnm
        have k1 : ¬ (x.k < 0) := by omega
        have k2 : ¬ (x.k > 2) := by omega
        have k3 : ¬ ((x.n.length : Int) < 1) := by omega
        have k4 : ¬ ((x.n.length : Int) > 64) := by omega
        have HOK : Hid (okStep x) := ⟨hk, hnm⟩
        obtain ⟨w3, hw3⟩ : ∃ w3, wr.alloc (.cells #[.int .i64 x.k, .string ⟨x.n.toArray⟩, .slice x.p x.d.length x.c, .int .i64 x.m, .slice x.q x.ks.length x.e] 36) = w3 := ⟨_, rfl⟩
        have hAR := ar_start HT.out (spenc x) hw3.symm
        have c30 : w3.cell? ⟨wr.heap.size, 0, none⟩ = some (.int .i64 x.k) := by rw [← hw3]; exact (blk_new wr (spenc x).toArray 36 _ rfl).cell 0
        have c31 : w3.cell? ⟨wr.heap.size, 1, none⟩ = some (.string ⟨x.n.toArray⟩) := by rw [← hw3]; exact (blk_new wr (spenc x).toArray 36 _ rfl).cell 1
        obtain ⟨w5, hw5⟩ : ∃ w5, (w3.alloc (.cells (rzero 100000) 31)).alloc (.cells (rzero 100000) 31) = w5 := ⟨_, rfl⟩
        rw [hw5] at hAR
        obtain ⟨gx, hgx⟩ : ∃ gx, w3.heap.size = gx := ⟨_, rfl⟩
        obtain ⟨kb, hkb⟩ : ∃ kb, wr.heap.size = kb := ⟨_, rfl⟩
        rw [hgx, hkb] at hAR
        rw [hkb] at c30 c31
        have hsx : (w3.alloc (.cells (rzero 100000) 31)).heap.size = gx + 1 := by simp [hgx]
        have e0 : w5.cell? ⟨kb, 0, none⟩ = some (.int .i64 x.k) := hAR.box.cell 0
        have e1 : w5.cell? ⟨kb, 1, none⟩ = some (.string ⟨x.n.toArray⟩) := hAR.box.cell 1
        have e2 : w5.cell? ⟨kb, 2, none⟩ = some (.slice x.p x.d.length x.c) := hAR.box.cell 2
        have e3 : w5.cell? ⟨kb, 3, none⟩ = some (.int .i64 x.m) := hAR.box.cell 3
        have e4 : w5.cell? ⟨kb, 4, none⟩ = some (.slice x.q x.ks.length x.e) := hAR.box.cell 4
        have HDP : Hid (Calls Try.prog 11 #[dptr gp, dptr gx, .agg #[.int .i64 x.k, .string ⟨x.n.toArray⟩, .slice x.p x.d.length x.c, .int .i64 x.m, .slice x.q x.ks.length x.e]] w5 fun e w2 => ∃ b : Bool, e = .returned (.bool b) ∧ TW w w2 gp gq (doP sp x).2 sq (fun k => (k = kb ∨ k = gx ∨ k = gx + 1) ∧ k ≠ gx) ∧ Turn (fun k => ¬ ((k = kb ∨ k = gx ∨ k = gx + 1) ∧ k ≠ gx)) w5 w2) := by
          refine (hAR.tw.do hAR.rx (Or.inr (Or.inl rfl)) hAR.xw (wf_new (by decide)) x HGD.out).mono ?_
          rintro e w2 ⟨⟨b, h1⟩, h2, h3⟩
          exact ⟨b, h1, h2, h3⟩
        have HAR := Lib.hid hAR
        have hw5' : (w3.alloc (.cells #[.slice none 0 0, .int .i64 100000, .bool false, .int .i64 0, .bool false] 31)).alloc (.cells #[.slice none 0 0, .int .i64 100000, .bool false, .int .i64 0, .bool false] 31) = w5 := hw5
        have hsx' : (w3.alloc (.cells #[.slice none 0 0, .int .i64 100000, .bool false, .int .i64 0, .bool false] 31)).heap.size = gx + 1 := hsx
        clear hAR hk hnm hnl hw5 hsx
        go_wp2_with fail
        refine HDP.out.mono ?_
        rintro e w6 ⟨bb, rfl, htw6, ht6⟩
        have HTW6 := Lib.hid htw6
        have hne : kb ≠ gx := HAR.out.bx
        have hB6 : Blk w6 kb 36 (spenc x) := blk_turn HAR.out.box ht6 fun hn => hn ⟨Or.inl rfl, hne⟩
        have HRY : Hid (RB w6 (fun k => k = gx + 1) (gx + 1) (newP 100000)) := HAR.out.ry.turn ht6 fun k hk hn => hn ⟨Or.inr (Or.inr hk), by omega⟩
        have f0 : w6.cell? ⟨kb, 0, none⟩ = some (.int .i64 x.k) := hB6.cell 0
        have f1 : w6.cell? ⟨kb, 1, none⟩ = some (.string ⟨x.n.toArray⟩) := hB6.cell 1
        have f2 : w6.cell? ⟨kb, 2, none⟩ = some (.slice x.p x.d.length x.c) := hB6.cell 2
        have f3 : w6.cell? ⟨kb, 3, none⟩ = some (.int .i64 x.m) := hB6.cell 3
        have f4 : w6.cell? ⟨kb, 4, none⟩ = some (.slice x.q x.ks.length x.e) := hB6.cell 4
        clear htw6 ht6 hB6 e0 e1 e2 e3 e4 c30 c31 hw5' hw3 hsx' d0 d1 d2 d3 d4
        rcases j with _ | j
        · have HAO := Lib.hid (arm_out HA.out HOK.out)
          have HD := Lib.hid HTW6.out.down
          rw [HAO.out.2] at HD
          go_wp2_with fail
          refine HD.out.mono ?_
          rintro e w7 ⟨rfl, rfl⟩
          go_wp2_with fail
          go_roundg (gk - 1)
          case measure => omega
          case rel => exact ⟨i + 1, 0, _, _, by omega, by go_num, rfl, by omega, HTW6.out.more (Below.refl _ _) (fun k hk => hk.elim), HAO.out.1⟩
        · have HAS := Lib.hid (arm_step HA.out HOK.out)
          have jp : ((j + 1 : Nat) : Int) > 0 := by omega
          have HDQ : Hid (Calls Try.prog 11 #[dptr gq, dptr (gx + 1), .agg #[.int .i64 x.k, .string ⟨x.n.toArray⟩, .slice x.p x.d.length x.c, .int .i64 x.m, .slice x.q x.ks.length x.e]] w6 fun e w2 => ∃ b : Bool, e = .returned (.bool b) ∧ TW w w2 gp gq (doP sp x).2 (doP sq x).2 (fun _ => False)) := by
            refine (HTW6.out.swap.do HRY.out ⟨Or.inr (Or.inr rfl), by omega⟩ (by have := HAR.out.yw; omega) (wf_new (by decide)) x HGD.out).mono ?_
            rintro e w2 ⟨⟨b, h1⟩, h2, h3⟩
            exact ⟨b, h1, h2.swap.more (Below.refl _ _) fun k hk => hk.elim⟩
          go_wp2_with fail
          refine HDQ.out.mono ?_
          rintro e w7 ⟨b7, rfl, htw7⟩
          have HTW7 := Lib.hid htw7
          have HD := Lib.hid htw7.down
          rw [HAS.out.2] at HD
          clear htw7
          go_wp2_with fail
          refine HD.out.mono ?_
          rintro e w8 ⟨rfl, rfl⟩
          go_wp2_with fail
          go_roundg (gk - 1)
          case measure => omega
          case rel => exact ⟨i + 1, j, _, _, by omega, by go_num, by go_num, by omega, HTW7.out, HAS.out.1⟩
      · have HBR := Lib.hid (HT.out.same HB3.out)
        have hbad : x.k < 0 ∨ (¬ (x.k < 0) ∧ x.k > 2) ∨ (¬ (x.k < 0) ∧ ¬ (x.k > 2) ∧ (x.n.length : Int) < 1) ∨ (¬ (x.k < 0) ∧ ¬ (x.k > 2) ∧ ¬ ((x.n.length : Int) < 1) ∧ (x.n.length : Int) > 64) := by
          by_cases a1 : x.k < 0
          · exact Or.inl a1
          by_cases a2 : x.k > 2
          · exact Or.inr (Or.inl ⟨a1, a2⟩)
          by_cases a3 : (x.n.length : Int) < 1
          · exact Or.inr (Or.inr (Or.inl ⟨a1, a2, a3⟩))
          by_cases a4 : (x.n.length : Int) > 64
          · exact Or.inr (Or.inr (Or.inr ⟨a1, a2, a3, a4⟩))
          exact absurd ⟨by omega, name_ok.2 ⟨by omega, by omega⟩⟩ hok
        clear hok
        rcases hbad with a1 | ⟨a1, a2⟩ | ⟨a1, a2, a3⟩ | ⟨a1, a2, a3, a4⟩
        all_goals
          go_wp2_with fail
          go_roundg (gk - 1)
          case measure => omega
          case rel => exact ⟨i + 1, j, _, _, by omega, by go_num, rfl, hj, HBR, HA⟩
    · have hex : ¬ ((i : Int) < l.length) ∨ ((i : Int) < l.length ∧ ¬ ((i : Int) < 120)) := by omega
      have hfs := HA.out.fs
      have HN1 := Lib.hid HT.out.names
      have HWP := Lib.hid HT.out.wfp
      have HWQ := Lib.hid HT.out.swap.wfp
      have HCS := Lib.hid (crash_same HA.out)
      have HFS := Lib.hid hfs
      have hlen : sp.fs.length = sq.fs.length := by rw [hfs]
      obtain ⟨u, hu⟩ : ∃ u, usedP sq.fs = u := ⟨_, rfl⟩
      have HU := Lib.hid hu
      clear hin hfs hu hig HA
      rcases hex with e1 | ⟨e1, e2⟩
      all_goals
        go_wp2_with fail
        refine HN1.out.mono ?_
        rintro e w1 ⟨⟨pa, ca, rfl, _⟩, hb1⟩
        have HT1 := Lib.hid (HT.out.same hb1)
        have HN2 := Lib.hid HT1.out.swap.names
        clear hb1
        go_wp2_with fail
        refine HN2.out.mono ?_
        rintro e w2 ⟨⟨pb, cb, rfl, _⟩, hb2⟩
        have HT2 := Lib.hid (HT1.out.same hb2)
        clear hb2
        go_wp2_with fail
        refine (HKN.out _).mono ?_
        rintro e w3 ⟨rfl, hb3⟩
        have HT3 := Lib.hid (HT2.out.same hb3)
        have HUP := Lib.hid HT3.out.used
        have HUQ := Lib.hid HT3.out.swap.used
        rw [HFS.out, HU.out] at HUP
        rw [HU.out] at HUQ
        clear hb3
        go_wp2_with fail
        refine HUP.out.mono ?_
        rintro e w4 ⟨rfl, rfl⟩
        go_wp2_with fail
        refine HUQ.out.mono ?_
        rintro e w5 ⟨rfl, rfl⟩
        have HC1 := Lib.hid (HT3.out.crash0 HWP.out)
        go_wp2_with fail
        refine HC1.out.mono ?_
        rintro e w6 ⟨rfl, ht6⟩
        have HC2 := Lib.hid (ht6.swap.crash0 HWQ.out)
        clear ht6
        go_wp2_with fail
        refine HC2.out.mono ?_
        rintro e w7 ⟨rfl, ht7⟩
        have ht8 := ht7.swap
        rw [HCS.out] at ht8
        obtain ⟨c0, hc0⟩ : ∃ c0, crashP sq [] = c0 := ⟨_, rfl⟩
        rw [hc0] at ht8
        have HOK : Hid (∀ n, (readP c0 n).2.length ≤ 268435456) := fun n => read_len ht8.wfp n
        have hfl := wf_files ht8.wfp
        have HNL : Hid (∀ y ∈ c0.fs, y.name.length ≤ 64) := fun y hy => (ht8.wfp.each y hy).2.2.2
        have HT8 := Lib.hid ht8
        have HN3 := Lib.hid ht8.names
        clear ht7 ht8 hc0 HCS HT HT1 HT2 HT3 HUP HUQ HC1 HC2 HN1 HN2 HWP HWQ HFS HU
        go_wp2_with fail
        refine HN3.out.mono ?_
        rintro e w8 ⟨⟨p8, c8, rfl, ho8⟩, hb8⟩
        have HT9 := Lib.hid (HT8.out.same hb8)
        have HN4 := Lib.hid HT9.out.swap.names
        have HO8 := Lib.hid ho8
        clear hb8 ho8
        go_wp2_with fail
        refine HN4.out.mono ?_
        rintro e w9 ⟨⟨p9, c9, rfl, ho9⟩, hb9⟩
        have HTA := Lib.hid (HT9.out.same hb9)
        have HA8 := Lib.hid (own_belowG HO8.out hb9)
        have HA9 := Lib.hid ho9
        obtain ⟨L, hL⟩ : ∃ L, c0.fs.length = L := ⟨_, rfl⟩
        have HL := Lib.hid hL
        rw [hL] at HA8 HA9 hfl ⊢
        clear hb9 ho9 HO8 HN3 HN4 HT8 HT9 hL
        have HAT : Hid (∀ wy, Below w9.heap.size w9 wy → ∀ i (hi : i < L), ∃ (nm : T) (b1 b2 : Nat), nm.length ≤ 64 ∧ p8 = some ⟨b1, 0, none⟩ ∧ p9 = some ⟨b2, 0, none⟩ ∧ wy.cell? ⟨b1, i, none⟩ = some (.string ⟨nm.toArray⟩) ∧ wy.cell? ⟨b2, i, none⟩ = some (.string ⟨nm.toArray⟩)) := by
          intro wy hb i hi
          have hl : (c0.fs.map (·.name)).length = L := by rw [List.length_map]; exact HL.out
          have hi2 : i < (c0.fs.map (·.name)).length := by rw [hl]; exact hi
          obtain ⟨b1, e1, q1⟩ := tenc_at (l := c0.fs.map (·.name)) (by rw [hl]; exact own_belowG HA8.out hb) i hi2
          obtain ⟨b2, e2, q2⟩ := tenc_at (l := c0.fs.map (·.name)) (by rw [hl]; exact own_belowG HA9.out hb) i hi2
          obtain ⟨y, hy, hyn⟩ := List.mem_map.1 (List.getElem_mem hi2)
          refine ⟨_, b1, b2, by rw [← hyn]; exact HNL.out y hy, ?_, ?_, q1, q2⟩
          · rcases HA8.out.2 with ⟨h1, _⟩ | ⟨gg, cap, cur, h1, _⟩
            · rw [h1] at e1; cases e1
            · injection h1 with h1
              subst h1
              injection e1 with e1
              subst e1
              rfl
          · rcases HA9.out.2 with ⟨h1, _⟩ | ⟨gg, cap, cur, h1, _⟩
            · rw [h1] at e2; cases e2
            · injection h1 with h1
              subst h1
              injection e2 with e2
              subst e2
              rfl
        clear HA8 HA9 HNL HL
        go_wp2_with fail
        go_loopg [15, 16, 17, 18, 19] L (fun gk s15 _ _ _ _ wy => ∃ i : Nat, i + gk = L ∧ s15 = .int .i64 (i : Int) ∧ Hid (Below w9.heap.size w9 wy))
        case atStart => exact ⟨0, by omega, rfl, Below.refl _ _⟩
        case round =>
          obtain ⟨i2, hig2, rfl, HB⟩ := hrel
          rcases gk with _ | g2
          · obtain rfl : i2 = L := by omega
            go_wp2_with fail
            go_ret
            exact ⟨rfl, HTA.out.below.trans (HB.out.mono HTA.out.below.size)⟩
          · have hiL : i2 < L := by omega
            have hiI : (i2 : Int) < (L : Int) := by omega
            obtain ⟨nm, b1, b2, hnl, hp8, hp9, q1, q2⟩ := HAT.out wr HB.out i2 hiL
            subst hp8
            subst hp9
            have HTR := Lib.hid (HTA.out.same HB.out)
            have HR1 := Lib.hid (HTR.out.read nm (by omega))
            have hlr := HOK.out nm
            obtain ⟨rb, hrb⟩ : ∃ rb, (readP c0 nm).2 = rb := ⟨_, rfl⟩
            obtain ⟨rc, hrc⟩ : ∃ rc, (readP c0 nm).1 = rc := ⟨_, rfl⟩
            have HRB := Lib.hid hrb
            have HRC := Lib.hid hrc
            rw [hrb, hrc] at HR1
            rw [hrb] at hlr
            clear hrb hrc
            go_wp2_with fail
            refine HR1.out.mono ?_
            rintro e wa ⟨pa2, ca2, rfl, h8a, hba⟩
            have HTS := Lib.hid (HTR.out.same hba)
            have HR2 := Lib.hid (HTS.out.swap.read nm (by omega))
            rw [HRB.out, HRC.out] at HR2
            have HBA := Lib.hid (bnext HB.out hba)
            have H8A := Lib.hid h8a
            obtain ⟨nm2, b12, b22, _, hp82, hp92, q12, q22⟩ := HAT.out wa HBA.out i2 hiL
            have r2 : wa.cell? ⟨b2, i2, none⟩ = some (.string ⟨nm.toArray⟩) := (hba.cell (p := ⟨b2, i2, none⟩) (cell_lt q2)).trans q2
            have r1 : wa.cell? ⟨b1, i2, none⟩ = some (.string ⟨nm.toArray⟩) := (hba.cell (p := ⟨b1, i2, none⟩) (cell_lt q1)).trans q1
            clear hba h8a q1 q2 q12 q22 hp82 hp92 HR1
            go_wp2_with fail
            refine HR2.out.mono ?_
            rintro e wb ⟨pb2, cb2, rfl, h8b, hbb⟩
            have HBB := Lib.hid (bnext HBA.out hbb)
            have t1 : wb.cell? ⟨b1, i2, none⟩ = some (.string ⟨nm.toArray⟩) := (hbb.cell (p := ⟨b1, i2, none⟩) (cell_lt r1)).trans r1
            have t2 : wb.cell? ⟨b2, i2, none⟩ = some (.string ⟨nm.toArray⟩) := (hbb.cell (p := ⟨b2, i2, none⟩) (cell_lt r2)).trans r2
            have HSM : Hid (∀ wy, Below wb.heap.size wb wy → Calls Try.prog 19 #[.slice pa2 rb.length ca2, .slice pb2 rb.length cb2] wy fun e w' => e = .returned (.bool true) ∧ Below wy.heap.size wy w') := by
              intro wy hb
              refine (rsame_c pa2 pb2 ca2 cb2 rb rb wy ((H8A.out.below hbb).below hb) (h8b.below hb) (by omega)).mono ?_
              rintro e w' ⟨e1, nd, rfl⟩
              exact ⟨by rw [e1, decide_eq_true rfl], drewN_below wy nd⟩
            have C3 := Lib.hid (fun y : After wb => after_of y (HSM.out y.v y.below))
            have t1A : ∀ y : After wb, y.v.cell? ⟨b1, i2, none⟩ = some (.string ⟨nm.toArray⟩) := fun y => (y.below.cell (p := ⟨b1, i2, none⟩) (cell_lt t1)).trans t1
            have t2A : ∀ y : After wb, y.v.cell? ⟨b2, i2, none⟩ = some (.string ⟨nm.toArray⟩) := fun y => (y.below.cell (p := ⟨b2, i2, none⟩) (cell_lt t2)).trans t2
            clear hbb h8b r1 r2 HR2
            go_wp2_with fail
            refine wp_region_after (by kernel_rfl) (by kernel_rfl) ?_
            repeat (go_big_quiet_step (first
              | (rename_i y; go_at_call 19; with_reducible exact C3.out y)))
            refine wpQuiet_nil ?_
            rintro ⟨wc, hbc⟩
            dsimp only
            have HBC := Lib.hid (bnext HBB.out hbc)
            clear hbc C3 t1A t2A t1 t2
            go_wp2_with fail
            go_roundg g2
            case measure => omega
            case rel => exact ⟨i2 + 1, by omega, by go_num, HBC⟩
end Go.Proofs.Ytggcdlhgmikemaa.plt
