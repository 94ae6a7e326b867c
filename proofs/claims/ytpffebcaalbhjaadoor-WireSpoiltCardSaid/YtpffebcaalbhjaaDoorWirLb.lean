/- WireReads by WApi. -/
import Derived.Test.YtpffebcaalbhjaaDoorWirLz
namespace Go.Proofs.YtpffebcaalbhjaaDoor.wir
open Go.RowKit
open Go.Proofs.YtpffebcaalbhjaaDoor.oct Go.Proofs.YtpffebcaalbhjaaDoor.ref Go.Proofs.YtpffebcaalbhjaaDoor.rows Go.Proofs.YtpffebcaalbhjaaDoor.rowg
open Go.Lib (byteCells)

set_option maxRecDepth 100000 in
set_option maxHeartbeats 16000000 in
theorem law_reads {T' : World → Prop} {Cap : Nat → Prop} (X : WApi T' Cap) (p : Option Addr) (c : Nat) (l : T) (P : Option Addr) (C : Nat) (ks : List Int) (w : World) (hp : In8 w p l) (hn : p = none → c = 0) (hc : l.length ≤ c) (hl : l.length ≤ 140737488355328) (hP : InI w P ks) (hk : ks.length ≤ 140737488351232) (hc7 : Cap 7) (ht : T' w) :
    Calls Tryd.prog 4 #[.slice p l.length c, .slice P ks.length C] w fun e w' => e = .returned (.bool true) ∧ Below w.heap.size w w' := by
  have HN := Lib.hid (X.rnew p c l w ht hp hn hc hl)
  have HO := Lib.hid (fun w1 (hb : Below w.heap.size w w1) => ropen_c p c l w1 (hp.below hb) hn hc hl)
  have HK := Lib.hid (fun w1 (hb : Below w.heap.size w w1) => wknown_c X w1 (X.tbelow _ _ ht hb) hc7)
  have HP := Lib.hid hP
  have HP8 := Lib.hid hp
  obtain ⟨E, hE⟩ : ∃ E, openE l = E := ⟨_, rfl⟩
  unfold OpenA at HO
  rw [hE] at HN HO
  clear hp hn hc hl hP hc7 ht hE
  go_enter Tryd.func4, Tryd.ntmps4
  go_wp2_with fail
  refine HN.out.mono ?_
  rintro e w1 ⟨q, rfl, hq0, hq1, hb1⟩
  have HB1 := Lib.hid hb1
  have HO1 := Lib.hid (HO.out w1 hb1)
  have HQ0 := Lib.hid hq0
  have HQ1 := Lib.hid hq1
  clear HN HO hb1 hq0 hq1
  go_wp2_with fail
  refine HO1.out.mono ?_
  rintro e w2 ⟨x, rfl, hxo, hxb, hxa, hxe, hxr, hb2⟩
  have HB2 := Lib.hid hb2
  have HXO := Lib.hid hxo
  have HXB := Lib.hid hxb
  obtain ⟨xp, xc, xb, xa, xe⟩ := x
  dsimp only at hxa hxe HXB
  subst hxa hxe
  unfold RV.val RV.cells
  dsimp only
  have HXR := Lib.hid (hxr w HP8.out)
  clear HO1 hb2 hxo hxb hxr HP8
  go_wp2_with fail
  have HBa := Lib.hid ((bnext HB1.out HB2.out).alloc (bnext HB1.out HB2.out).size (.cells #[.slice xp xb.length xc, .int .i64 0, .int .i64 0] 38))
  have HZa : Hid (Blk (w2.alloc (.cells #[.slice xp xb.length xc, .int .i64 0, .int .i64 0] 38)) w2.heap.size 38 [.slice xp xb.length xc, .int .i64 0, .int .i64 0]) := blk_new w2 _ _ _ rfl
  have HLt : Hid (w1.heap.size ≤ w2.heap.size) := HB2.out.size
  have HLs : Hid (w.heap.size ≤ w1.heap.size) := HB1.out.size
  have HQ0a : Hid (E = 0 → q.isSome = true ∧ X.Rd (w2.alloc (.cells #[.slice xp xb.length xc, .int .i64 0, .int .i64 0] 38)) w.heap.size w1.heap.size (.pointer q) (.ok (l.drop 8))) := fun h => ⟨(HQ0.out h).1, X.rkeep (HQ0.out h).2 (HB2.out.alloc HB2.out.size _).size (fun k _ hk => (HB2.out.alloc HB2.out.size _).block k hk)⟩
  have HXS : Hid ((xp = none → xc = 0) ∧ xb.length ≤ xc ∧ xb.length ≤ 140737488355328) := ⟨HXO.out.nil, HXO.out.room, HXO.out.size⟩
  have HKa := Lib.hid (HK.out _ HBa.out)
  obtain ⟨h1, hh1⟩ : ∃ h1, w1.heap.size = h1 := ⟨_, rfl⟩
  obtain ⟨gs, hgs⟩ : ∃ gs, w2.heap.size = gs := ⟨_, rfl⟩
  rw [hgs] at HLt HZa
  rw [hh1] at HLt HLs HQ0a
  obtain ⟨wa, hwa⟩ : ∃ wa, w2.alloc (.cells #[.slice xp xb.length xc, .int .i64 0, .int .i64 0] 38) = wa := ⟨_, rfl⟩
  rw [hwa] at HBa HZa HQ0a HKa ⊢
  try rw [hgs]
  clear hwa hgs hh1 HB1 HB2 HQ0 HXO HK
  refine HKa.out.mono ?_
  rintro e w3 ⟨rfl, hb3⟩
  have HB3 := Lib.hid (bnext HBa.out hb3)
  have HZ3 := Lib.hid (HZa.out.below hb3)
  have HQ3 : Hid (E = 0 → q.isSome = true ∧ X.Rd w3 w.heap.size h1 (.pointer q) (.ok (l.drop 8))) := fun h => ⟨(HQ0a.out h).1, rd_below X (HQ0a.out h).2 hb3⟩
  clear HKa HBa HZa HQ0a hb3
  have eE : ((E : Int) != (E : Int)) = false := by simp
  by_cases h0 : E = 0
  · subst h0
    obtain ⟨hqs, hrd⟩ := HQ3.out rfl
    obtain ⟨qa, rfl⟩ := Option.isSome_iff_exists.1 hqs
    have HRD := Lib.hid hrd
    rw [if_pos rfl] at HXB
    clear HQ3 HQ1 hqs hrd eE
    go_wp2_with fail
    go_loopg [9] ks.length (fun g s9 wx => ∃ (i a2 e2 : Nat) (st : St), i + g = ks.length ∧ s9 = .int .i64 (i : Int) ∧ X.Rd wx w.heap.size h1 (.pointer (some qa)) st ∧ a2 ≤ xb.length ∧ e2 ≤ 5 ∧ Blk wx gs 38 [.slice xp xb.length xc, .int .i64 (a2 : Int), .int .i64 (e2 : Int)] ∧ Hid ((RV.mk xp xc xb a2 e2).st = st) ∧ Below w.heap.size w wx)
    case atStart => exact ⟨0, 0, 0, _, by omega, rfl, HRD.out, Nat.zero_le _, Nat.zero_le _, HZ3.out, by show _ = _; rw [HXB.out]; rfl, HB3.out⟩
    case round =>
      clear HRD HZ3 HB3
      obtain ⟨i, a2, e2, st, hig, rfl, hrd, ha2, he2, Z0, HST, hbx⟩ := hrel
      have CR : Hid (∀ x : After wr, Calls Tryd.prog 21 #[.pointer (some qa)] x.v fun e w' => e = .returned (.int .i64 (endS st : Nat)) ∧ Below x.v.heap.size x.v w') := fun x => X.rend x.v (rd_below X hrd x.below)
      have CE : Hid (∀ x : After wr, Calls Tryd.prog 22 #[.agg #[.slice xp xb.length xc, .int .i64 (a2 : Int), .int .i64 (e2 : Int)]] x.v fun e w' => e = .returned (.int .i64 (endS st : Nat)) ∧ Below x.v.heap.size x.v w') := fun x => by
        have h := rend_c (RV.mk xp xc xb a2 e2) x.v ⟨HXR.out.below (hbx.trans ⟨x.below.os, x.below.tape, x.below.output, x.below.size, fun k hk => x.below.block k (Nat.lt_of_lt_of_le hk hbx.size)⟩), HXS.out.1, HXS.out.2.1, ha2, HXS.out.2.2, he2⟩
        rw [HST.out] at h
        exact h
      have C0 := Lib.hid (fun x : After wr => after_of x (CR.out x))
      have C1 := Lib.hid (fun x : After wr => after_of x (CE.out x))
      have d0 : ∀ x : After wr, x.v.cell? ⟨gs, 0, none⟩ = some (.slice xp xb.length xc) := fun x => (Z0.below x.below).cell 0
      have d1 : ∀ x : After wr, x.v.cell? ⟨gs, 1, none⟩ = some (.int .i64 (a2 : Int)) := fun x => (Z0.below x.below).cell 1
      have d2 : ∀ x : After wr, x.v.cell? ⟨gs, 2, none⟩ = some (.int .i64 (e2 : Int)) := fun x => (Z0.below x.below).cell 2
      obtain ⟨ne, hne⟩ : ∃ ne, endS st = ne := ⟨_, rfl⟩
      rw [hne] at C0 C1
      clear CR CE hne
      have en : ((ne : Int) == (ne : Int)) = true := by simp
      rcases gk with _ | g
      · have hi : ¬ ((i : Int) < (ks.length : Int)) := by omega
        go_wp2_with fail
        refine wp_region_after (by kernel_rfl) (by kernel_rfl) ?_
        repeat (go_big_quiet_step (first | (rename_i x; go_at_call 21; with_reducible exact C0.out x) | (rename_i x; go_at_call 22; with_reducible exact C1.out x)))
        refine wpQuiet_nil ?_
        rintro ⟨wq, hxb⟩
        dsimp only
        have HXQ := Lib.hid (bnext hbx hxb)
        clear hxb C0 C1 d0 d1 d2
        go_wp2_with fail
        go_ret
        exact ⟨rfl, HXQ.out⟩
      · have hi : (i : Int) < (ks.length : Int) := by omega
        have hil : i < ks.length := by omega
        by_cases h4 : i < 400
        · have hi4 : (i : Int) < 400 := by omega
          obtain ⟨kb, ko, rfl, kc⟩ := ini_cell HP.out i hil
          have kd := (hbx.cell (p := ⟨kb, ko + i, none⟩) (cell_lt kc)).trans kc
          have HKL := Lib.hid (cell_lt kc)
          obtain ⟨kk, hkk⟩ : ∃ kk, ks[i] = kk := ⟨_, rfl⟩
          rw [hkk] at kd
          have HRC := Lib.hid (read_c X kk wr hrd)
          have HZ0 := Lib.hid Z0
          have HBX := Lib.hid hbx
          have HSZ := Lib.hid (X.rsize hrd)
          clear kc hkk Z0 hbx hrd C0 C1 d0 d1 d2 en
          go_wp2_with fail
          refine HRC.out.mono ?_
          rintro e w5 ⟨y1, rfl, hy1, hg1, hrd5, hs5, hz5⟩
          clear hz5
          have Z5 := Stay.blk HZ0.out hs5 (by have := HLt.out; omega)
          have hb5 : Below w.heap.size w w5 := Stay.below HBX.out hs5 (Nat.le_refl _) HBX.out.size
          unfold penc
          have kd5 := (hb5.cell (p := ⟨kb, ko + i, none⟩) HKL.out).trans ((HBX.out.cell (p := ⟨kb, ko + i, none⟩) HKL.out).symm.trans kd)
          have HB5 := Lib.hid hb5
          have HY1 := Lib.hid hy1
          have HG1 := Lib.hid hg1
          have HRD5 := Lib.hid hrd5
          clear hs5 hb5 HRC HZ0 HBX kd hy1 hg1 hrd5
          go_wp2_with fail
          have hb9 := (Below.refl w5.heap.size w5).alloc (Nat.le_refl _) (.cells #[.int .i64 y1.k, .int .i64 y1.n, .string ⟨y1.s.toArray⟩, .slice y1.p y1.l.length y1.c] 43)
          have HZ9 := Lib.hid (Z5.below hb9)
          have HB9 := Lib.hid (bnext HB5.out hb9)
          have HG9 := Lib.hid (HG1.out.below hb9)
          have HRD9 := Lib.hid (rd_below X HRD5.out hb9)
          have HX9 : Hid (Blk (w5.alloc (.cells #[.int .i64 y1.k, .int .i64 y1.n, .string ⟨y1.s.toArray⟩, .slice y1.p y1.l.length y1.c] 43)) w5.heap.size 43 [.int .i64 y1.k, .int .i64 y1.n, .string ⟨y1.s.toArray⟩, .slice y1.p y1.l.length y1.c]) := blk_new w5 _ _ _ rfl
          have kd9 := (hb9.cell (p := ⟨kb, ko + i, none⟩) (Nat.lt_of_lt_of_le HKL.out HB5.out.size)).trans kd5
          have HRF : Hid (∀ wd, Below w.heap.size w wd → Calls Tryd.prog 19 #[.agg #[.slice xp xb.length xc, .int .i64 (a2 : Int), .int .i64 (e2 : Int)], .int .i64 kk] wd fun e w' => ReadA wd w' (RV.mk xp xc xb a2 e2) (readS kk st) e) := fun wd hd => by
            have h := rread_c (RV.mk xp xc xb a2 e2) kk wd ⟨HXR.out.below hd, HXS.out.1, HXS.out.2.1, ha2, HXS.out.2.2, he2⟩
            rw [HST.out] at h
            exact h
          obtain ⟨gx, hgx⟩ : ∃ gx, w5.heap.size = gx := ⟨_, rfl⟩
          rw [hgx] at HX9
          obtain ⟨w9, hw9⟩ : ∃ w9, w5.alloc (.cells #[.int .i64 y1.k, .int .i64 y1.n, .string ⟨y1.s.toArray⟩, .slice y1.p y1.l.length y1.c] 43) = w9 := ⟨_, rfl⟩
          rw [hw9] at HZ9 HB9 HG9 HRD9 HX9 kd9 ⊢
          try rw [hgx]
          have s0 := HZ9.out.cell 0
          have s1 := HZ9.out.cell 1
          have s2 := HZ9.out.cell 2
          have qk : kb < w9.heap.size := Nat.lt_of_lt_of_le HKL.out HB9.out.size
          have qs : gs < w9.heap.size := HZ9.out.lt
          clear hb9 kd5 Z5 hw9 hgx HB5 HG1 HRD5
          go_cut [11, 12] from 37 to 70 (fun s11 s12 wx => Rel w9 xp xc xb (readS kk st) s11 s12 wx)
          case first =>
            go_region_with (first
              | (go_at_call 19; (with_reducible refine (HRF.out w9.drew HB9.out.drew).mono ?_); rintro e w' ⟨y2, a3, e3, rfl, hy2, hg2, hok3, hst3, hb3, hfar⟩; unfold RV.val RV.cells penc; dsimp only; have HM : Hid (Mt w9 w9.heap.size xp xc xb (readS kk st) y2 a3 e3 w') := mt_of (wd := w9) (Below.refl w9.heap.size w9) (by simp) hb3 hfar hg2 hok3 hy2 hst3; clear hy2 hg2 hok3 hst3 hb3 hfar)
              | (go_at_call 19; (with_reducible refine (HRF.out (w9.alloc (.cells #[.int .i64 0, .int .i64 0, .string ⟨#[]⟩, .slice none 0 0] 43)).drew (HB9.out.alloc HB9.out.size (.cells #[.int .i64 0, .int .i64 0, .string ⟨#[]⟩, .slice none 0 0] 43)).drew).mono ?_); rintro e w' ⟨y2, a3, e3, rfl, hy2, hg2, hok3, hst3, hb3, hfar⟩; unfold RV.val RV.cells penc; dsimp only; have HM : Hid (Mt w9 (w9.heap.size + 1) xp xc xb (readS kk st) y2 a3 e3 w') := mt_of (wd := (w9.alloc (.cells #[.int .i64 0, .int .i64 0, .string ⟨#[]⟩, .slice none 0 0] 43))) ((Below.refl w9.heap.size w9).alloc (by first | exact Nat.le_refl _ | (simp <;> omega)) (.cells #[.int .i64 0, .int .i64 0, .string ⟨#[]⟩, .slice none 0 0] 43)) (by simp) hb3 hfar hg2 hok3 hy2 hst3; have F0 : Blk w' w9.heap.size 43 [.int .i64 0, .int .i64 0, .string ⟨#[]⟩, .slice none 0 0] := (blk_drew (blk_new w9 _ 43 [.int .i64 0, .int .i64 0, .string ⟨#[]⟩, .slice none 0 0] rfl)).below hb3; have q0 := F0.lt; have f00 := F0.cell 0; have r00 := F0.frozen 0; have f01 := F0.cell 1; have r01 := F0.frozen 1; have f02 := F0.cell 2; have r02 := F0.frozen 2; have f03 := F0.cell 3; have r03 := F0.frozen 3; clear hy2 hg2 hok3 hst3 hb3 hfar)
              | (go_at_call 19; (with_reducible refine (HRF.out (w9.alloc (.cells #[.slice none 0 0, .int .i64 0, .int .i64 0] 38)).drew (HB9.out.alloc HB9.out.size (.cells #[.slice none 0 0, .int .i64 0, .int .i64 0] 38)).drew).mono ?_); rintro e w' ⟨y2, a3, e3, rfl, hy2, hg2, hok3, hst3, hb3, hfar⟩; unfold RV.val RV.cells penc; dsimp only; have HM : Hid (Mt w9 (w9.heap.size + 1) xp xc xb (readS kk st) y2 a3 e3 w') := mt_of (wd := (w9.alloc (.cells #[.slice none 0 0, .int .i64 0, .int .i64 0] 38))) ((Below.refl w9.heap.size w9).alloc (by first | exact Nat.le_refl _ | (simp <;> omega)) (.cells #[.slice none 0 0, .int .i64 0, .int .i64 0] 38)) (by simp) hb3 hfar hg2 hok3 hy2 hst3; have F0 : Blk w' w9.heap.size 38 [.slice none 0 0, .int .i64 0, .int .i64 0] := (blk_drew (blk_new w9 _ 38 [.slice none 0 0, .int .i64 0, .int .i64 0] rfl)).below hb3; have q0 := F0.lt; have f00 := F0.cell 0; have r00 := F0.frozen 0; have f01 := F0.cell 1; have r01 := F0.frozen 1; have f02 := F0.cell 2; have r02 := F0.frozen 2; clear hy2 hg2 hok3 hst3 hb3 hfar)
              | (go_at_call 19; (with_reducible refine (HRF.out ((w9.alloc (.cells #[.int .i64 0, .int .i64 0, .string ⟨#[]⟩, .slice none 0 0] 43)).alloc (.cells #[.slice none 0 0, .int .i64 0, .int .i64 0] 38)).drew ((HB9.out.alloc HB9.out.size (.cells #[.int .i64 0, .int .i64 0, .string ⟨#[]⟩, .slice none 0 0] 43)).alloc (by have := HB9.out.size; simp <;> omega) (.cells #[.slice none 0 0, .int .i64 0, .int .i64 0] 38)).drew).mono ?_); rintro e w' ⟨y2, a3, e3, rfl, hy2, hg2, hok3, hst3, hb3, hfar⟩; unfold RV.val RV.cells penc; dsimp only; have HM : Hid (Mt w9 (w9.heap.size + 2) xp xc xb (readS kk st) y2 a3 e3 w') := mt_of (wd := ((w9.alloc (.cells #[.int .i64 0, .int .i64 0, .string ⟨#[]⟩, .slice none 0 0] 43)).alloc (.cells #[.slice none 0 0, .int .i64 0, .int .i64 0] 38))) (((Below.refl w9.heap.size w9).alloc (by first | exact Nat.le_refl _ | (simp <;> omega)) (.cells #[.int .i64 0, .int .i64 0, .string ⟨#[]⟩, .slice none 0 0] 43)).alloc (by first | exact Nat.le_refl _ | (simp <;> omega)) (.cells #[.slice none 0 0, .int .i64 0, .int .i64 0] 38)) (by simp) hb3 hfar hg2 hok3 hy2 hst3; have F0 : Blk w' w9.heap.size 43 [.int .i64 0, .int .i64 0, .string ⟨#[]⟩, .slice none 0 0] := (blk_drew (blk_old (blk_new w9 _ 43 [.int .i64 0, .int .i64 0, .string ⟨#[]⟩, .slice none 0 0] rfl) (.cells #[.slice none 0 0, .int .i64 0, .int .i64 0] 38))).below hb3; have q0 := F0.lt; have f00 := F0.cell 0; have r00 := F0.frozen 0; have f01 := F0.cell 1; have r01 := F0.frozen 1; have f02 := F0.cell 2; have r02 := F0.frozen 2; have f03 := F0.cell 3; have r03 := F0.frozen 3; have F1 : Blk w' (w9.heap.size + 1) 38 [.slice none 0 0, .int .i64 0, .int .i64 0] := (blk_drew (blk_new_at (w9.alloc (.cells #[.int .i64 0, .int .i64 0, .string ⟨#[]⟩, .slice none 0 0] 43)) _ 38 [.slice none 0 0, .int .i64 0, .int .i64 0] rfl (w9.heap.size + 1) (by simp))).below hb3; have q1 := F1.lt; have f10 := F1.cell 0; have r10 := F1.frozen 0; have f11 := F1.cell 1; have r11 := F1.frozen 1; have f12 := F1.cell 2; have r12 := F1.frozen 2; clear hy2 hg2 hok3 hst3 hb3 hfar)
              | (go_at_call 19; (with_reducible refine (HRF.out ((w9.alloc (.cells #[.slice none 0 0, .int .i64 0, .int .i64 0] 38)).alloc (.cells #[.int .i64 0, .int .i64 0, .string ⟨#[]⟩, .slice none 0 0] 43)).drew ((HB9.out.alloc HB9.out.size (.cells #[.slice none 0 0, .int .i64 0, .int .i64 0] 38)).alloc (by have := HB9.out.size; simp <;> omega) (.cells #[.int .i64 0, .int .i64 0, .string ⟨#[]⟩, .slice none 0 0] 43)).drew).mono ?_); rintro e w' ⟨y2, a3, e3, rfl, hy2, hg2, hok3, hst3, hb3, hfar⟩; unfold RV.val RV.cells penc; dsimp only; have HM : Hid (Mt w9 (w9.heap.size + 2) xp xc xb (readS kk st) y2 a3 e3 w') := mt_of (wd := ((w9.alloc (.cells #[.slice none 0 0, .int .i64 0, .int .i64 0] 38)).alloc (.cells #[.int .i64 0, .int .i64 0, .string ⟨#[]⟩, .slice none 0 0] 43))) (((Below.refl w9.heap.size w9).alloc (by first | exact Nat.le_refl _ | (simp <;> omega)) (.cells #[.slice none 0 0, .int .i64 0, .int .i64 0] 38)).alloc (by first | exact Nat.le_refl _ | (simp <;> omega)) (.cells #[.int .i64 0, .int .i64 0, .string ⟨#[]⟩, .slice none 0 0] 43)) (by simp) hb3 hfar hg2 hok3 hy2 hst3; have F0 : Blk w' w9.heap.size 38 [.slice none 0 0, .int .i64 0, .int .i64 0] := (blk_drew (blk_old (blk_new w9 _ 38 [.slice none 0 0, .int .i64 0, .int .i64 0] rfl) (.cells #[.int .i64 0, .int .i64 0, .string ⟨#[]⟩, .slice none 0 0] 43))).below hb3; have q0 := F0.lt; have f00 := F0.cell 0; have r00 := F0.frozen 0; have f01 := F0.cell 1; have r01 := F0.frozen 1; have f02 := F0.cell 2; have r02 := F0.frozen 2; have F1 : Blk w' (w9.heap.size + 1) 43 [.int .i64 0, .int .i64 0, .string ⟨#[]⟩, .slice none 0 0] := (blk_drew (blk_new_at (w9.alloc (.cells #[.slice none 0 0, .int .i64 0, .int .i64 0] 38)) _ 43 [.int .i64 0, .int .i64 0, .string ⟨#[]⟩, .slice none 0 0] rfl (w9.heap.size + 1) (by simp))).below hb3; have q1 := F1.lt; have f10 := F1.cell 0; have r10 := F1.frozen 0; have f11 := F1.cell 1; have r11 := F1.frozen 1; have f12 := F1.cell 2; have r12 := F1.frozen 2; have f13 := F1.cell 3; have r13 := F1.frozen 3; clear hy2 hg2 hok3 hst3 hb3 hfar))
            all_goals
              go_wp2_with fail
              go_meet
              clear s0 s1 s2 qk qs kd9
              first
                | with_reducible exact rel_d HM.out F0 F1
                | with_reducible exact rel_f HM.out F0 F1
                | with_reducible exact rel_c HM.out F0
                | with_reducible exact rel_e HM.out F0
                | with_reducible exact rel_a HM.out
                | with_reducible exact rel_b HM.out
          case rest =>
            clear HRF kd9 s0 s1 s2
            obtain ⟨gy, gn, y2, a3, e3, rfl, rfl, K1, K2, ky, kg, ka, ke, ks3, kb9⟩ := hcut
            have K0 := HZ9.out.below kb9
            have KX := HX9.out.below kb9
            have m0 := K2.cell 0
            have m1 := K2.cell 1
            have m2 := K2.cell 2
            have n0 := K0.cell 0
            have n1 := K0.cell 1
            have n2 := K0.cell 2
            have o0 := K0.frozen 0
            have o1 := K0.frozen 1
            have o2 := K0.frozen 2
            have hne1 : gx ≠ gs := fun e => by
              have h := HX9.out
              rw [e] at h
              have h2 := HZ9.out
              unfold Blk at h h2
              rw [h] at h2
              simp at h2
            have hne2 : gy ≠ gs := fun e => by
              have h := K1
              rw [e] at h
              have h2 := K0
              unfold Blk at h h2
              rw [h] at h2
              simp at h2
            have W0 := put3 (a' := .slice xp xb.length xc) (b' := .int .i64 (a3 : Int)) (c' := .int .i64 (e3 : Int)) K0
            have WX := set3_other (a' := .slice xp xb.length xc) (b' := .int .i64 (a3 : Int)) (c' := .int .i64 (e3 : Int)) KX (Ne.symm hne1)
            have WY := set3_other (a' := .slice xp xb.length xc) (b' := .int .i64 (a3 : Int)) (c' := .int .i64 (e3 : Int)) K1 (Ne.symm hne2)
            have G1 := (HG9.out.below kb9).other K0 (rd_nostr _ _ _ _ _) (heap_set3 wc gs (.slice xp xb.length xc) (.int .i64 (a3 : Int)) (.int .i64 (e3 : Int)))
            have G2 := kg.other K0 (rd_nostr _ _ _ _ _) (heap_set3 wc gs (.slice xp xb.length xc) (.int .i64 (a3 : Int)) (.int .i64 (e3 : Int)))
            have RD4 := rd_set X (rd_set X (rd_set X (rd_below X HRD9.out kb9) HLt.out 0 (.slice xp xb.length xc)) HLt.out 1 (.int .i64 (a3 : Int))) HLt.out 2 (.int .i64 (e3 : Int))
            have B4 := (((bnext HB9.out kb9).setCell (p := ⟨gs, 0, none⟩) (Nat.le_trans HLs.out HLt.out) (.slice xp xb.length xc)).setCell (p := ⟨gs, 1, none⟩) (Nat.le_trans HLs.out HLt.out) (.int .i64 (a3 : Int))).setCell (p := ⟨gs, 2, none⟩) (Nat.le_trans HLs.out HLt.out) (.int .i64 (e3 : Int))
            have HPS := Lib.hid (psame_c y1 y2 _ G1 G2)
            rw [show decide (y1.put = y2.put) = true from decide_eq_true (HY1.out.trans ky.symm)] at HPS
            have x0 := WX.cell 0
            have x1 := WX.cell 1
            have x2 := WX.cell 2
            have x3 := WX.cell 3
            have y0 := WY.cell 0
            have yy1 := WY.cell 1
            have yy2 := WY.cell 2
            have y3 := WY.cell 3
            have z0 := KX.cell 0
            have z1 := KX.cell 1
            have z2 := KX.cell 2
            have z3 := KX.cell 3
            have v0 := K1.cell 0
            have v1 := K1.cell 1
            have v2 := K1.cell 2
            have v3 := K1.cell 3
            have HW0 := Lib.hid W0
            have HR4 := Lib.hid RD4
            have HB4 := Lib.hid B4
            have HKA := Lib.hid ka
            have HKE := Lib.hid ke
            have HS3 := Lib.hid ks3
            unfold penc at HPS
            clear W0 WX WY G1 G2 RD4 B4 KX K0 K1 K2 kb9 kg ky ka ke ks3 HX9 HZ9 HG9 HRD9 HB9 qk qs
            go_wp2_with (go_at_call 20; refine HPS.out.mono ?_; rintro e w' ⟨rfl, hbs⟩)
            go_roundg g
            case measure => omega
            case rel => exact ⟨i + 1, a3, e3, _, by omega, by go_num, rd_below X HR4.out hbs, HKA.out, HKE.out, HW0.out.below hbs, HS3.out, bnext HB4.out hbs⟩
        · have hi4 : ¬ ((i : Int) < 400) := by omega
          go_wp2_with fail
          refine wp_region_after (by kernel_rfl) (by kernel_rfl) ?_
          repeat (go_big_quiet_step (first | (rename_i x; go_at_call 21; with_reducible exact C0.out x) | (rename_i x; go_at_call 22; with_reducible exact C1.out x)))
          refine wpQuiet_nil ?_
          rintro ⟨wq, hxb⟩
          dsimp only
          have HXQ := Lib.hid (bnext hbx hxb)
          clear hxb C0 C1 d0 d1 d2
          go_wp2_with fail
          go_ret
          exact ⟨rfl, HXQ.out⟩
  · have hq := HQ1.out h0
    subst hq
    have e0 : ((E : Int) != 0) = true := by rw [bne_iff_ne]; omega
    have e1 : ((E : Int) == 0) = false := by rw [beq_eq_false_iff_ne]; omega
    clear HQ3 HQ1 h0 HZ3 HXB
    go_wp2_with fail
    go_loopg [9] ks.length (fun g s9 wx => s9 = .int .i64 0 ∧ g = ks.length ∧ Below w.heap.size w wx)
    case atStart => exact ⟨rfl, rfl, HB3.out⟩
    case round =>
      obtain ⟨rfl, hg, hbx⟩ := hrel
      by_cases hi : (0 : Int) < (ks.length : Int)
      · have i4 : (0 : Int) < 400 := by decide
        go_wp2_with fail
        go_quiet (fail)
        have hbn := wbelow_drewN hbx nq
        obtain ⟨wn, hwn⟩ : ∃ wn, wr.drewN nq = wn := ⟨_, rfl⟩
        rw [hwn] at hbn ⊢
        clear hwn
        go_wp2_with fail
        go_ret
        exact ⟨rfl, hbn⟩
      · go_wp2_with fail
        go_quiet (fail)
        have hbn := wbelow_drewN hbx nq
        obtain ⟨wn, hwn⟩ : ∃ wn, wr.drewN nq = wn := ⟨_, rfl⟩
        rw [hwn] at hbn ⊢
        clear hwn
        go_wp2_with fail
        go_ret
        exact ⟨rfl, hbn⟩
end Go.Proofs.YtpffebcaalbhjaaDoor.wir
