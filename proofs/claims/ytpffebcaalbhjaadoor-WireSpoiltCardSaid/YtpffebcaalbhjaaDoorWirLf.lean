/- WireStays by WApi. -/
import Derived.Test.YtpffebcaalbhjaaDoorWirLc
import Derived.Test.YtpffebcaalbhjaaDoorWirLe
namespace Go.Proofs.YtpffebcaalbhjaaDoor.wir
open Go.RowKit
open Go.Proofs.YtpffebcaalbhjaaDoor.oct Go.Proofs.YtpffebcaalbhjaaDoor.ref Go.Proofs.YtpffebcaalbhjaaDoor.rows Go.Proofs.YtpffebcaalbhjaaDoor.rowg
open Go.Lib (byteCells)

theorem end_kind (st : St) : (endS st = 0 ∨ endS st = 3) ∨ ∃ e, st = .bad e ∧ endS st = e ∧ e ≠ 0 ∧ e ≠ 3 := by
  cases st with
  | ok t =>
    left
    unfold endS
    dsimp only
    split <;> simp
  | bad e =>
    by_cases h0 : e = 0
    · exact Or.inl (Or.inl h0)
    · by_cases h3 : e = 3
      · exact Or.inl (Or.inr h3)
      · exact Or.inr ⟨e, rfl, rfl, h0, h3⟩
set_option maxRecDepth 100000 in
set_option maxHeartbeats 8000000 in
theorem law_stays {T' : World → Prop} {Cap : Nat → Prop} (X : WApi T' Cap) (p : Option Addr) (c : Nat) (l : T) (P : Option Addr) (C : Nat) (ks : List Int) (Q : Option Addr) (D : Nat) (m0 : List PutA) (w : World) (hp : In8 w p l) (hn : p = none → c = 0) (hP : InI w P ks)
    (hq : InP w Q m0) (hg : ∀ x ∈ m0, GoodP w x) (hD : m0.length ≤ D) (hc : Cap (bytesB ((m0.take 400).map PutA.put)).length) (hc7 : Cap 7) (ht : T' w) :
    Calls Tryd.prog 8 #[.slice p l.length c, .slice P ks.length C, .slice Q m0.length D] w fun e w' => e = .returned (.bool true) ∧ Below w.heap.size w w' := by
  have HF := Lib.hid (few_c Q D m0 w hD)
  have hlm : (m0.take 400).length ≤ 400 := by rw [List.length_take]; omega
  have hp4 := inp_take hq 400
  have hg4 : ∀ x ∈ m0.take 400, GoodP w x := fun x hx => hg x (List.mem_of_mem_take hx)
  obtain ⟨m, hm⟩ : ∃ m, m0.take 400 = m := ⟨_, rfl⟩
  rw [hm] at HF hlm hp4 hg4 hc
  have HQ := Lib.hid hp4
  have HG := Lib.hid hg4
  have HCAP := Lib.hid hc
  have HP8 := Lib.hid hp
  have HPN := Lib.hid hn
  have HP := Lib.hid hP
  have HLM := Lib.hid hlm
  have HT := Lib.hid (fun w1 (hb : Below w.heap.size w w1) => X.tbelow _ _ ht hb)
  have HK := Lib.hid (fun w1 (hb : Below w.heap.size w w1) => wknown_c X w1 (X.tbelow _ _ ht hb) hc7)
  have HN := Lib.hid (X.wnew w)
  have HLR : Hid ((writeT (m.map PutA.put)).2.length ≤ 65544) := by
    show _ ≤ _
    unfold writeT
    split
    · simp
    · split
      · simp
      · rw [frameT_len]; omega
  clear hp hn hP hq hg hD hc hc7 ht hlm hp4 hg4 hm
  go_enter Tryd.func8, Tryd.ntmps8
  go_wp2_with (go_at_call 11; refine HF.out.mono ?_; rintro e w' ⟨rfl, rfl⟩)
  refine HN.out.mono ?_
  rintro e w1 ⟨v, rfl, hW, hb1⟩
  obtain ⟨pv, rfl⟩ := X.wptr hW
  have HW := Lib.hid hW
  have HB := Lib.hid hb1
  clear hW hb1 HN HF
  go_wp2_with fail
  go_loopg [8] m.length (fun g s8 wx => ∃ k : Nat, k + g = m.length ∧ s8 = .int .i64 (k : Int) ∧ X.Wr wx w.heap.size (.pointer pv) (wsAt m k) ∧ Below w.heap.size w wx)
  case atStart => exact ⟨0, by omega, rfl, HW.out, HB.out⟩
  case round =>
    clear HW HB
    obtain ⟨k, hkg, rfl, hW, hbx⟩ := hrel
    rcases gk with _ | g
    · have hi : ¬ ((k : Int) < (m.length : Int)) := by omega
      have HFR := Lib.hid (X.wframe _ _ _ _ (HT.out _ hbx) hW)
      rw [wsAt_all m k (by omega)] at HFR
      have HWR := Lib.hid (fun w1 (hb : Below w.heap.size w w1) => write_c X Q D m w1 (HT.out w1 hb) (inp_below HQ.out hb) (fun x hx => (HG.out x hx).below hb) HLM.out HCAP.out)
      obtain ⟨r, hr⟩ : ∃ r, writeT (m.map PutA.put) = r := ⟨_, rfl⟩
      rw [hr] at HFR HWR HLR
      obtain ⟨q, t⟩ := r
      dsimp only at HLR
      have HBX := Lib.hid hbx
      clear hW hbx hr
      go_wp2_with fail
      refine HFR.out.mono ?_
      clear HFR
      rintro e w2 ⟨v1, rfl, ho1, hb2⟩
      dsimp only at ho1 ⊢
      obtain ⟨p1, c1, rfl, h81⟩ := own_in8' ho1
      have H81 := Lib.hid h81
      have HB2 := Lib.hid (bnext HBX.out hb2)
      have HWR2 := Lib.hid (HWR.out w2 HB2.out)
      clear ho1 h81 hb2 HWR HBX
      go_wp2_with fail
      refine HWR2.out.mono ?_
      clear HWR2
      rintro e w3 ⟨v2, rfl, ho2, hb3⟩
      dsimp only at ho2 ⊢
      obtain ⟨p2, c2, rfl, h82⟩ := own_in8' ho2
      have H82 := Lib.hid h82
      have H81b : Hid (In8 w3 p1 t) := H81.out.below hb3
      have HB3 := Lib.hid (bnext HB2.out hb3)
      have HK3 := Lib.hid (HK.out w3 HB3.out)
      clear ho2 h82 hb3 HB2 H81
      go_wp2_with fail
      refine HK3.out.mono ?_
      clear HK3
      rintro e w4 ⟨rfl, hb4⟩
      have HS := Lib.hid (rsame_c p1 p2 c1 c2 t t w4 (H81b.out.below hb4) (H82.out.below hb4) (by have := HLR.out; omega))
      rw [decide_eq_true rfl] at HS
      have HB4 := Lib.hid (bnext HB3.out hb4)
      have eq : ((q : Int) != (q : Int)) = false := by simp
      clear hb4 H81b H82 HB3
      go_wp2_with fail
      refine HS.out.mono ?_
      clear HS eq
      rintro e w5 ⟨rfl, nd, rfl⟩
      have HB5 := Lib.hid (wbelow_drewN HB4.out nd)
      obtain ⟨wn, hwn⟩ : ∃ wn, w4.drewN nd = wn := ⟨_, rfl⟩
      rw [hwn] at HB5 ⊢
      clear hwn HB4
      by_cases hl : 65536 < l.length
      · have i1 : (l.length : Int) > 65536 := by omega
        go_wp2_with fail
        go_ret
        exact ⟨rfl, HB5.out⟩
      · have i1 : ¬ ((l.length : Int) > 65536) := by omega
        have HRF := Lib.hid (rframe_c p c l wn (HP8.out.below HB5.out) (by omega) HPN.out)
        have HOP := Lib.hid (open_frame (t := l) (by omega))
        have HFT := Lib.hid (frame_tail l)
        have HFL : Hid ((frameT l).length ≤ 65544) := by show _ ≤ _; rw [frameT_len]; omega
        obtain ⟨f, hf⟩ : ∃ f, frameT l = f := ⟨_, rfl⟩
        rw [hf] at HRF HOP HFT HFL
        clear hl hf
        go_wp2_with fail
        refine HRF.out.mono ?_
        clear HRF
        rintro e w6 ⟨v6, rfl, ho6, hb6⟩
        obtain ⟨p6, c6, rfl, h86, hn6, hc6⟩ := own_arg ho6
        have HB6 := Lib.hid (bnext HB5.out hb6)
        have HNR := Lib.hid (X.rnew p6 c6 f w6 (HT.out w6 HB6.out) h86 hn6 hc6 (by have := HFL.out; omega))
        rw [HOP.out, HFT.out] at HNR
        clear ho6 h86 hn6 hc6 hb6 HB5
        go_wp2_with fail
        refine HNR.out.mono ?_
        clear HNR
        rintro e w7 ⟨qa, rfl, hq0, _, hb7⟩
        obtain ⟨hqs, hrd⟩ := hq0 (by first | rfl | trivial)
        obtain ⟨qa, rfl⟩ := Option.isSome_iff_exists.1 hqs
        have HB7 := Lib.hid (bnext HB6.out hb7)
        have HRD := Lib.hid hrd
        have HLO : Hid (w.heap.size ≤ w6.heap.size) := HB6.out.size
        obtain ⟨lo, hlo⟩ : ∃ lo, w6.heap.size = lo := ⟨_, rfl⟩
        obtain ⟨hi, hhi⟩ : ∃ hi, w7.heap.size = hi := ⟨_, rfl⟩
        rw [hlo, hhi] at HRD
        rw [hlo] at HLO
        clear hq0 hqs hrd hb7 HB6 hlo hhi
        go_wp2_with fail
        go_loopg [15] ks.length (fun g s15 wx => ∃ (i : Nat) (st : St), i + g = ks.length ∧ s15 = .int .i64 (i : Int) ∧ X.Rd wx lo hi (.pointer (some qa)) st ∧ Below w.heap.size w wx)
        case atStart => exact ⟨0, _, by omega, rfl, HRD.out, HB7.out⟩
        case round =>
          clear HRD HB7
          obtain ⟨i, st, hig, rfl, hrd, hbx⟩ := hrel
          rcases gk with _ | g
          · have hi2 : ¬ ((i : Int) < (ks.length : Int)) := by omega
            clear hrd
            go_wp2_with fail
            go_ret
            exact ⟨rfl, hbx⟩
          · have hi1 : (i : Int) < (ks.length : Int) := by omega
            have hil : i < ks.length := by omega
            by_cases h4 : i < 400
            · have hi4 : (i : Int) < 400 := by omega
              obtain ⟨kb, ko, rfl, kc⟩ := ini_cell HP.out i hil
              have HKL := Lib.hid (cell_lt kc)
              obtain ⟨kk, hkk⟩ : ∃ kk, ks[i] = kk := ⟨_, rfl⟩
              rw [hkk] at kc
              have HKC := Lib.hid kc
              have HE1 := Lib.hid (X.rend wr hrd)
              have HBX := Lib.hid hbx
              have HRDx := Lib.hid hrd
              clear kc hkk hbx hrd
              rcases end_kind st with hend | ⟨e0, rfl, hee, hne0, hne3⟩
              · obtain ⟨ne, hne⟩ : ∃ ne, endS st = ne := ⟨_, rfl⟩
                rw [hne] at HE1 hend
                have HEND := Lib.hid hend
                clear hend hne
                go_wp2_with fail
                refine HE1.out.mono ?_
                clear HE1
                rintro e w8 ⟨rfl, hb8⟩
                have HRD8 := Lib.hid (rd_below X HRDx.out hb8)
                have HB8 := Lib.hid (bnext HBX.out hb8)
                have kd8 := (HB8.out.cell (p := ⟨kb, ko + i, none⟩) HKL.out).trans HKC.out
                have HRC := Lib.hid (read_c X kk w8 HRD8.out)
                clear hb8 HRDx HBX
                go_wp2_with fail
                refine HRC.out.mono ?_
                clear HRC
                rintro e w9 ⟨y1, rfl, _, _, hrd9, hs9, _⟩
                have HB9 : Hid (Below w.heap.size w w9) := Stay.below HB8.out hs9 HLO.out HB8.out.size
                have hba := (Below.refl w9.heap.size w9).alloc (Nat.le_refl _) (.cells #[.int .i64 y1.k, .int .i64 y1.n, .string ⟨y1.s.toArray⟩, .slice y1.p y1.l.length y1.c] 43)
                have HRDa := Lib.hid (rd_below X hrd9 hba)
                have HBa := Lib.hid (bnext HB9.out hba)
                have HEa := Lib.hid (X.rend _ HRDa.out)
                unfold penc
                clear hrd9 hs9 hba HB9 HB8 HRD8 kd8
                go_wp2_with fail
                obtain ⟨wa, hwa⟩ : ∃ wa, w9.alloc (.cells #[.int .i64 y1.k, .int .i64 y1.n, .string ⟨y1.s.toArray⟩, .slice y1.p y1.l.length y1.c] 43) = wa := ⟨_, rfl⟩
                rw [hwa] at HRDa HBa HEa ⊢
                clear hwa
                refine HEa.out.mono ?_
                clear HEa
                rintro e wb ⟨rfl, hbb⟩
                have HRDb := Lib.hid (rd_below X HRDa.out hbb)
                have HBb := Lib.hid (bnext HBa.out hbb)
                clear hbb HRDa HBa
                rcases HEND.out with h | h
                · have j0 : ((ne : Int) != 0) = false := by rw [bne_eq_false_iff_eq]; omega
                  clear h HEND
                  go_wp2_with fail
                  go_quiet (fail)
                  have HRDc : Hid (X.Rd (wb.drewN nq) lo hi (.pointer (some qa)) (readS kk st).2) := rd_below X HRDb.out (wbelow_drewN (Below.refl _ _) nq)
                  have HBc := Lib.hid (wbelow_drewN HBb.out nq)
                  obtain ⟨wn2, hwn2⟩ : ∃ wn2, wb.drewN nq = wn2 := ⟨_, rfl⟩
                  rw [hwn2] at HRDc HBc ⊢
                  clear hwn2
                  go_wp2_with fail
                  go_roundg g
                  case measure => omega
                  case rel => exact ⟨i + 1, _, by omega, by go_num, HRDc.out, HBc.out⟩
                · have j0 : ((ne : Int) != 0) = true := by rw [bne_iff_ne]; omega
                  have j1 : ((ne : Int) != 3) = false := by rw [bne_eq_false_iff_eq]; omega
                  clear h HEND
                  go_wp2_with fail
                  go_quiet (fail)
                  have HRDc : Hid (X.Rd (wb.drewN nq) lo hi (.pointer (some qa)) (readS kk st).2) := rd_below X HRDb.out (wbelow_drewN (Below.refl _ _) nq)
                  have HBc := Lib.hid (wbelow_drewN HBb.out nq)
                  obtain ⟨wn2, hwn2⟩ : ∃ wn2, wb.drewN nq = wn2 := ⟨_, rfl⟩
                  rw [hwn2] at HRDc HBc ⊢
                  clear hwn2
                  go_wp2_with fail
                  go_roundg g
                  case measure => omega
                  case rel => exact ⟨i + 1, _, by omega, by go_num, HRDc.out, HBc.out⟩
              · rw [hee] at HE1
                have j0 : ((e0 : Int) != 0) = true := by rw [bne_iff_ne]; omega
                have j1 : ((e0 : Int) != 3) = true := by rw [bne_iff_ne]; omega
                have j2 : ((e0 : Int) != (e0 : Int)) = false := by simp
                clear hee hne0 hne3
                go_wp2_with fail
                refine HE1.out.mono ?_
                clear HE1
                rintro e w8 ⟨rfl, hb8⟩
                have HRD8 := Lib.hid (rd_below X HRDx.out hb8)
                have HB8 := Lib.hid (bnext HBX.out hb8)
                have kd8 := (HB8.out.cell (p := ⟨kb, ko + i, none⟩) HKL.out).trans HKC.out
                have HRC := Lib.hid (read_bad X kk w8 HRD8.out)
                clear hb8 HRDx HBX
                go_wp2_with fail
                refine HRC.out.mono ?_
                clear HRC
                rintro e w9 ⟨rfl, hrd9, hs9⟩
                have HB9 : Hid (Below w.heap.size w w9) := Stay.below HB8.out hs9 HLO.out HB8.out.size
                have hba := (Below.refl w9.heap.size w9).alloc (Nat.le_refl _) (.cells #[.int .i64 kk, .int .i64 0, .string ⟨#[]⟩, .slice none 0 0] 43)
                have HRDa := Lib.hid (rd_below X hrd9 hba)
                have HBa := Lib.hid (bnext HB9.out hba)
                have HEa := Lib.hid (X.rend _ HRDa.out)
                have HZa : Hid (Blk (w9.alloc (.cells #[.int .i64 kk, .int .i64 0, .string ⟨#[]⟩, .slice none 0 0] 43)) w9.heap.size 43 [.int .i64 kk, .int .i64 0, .string ⟨#[]⟩, .slice none 0 0]) := blk_new w9 _ _ _ rfl
                have HEE : Hid (endS (.bad e0) = e0) := rfl
                rw [HEE.out] at HEa
                clear hrd9 hs9 hba HB9 HB8 HRD8 kd8 HEE
                go_wp2_with fail
                obtain ⟨gz, hgz⟩ : ∃ gz, w9.heap.size = gz := ⟨_, rfl⟩
                rw [hgz] at HZa
                obtain ⟨wa, hwa⟩ : ∃ wa, w9.alloc (.cells #[.int .i64 kk, .int .i64 0, .string ⟨#[]⟩, .slice none 0 0] 43) = wa := ⟨_, rfl⟩
                rw [hwa] at HRDa HBa HEa HZa ⊢
                try rw [hgz]
                clear hwa hgz
                refine HEa.out.mono ?_
                clear HEa
                rintro e wb ⟨rfl, hbb⟩
                have HRDb := Lib.hid (rd_below X HRDa.out hbb)
                have HBb := Lib.hid (bnext HBa.out hbb)
                have Zb := HZa.out.below hbb
                have C2 : Hid (∀ z : After wb, Calls Tryd.prog 20 #[.agg #[.int .i64 kk, .int .i64 0, .string ⟨#[]⟩, .slice none 0 0], .agg #[.int .i64 kk, .int .i64 0, .string ⟨#[]⟩, .slice none 0 0]] z.v fun e w'' => e = .returned (.bool true) ∧ ∃ y : After wb, w'' = y.v) := fun z => after_of z (by
                  have hg : GoodP z.v ⟨kk, 0, [], none, 0, []⟩ := ⟨⟨(by show (-9223372036854775808 : Int) ≤ 0; omega), (by show (0 : Int) ≤ 9223372036854775807; omega)⟩, (by simp), ins_none _, fun _ => rfl, Nat.le_refl _, by simp, by simp⟩
                  have h := psame_c ⟨kk, 0, [], none, 0, []⟩ ⟨kk, 0, [], none, 0, []⟩ z.v hg hg
                  rw [decide_eq_true rfl] at h
                  exact h)
                have kdb : ∀ z : After wb, z.v.cell? ⟨kb, ko + i, none⟩ = some (.int .i64 kk) := fun z => ((bnext HBb.out z.below).cell (p := ⟨kb, ko + i, none⟩) HKL.out).trans HKC.out
                have d0 : ∀ z : After wb, z.v.cell? ⟨gz, 0, none⟩ = some (.int .i64 kk) := fun z => (Zb.below z.below).cell 0
                have d1 : ∀ z : After wb, z.v.cell? ⟨gz, 1, none⟩ = some (.int .i64 0) := fun z => (Zb.below z.below).cell 1
                have d2 : ∀ z : After wb, z.v.cell? ⟨gz, 2, none⟩ = some (.string ⟨#[]⟩) := fun z => (Zb.below z.below).cell 2
                have d3 : ∀ z : After wb, z.v.cell? ⟨gz, 3, none⟩ = some (.slice none 0 0) := fun z => (Zb.below z.below).cell 3
                clear hbb HRDa HBa HZa Zb
                go_wp2_with fail
                refine wp_region_after (by kernel_rfl) (by kernel_rfl) ?_
                repeat (go_big_quiet_step (first | (rename_i x; go_at_call 20; with_reducible exact C2.out x)))
                refine wpQuiet_nil ?_
                rintro ⟨wq, hxb⟩
                dsimp only
                have HRDc := Lib.hid (rd_below X HRDb.out hxb)
                have HBc := Lib.hid (bnext HBb.out hxb)
                clear hxb C2 kdb d0 d1 d2 d3 HRDb HBb
                go_wp2_with fail
                go_roundg g
                case measure => omega
                case rel => exact ⟨i + 1, _, by omega, by go_num, HRDc.out, HBc.out⟩
            · have hi4 : ¬ ((i : Int) < 400) := by omega
              clear hrd
              go_wp2_with fail
              go_ret
              exact ⟨rfl, hbx⟩
    · have hkI : (k : Int) < (m.length : Int) := by omega
      have hkl : k < m.length := by omega
      have hk4 : (k : Int) < 401 := by have := HLM.out; omega
      have HFR := Lib.hid (X.wframe _ _ _ _ (HT.out _ hbx) hW)
      obtain ⟨b, o, rfl, c0, c1, c2, c3⟩ := put_cells HQ.out k hkl
      have hbl := cell_lt c0
      have HC0 := Lib.hid c0
      have HC1 := Lib.hid c1
      have HC2 := Lib.hid c2
      have HC3 := Lib.hid c3
      have HBL := Lib.hid hbl
      have HBX := Lib.hid hbx
      have HWX := Lib.hid hW
      clear c0 c1 c2 c3 hbl hW hbx
      go_wp2_with fail
      refine HFR.out.mono ?_
      clear HFR
      rintro e w2 ⟨v1, rfl, _, hb2⟩
      have hb2x := bnext HBX.out hb2
      have d0 := (hb2x.cell (p := ⟨b, o + k * 4, none⟩) HBL.out).trans HC0.out
      have d1 := (hb2x.cell (p := ⟨b, o + k * 4 + 1, none⟩) HBL.out).trans HC1.out
      have d2 := (hb2x.cell (p := ⟨b, o + k * 4 + 2, none⟩) HBL.out).trans HC2.out
      have d3 := (hb2x.cell (p := ⟨b, o + k * 4 + 3, none⟩) HBL.out).trans HC3.out
      have HPC : Hid (Calls Tryd.prog 27 #[.pointer pv, .agg (penc m[k]).toArray] w2 fun e w' => WrA X w.heap.size (.pointer pv) ((wsAt m k).put (m[k]).put) w2 e w') := put_c X _ _ _ m[k] w w2 (X.wkeep HWX.out hb2) (HG.out _ (List.getElem_mem hkl)) hb2x (Nat.le_refl _) (by rw [← wsAt_succ m k hkl]; exact X.capmono HCAP.out (wsAt_len m (k + 1)))
      have HS := Lib.hid (wsAt_succ m k hkl)
      rw [← HS.out] at HPC
      have HB2 := Lib.hid hb2x
      clear hb2 hb2x HWX HBX
      unfold penc at HPC
      go_wp2_with (go_at_call 27; refine HPC.out.mono ?_; rintro e w' ⟨rfl, h1, h2⟩)
      go_roundg g
      case measure => omega
      case rel =>
        have hlm := HLM.out
        refine ⟨k + 1, ?_, ?_, h1, HB2.out.trans h2⟩
        · omega
        · go_num
end Go.Proofs.YtpffebcaalbhjaaDoor.wir
