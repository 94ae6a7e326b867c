/- GrantOnce. Conditions: the package's tables, what slices and texts are. -/
import Derived.Test.YthagdkipipldlaaGreatDoorGrs
import Derived.Test.YthagdkipipldlaaGreatDoorGrt
import Derived.Test.YthagdkipipldlaaGreatDoorGru
namespace Go.Proofs.YthagdkipipldlaaGreatDoor.gra
open Go.RowKit
open Go.Proofs.YthagdkipipldlaaGreatDoor.oct Go.Proofs.YthagdkipipldlaaGreatDoor.ref Go.Proofs.YthagdkipipldlaaGreatDoor.rows Go.Proofs.YthagdkipipldlaaGreatDoor.rowg Go.Proofs.YthagdkipipldlaaGreatDoor.mpt Go.Proofs.YthagdkipipldlaaGreatDoor.trn Go.Proofs.YthagdkipipldlaaGreatDoor.krd
open Go.Proofs.YthagdkipipldlaaGreatDoor.sha (Tabs)
open Go.Proofs.YthagdkipipldlaaGreatDoor.scp (tx senc senc_len senc_one InS ins_below ins_cell ins_one lt Lst lval lenc GoodL FitS RowA own_good)

theorem room_place (a : Int) : ∃ k : Nat, wrap64 ((IntKind.u64.wrap a).tmod 256) = (k : Int) ∧ k < 256 := by
  have h2 : 0 ≤ IntKind.u64.wrap a := by rw [IntKind.wrap_u64]; omega
  rw [Int.tmod_eq_emod_of_nonneg h2]
  have h3 := Int.emod_nonneg (IntKind.u64.wrap a) (show (256 : Int) ≠ 0 by omega)
  have h4 := Int.emod_lt_of_pos (IntKind.u64.wrap a) (show (0 : Int) < 256 by omega)
  generalize IntKind.u64.wrap a % 256 = r at h3 h4
  exact ⟨r.toNat, by unfold wrap64; omega, by omega⟩
theorem groom_c (n : Int) (w : World) : Calls Tryz.prog 15 #[.int .i64 n] w fun e w' => ∃ r : Nat, 1 ≤ r ∧ r ≤ 256 ∧ e = .returned (.int .i64 (r : Nat)) ∧ w' = w := by
  obtain ⟨k, hk, hk2⟩ := room_place n
  have HK := Lib.hid hk2
  have h1 : wrap64 (1 + (k : Int)) = ((k + 1 : Nat) : Int) := by unfold wrap64; omega
  clear hk2
  go_enter Tryz.func15, Tryz.ntmps15
  go_wp2_with fail
  go_ret
  refine ⟨k + 1, by omega, by have := HK.out; omega, ?_, rfl⟩
  rw [← h1]
  rfl
set_option maxRecDepth 100000 in
set_option maxHeartbeats 16000000 in
theorem law_once (n : Int) (P : Option Addr) (C : Nat) (xs : List CM) (id : T) (w : World) (hp : InG cenc 13 w P xs) (hg : ∀ x ∈ xs, GoodC w x) (hid : id.length ≤ 140737488351232) (ht : Tabs w) :
    Calls Tryz.prog 5 #[.int .i64 n, .slice P xs.length C, .string ⟨id.toArray⟩] w fun e w' => e = .returned (.bool true) ∧ Below w.heap.size w w' := by
  have HT := Lib.hid ht
  have HP := Lib.hid hp
  have HG := Lib.hid hg
  have HID := Lib.hid hid
  have HRM := Lib.hid (groom_c n w)
  obtain ⟨N, hN⟩ : ∃ N, xs.length = N := ⟨_, rfl⟩
  have HN := Lib.hid hN
  rw [hN]
  clear ht hp hg hid hN
  go_enter Tryz.func5, Tryz.ntmps5
  go_wp2_with (go_at_call 15; (with_reducible refine HRM.out.mono ?_); rintro e w1 ⟨room, hr1, hr2, rfl, hw1⟩; obtain rfl : w = w1 := hw1.symm)
  refine (new_c room w hr1 hr2).mono ?_
  rintro e w1 hn
  obtain ⟨gB, R1, rfl, hL1⟩ := LW.start (Below.refl w.heap.size w) hn
  have HL1 := Lib.hid hL1
  clear hn hL1 HRM hr1 hr2
  go_wp2_with fail
  obtain ⟨M, hM⟩ : ∃ M, min N 60 = M := ⟨_, rfl⟩
  have HM := Lib.hid hM
  clear hM
  unfold dptr
  go_loopg [9, 10, 11, 12] M (fun g s9 s10 s11 s12 wx => ∃ k : Nat, k + g = M ∧ s12 = .int .i64 k ∧ ∃ gr fa cl R l, s9 = .bool gr ∧ s10 = .bool fa ∧ s11 = .string ⟨cl.toArray⟩ ∧ Hid (LW w wx R gB room l ∧ OI gr fa cl (getG l id)))
  case atStart => exact ⟨0, by omega, rfl, false, false, [], R1, [], rfl, rfl, rfl, Lib.hid ⟨HL1.out, OI.start _ _⟩⟩
  case round =>
    clear HL1
    obtain ⟨k, hkg, rfl, gr, fa, cl, R, l, rfl, rfl, rfl, HI⟩ := hrel
    rcases gk with _ | g
    · obtain rfl : k = M := by omega
      have HKN := Lib.hid (gknown_c wr (HT.out.below HI.out.1.bel))
      have HBL := Lib.hid HI.out.1.bel
      have hk2 : k = N ∨ (k < N ∧ k = 60) := by have := HM.out; omega
      clear HI
      rcases hk2 with rfl | ⟨h1, rfl⟩
      · have t1 : ¬ (k : Int) < (k : Int) := by omega
        go_wp2_with (go_at_call 13; (with_reducible refine HKN.out.mono ?_); rintro e w3 ⟨rfl, hb3⟩; have HB3 := Lib.hid hb3; clear hb3)
        go_ret
        exact ⟨rfl, bnext HBL.out HB3.out⟩
      · have t1 : ((60 : Nat) : Int) < (N : Int) := by omega
        have t2 : ¬ ((60 : Nat) : Int) < 60 := by omega
        go_wp2_with (go_at_call 13; (with_reducible refine HKN.out.mono ?_); rintro e w3 ⟨rfl, hb3⟩; have HB3 := Lib.hid hb3; clear hb3)
        go_ret
        exact ⟨rfl, bnext HBL.out HB3.out⟩
    · have hk : k < xs.length := by rw [HN.out]; have := HM.out; omega
      have t1 : (k : Int) < (N : Int) := by rw [← HN.out]; omega
      have t2 : (k : Int) < 60 := by have := HM.out; omega
      have hgx := HG.out _ (List.getElem_mem hk)
      obtain ⟨b, o, hPb, hcc⟩ := InG.cells (HP.out.below cenc_len (by decide) HI.out.1.bel) k hk
      obtain ⟨x, hx⟩ : ∃ x, xs[k] = x := ⟨_, rfl⟩
      rw [hx] at hgx hcc
      have d0 : wr.cell? ⟨b, o + k * 13, none⟩ = some (.int .i64 x.c.kind) := hcc 0 (by decide)
      have d1 : wr.cell? ⟨b, o + k * 13 + 1, none⟩ = some (.string ⟨x.c.fam.toArray⟩) := hcc 1 (by decide)
      have d2 : wr.cell? ⟨b, o + k * 13 + 2, none⟩ = some (.int .i64 x.c.ser) := hcc 2 (by decide)
      have d3 : wr.cell? ⟨b, o + k * 13 + 3, none⟩ = some (.int .i64 x.c.tok) := hcc 3 (by decide)
      have d4 : wr.cell? ⟨b, o + k * 13 + 4, none⟩ = some (.string ⟨x.c.cl.toArray⟩) := hcc 4 (by decide)
      have d5 : wr.cell? ⟨b, o + k * 13 + 5, none⟩ = some (.string ⟨x.c.us.toArray⟩) := hcc 5 (by decide)
      have d6 : wr.cell? ⟨b, o + k * 13 + 6, none⟩ = some (.slice x.p x.c.sc.length x.r) := hcc 6 (by decide)
      have d7 : wr.cell? ⟨b, o + k * 13 + 7, none⟩ = some (.string ⟨x.c.re.toArray⟩) := hcc 7 (by decide)
      have d8 : wr.cell? ⟨b, o + k * 13 + 8, none⟩ = some (.string ⟨x.c.ch.toArray⟩) := hcc 8 (by decide)
      have d9 : wr.cell? ⟨b, o + k * 13 + 9, none⟩ = some (.string ⟨x.c.me.toArray⟩) := hcc 9 (by decide)
      have d10 : wr.cell? ⟨b, o + k * 13 + 10, none⟩ = some (.string ⟨x.c.ve.toArray⟩) := hcc 10 (by decide)
      have d11 : wr.cell? ⟨b, o + k * 13 + 11, none⟩ = some (.bool x.c.rf) := hcc 11 (by decide)
      have d12 : wr.cell? ⟨b, o + k * 13 + 12, none⟩ = some (.int .i64 x.c.edge) := hcc 12 (by decide)
      have HGX := Lib.hid hgx
      subst hPb
      clear hcc hgx hx hk
      go_upto_region 3 with fail
      have hb1 : Below wr.heap.size wr (wr.alloc (.cells (cenc x).toArray 48)) := (Below.refl _ _).alloc (Nat.le_refl _) _
      have hC : Blk (wr.alloc (.cells (cenc x).toArray 48)) wr.heap.size 48 (cenc x) := blk_new wr _ _ _ rfl
      have hnR : ¬ R wr.heap.size := fun h => absurd (HI.out.1.ba.lt _ h) (Nat.lt_irrefl _)
      clear d0 d1 d2 d3 d4 d5 d6 d7 d8 d9 d10 d11 d12
      refine (lw_doIn (HI.out.1.below hb1) HT.out x HGX.out).mono ?_
      rintro e w2 ⟨R2, p2, q2, rfl, _, _, hL2, hT2, hG2⟩
      have hC2 := blk_turn hC hT2 hnR
      have hbt := HI.out.1.ba.bt
      obtain ⟨r, hr⟩ : ∃ r, doG room l x.c = r := ⟨_, rfl⟩
      rw [hr] at hL2 ⊢
      obtain ⟨l2, why, acc, ref, asc, acl, aus, act, wait⟩ := r
      rw [show ansv (l2, (⟨why, acc, ref, asc, acl, aus, act, wait⟩ : AT)).2 p2 q2 = .agg #[.int .i64 why, .int .i64 acc, .int .i64 ref, .slice p2 asc.length q2, .string ⟨acl.toArray⟩, .string ⟨aus.toArray⟩, .bool act, .bool wait] from rfl]
      have hL2' : LW w w2 R2 gB room l2 := hL2
      have hI := HI.out.2
      have HB2 := Lib.hid (And.intro hC2 hL2')
      have HRB := Lib.hid (And.intro hr (And.intro hbt hI))
      clear hT2 hG2 hC hC2 hL2 hL2' hb1 hnR hbt hr hI HI
      have hb3 : Below w2.heap.size w2 (w2.alloc (.cells #[.int .i64 why, .int .i64 acc, .int .i64 ref, .slice p2 asc.length q2, .string ⟨acl.toArray⟩, .string ⟨aus.toArray⟩, .bool act, .bool wait] 59)) := (Below.refl _ _).alloc (Nat.le_refl _) _
      have hA : Blk (w2.alloc (.cells #[.int .i64 why, .int .i64 acc, .int .i64 ref, .slice p2 asc.length q2, .string ⟨acl.toArray⟩, .string ⟨aus.toArray⟩, .bool act, .bool wait] 59)) w2.heap.size 59 [.int .i64 why, .int .i64 acc, .int .i64 ref, .slice p2 asc.length q2, .string ⟨acl.toArray⟩, .string ⟨aus.toArray⟩, .bool act, .bool wait] := blk_new w2 _ _ _ rfl
      have hC3 := HB2.out.1.below hb3
      have hL3 := HB2.out.2.below hb3
      have HL3 := Lib.hid hL3
      have HC3 := Lib.hid hC3
      have HA3 := Lib.hid hA
      obtain ⟨c0, c1, c2, c3, c4, c5, c6, c7, c8, c9, c10, c11, c12⟩ := cmd_cells hC3
      have hmay := (may_c x (w2.alloc (.cells #[.int .i64 why, .int .i64 acc, .int .i64 ref, .slice p2 asc.length q2, .string ⟨acl.toArray⟩, .string ⟨aus.toArray⟩, .bool act, .bool wait] 59)) (HGX.out.below hL3.bel))
      rw [show cval x = .agg #[.int .i64 x.c.kind, .string ⟨x.c.fam.toArray⟩, .int .i64 x.c.ser, .int .i64 x.c.tok, .string ⟨x.c.cl.toArray⟩, .string ⟨x.c.us.toArray⟩, .slice x.p x.c.sc.length x.r, .string ⟨x.c.re.toArray⟩, .string ⟨x.c.ch.toArray⟩, .string ⟨x.c.me.toArray⟩, .string ⟨x.c.ve.toArray⟩, .bool x.c.rf, .int .i64 x.c.edge] from rfl] at hmay
      have HMAY := Lib.hid hmay
      clear hmay
      by_cases hd : x.c.fam = id
      · have y1 : (x.c.fam == id) = true := by rw [beq_iff_eq]; exact hd
        cases hm : mayG x.c with
        | false =>
          have HO : Hid (OI gr fa cl (getG l2 id)) := Lib.hid (by
            have h := once_skip (id := id) (c := x.c) HRB.out.2.1 HRB.out.2.2 (Or.inr hm)
            rw [HRB.out.1] at h
            exact h)
          rw [hm] at HMAY
          clear hb3 hA hC3 hL3 hd hm
          go_wp2_with (first
            | (go_at_call 25; (with_reducible refine HMAY.out.mono ?_); rintro e w4 ⟨rfl, hb4⟩; have k0 := (HC3.out.below hb4).cell 0; have k4 := (HC3.out.below hb4).cell 4; have a0 := (HA3.out.below hb4).cell 0; have a1 := (HA3.out.below hb4).cell 1; have a6 := (HA3.out.below hb4).cell 6; have HL4 := Lib.hid (HL3.out.below hb4); unfold cenc tx at k0 k4; clear hb4)
            | fail)
          go_roundg g
          case measure => omega
          case rel => exact ⟨k + 1, by omega, by go_num, gr, fa, cl, R2, l2, rfl, rfl, rfl, Lib.hid ⟨HL4.out, HO.out⟩⟩
        | true =>
          rw [hm] at HMAY
          have F0 : Hid (x.c.kind ≠ 7 → OI gr fa cl (getG l2 id)) := Lib.hid (fun hk => by
            have h := once_keep HRB.out.2.1 HRB.out.2.2 hm hd hk
            rw [HRB.out.1] at h
            exact h)
          have F7 : Hid (x.c.kind = 7 → ∀ f, getG l2 id = some f → OI gr fa cl (getG l2 id)) := Lib.hid (fun hk f hf => by
            have h := once_seven (f := f) HRB.out.2.1 HRB.out.2.2 hm hd hk (by rw [HRB.out.1]; exact hf)
            rw [HRB.out.1] at h
            exact h)
          have F2 : Hid (x.c.kind = 2 → why = 0 → gr = false ∧ acc = 1 ∧ OI true fa x.c.cl (getG l2 id)) := Lib.hid (fun hk hw => by
            have h := once_grant HRB.out.2.1 HRB.out.2.2 hm hd hk (by rw [HRB.out.1]; exact hw)
            rw [HRB.out.1] at h
            exact h)
          have F2b : Hid (x.c.kind = 2 → gr = true → x.c.cl = cl → why = 3 ∧ OI gr true cl (getG l2 id)) := Lib.hid (fun hk hg hc => by
            have h := once_again HRB.out.2.1 HRB.out.2.2 hm hd hk hg hc
            rw [HRB.out.1] at h
            exact h)
          have F6 : Hid (x.c.kind = 6 → fa = true → act = false) := Lib.hid (fun hk hf => by
            have h := once_look HRB.out.2.1 HRB.out.2.2 hm hd hk hf
            rw [HRB.out.1] at h
            exact h)
          have F3 : Hid (x.c.kind = 3 → fa = true → why = 3) := Lib.hid (fun hk hf => by
            have h := once_renew HRB.out.2.1 HRB.out.2.2 hm hd hk hf
            rw [HRB.out.1] at h
            exact h)
          clear hb3 hA hC3 hL3 hd hm
          by_cases hk7 : x.c.kind = 7
          · have p7 : (x.c.kind == 7) = true := by rw [beq_iff_eq]; exact hk7
            have HFAM : Hid (∀ W, Below (w2.alloc (.cells #[.int .i64 why, .int .i64 acc, .int .i64 ref, .slice p2 asc.length q2, .string ⟨acl.toArray⟩, .string ⟨aus.toArray⟩, .bool act, .bool wait] 59)).heap.size (w2.alloc (.cells #[.int .i64 why, .int .i64 acc, .int .i64 ref, .slice p2 asc.length q2, .string ⟨acl.toArray⟩, .string ⟨aus.toArray⟩, .bool act, .bool wait] 59)) W → Calls Tryz.prog 21 #[.pointer (some ⟨gB, 0, none⟩), .string ⟨id.toArray⟩] W fun e w' => FamA W w' (getG l2 id) e) := Lib.hid (fun W hW => by
              obtain ⟨m, D, fl, hM, hl, hall⟩ := (HL3.out.below hW).ba
              have h := family_c hM hall id HID.out
              rw [hl] at h
              exact h)
            cases hgl : getG l2 id with
            | none =>
              have HFN : Hid (∀ W, Below (w2.alloc (.cells #[.int .i64 why, .int .i64 acc, .int .i64 ref, .slice p2 asc.length q2, .string ⟨acl.toArray⟩, .string ⟨aus.toArray⟩, .bool act, .bool wait] 59)).heap.size (w2.alloc (.cells #[.int .i64 why, .int .i64 acc, .int .i64 ref, .slice p2 asc.length q2, .string ⟨acl.toArray⟩, .string ⟨aus.toArray⟩, .bool act, .bool wait] 59)) W → Calls Tryz.prog 21 #[.pointer (some ⟨gB, 0, none⟩), .string ⟨id.toArray⟩] W fun e w' => e = .returned (.tuple #[.agg #[.string ⟨#[]⟩, .string ⟨#[]⟩, .string ⟨#[]⟩, .slice none 0 0, .string ⟨#[]⟩, .string ⟨#[]⟩, .string ⟨#[]⟩, .int .i64 0, .slice none 0 0, .bool false, .slice none 0 0], .bool false]) ∧ Below W.heap.size W w') := Lib.hid (fun W hW => by
                have h := HFAM.out W hW
                rw [hgl] at h
                exact h)
              have HOS : Hid (OI false false [] (getG l2 id)) := Lib.hid (OI.start _ _)
              clear hk7 HFAM hgl
              go_wp2_with (first
                | (go_at_call 25; (with_reducible refine HMAY.out.mono ?_); rintro e w4 ⟨rfl, hb4⟩; have k0 := (HC3.out.below hb4).cell 0; have HL4 := Lib.hid (HL3.out.below hb4); have HB4 := Lib.hid hb4; unfold cenc tx at k0; clear hb4)
                | (go_at_call 21; (with_reducible refine (HFN.out _ HB4.out).mono ?_); rintro e w5 ⟨rfl, hb5⟩; have HL5 := Lib.hid (HL4.out.below hb5); clear hb5)
                | fail)
              go_roundg g
              case measure => omega
              case rel => exact ⟨k + 1, by omega, by go_num, false, false, [], R2, l2, rfl, rfl, rfl, Lib.hid ⟨HL5.out.below ((Below.refl _ _).alloc (Nat.le_refl _) _), HOS.out⟩⟩
            | some f0 =>
              have HFS : Hid (∀ W, Below (w2.alloc (.cells #[.int .i64 why, .int .i64 acc, .int .i64 ref, .slice p2 asc.length q2, .string ⟨acl.toArray⟩, .string ⟨aus.toArray⟩, .bool act, .bool wait] 59)).heap.size (w2.alloc (.cells #[.int .i64 why, .int .i64 acc, .int .i64 ref, .slice p2 asc.length q2, .string ⟨acl.toArray⟩, .string ⟨aus.toArray⟩, .bool act, .bool wait] 59)) W → Calls Tryz.prog 21 #[.pointer (some ⟨gB, 0, none⟩), .string ⟨id.toArray⟩] W fun e w' => ∃ S0 S1 S2 P3 n3 C3 S4 S5 S6 k7 P8 n8 C8 b9 P10 n10 C10, e = .returned (.tuple #[.agg #[.string S0, .string S1, .string S2, .slice P3 n3 C3, .string S4, .string S5, .string S6, .int .i64 k7, .slice P8 n8 C8, .bool b9, .slice P10 n10 C10], .bool true]) ∧ Below W.heap.size W w') := Lib.hid (fun W hW => by
                have h := HFAM.out W hW
                rw [hgl] at h
                refine h.mono ?_
                rintro e w' ⟨⟨_, _, _, _, ⟨_, _, _⟩, _, _, _, _, _, _, _, _, _, _, _⟩, he, _, _, hb⟩
                exact ⟨_, _, _, _, _, _, _, _, _, _, _, _, _, _, _, _, _, he, hb⟩)
              have HOS : Hid (OI gr fa cl (getG l2 id)) := Lib.hid (F7.out hk7 f0 hgl)
              clear hk7 HFAM hgl
              go_wp2_with (first
                | (go_at_call 25; (with_reducible refine HMAY.out.mono ?_); rintro e w4 ⟨rfl, hb4⟩; have k0 := (HC3.out.below hb4).cell 0; have HL4 := Lib.hid (HL3.out.below hb4); have HB4 := Lib.hid hb4; unfold cenc tx at k0; clear hb4)
                | (go_at_call 21; (with_reducible refine (HFS.out _ HB4.out).mono ?_); rintro e w5 ⟨S0, S1, S2, P3, n3, C3, S4, S5, S6, k7, P8, n8, C8, b9, P10, n10, C10, rfl, hb5⟩; have HL5 := Lib.hid (HL4.out.below hb5); clear hb5)
                | fail)
              go_roundg g
              case measure => omega
              case rel => exact ⟨k + 1, by omega, by go_num, gr, fa, cl, R2, l2, rfl, rfl, rfl, Lib.hid ⟨HL5.out.below ((Below.refl _ _).alloc (Nat.le_refl _) _), HOS.out⟩⟩
          have p7 : (x.c.kind == 7) = false := by rw [beq_eq_false_iff_ne]; exact hk7
          have HO := Lib.hid (F0.out hk7)
          by_cases hk2 : x.c.kind = 2
          · have p2 : (x.c.kind == 2) = true := by rw [beq_iff_eq]; exact hk2
            have p6 : (x.c.kind == 6) = false := by rw [beq_eq_false_iff_ne]; omega
            have p3 : (x.c.kind == 3) = false := by rw [beq_eq_false_iff_ne]; omega
            by_cases hw0 : why = 0
            · obtain ⟨hg, ha, ho⟩ := F2.out hk2 hw0
              subst hw0 hg ha
              have HO2 := Lib.hid ho
              clear hk2 hk7 ho
              go_wp2_with (first
                | (go_at_call 25; (with_reducible refine HMAY.out.mono ?_); rintro e w4 ⟨rfl, hb4⟩; have k0 := (HC3.out.below hb4).cell 0; have k4 := (HC3.out.below hb4).cell 4; have a0 := (HA3.out.below hb4).cell 0; have a1 := (HA3.out.below hb4).cell 1; have a6 := (HA3.out.below hb4).cell 6; have HL4 := Lib.hid (HL3.out.below hb4); unfold cenc tx at k0 k4; clear hb4)
                | fail)
              go_quiet (fail)
              simp only [Exit.inBlock, Exit.then]
              first
                | (go_step3; go_roundg g)
                | (go_wp2_with fail; go_roundg g)
                | (refine ‹∀ (a' : Act) (w' : World), Handed _ (g + 1) a' w' → _› _ _ ?_; go_roundg g)
                | (trace_state; go_roundg g)
              case measure => omega
              case rel => exact ⟨k + 1, by omega, by go_num, true, fa, x.c.cl, R2, l2, rfl, rfl, rfl, Lib.hid ⟨HL4.out.below (below_drewN (Below.refl _ _) nq), HO2.out⟩⟩
            · have e0 : (why == 0) = false := by rw [beq_eq_false_iff_ne]; exact hw0
              cases gr with
              | false =>
                clear hk2 hk7 hw0
                go_wp2_with (first
                  | (go_at_call 25; (with_reducible refine HMAY.out.mono ?_); rintro e w4 ⟨rfl, hb4⟩; have k0 := (HC3.out.below hb4).cell 0; have k4 := (HC3.out.below hb4).cell 4; have a0 := (HA3.out.below hb4).cell 0; have a1 := (HA3.out.below hb4).cell 1; have a6 := (HA3.out.below hb4).cell 6; have HL4 := Lib.hid (HL3.out.below hb4); unfold cenc tx at k0 k4; clear hb4)
                  | fail)
                go_roundg g
                case measure => omega
                case rel => exact ⟨k + 1, by omega, by go_num, false, fa, cl, R2, l2, rfl, rfl, rfl, Lib.hid ⟨HL4.out, HO.out⟩⟩
              | true =>
                by_cases hc : x.c.cl = cl
                · have y2 : (x.c.cl == cl) = true := by rw [beq_iff_eq]; exact hc
                  obtain ⟨ha, ho⟩ := F2b.out hk2 rfl hc
                  subst ha
                  have HO2 := Lib.hid ho
                  clear hk2 hk7 hw0 ho hc
                  go_wp2_with (first
                    | (go_at_call 25; (with_reducible refine HMAY.out.mono ?_); rintro e w4 ⟨rfl, hb4⟩; have k0 := (HC3.out.below hb4).cell 0; have k4 := (HC3.out.below hb4).cell 4; have a0 := (HA3.out.below hb4).cell 0; have a1 := (HA3.out.below hb4).cell 1; have a6 := (HA3.out.below hb4).cell 6; have HL4 := Lib.hid (HL3.out.below hb4); unfold cenc tx at k0 k4; clear hb4)
                    | fail)
                  go_roundg g
                  case measure => omega
                  case rel => exact ⟨k + 1, by omega, by go_num, true, true, cl, R2, l2, rfl, rfl, rfl, Lib.hid ⟨HL4.out, HO2.out⟩⟩
                · have y2 : (x.c.cl == cl) = false := by rw [beq_eq_false_iff_ne]; exact hc
                  clear hk2 hk7 hw0 hc
                  go_wp2_with (first
                    | (go_at_call 25; (with_reducible refine HMAY.out.mono ?_); rintro e w4 ⟨rfl, hb4⟩; have k0 := (HC3.out.below hb4).cell 0; have k4 := (HC3.out.below hb4).cell 4; have a0 := (HA3.out.below hb4).cell 0; have a1 := (HA3.out.below hb4).cell 1; have a6 := (HA3.out.below hb4).cell 6; have HL4 := Lib.hid (HL3.out.below hb4); unfold cenc tx at k0 k4; clear hb4)
                    | fail)
                  go_roundg g
                  case measure => omega
                  case rel => exact ⟨k + 1, by omega, by go_num, true, fa, cl, R2, l2, rfl, rfl, rfl, Lib.hid ⟨HL4.out, HO.out⟩⟩
          have p2 : (x.c.kind == 2) = false := by rw [beq_eq_false_iff_ne]; exact hk2
          by_cases hk6 : x.c.kind = 6
          · have p6 : (x.c.kind == 6) = true := by rw [beq_iff_eq]; exact hk6
            have p3 : (x.c.kind == 3) = false := by rw [beq_eq_false_iff_ne]; omega
            cases fa with
            | false =>
              clear hk2 hk7 hk6
              go_wp2_with (first
                | (go_at_call 25; (with_reducible refine HMAY.out.mono ?_); rintro e w4 ⟨rfl, hb4⟩; have k0 := (HC3.out.below hb4).cell 0; have k4 := (HC3.out.below hb4).cell 4; have a0 := (HA3.out.below hb4).cell 0; have a1 := (HA3.out.below hb4).cell 1; have a6 := (HA3.out.below hb4).cell 6; have HL4 := Lib.hid (HL3.out.below hb4); unfold cenc tx at k0 k4; clear hb4)
                | fail)
              go_roundg g
              case measure => omega
              case rel => exact ⟨k + 1, by omega, by go_num, gr, false, cl, R2, l2, rfl, rfl, rfl, Lib.hid ⟨HL4.out, HO.out⟩⟩
            | true =>
              have ha := F6.out hk6 rfl
              subst ha
              clear hk2 hk7 hk6
              go_wp2_with (first
                | (go_at_call 25; (with_reducible refine HMAY.out.mono ?_); rintro e w4 ⟨rfl, hb4⟩; have k0 := (HC3.out.below hb4).cell 0; have k4 := (HC3.out.below hb4).cell 4; have a0 := (HA3.out.below hb4).cell 0; have a1 := (HA3.out.below hb4).cell 1; have a6 := (HA3.out.below hb4).cell 6; have HL4 := Lib.hid (HL3.out.below hb4); unfold cenc tx at k0 k4; clear hb4)
                | fail)
              go_roundg g
              case measure => omega
              case rel => exact ⟨k + 1, by omega, by go_num, gr, true, cl, R2, l2, rfl, rfl, rfl, Lib.hid ⟨HL4.out, HO.out⟩⟩
          have p6 : (x.c.kind == 6) = false := by rw [beq_eq_false_iff_ne]; exact hk6
          by_cases hk3 : x.c.kind = 3
          · have p3 : (x.c.kind == 3) = true := by rw [beq_iff_eq]; exact hk3
            cases fa with
            | false =>
              clear hk2 hk7 hk6 hk3
              go_wp2_with (first
                | (go_at_call 25; (with_reducible refine HMAY.out.mono ?_); rintro e w4 ⟨rfl, hb4⟩; have k0 := (HC3.out.below hb4).cell 0; have k4 := (HC3.out.below hb4).cell 4; have a0 := (HA3.out.below hb4).cell 0; have a1 := (HA3.out.below hb4).cell 1; have a6 := (HA3.out.below hb4).cell 6; have HL4 := Lib.hid (HL3.out.below hb4); unfold cenc tx at k0 k4; clear hb4)
                | fail)
              go_roundg g
              case measure => omega
              case rel => exact ⟨k + 1, by omega, by go_num, gr, false, cl, R2, l2, rfl, rfl, rfl, Lib.hid ⟨HL4.out, HO.out⟩⟩
            | true =>
              have ha := F3.out hk3 rfl
              subst ha
              clear hk2 hk7 hk6 hk3
              go_wp2_with (first
                | (go_at_call 25; (with_reducible refine HMAY.out.mono ?_); rintro e w4 ⟨rfl, hb4⟩; have k0 := (HC3.out.below hb4).cell 0; have k4 := (HC3.out.below hb4).cell 4; have a0 := (HA3.out.below hb4).cell 0; have a1 := (HA3.out.below hb4).cell 1; have a6 := (HA3.out.below hb4).cell 6; have HL4 := Lib.hid (HL3.out.below hb4); unfold cenc tx at k0 k4; clear hb4)
                | fail)
              go_roundg g
              case measure => omega
              case rel => exact ⟨k + 1, by omega, by go_num, gr, true, cl, R2, l2, rfl, rfl, rfl, Lib.hid ⟨HL4.out, HO.out⟩⟩
          have p3 : (x.c.kind == 3) = false := by rw [beq_eq_false_iff_ne]; exact hk3
          clear hk2 hk7 hk6 hk3
          go_wp2_with (first
            | (go_at_call 25; (with_reducible refine HMAY.out.mono ?_); rintro e w4 ⟨rfl, hb4⟩; have k0 := (HC3.out.below hb4).cell 0; have k4 := (HC3.out.below hb4).cell 4; have a0 := (HA3.out.below hb4).cell 0; have a1 := (HA3.out.below hb4).cell 1; have a6 := (HA3.out.below hb4).cell 6; have HL4 := Lib.hid (HL3.out.below hb4); unfold cenc tx at k0 k4; clear hb4)
            | fail)
          go_roundg g
          case measure => omega
          case rel => exact ⟨k + 1, by omega, by go_num, gr, fa, cl, R2, l2, rfl, rfl, rfl, Lib.hid ⟨HL4.out, HO.out⟩⟩
      · have HO : Hid (OI gr fa cl (getG l2 id)) := Lib.hid (by
          have h := once_skip (c := x.c) HRB.out.2.1 HRB.out.2.2 (Or.inl hd)
          rw [HRB.out.1] at h
          exact h)
        have y1 : (x.c.fam == id) = false := by rw [beq_eq_false_iff_ne]; exact hd
        clear hb3 hA hC3 hL3 hd
        go_wp2_with fail
        go_roundg g
        case measure => omega
        case rel => exact ⟨k + 1, by omega, by go_num, gr, fa, cl, R2, l2, rfl, rfl, rfl, Lib.hid ⟨HL3.out, HO.out⟩⟩
end Go.Proofs.YthagdkipipldlaaGreatDoor.gra
