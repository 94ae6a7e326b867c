/- WireBack by WApi. -/
import Derived.Test.YtpffebcaalbhjaaDoorWirLc
namespace Go.Proofs.YtpffebcaalbhjaaDoor.wir
open Go.RowKit
open Go.Proofs.YtpffebcaalbhjaaDoor.oct Go.Proofs.YtpffebcaalbhjaaDoor.ref Go.Proofs.YtpffebcaalbhjaaDoor.rows Go.Proofs.YtpffebcaalbhjaaDoor.rowg
open Go.Lib (byteCells)

set_option maxRecDepth 100000 in
set_option maxHeartbeats 16000000 in
theorem law_back {T' : World → Prop} {Cap : Nat → Prop} (X : WApi T' Cap) (P : Option Addr) (C : Nat) (l0 : List PutA) (w : World) (hp : InP w P l0) (hg : ∀ x ∈ l0, GoodP w x) (hC : l0.length ≤ C) (hc : Cap (bytesB ((l0.take 400).map PutA.put)).length) (hc7 : Cap 7) (ht : T' w) :
    Calls Tryd.prog 6 #[.slice P l0.length C] w fun e w' => e = .returned (.bool true) ∧ Below w.heap.size w w' := by
  have HF := Lib.hid (few_c P C l0 w hC)
  have hlm : (l0.take 400).length ≤ 400 := by rw [List.length_take]; omega
  have hp4 := inp_take hp 400
  have hg4 : ∀ x ∈ l0.take 400, GoodP w x := fun x hx => hg x (List.mem_of_mem_take hx)
  obtain ⟨l, hm⟩ : ∃ l, l0.take 400 = l := ⟨_, rfl⟩
  rw [hm] at HF hlm hp4 hg4 hc
  have HP := Lib.hid hp4
  have HG := Lib.hid hg4
  have HW := Lib.hid (write_c X P C l w ht hp4 hg4 hlm hc)
  have HK := Lib.hid (fun w1 (hb : Below w.heap.size w w1) => wknown_c X w1 (X.tbelow _ _ ht hb) hc7)
  have HT := Lib.hid (fun w1 (hb : Below w.heap.size w w1) => X.tbelow _ _ ht hb)
  have HWO := Lib.hid (fun (h : (writeT (l.map PutA.put)).1 = 0) => write_ok h)
  have HWN := Lib.hid (fun (h : (writeT (l.map PutA.put)).1 ≠ 0) => write_no h)
  obtain ⟨r, hr⟩ : ∃ r, writeT (l.map PutA.put) = r := ⟨_, rfl⟩
  rw [hr] at HW HWO HWN
  obtain ⟨q, t⟩ := r
  dsimp only at HWO HWN
  clear hr hp hg hp4 hg4 hm hc hc7 ht hC
  go_enter Tryd.func6, Tryd.ntmps6
  go_wp2_with (go_at_call 11; refine HF.out.mono ?_; rintro e w' ⟨rfl, rfl⟩)
  refine HW.out.mono ?_
  clear HW HF
  rintro e w1 ⟨v1, rfl, ho1, hb1⟩
  dsimp only at ho1 ⊢
  obtain ⟨p1, c1, rfl, h81, hn1, hc1⟩ := own_arg ho1
  have H81 := Lib.hid h81
  have HB1 := Lib.hid hb1
  have HK1 := Lib.hid (HK.out w1 hb1)
  have HN1 := Lib.hid hn1
  have HC1 := Lib.hid hc1
  clear ho1 h81 hb1 hn1 hc1
  go_wp2_with fail
  refine HK1.out.mono ?_
  clear HK1
  rintro e w2 ⟨rfl, hb2⟩
  have HB2 := Lib.hid (bnext HB1.out hb2)
  have H82 : Hid (In8 w2 p1 t) := H81.out.below hb2
  clear hb2 H81 HB1
  by_cases hq : q = 0
  · subst hq
    obtain ⟨hbad, hlen, htt⟩ := HWO.out rfl
    injection htt with _ htt
    subst htt
    have HBAD := Lib.hid hbad
    have HLEN := Lib.hid hlen
    have HNR := Lib.hid (X.rnew p1 c1 _ w2 (HT.out w2 HB2.out) H82.out HN1.out HC1.out (by rw [frameT_len]; omega))
    rw [open_frame hlen, frame_tail] at HNR
    have HL0 : Hid ((frameT (bytesB (l.map PutA.put))).length = (frameT (bytesB (l.map PutA.put))).length) := rfl
    obtain ⟨nf, hnf⟩ : ∃ nf, (frameT (bytesB (l.map PutA.put))).length = nf := ⟨_, rfl⟩
    rw [hnf] at HNR ⊢
    clear hbad hlen HWO HWN HN1 HC1 H82 HL0 hnf HK
    go_wp2_with fail
    refine HNR.out.mono ?_
    clear HNR
    rintro e w3 ⟨qa, rfl, hq0, _, hb3⟩
    obtain ⟨hqs, hrd⟩ := hq0 (by first | rfl | trivial)
    obtain ⟨qa, rfl⟩ := Option.isSome_iff_exists.1 hqs
    have HB3 := Lib.hid (bnext HB2.out hb3)
    have HRD := Lib.hid hrd
    have HLO : Hid (w.heap.size ≤ w2.heap.size) := HB2.out.size
    obtain ⟨lo, hlo⟩ : ∃ lo, w2.heap.size = lo := ⟨_, rfl⟩
    obtain ⟨hi, hhi⟩ : ∃ hi, w3.heap.size = hi := ⟨_, rfl⟩
    rw [hlo, hhi] at HRD
    rw [hlo] at HLO
    clear hq0 hqs hrd hb3 HB2 HT hlo hhi
    go_wp2_with fail
    go_loopg [7] l.length (fun g s7 wx => ∃ i : Nat, i + g = l.length ∧ s7 = .int .i64 (i : Int) ∧ X.Rd wx lo hi (.pointer (some qa)) (.ok (bytesB ((l.drop i).map PutA.put))) ∧ Below w.heap.size w wx)
    case atStart => exact ⟨0, by omega, rfl, HRD.out, HB3.out⟩
    case round =>
      clear HRD HB3
      obtain ⟨i, hig, rfl, hrd, hbx⟩ := hrel
      rcases gk with _ | g
      · have hi : ¬ ((i : Int) < (l.length : Int)) := by omega
        have HEN := Lib.hid (X.rend wr hrd)
        have hz : l.drop i = [] := List.drop_eq_nil_of_le (by omega)
        rw [hz] at HEN
        have HE0 : Hid (endS (.ok (bytesB (List.map PutA.put []))) = 0) := rfl
        rw [HE0.out] at HEN
        clear hrd hz
        go_wp2_with fail
        refine HEN.out.mono ?_
        rintro e w5 ⟨rfl, hb5⟩
        go_wp2_with fail
        go_ret
        exact ⟨rfl, bnext hbx hb5⟩
      · have hi : (i : Int) < (l.length : Int) := by omega
        have hil : i < l.length := by omega
        obtain ⟨b, o, rfl, c0, c1, c2, c3⟩ := put_cells HP.out i hil
        have hbl := cell_lt c0
        have d0 := (hbx.cell (p := ⟨b, o + i * 4, none⟩) hbl).trans c0
        have d1 := (hbx.cell (p := ⟨b, o + i * 4 + 1, none⟩) hbl).trans c1
        have d2 := (hbx.cell (p := ⟨b, o + i * 4 + 2, none⟩) hbl).trans c2
        have d3 := (hbx.cell (p := ⟨b, o + i * 4 + 3, none⟩) hbl).trans c3
        have HGX := Lib.hid (HG.out _ (List.getElem_mem hil))
        have HRA := Lib.hid (read_at hil HGX.out HBAD.out HLEN.out)
        obtain ⟨x, hx⟩ : ∃ x, l[i] = x := ⟨_, rfl⟩
        rw [hx] at d0 d1 d2 d3 HGX HRA
        obtain ⟨k, n, s, xp, xc, m⟩ := x
        dsimp only at d0 d1 d2 d3 HRA
        clear c0 c1 c2 c3 hbl hx
        by_cases hk : k = 0
        · subst hk

          have hbW := ((Below.refl wr.heap.size wr).alloc (Nat.le_refl _) (.cells #[.int .i64 0, .int .i64 n, .string ⟨s.toArray⟩, .slice xp m.length xc] 43)).alloc (by simp) (.cells #[.int .i64 0, .int .i64 n, .string ⟨#[]⟩, .slice none 0 0] 43)
          have HYB : Hid (Blk ((wr.alloc (.cells #[.int .i64 0, .int .i64 n, .string ⟨s.toArray⟩, .slice xp m.length xc] 43)).alloc (.cells #[.int .i64 0, .int .i64 n, .string ⟨#[]⟩, .slice none 0 0] 43)) (wr.heap.size + 1) 43 [.int .i64 0, .int .i64 n, .string ⟨#[]⟩, .slice none 0 0]) := by
            have h := blk_new (wr.alloc (.cells #[.int .i64 0, .int .i64 n, .string ⟨s.toArray⟩, .slice xp m.length xc] 43)) #[.int .i64 0, .int .i64 n, .string ⟨#[]⟩, .slice none 0 0] 43 _ rfl
            rwa [show (wr.alloc (.cells #[.int .i64 0, .int .i64 n, .string ⟨s.toArray⟩, .slice xp m.length xc] 43)).heap.size = wr.heap.size + 1 by simp] at h
          have HXB : Hid (Blk ((wr.alloc (.cells #[.int .i64 0, .int .i64 n, .string ⟨s.toArray⟩, .slice xp m.length xc] 43)).alloc (.cells #[.int .i64 0, .int .i64 n, .string ⟨#[]⟩, .slice none 0 0] 43)) wr.heap.size 43 [.int .i64 0, .int .i64 n, .string ⟨s.toArray⟩, .slice xp m.length xc]) := blk_old (blk_new wr _ _ _ rfl) _
          have HRD := Lib.hid (rd_below X hrd hbW.drew)
          have HSZ := Lib.hid (X.rsize hrd)
          have HBW : Hid (Below w.heap.size w ((wr.alloc (.cells #[.int .i64 0, .int .i64 n, .string ⟨s.toArray⟩, .slice xp m.length xc] 43)).alloc (.cells #[.int .i64 0, .int .i64 n, .string ⟨#[]⟩, .slice none 0 0] 43)).drew) := (bnext hbx hbW).drew
          have HC := Lib.hid (read_c X (0) _ HRD.out)
          have HSN : Hid (readS (0) (.ok (bytesB ((l.drop i).map PutA.put))) = (PutA.put ⟨0, n, [], none, 0, []⟩, .ok (bytesB ((l.drop (i + 1)).map PutA.put)))) := by
            have h := HRA.out
            exact h
          unfold ReadB at HC
          rw [HSN.out] at HC
          have HGY : Hid (∀ w5, Below w.heap.size w w5 → GoodP w5 ⟨0, n, [], none, 0, []⟩) := fun w5 h5 => ⟨HGX.out.ints, (by simp), ins_none _, fun _ => rfl, Nat.le_refl _, by simp, by simp⟩
          obtain ⟨ST, hST⟩ : ∃ ST, (St.ok (bytesB ((l.drop (i + 1)).map PutA.put))) = ST := ⟨_, rfl⟩
          rw [hST] at HC
          have HST := Lib.hid hST
          clear hbW hST hrd hbx HRA HSN
          go_wp2_with fail
          have t0 := HYB.out.cell 0
          have t1 := HYB.out.cell 1
          have t2 := HYB.out.cell 2
          have t3 := HYB.out.cell 3
          have u0 := HXB.out.cell 0
          have HWS : Hid (((wr.alloc (.cells #[.int .i64 0, .int .i64 n, .string ⟨s.toArray⟩, .slice xp m.length xc] 43)).alloc (.cells #[.int .i64 0, .int .i64 n, .string ⟨#[]⟩, .slice none 0 0] 43)).heap.size = wr.heap.size + 2) := by show _ = _; simp
          obtain ⟨wW, hwW⟩ : ∃ wW, ((wr.alloc (.cells #[.int .i64 0, .int .i64 n, .string ⟨s.toArray⟩, .slice xp m.length xc] 43)).alloc (.cells #[.int .i64 0, .int .i64 n, .string ⟨#[]⟩, .slice none 0 0] 43)) = wW := ⟨_, rfl⟩
          rw [hwW] at t0 t1 t2 t3 u0 HYB HXB HRD HBW HC HWS ⊢
          clear hwW
          go_region_with (first
            | (go_at_call 18; (with_reducible refine HC.out.mono ?_); rintro e w5 ⟨y1, rfl, hy1, hg1, hrd5, hs5, hz5⟩; clear hz5; have Z5 := Stay.blk (blk_drew HYB.out) hs5 (by have := HSZ.out.2; omega); have hb5 : Below w.heap.size w w5 := Stay.below HBW.out hs5 (Nat.le_of_lt_succ (Nat.lt_succ_of_le HLO.out)) (HBW.out.size); have HPS : Hid (Calls Tryd.prog 20 #[.agg #[.int .i64 y1.k, .int .i64 y1.n, .string ⟨y1.s.toArray⟩, .slice y1.p y1.l.length y1.c], .agg #[.int .i64 0, .int .i64 n, .string ⟨#[]⟩, .slice none 0 0]] w5 fun e w' => e = .returned (.bool true) ∧ Below w5.heap.size w5 w') := (by have h := psame_c y1 ⟨0, n, [], none, 0, []⟩ w5 hg1 (HGY.out w5 hb5); rw [decide_eq_true (show y1.put = PutA.put ⟨0, n, [], none, 0, []⟩ from hy1)] at h; exact h); unfold penc; have HRD5 := Lib.hid hrd5; have HB5 := Lib.hid hb5; have p0 := Z5.cell 0; have p1 := Z5.cell 1; have p2 := Z5.cell 2; have p3 := Z5.cell 3; clear hy1 hg1 hrd5 hs5 Z5 hb5)
            | (go_at_call 20; (with_reducible refine HPS.out.mono ?_); rintro e w6 ⟨rfl, hb6⟩; have HB6 := Lib.hid hb6; clear hb6))
          all_goals
            clear HC t0 t1 t2 t3 u0 p0 p1 p2 p3 HPS
            go_wp2_with fail
            go_roundg g
            case measure => omega
            case rel => exact ⟨i + 1, by omega, by go_num, by rw [HST.out]; exact rd_below X HRD5.out HB6.out, bnext HB5.out HB6.out⟩
        · have N0 := Lib.hid hk
          have i0 : (k == 0) = false := by rw [beq_eq_false_iff_ne]; exact hk
          clear hk
          by_cases hk : k = 1
          · subst hk

            have hbW := ((Below.refl wr.heap.size wr).alloc (Nat.le_refl _) (.cells #[.int .i64 1, .int .i64 n, .string ⟨s.toArray⟩, .slice xp m.length xc] 43)).alloc (by simp) (.cells #[.int .i64 1, .int .i64 0, .string ⟨s.toArray⟩, .slice none 0 0] 43)
            have HYB : Hid (Blk ((wr.alloc (.cells #[.int .i64 1, .int .i64 n, .string ⟨s.toArray⟩, .slice xp m.length xc] 43)).alloc (.cells #[.int .i64 1, .int .i64 0, .string ⟨s.toArray⟩, .slice none 0 0] 43)) (wr.heap.size + 1) 43 [.int .i64 1, .int .i64 0, .string ⟨s.toArray⟩, .slice none 0 0]) := by
              have h := blk_new (wr.alloc (.cells #[.int .i64 1, .int .i64 n, .string ⟨s.toArray⟩, .slice xp m.length xc] 43)) #[.int .i64 1, .int .i64 0, .string ⟨s.toArray⟩, .slice none 0 0] 43 _ rfl
              rwa [show (wr.alloc (.cells #[.int .i64 1, .int .i64 n, .string ⟨s.toArray⟩, .slice xp m.length xc] 43)).heap.size = wr.heap.size + 1 by simp] at h
            have HXB : Hid (Blk ((wr.alloc (.cells #[.int .i64 1, .int .i64 n, .string ⟨s.toArray⟩, .slice xp m.length xc] 43)).alloc (.cells #[.int .i64 1, .int .i64 0, .string ⟨s.toArray⟩, .slice none 0 0] 43)) wr.heap.size 43 [.int .i64 1, .int .i64 n, .string ⟨s.toArray⟩, .slice xp m.length xc]) := blk_old (blk_new wr _ _ _ rfl) _
            have HRD := Lib.hid (rd_below X hrd hbW.drew)
            have HSZ := Lib.hid (X.rsize hrd)
            have HBW : Hid (Below w.heap.size w ((wr.alloc (.cells #[.int .i64 1, .int .i64 n, .string ⟨s.toArray⟩, .slice xp m.length xc] 43)).alloc (.cells #[.int .i64 1, .int .i64 0, .string ⟨s.toArray⟩, .slice none 0 0] 43)).drew) := (bnext hbx hbW).drew
            have HC := Lib.hid (read_c X (1) _ HRD.out)
            have HSN : Hid (readS (1) (.ok (bytesB ((l.drop i).map PutA.put))) = (PutA.put ⟨1, 0, s, none, 0, []⟩, .ok (bytesB ((l.drop (i + 1)).map PutA.put)))) := by
              have h := HRA.out
              exact h
            unfold ReadB at HC
            rw [HSN.out] at HC
            have HGY : Hid (∀ w5, Below w.heap.size w w5 → GoodP w5 ⟨1, 0, s, none, 0, []⟩) := fun w5 h5 => ⟨⟨(by show (-9223372036854775808 : Int) ≤ 0; omega), (by show (0 : Int) ≤ 9223372036854775807; omega)⟩, HGX.out.text, ins_none _, fun _ => rfl, Nat.le_refl _, by simp, by simp⟩
            obtain ⟨ST, hST⟩ : ∃ ST, (St.ok (bytesB ((l.drop (i + 1)).map PutA.put))) = ST := ⟨_, rfl⟩
            rw [hST] at HC
            have HST := Lib.hid hST
            clear hbW hST hrd hbx HRA HSN
            go_wp2_with fail
            have t0 := HYB.out.cell 0
            have t1 := HYB.out.cell 1
            have t2 := HYB.out.cell 2
            have t3 := HYB.out.cell 3
            have u0 := HXB.out.cell 0
            have HWS : Hid (((wr.alloc (.cells #[.int .i64 1, .int .i64 n, .string ⟨s.toArray⟩, .slice xp m.length xc] 43)).alloc (.cells #[.int .i64 1, .int .i64 0, .string ⟨s.toArray⟩, .slice none 0 0] 43)).heap.size = wr.heap.size + 2) := by show _ = _; simp
            obtain ⟨wW, hwW⟩ : ∃ wW, ((wr.alloc (.cells #[.int .i64 1, .int .i64 n, .string ⟨s.toArray⟩, .slice xp m.length xc] 43)).alloc (.cells #[.int .i64 1, .int .i64 0, .string ⟨s.toArray⟩, .slice none 0 0] 43)) = wW := ⟨_, rfl⟩
            rw [hwW] at t0 t1 t2 t3 u0 HYB HXB HRD HBW HC HWS ⊢
            clear hwW
            go_region_with (first
              | (go_at_call 18; (with_reducible refine HC.out.mono ?_); rintro e w5 ⟨y1, rfl, hy1, hg1, hrd5, hs5, hz5⟩; clear hz5; have Z5 := Stay.blk (blk_drew HYB.out) hs5 (by have := HSZ.out.2; omega); have hb5 : Below w.heap.size w w5 := Stay.below HBW.out hs5 (Nat.le_of_lt_succ (Nat.lt_succ_of_le HLO.out)) (HBW.out.size); have HPS : Hid (Calls Tryd.prog 20 #[.agg #[.int .i64 y1.k, .int .i64 y1.n, .string ⟨y1.s.toArray⟩, .slice y1.p y1.l.length y1.c], .agg #[.int .i64 1, .int .i64 0, .string ⟨s.toArray⟩, .slice none 0 0]] w5 fun e w' => e = .returned (.bool true) ∧ Below w5.heap.size w5 w') := (by have h := psame_c y1 ⟨1, 0, s, none, 0, []⟩ w5 hg1 (HGY.out w5 hb5); rw [decide_eq_true (show y1.put = PutA.put ⟨1, 0, s, none, 0, []⟩ from hy1)] at h; exact h); unfold penc; have HRD5 := Lib.hid hrd5; have HB5 := Lib.hid hb5; have p0 := Z5.cell 0; have p1 := Z5.cell 1; have p2 := Z5.cell 2; have p3 := Z5.cell 3; clear hy1 hg1 hrd5 hs5 Z5 hb5)
              | (go_at_call 20; (with_reducible refine HPS.out.mono ?_); rintro e w6 ⟨rfl, hb6⟩; have HB6 := Lib.hid hb6; clear hb6))
            all_goals
              clear HC t0 t1 t2 t3 u0 p0 p1 p2 p3 HPS
              go_wp2_with fail
              go_roundg g
              case measure => omega
              case rel => exact ⟨i + 1, by omega, by go_num, by rw [HST.out]; exact rd_below X HRD5.out HB6.out, bnext HB5.out HB6.out⟩
          · have N1 := Lib.hid hk
            have i1 : (k == 1) = false := by rw [beq_eq_false_iff_ne]; exact hk
            clear hk
            by_cases hk : k = 2
            · subst hk
              by_cases hn1 : n = 1
              · subst hn1

                have hbW := ((Below.refl wr.heap.size wr).alloc (Nat.le_refl _) (.cells #[.int .i64 2, .int .i64 1, .string ⟨s.toArray⟩, .slice xp m.length xc] 43)).alloc (by simp) (.cells #[.int .i64 2, .int .i64 1, .string ⟨#[]⟩, .slice none 0 0] 43)
                have HYB : Hid (Blk ((wr.alloc (.cells #[.int .i64 2, .int .i64 1, .string ⟨s.toArray⟩, .slice xp m.length xc] 43)).alloc (.cells #[.int .i64 2, .int .i64 1, .string ⟨#[]⟩, .slice none 0 0] 43)) (wr.heap.size + 1) 43 [.int .i64 2, .int .i64 1, .string ⟨#[]⟩, .slice none 0 0]) := by
                  have h := blk_new (wr.alloc (.cells #[.int .i64 2, .int .i64 1, .string ⟨s.toArray⟩, .slice xp m.length xc] 43)) #[.int .i64 2, .int .i64 1, .string ⟨#[]⟩, .slice none 0 0] 43 _ rfl
                  rwa [show (wr.alloc (.cells #[.int .i64 2, .int .i64 1, .string ⟨s.toArray⟩, .slice xp m.length xc] 43)).heap.size = wr.heap.size + 1 by simp] at h
                have HXB : Hid (Blk ((wr.alloc (.cells #[.int .i64 2, .int .i64 1, .string ⟨s.toArray⟩, .slice xp m.length xc] 43)).alloc (.cells #[.int .i64 2, .int .i64 1, .string ⟨#[]⟩, .slice none 0 0] 43)) wr.heap.size 43 [.int .i64 2, .int .i64 1, .string ⟨s.toArray⟩, .slice xp m.length xc]) := blk_old (blk_new wr _ _ _ rfl) _
                have HRD := Lib.hid (rd_below X hrd hbW.drew)
                have HSZ := Lib.hid (X.rsize hrd)
                have HBW : Hid (Below w.heap.size w ((wr.alloc (.cells #[.int .i64 2, .int .i64 1, .string ⟨s.toArray⟩, .slice xp m.length xc] 43)).alloc (.cells #[.int .i64 2, .int .i64 1, .string ⟨#[]⟩, .slice none 0 0] 43)).drew) := (bnext hbx hbW).drew
                have HC := Lib.hid (read_c X (2) _ HRD.out)
                have HSN : Hid (readS (2) (.ok (bytesB ((l.drop i).map PutA.put))) = (PutA.put ⟨2, 1, [], none, 0, []⟩, .ok (bytesB ((l.drop (i + 1)).map PutA.put)))) := by
                  have h := HRA.out
                  exact h
                unfold ReadB at HC
                rw [HSN.out] at HC
                have HGY : Hid (∀ w5, Below w.heap.size w w5 → GoodP w5 ⟨2, 1, [], none, 0, []⟩) := fun w5 h5 => ⟨⟨(by show (-9223372036854775808 : Int) ≤ 1; omega), (by show (1 : Int) ≤ 9223372036854775807; omega)⟩, (by simp), ins_none _, fun _ => rfl, Nat.le_refl _, by simp, by simp⟩
                obtain ⟨ST, hST⟩ : ∃ ST, (St.ok (bytesB ((l.drop (i + 1)).map PutA.put))) = ST := ⟨_, rfl⟩
                rw [hST] at HC
                have HST := Lib.hid hST
                clear hbW hST hrd hbx HRA HSN
                go_wp2_with fail
                have t0 := HYB.out.cell 0
                have t1 := HYB.out.cell 1
                have t2 := HYB.out.cell 2
                have t3 := HYB.out.cell 3
                have u0 := HXB.out.cell 0
                have HWS : Hid (((wr.alloc (.cells #[.int .i64 2, .int .i64 1, .string ⟨s.toArray⟩, .slice xp m.length xc] 43)).alloc (.cells #[.int .i64 2, .int .i64 1, .string ⟨#[]⟩, .slice none 0 0] 43)).heap.size = wr.heap.size + 2) := by show _ = _; simp
                obtain ⟨wW, hwW⟩ : ∃ wW, ((wr.alloc (.cells #[.int .i64 2, .int .i64 1, .string ⟨s.toArray⟩, .slice xp m.length xc] 43)).alloc (.cells #[.int .i64 2, .int .i64 1, .string ⟨#[]⟩, .slice none 0 0] 43)) = wW := ⟨_, rfl⟩
                rw [hwW] at t0 t1 t2 t3 u0 HYB HXB HRD HBW HC HWS ⊢
                clear hwW
                go_region_with (first
                  | (go_at_call 18; (with_reducible refine HC.out.mono ?_); rintro e w5 ⟨y1, rfl, hy1, hg1, hrd5, hs5, hz5⟩; clear hz5; have Z5 := Stay.blk (blk_drew HYB.out) hs5 (by have := HSZ.out.2; omega); have hb5 : Below w.heap.size w w5 := Stay.below HBW.out hs5 (Nat.le_of_lt_succ (Nat.lt_succ_of_le HLO.out)) (HBW.out.size); have HPS : Hid (Calls Tryd.prog 20 #[.agg #[.int .i64 y1.k, .int .i64 y1.n, .string ⟨y1.s.toArray⟩, .slice y1.p y1.l.length y1.c], .agg #[.int .i64 2, .int .i64 1, .string ⟨#[]⟩, .slice none 0 0]] w5 fun e w' => e = .returned (.bool true) ∧ Below w5.heap.size w5 w') := (by have h := psame_c y1 ⟨2, 1, [], none, 0, []⟩ w5 hg1 (HGY.out w5 hb5); rw [decide_eq_true (show y1.put = PutA.put ⟨2, 1, [], none, 0, []⟩ from hy1)] at h; exact h); unfold penc; have HRD5 := Lib.hid hrd5; have HB5 := Lib.hid hb5; have p0 := Z5.cell 0; have p1 := Z5.cell 1; have p2 := Z5.cell 2; have p3 := Z5.cell 3; clear hy1 hg1 hrd5 hs5 Z5 hb5)
                  | (go_at_call 20; (with_reducible refine HPS.out.mono ?_); rintro e w6 ⟨rfl, hb6⟩; have HB6 := Lib.hid hb6; clear hb6))
                all_goals
                  clear HC t0 t1 t2 t3 u0 p0 p1 p2 p3 HPS
                  go_wp2_with fail
                  go_roundg g
                  case measure => omega
                  case rel => exact ⟨i + 1, by omega, by go_num, by rw [HST.out]; exact rd_below X HRD5.out HB6.out, bnext HB5.out HB6.out⟩
              · have j1 : (n == 1) = false := by rw [beq_eq_false_iff_ne]; exact hn1
                have HN1 := Lib.hid hn1
                clear hn1
                have hbW := ((Below.refl wr.heap.size wr).alloc (Nat.le_refl _) (.cells #[.int .i64 2, .int .i64 n, .string ⟨s.toArray⟩, .slice xp m.length xc] 43)).alloc (by simp) (.cells #[.int .i64 2, .int .i64 0, .string ⟨#[]⟩, .slice none 0 0] 43)
                have HYB : Hid (Blk ((wr.alloc (.cells #[.int .i64 2, .int .i64 n, .string ⟨s.toArray⟩, .slice xp m.length xc] 43)).alloc (.cells #[.int .i64 2, .int .i64 0, .string ⟨#[]⟩, .slice none 0 0] 43)) (wr.heap.size + 1) 43 [.int .i64 2, .int .i64 0, .string ⟨#[]⟩, .slice none 0 0]) := by
                  have h := blk_new (wr.alloc (.cells #[.int .i64 2, .int .i64 n, .string ⟨s.toArray⟩, .slice xp m.length xc] 43)) #[.int .i64 2, .int .i64 0, .string ⟨#[]⟩, .slice none 0 0] 43 _ rfl
                  rwa [show (wr.alloc (.cells #[.int .i64 2, .int .i64 n, .string ⟨s.toArray⟩, .slice xp m.length xc] 43)).heap.size = wr.heap.size + 1 by simp] at h
                have HXB : Hid (Blk ((wr.alloc (.cells #[.int .i64 2, .int .i64 n, .string ⟨s.toArray⟩, .slice xp m.length xc] 43)).alloc (.cells #[.int .i64 2, .int .i64 0, .string ⟨#[]⟩, .slice none 0 0] 43)) wr.heap.size 43 [.int .i64 2, .int .i64 n, .string ⟨s.toArray⟩, .slice xp m.length xc]) := blk_old (blk_new wr _ _ _ rfl) _
                have HRD := Lib.hid (rd_below X hrd hbW.drew)
                have HSZ := Lib.hid (X.rsize hrd)
                have HBW : Hid (Below w.heap.size w ((wr.alloc (.cells #[.int .i64 2, .int .i64 n, .string ⟨s.toArray⟩, .slice xp m.length xc] 43)).alloc (.cells #[.int .i64 2, .int .i64 0, .string ⟨#[]⟩, .slice none 0 0] 43)).drew) := (bnext hbx hbW).drew
                have HC := Lib.hid (read_c X (2) _ HRD.out)
                have HSN : Hid (readS (2) (.ok (bytesB ((l.drop i).map PutA.put))) = (PutA.put ⟨2, 0, [], none, 0, []⟩, .ok (bytesB ((l.drop (i + 1)).map PutA.put)))) := by
                  have h := HRA.out
                  rw [h, show seen (PutA.put ⟨2, n, s, xp, xc, m⟩) = ⟨2, if n = 1 then 1 else 0, [], []⟩ from rfl, if_neg HN1.out]; rfl
                unfold ReadB at HC
                rw [HSN.out] at HC
                have HGY : Hid (∀ w5, Below w.heap.size w w5 → GoodP w5 ⟨2, 0, [], none, 0, []⟩) := fun w5 h5 => ⟨⟨(by show (-9223372036854775808 : Int) ≤ 0; omega), (by show (0 : Int) ≤ 9223372036854775807; omega)⟩, (by simp), ins_none _, fun _ => rfl, Nat.le_refl _, by simp, by simp⟩
                obtain ⟨ST, hST⟩ : ∃ ST, (St.ok (bytesB ((l.drop (i + 1)).map PutA.put))) = ST := ⟨_, rfl⟩
                rw [hST] at HC
                have HST := Lib.hid hST
                clear hbW hST hrd hbx HRA HSN
                go_wp2_with fail
                have t0 := HYB.out.cell 0
                have t1 := HYB.out.cell 1
                have t2 := HYB.out.cell 2
                have t3 := HYB.out.cell 3
                have u0 := HXB.out.cell 0
                have HWS : Hid (((wr.alloc (.cells #[.int .i64 2, .int .i64 n, .string ⟨s.toArray⟩, .slice xp m.length xc] 43)).alloc (.cells #[.int .i64 2, .int .i64 0, .string ⟨#[]⟩, .slice none 0 0] 43)).heap.size = wr.heap.size + 2) := by show _ = _; simp
                obtain ⟨wW, hwW⟩ : ∃ wW, ((wr.alloc (.cells #[.int .i64 2, .int .i64 n, .string ⟨s.toArray⟩, .slice xp m.length xc] 43)).alloc (.cells #[.int .i64 2, .int .i64 0, .string ⟨#[]⟩, .slice none 0 0] 43)) = wW := ⟨_, rfl⟩
                rw [hwW] at t0 t1 t2 t3 u0 HYB HXB HRD HBW HC HWS ⊢
                clear hwW
                go_region_with (first
                  | (go_at_call 18; (with_reducible refine HC.out.mono ?_); rintro e w5 ⟨y1, rfl, hy1, hg1, hrd5, hs5, hz5⟩; clear hz5; have Z5 := Stay.blk (blk_drew HYB.out) hs5 (by have := HSZ.out.2; omega); have hb5 : Below w.heap.size w w5 := Stay.below HBW.out hs5 (Nat.le_of_lt_succ (Nat.lt_succ_of_le HLO.out)) (HBW.out.size); have HPS : Hid (Calls Tryd.prog 20 #[.agg #[.int .i64 y1.k, .int .i64 y1.n, .string ⟨y1.s.toArray⟩, .slice y1.p y1.l.length y1.c], .agg #[.int .i64 2, .int .i64 0, .string ⟨#[]⟩, .slice none 0 0]] w5 fun e w' => e = .returned (.bool true) ∧ Below w5.heap.size w5 w') := (by have h := psame_c y1 ⟨2, 0, [], none, 0, []⟩ w5 hg1 (HGY.out w5 hb5); rw [decide_eq_true (show y1.put = PutA.put ⟨2, 0, [], none, 0, []⟩ from hy1)] at h; exact h); unfold penc; have HRD5 := Lib.hid hrd5; have HB5 := Lib.hid hb5; have p0 := Z5.cell 0; have p1 := Z5.cell 1; have p2 := Z5.cell 2; have p3 := Z5.cell 3; clear hy1 hg1 hrd5 hs5 Z5 hb5)
                  | (go_at_call 20; (with_reducible refine HPS.out.mono ?_); rintro e w6 ⟨rfl, hb6⟩; have HB6 := Lib.hid hb6; clear hb6))
                all_goals
                  clear HC t0 t1 t2 t3 u0 p0 p1 p2 p3 HPS
                  go_wp2_with fail
                  go_roundg g
                  case measure => omega
                  case rel => exact ⟨i + 1, by omega, by go_num, by rw [HST.out]; exact rd_below X HRD5.out HB6.out, bnext HB5.out HB6.out⟩
            · have N2 := Lib.hid hk
              have i2 : (k == 2) = false := by rw [beq_eq_false_iff_ne]; exact hk
              clear hk
              by_cases hk : k = 3
              · subst hk

                have hbW := ((Below.refl wr.heap.size wr).alloc (Nat.le_refl _) (.cells #[.int .i64 3, .int .i64 n, .string ⟨s.toArray⟩, .slice xp m.length xc] 43)).alloc (by simp) (.cells #[.int .i64 3, .int .i64 n, .string ⟨#[]⟩, .slice none 0 0] 43)
                have HYB : Hid (Blk ((wr.alloc (.cells #[.int .i64 3, .int .i64 n, .string ⟨s.toArray⟩, .slice xp m.length xc] 43)).alloc (.cells #[.int .i64 3, .int .i64 n, .string ⟨#[]⟩, .slice none 0 0] 43)) (wr.heap.size + 1) 43 [.int .i64 3, .int .i64 n, .string ⟨#[]⟩, .slice none 0 0]) := by
                  have h := blk_new (wr.alloc (.cells #[.int .i64 3, .int .i64 n, .string ⟨s.toArray⟩, .slice xp m.length xc] 43)) #[.int .i64 3, .int .i64 n, .string ⟨#[]⟩, .slice none 0 0] 43 _ rfl
                  rwa [show (wr.alloc (.cells #[.int .i64 3, .int .i64 n, .string ⟨s.toArray⟩, .slice xp m.length xc] 43)).heap.size = wr.heap.size + 1 by simp] at h
                have HXB : Hid (Blk ((wr.alloc (.cells #[.int .i64 3, .int .i64 n, .string ⟨s.toArray⟩, .slice xp m.length xc] 43)).alloc (.cells #[.int .i64 3, .int .i64 n, .string ⟨#[]⟩, .slice none 0 0] 43)) wr.heap.size 43 [.int .i64 3, .int .i64 n, .string ⟨s.toArray⟩, .slice xp m.length xc]) := blk_old (blk_new wr _ _ _ rfl) _
                have HRD := Lib.hid (rd_below X hrd hbW.drew)
                have HSZ := Lib.hid (X.rsize hrd)
                have HBW : Hid (Below w.heap.size w ((wr.alloc (.cells #[.int .i64 3, .int .i64 n, .string ⟨s.toArray⟩, .slice xp m.length xc] 43)).alloc (.cells #[.int .i64 3, .int .i64 n, .string ⟨#[]⟩, .slice none 0 0] 43)).drew) := (bnext hbx hbW).drew
                have HC := Lib.hid (read_c X (3) _ HRD.out)
                have HSN : Hid (readS (3) (.ok (bytesB ((l.drop i).map PutA.put))) = (PutA.put ⟨3, n, [], none, 0, []⟩, .ok (bytesB ((l.drop (i + 1)).map PutA.put)))) := by
                  have h := HRA.out
                  exact h
                unfold ReadB at HC
                rw [HSN.out] at HC
                have HGY : Hid (∀ w5, Below w.heap.size w w5 → GoodP w5 ⟨3, n, [], none, 0, []⟩) := fun w5 h5 => ⟨HGX.out.ints, (by simp), ins_none _, fun _ => rfl, Nat.le_refl _, by simp, by simp⟩
                obtain ⟨ST, hST⟩ : ∃ ST, (St.ok (bytesB ((l.drop (i + 1)).map PutA.put))) = ST := ⟨_, rfl⟩
                rw [hST] at HC
                have HST := Lib.hid hST
                clear hbW hST hrd hbx HRA HSN
                go_wp2_with fail
                have t0 := HYB.out.cell 0
                have t1 := HYB.out.cell 1
                have t2 := HYB.out.cell 2
                have t3 := HYB.out.cell 3
                have u0 := HXB.out.cell 0
                have HWS : Hid (((wr.alloc (.cells #[.int .i64 3, .int .i64 n, .string ⟨s.toArray⟩, .slice xp m.length xc] 43)).alloc (.cells #[.int .i64 3, .int .i64 n, .string ⟨#[]⟩, .slice none 0 0] 43)).heap.size = wr.heap.size + 2) := by show _ = _; simp
                obtain ⟨wW, hwW⟩ : ∃ wW, ((wr.alloc (.cells #[.int .i64 3, .int .i64 n, .string ⟨s.toArray⟩, .slice xp m.length xc] 43)).alloc (.cells #[.int .i64 3, .int .i64 n, .string ⟨#[]⟩, .slice none 0 0] 43)) = wW := ⟨_, rfl⟩
                rw [hwW] at t0 t1 t2 t3 u0 HYB HXB HRD HBW HC HWS ⊢
                clear hwW
                go_region_with (first
                  | (go_at_call 18; (with_reducible refine HC.out.mono ?_); rintro e w5 ⟨y1, rfl, hy1, hg1, hrd5, hs5, hz5⟩; clear hz5; have Z5 := Stay.blk (blk_drew HYB.out) hs5 (by have := HSZ.out.2; omega); have hb5 : Below w.heap.size w w5 := Stay.below HBW.out hs5 (Nat.le_of_lt_succ (Nat.lt_succ_of_le HLO.out)) (HBW.out.size); have HPS : Hid (Calls Tryd.prog 20 #[.agg #[.int .i64 y1.k, .int .i64 y1.n, .string ⟨y1.s.toArray⟩, .slice y1.p y1.l.length y1.c], .agg #[.int .i64 3, .int .i64 n, .string ⟨#[]⟩, .slice none 0 0]] w5 fun e w' => e = .returned (.bool true) ∧ Below w5.heap.size w5 w') := (by have h := psame_c y1 ⟨3, n, [], none, 0, []⟩ w5 hg1 (HGY.out w5 hb5); rw [decide_eq_true (show y1.put = PutA.put ⟨3, n, [], none, 0, []⟩ from hy1)] at h; exact h); unfold penc; have HRD5 := Lib.hid hrd5; have HB5 := Lib.hid hb5; have p0 := Z5.cell 0; have p1 := Z5.cell 1; have p2 := Z5.cell 2; have p3 := Z5.cell 3; clear hy1 hg1 hrd5 hs5 Z5 hb5)
                  | (go_at_call 20; (with_reducible refine HPS.out.mono ?_); rintro e w6 ⟨rfl, hb6⟩; have HB6 := Lib.hid hb6; clear hb6))
                all_goals
                  clear HC t0 t1 t2 t3 u0 p0 p1 p2 p3 HPS
                  go_wp2_with fail
                  go_roundg g
                  case measure => omega
                  case rel => exact ⟨i + 1, by omega, by go_num, by rw [HST.out]; exact rd_below X HRD5.out HB6.out, bnext HB5.out HB6.out⟩
              · have N3 := Lib.hid hk
                have i3 : (k == 3) = false := by rw [beq_eq_false_iff_ne]; exact hk
                clear hk
                by_cases hk : k = 4
                · subst hk

                  have hbW := ((Below.refl wr.heap.size wr).alloc (Nat.le_refl _) (.cells #[.int .i64 4, .int .i64 n, .string ⟨s.toArray⟩, .slice xp m.length xc] 43)).alloc (by simp) (.cells #[.int .i64 4, .int .i64 0, .string ⟨#[]⟩, .slice xp m.length xc] 43)
                  have HYB : Hid (Blk ((wr.alloc (.cells #[.int .i64 4, .int .i64 n, .string ⟨s.toArray⟩, .slice xp m.length xc] 43)).alloc (.cells #[.int .i64 4, .int .i64 0, .string ⟨#[]⟩, .slice xp m.length xc] 43)) (wr.heap.size + 1) 43 [.int .i64 4, .int .i64 0, .string ⟨#[]⟩, .slice xp m.length xc]) := by
                    have h := blk_new (wr.alloc (.cells #[.int .i64 4, .int .i64 n, .string ⟨s.toArray⟩, .slice xp m.length xc] 43)) #[.int .i64 4, .int .i64 0, .string ⟨#[]⟩, .slice xp m.length xc] 43 _ rfl
                    rwa [show (wr.alloc (.cells #[.int .i64 4, .int .i64 n, .string ⟨s.toArray⟩, .slice xp m.length xc] 43)).heap.size = wr.heap.size + 1 by simp] at h
                  have HXB : Hid (Blk ((wr.alloc (.cells #[.int .i64 4, .int .i64 n, .string ⟨s.toArray⟩, .slice xp m.length xc] 43)).alloc (.cells #[.int .i64 4, .int .i64 0, .string ⟨#[]⟩, .slice xp m.length xc] 43)) wr.heap.size 43 [.int .i64 4, .int .i64 n, .string ⟨s.toArray⟩, .slice xp m.length xc]) := blk_old (blk_new wr _ _ _ rfl) _
                  have HRD := Lib.hid (rd_below X hrd hbW.drew)
                  have HSZ := Lib.hid (X.rsize hrd)
                  have HBW : Hid (Below w.heap.size w ((wr.alloc (.cells #[.int .i64 4, .int .i64 n, .string ⟨s.toArray⟩, .slice xp m.length xc] 43)).alloc (.cells #[.int .i64 4, .int .i64 0, .string ⟨#[]⟩, .slice xp m.length xc] 43)).drew) := (bnext hbx hbW).drew
                  have HC := Lib.hid (read_c X (4) _ HRD.out)
                  have HSN : Hid (readS (4) (.ok (bytesB ((l.drop i).map PutA.put))) = (PutA.put ⟨4, 0, [], xp, xc, m⟩, .ok (bytesB ((l.drop (i + 1)).map PutA.put)))) := by
                    have h := HRA.out
                    exact h
                  unfold ReadB at HC
                  rw [HSN.out] at HC
                  have HGY : Hid (∀ w5, Below w.heap.size w w5 → GoodP w5 ⟨4, 0, [], xp, xc, m⟩) := fun w5 h5 => ⟨⟨(by show (-9223372036854775808 : Int) ≤ 0; omega), (by show (0 : Int) ≤ 9223372036854775807; omega)⟩, (by simp), InG.below senc_len (by decide) HGX.out.row h5, HGX.out.nil, HGX.out.room, HGX.out.many, HGX.out.texts⟩
                  obtain ⟨ST, hST⟩ : ∃ ST, (St.ok (bytesB ((l.drop (i + 1)).map PutA.put))) = ST := ⟨_, rfl⟩
                  rw [hST] at HC
                  have HST := Lib.hid hST
                  clear hbW hST hrd hbx HRA HSN
                  go_wp2_with fail
                  have t0 := HYB.out.cell 0
                  have t1 := HYB.out.cell 1
                  have t2 := HYB.out.cell 2
                  have t3 := HYB.out.cell 3
                  have u0 := HXB.out.cell 0
                  have HWS : Hid (((wr.alloc (.cells #[.int .i64 4, .int .i64 n, .string ⟨s.toArray⟩, .slice xp m.length xc] 43)).alloc (.cells #[.int .i64 4, .int .i64 0, .string ⟨#[]⟩, .slice xp m.length xc] 43)).heap.size = wr.heap.size + 2) := by show _ = _; simp
                  obtain ⟨wW, hwW⟩ : ∃ wW, ((wr.alloc (.cells #[.int .i64 4, .int .i64 n, .string ⟨s.toArray⟩, .slice xp m.length xc] 43)).alloc (.cells #[.int .i64 4, .int .i64 0, .string ⟨#[]⟩, .slice xp m.length xc] 43)) = wW := ⟨_, rfl⟩
                  rw [hwW] at t0 t1 t2 t3 u0 HYB HXB HRD HBW HC HWS ⊢
                  clear hwW
                  go_region_with (first
                    | (go_at_call 18; (with_reducible refine HC.out.mono ?_); rintro e w5 ⟨y1, rfl, hy1, hg1, hrd5, hs5, hz5⟩; clear hz5; have Z5 := Stay.blk (blk_drew HYB.out) hs5 (by have := HSZ.out.2; omega); have hb5 : Below w.heap.size w w5 := Stay.below HBW.out hs5 (Nat.le_of_lt_succ (Nat.lt_succ_of_le HLO.out)) (HBW.out.size); have HPS : Hid (Calls Tryd.prog 20 #[.agg #[.int .i64 y1.k, .int .i64 y1.n, .string ⟨y1.s.toArray⟩, .slice y1.p y1.l.length y1.c], .agg #[.int .i64 4, .int .i64 0, .string ⟨#[]⟩, .slice xp m.length xc]] w5 fun e w' => e = .returned (.bool true) ∧ Below w5.heap.size w5 w') := (by have h := psame_c y1 ⟨4, 0, [], xp, xc, m⟩ w5 hg1 (HGY.out w5 hb5); rw [decide_eq_true (show y1.put = PutA.put ⟨4, 0, [], xp, xc, m⟩ from hy1)] at h; exact h); unfold penc; have HRD5 := Lib.hid hrd5; have HB5 := Lib.hid hb5; have p0 := Z5.cell 0; have p1 := Z5.cell 1; have p2 := Z5.cell 2; have p3 := Z5.cell 3; clear hy1 hg1 hrd5 hs5 Z5 hb5)
                    | (go_at_call 20; (with_reducible refine HPS.out.mono ?_); rintro e w6 ⟨rfl, hb6⟩; have HB6 := Lib.hid hb6; clear hb6))
                  all_goals
                    clear HC t0 t1 t2 t3 u0 p0 p1 p2 p3 HPS
                    go_wp2_with fail
                    go_roundg g
                    case measure => omega
                    case rel => exact ⟨i + 1, by omega, by go_num, by rw [HST.out]; exact rd_below X HRD5.out HB6.out, bnext HB5.out HB6.out⟩
                · have N4 := Lib.hid hk
                  have i4 : (k == 4) = false := by rw [beq_eq_false_iff_ne]; exact hk
                  clear hk
                  have hbW := ((Below.refl wr.heap.size wr).alloc (Nat.le_refl _) (.cells #[.int .i64 k, .int .i64 n, .string ⟨s.toArray⟩, .slice xp m.length xc] 43)).alloc (by simp) (.cells #[.int .i64 k, .int .i64 0, .string ⟨#[]⟩, .slice none 0 0] 43)
                  have HYB : Hid (Blk ((wr.alloc (.cells #[.int .i64 k, .int .i64 n, .string ⟨s.toArray⟩, .slice xp m.length xc] 43)).alloc (.cells #[.int .i64 k, .int .i64 0, .string ⟨#[]⟩, .slice none 0 0] 43)) (wr.heap.size + 1) 43 [.int .i64 k, .int .i64 0, .string ⟨#[]⟩, .slice none 0 0]) := by
                    have h := blk_new (wr.alloc (.cells #[.int .i64 k, .int .i64 n, .string ⟨s.toArray⟩, .slice xp m.length xc] 43)) #[.int .i64 k, .int .i64 0, .string ⟨#[]⟩, .slice none 0 0] 43 _ rfl
                    rwa [show (wr.alloc (.cells #[.int .i64 k, .int .i64 n, .string ⟨s.toArray⟩, .slice xp m.length xc] 43)).heap.size = wr.heap.size + 1 by simp] at h
                  have HXB : Hid (Blk ((wr.alloc (.cells #[.int .i64 k, .int .i64 n, .string ⟨s.toArray⟩, .slice xp m.length xc] 43)).alloc (.cells #[.int .i64 k, .int .i64 0, .string ⟨#[]⟩, .slice none 0 0] 43)) wr.heap.size 43 [.int .i64 k, .int .i64 n, .string ⟨s.toArray⟩, .slice xp m.length xc]) := blk_old (blk_new wr _ _ _ rfl) _
                  have HRD := Lib.hid (rd_below X hrd hbW.drew)
                  have HSZ := Lib.hid (X.rsize hrd)
                  have HBW : Hid (Below w.heap.size w ((wr.alloc (.cells #[.int .i64 k, .int .i64 n, .string ⟨s.toArray⟩, .slice xp m.length xc] 43)).alloc (.cells #[.int .i64 k, .int .i64 0, .string ⟨#[]⟩, .slice none 0 0] 43)).drew) := (bnext hbx hbW).drew
                  have HC := Lib.hid (read_c X (k) _ HRD.out)
                  have HSN : Hid (readS (k) (.ok (bytesB ((l.drop i).map PutA.put))) = (PutA.put ⟨k, 0, [], none, 0, []⟩, .ok (bytesB ((l.drop (i + 1)).map PutA.put)))) := by
                    have h := HRA.out
                    rw [h, show seen (PutA.put ⟨k, n, s, xp, xc, m⟩) = none0 k from by unfold seen PutA.put; rw [if_neg (by rintro (h | h); exact N0.out h; exact N3.out h), if_neg N1.out, if_neg N2.out, if_neg N4.out]]; rfl
                  unfold ReadB at HC
                  rw [HSN.out] at HC
                  have HGY : Hid (∀ w5, Below w.heap.size w w5 → GoodP w5 ⟨k, 0, [], none, 0, []⟩) := fun w5 h5 => ⟨⟨(by show (-9223372036854775808 : Int) ≤ 0; omega), (by show (0 : Int) ≤ 9223372036854775807; omega)⟩, (by simp), ins_none _, fun _ => rfl, Nat.le_refl _, by simp, by simp⟩
                  obtain ⟨ST, hST⟩ : ∃ ST, (St.ok (bytesB ((l.drop (i + 1)).map PutA.put))) = ST := ⟨_, rfl⟩
                  rw [hST] at HC
                  have HST := Lib.hid hST
                  clear hbW hST hrd hbx HRA HSN
                  go_wp2_with fail
                  have t0 := HYB.out.cell 0
                  have t1 := HYB.out.cell 1
                  have t2 := HYB.out.cell 2
                  have t3 := HYB.out.cell 3
                  have u0 := HXB.out.cell 0
                  have HWS : Hid (((wr.alloc (.cells #[.int .i64 k, .int .i64 n, .string ⟨s.toArray⟩, .slice xp m.length xc] 43)).alloc (.cells #[.int .i64 k, .int .i64 0, .string ⟨#[]⟩, .slice none 0 0] 43)).heap.size = wr.heap.size + 2) := by show _ = _; simp
                  obtain ⟨wW, hwW⟩ : ∃ wW, ((wr.alloc (.cells #[.int .i64 k, .int .i64 n, .string ⟨s.toArray⟩, .slice xp m.length xc] 43)).alloc (.cells #[.int .i64 k, .int .i64 0, .string ⟨#[]⟩, .slice none 0 0] 43)) = wW := ⟨_, rfl⟩
                  rw [hwW] at t0 t1 t2 t3 u0 HYB HXB HRD HBW HC HWS ⊢
                  clear hwW
                  go_region_with (first
                    | (go_at_call 18; (with_reducible refine HC.out.mono ?_); rintro e w5 ⟨y1, rfl, hy1, hg1, hrd5, hs5, hz5⟩; clear hz5; have Z5 := Stay.blk (blk_drew HYB.out) hs5 (by have := HSZ.out.2; omega); have hb5 : Below w.heap.size w w5 := Stay.below HBW.out hs5 (Nat.le_of_lt_succ (Nat.lt_succ_of_le HLO.out)) (HBW.out.size); have HPS : Hid (Calls Tryd.prog 20 #[.agg #[.int .i64 y1.k, .int .i64 y1.n, .string ⟨y1.s.toArray⟩, .slice y1.p y1.l.length y1.c], .agg #[.int .i64 k, .int .i64 0, .string ⟨#[]⟩, .slice none 0 0]] w5 fun e w' => e = .returned (.bool true) ∧ Below w5.heap.size w5 w') := (by have h := psame_c y1 ⟨k, 0, [], none, 0, []⟩ w5 hg1 (HGY.out w5 hb5); rw [decide_eq_true (show y1.put = PutA.put ⟨k, 0, [], none, 0, []⟩ from hy1)] at h; exact h); unfold penc; have HRD5 := Lib.hid hrd5; have HB5 := Lib.hid hb5; have p0 := Z5.cell 0; have p1 := Z5.cell 1; have p2 := Z5.cell 2; have p3 := Z5.cell 3; clear hy1 hg1 hrd5 hs5 Z5 hb5)
                    | (go_at_call 20; (with_reducible refine HPS.out.mono ?_); rintro e w6 ⟨rfl, hb6⟩; have HB6 := Lib.hid hb6; clear hb6))
                  all_goals
                    clear HC t0 t1 t2 t3 u0 p0 p1 p2 p3 HPS
                    go_wp2_with fail
                    go_roundg g
                    case measure => omega
                    case rel => exact ⟨i + 1, by omega, by go_num, by rw [HST.out]; exact rd_below X HRD5.out HB6.out, bnext HB5.out HB6.out⟩
  · have e0 : ((q : Int) != 0) = true := by rw [bne_iff_ne]; omega
    have HTN : Hid (t.length = 0) := by show _ = _; rw [HWN.out hq]; rfl
    have HK2 := Lib.hid (HK.out w2 HB2.out)
    obtain ⟨n, hn⟩ : ∃ n, t.length = n := ⟨_, rfl⟩
    rw [hn] at HTN ⊢
    have e1 : ((n : Int) == 0) = true := by rw [beq_iff_eq]; have := HTN.out; omega
    clear hq HWO HWN H82 HN1 HC1 HK HT hn
    go_wp2_with fail
    refine HK2.out.mono ?_
    rintro e w3 ⟨rfl, hb3⟩
    have HB3 := Lib.hid (bnext HB2.out hb3)
    clear HK2 hb3 HB2
    go_wp2_with fail
    go_ret
    exact ⟨rfl, HB3.out⟩
end Go.Proofs.YtpffebcaalbhjaaDoor.wir
