/- DriftLeases by DApi. -/
import Derived.Test.YtidgmobnclchkaaDriM
import Derived.Deep.RegionWith
import Derived.BigRegion
namespace Go.Proofs.Ytidgmobnclchkaa.dri
open Go.RowKit
open Go.Proofs.Ytidgmobnclchkaa.oct Go.Proofs.Ytidgmobnclchkaa.ref Go.Proofs.Ytidgmobnclchkaa.rows Go.Proofs.Ytidgmobnclchkaa.rowg

theorem read_64 {c : Int} (h : I64 c) : I64 (readP c) := by
  unfold readP
  have := h.1; have := h.2
  split
  · decide
  · exact ⟨by omega, by omega⟩
/-- what a turn of the loop has in memory: the two clocks, the turn; what was there -/
structure Env (w wx : World) (ga gt : Nat) (a b u r s : Int) : Prop where
  A : Blk wx ga 23 [.int .i64 a]
  B : Blk wx (ga + 1) 23 [.int .i64 b]
  T : Blk wx gt 40 [.int .i64 u, .int .i64 r, .int .i64 s]
  W : Below w.heap.size w wx
theorem Env.below {w wx wy : World} {ga gt : Nat} {a b u r s : Int} (h : Env w wx ga gt a b u r s) (hb : Below wx.heap.size wx wy) : Env w wy ga gt a b u r s :=
  ⟨h.A.below hb, h.B.below hb, h.T.below hb, bnext h.W hb⟩
theorem Env.alloc {w wx : World} {ga gt : Nat} {a b u r s : Int} (h : Env w wx ga gt a b u r s) (o : Obj) : Env w (wx.alloc o) ga gt a b u r s :=
  h.below ((Below.refl _ _).alloc (Nat.le_refl _) _)
set_option maxRecDepth 100000 in
set_option maxHeartbeats 4000000 in
theorem law_leases {T' : World → Prop} (X : DApi T') (a0 b0 t d : Int) (P : Option Addr) (cp : Nat) (l : List Tw) (w : World) (ha : I64 a0) (hb0 : I64 b0) (htm : I64 t) (hd : I64 d) (hP : InG tenc 3 w P l) (hl : l.length ≤ 140737488355328) (hf : ∀ x ∈ l, FitT x) (ht : T' w) :
    Calls Try.prog 6 #[.int .i64 a0, .int .i64 b0, .int .i64 t, .int .i64 d, .slice P l.length cp] w fun e w' => e = .returned (.bool true) ∧ Below w.heap.size w w' := by
  have HT := Lib.hid ht
  have HX := Lib.hid X
  have HP := Lib.hid hP
  have HF := Lib.hid hf
  have HK := Lib.hid (fun w ht => dknown_c X w ht)
  have HS := Lib.hid (fun w ht => X.short t d w ht htm hd)
  clear ht X hP hf
  obtain ⟨N, hN⟩ : ∃ N, N = min l.length 200 := ⟨_, rfl⟩
  cases hr : rightB t d with
  | false =>
    rw [(plain_bad hr).2.2] at HS
    go_enter Try.func6, Try.ntmps6
    go_wp2_with fail
    refine (HS.out _ HT.out).mono ?_
    rintro e w1 ⟨rfl, hb⟩
    have HW := Lib.hid hb
    clear hb
    go_wp2_with fail
    refine (HK.out _ (HX.out.tbelow _ _ HT.out HW.out)).mono ?_
    rintro e w2 ⟨rfl, hb⟩
    have HW := Lib.hid (bnext HW.out hb)
    clear hb
    go_wp2_with fail
    refine (HK.out _ (HX.out.tbelow _ _ HT.out HW.out)).mono ?_
    rintro e w3 ⟨rfl, hb⟩
    have HW := Lib.hid (bnext HW.out hb)
    clear hb
    go_wp2_with fail
    go_ret
    exact ⟨rfl, HW.out⟩
  | true =>
    rw [(plain_ok hr).2.2] at HS
    obtain ⟨⟨t0, t1⟩, d0, d1⟩ := right_iff.1 hr
    have t1' : t ≤ 1099511627776 := t1
    obtain ⟨q, hq⟩ : ∃ q, t * (1000 - d) / (1000 + d) = q := ⟨_, rfl⟩
    have hq1 := (bounds_order t0 ⟨d0, d1⟩)
    have hq0 : 0 ≤ t * (1000 - d) / (1000 + d) := Int.ediv_nonneg (Int.mul_nonneg t0 (by omega)) (by omega)
    have hq64 : I64 q := by
      rw [hq] at hq1 hq0
      exact ⟨by omega, by omega⟩
    rw [hq] at HS
    have HQ := Lib.hid hq
    clear hq hq1 hq0 t1 hr
    have HA := Lib.hid (fun w ht => HX.out.read a0 w ht ha)
    have HB := Lib.hid (fun w ht => HX.out.read b0 w ht hb0)
    obtain ⟨ra, hra⟩ : ∃ r, readP a0 = r := ⟨_, rfl⟩
    obtain ⟨rb, hrb⟩ : ∃ r, readP b0 = r := ⟨_, rfl⟩
    have hra64 : I64 ra := hra ▸ read_64 ha
    have hrb64 : I64 rb := hrb ▸ read_64 hb0
    rw [hra] at HA
    rw [hrb] at HB
    have HRA := Lib.hid hra
    have HRB := Lib.hid hrb
    clear hra hrb
    go_enter Try.func6, Try.ntmps6
    go_wp2_with fail
    refine (HS.out _ HT.out).mono ?_
    rintro e w1 ⟨rfl, hb⟩
    have HW := Lib.hid hb
    clear hb
    go_wp2_with fail
    refine (HK.out _ (HX.out.tbelow _ _ HT.out HW.out)).mono ?_
    rintro e w2 ⟨rfl, hb⟩
    have HW := Lib.hid (bnext HW.out hb)
    clear hb
    go_wp2_with fail
    obtain ⟨wb, hwb⟩ : ∃ wb, wb = (w2.alloc (.cells #[.int .i64 a0] 23)).alloc (.cells #[.int .i64 b0] 23) := ⟨_, rfl⟩
    have hA1 : Blk wb w2.heap.size 23 [.int .i64 a0] := by rw [hwb]; exact blk_old (blk_new w2 _ _ _ rfl) _
    have hB1 : Blk wb (w2.heap.size + 1) 23 [.int .i64 b0] := by
      rw [hwb]
      have h := blk_new (w2.alloc (.cells #[.int .i64 a0] 23)) #[.int .i64 b0] 23 [.int .i64 b0] rfl
      rw [show (w2.alloc (.cells #[.int .i64 a0] 23)).heap.size = w2.heap.size + 1 by simp] at h
      exact h
    have hw1 := (HW.out.alloc HW.out.size (.cells #[.int .i64 a0] 23))
    have HWb : Hid (Below w.heap.size w wb) := by show Below _ _ _; rw [hwb]; exact hw1.alloc hw1.size _
    have hga := HW.out.size
    rw [← hwb]
    clear hw1 hwb HW
    obtain ⟨ga, hgae⟩ : ∃ g, g = w2.heap.size := ⟨_, rfl⟩
    rw [← hgae] at hA1 hB1 hga ⊢
    clear hgae
    have d0 : ∀ z : After wb, z.v.cell? ⟨ga, 0, none⟩ = some (.int .i64 a0) := fun z => (hA1.below z.below).cell 0
    have d1 : ∀ z : After wb, z.v.cell? ⟨ga + 1, 0, none⟩ = some (.int .i64 b0) := fun z => (hB1.below z.below).cell 0
    have C0 := Lib.hid (fun x : After wb => after_of x (HA.out x.v (HX.out.tbelow _ _ HT.out (bnext HWb.out x.below))))
    have C1 := Lib.hid (fun x : After wb => after_of x (HB.out x.v (HX.out.tbelow _ _ HT.out (bnext HWb.out x.below))))
    refine wp_region_after (by kernel_rfl) (by kernel_rfl) ?_
    repeat (go_big_quiet_step (first | (rename_i x; go_at_call 12; with_reducible exact C0.out x) | (rename_i x; go_at_call 12; with_reducible exact C1.out x)))
    refine wpQuiet_nil ?_
    rintro ⟨w3, hb⟩
    dsimp only
    have HA3 := Lib.hid (hA1.below hb)
    have HB3 := Lib.hid (hB1.below hb)
    have HW3 := Lib.hid (bnext HWb.out hb)
    clear hb d0 d1 C0 C1 hA1 hB1 HWb
    go_wp2_with fail
    go_loopg [17] N (fun g s17 wx => ∃ (k : Nat) (a b : Int), k + g = N ∧ s17 = .int .i64 k ∧ Hid (Leased d a0 b0 a b) ∧ Hid ((0 ≤ a → 0 ≤ a0) ∧ (0 ≤ b → 0 ≤ b0) ∧ I64 a ∧ I64 b) ∧ Hid (Blk wx ga 23 [.int .i64 a]) ∧ Hid (Blk wx (ga + 1) 23 [.int .i64 b]) ∧ Hid (Below w.heap.size w wx))
    case atStart => exact ⟨0, a0, b0, by omega, rfl, leased_start d a0 b0, ⟨id, id, ha, hb0⟩, HA3.out, HB3.out, HW3.out⟩
    case round =>
      obtain ⟨k, a, b, hkg, rfl, HL, HI, HAk, HBk, HWk⟩ := hrel
      clear HA3 HB3 HW3
      rcases gk with _ | g
      · have hcase : ((k : Int) < (l.length : Int) ∧ ¬ (k : Int) < 200) ∨ ¬ (k : Int) < (l.length : Int) := by omega
        rcases hcase with ⟨q1, q2⟩ | q1
        all_goals
          go_wp2_with fail
          go_ret
          exact ⟨rfl, HWk.out⟩
      · have hk1 : k < l.length := by omega
        have hk2 : (k : Int) < (l.length : Int) := by omega
        have hk3 : (k : Int) < 200 := by omega
        obtain ⟨pb, po, hPe, c1, c2, c3⟩ := tw_cells (HP.out.below tenc_len (by decide) HWk.out) k hk1
        have hfit := HF.out _ (List.getElem_mem hk1)
        obtain ⟨tw, htw⟩ : ∃ t, l[k] = t := ⟨_, rfl⟩
        rw [htw] at c1 c2 c3 hfit
        obtain ⟨u, r, s⟩ := tw
        have hu := hfit.u
        have hr := hfit.r
        have hs := hfit.s
        dsimp only at c1 c2 c3 hu hr hs
        subst hPe
        have T1 := Lib.hid (fun w ht => HX.out.turn a u r w ht HI.out.2.2.1 hu hr)
        have T2 := Lib.hid (fun w ht => HX.out.turn b u s w ht HI.out.2.2.2 hu hs)
        have W1 := Lib.hid (fun w ht => HX.out.within r d w ht hr hd)
        have W2 := Lib.hid (fun w ht => HX.out.within s d w ht hs hd)
        clear htw hfit hu hr hs
        obtain ⟨wt, hwt⟩ : ∃ wt, wt = wr.alloc (.cells #[.int .i64 u, .int .i64 r, .int .i64 s] 40) := ⟨_, rfl⟩
        have hlt1 := HAk.out.lt
        have hlt2 := HBk.out.lt
        obtain ⟨gt, hgt⟩ : ∃ g, g = wr.heap.size := ⟨_, rfl⟩
        have E : Env w wt ga gt a b u r s := by
          rw [hwt, hgt]
          exact ⟨blk_old HAk.out _, blk_old HBk.out _, blk_new wr _ _ _ rfl, HWk.out.alloc HWk.out.size _⟩
        have E := Lib.hid E
        have hwt2 := Lib.hid hwt
        have HGT := Lib.hid hgt
        have e1 : wt.cell? ⟨gt, 1, none⟩ = some (.int .i64 r) := E.out.T.cell 1
        rw [← hgt] at hlt1 hlt2
        clear hwt hgt HAk HBk HWk
        go_wp2_with (rw [← hwt2.out, ← HGT.out])
        refine (W1.out _ (HX.out.tbelow _ _ HT.out E.out.W)).mono ?_
        rintro e w4 ⟨rfl, hb⟩
        have E := Lib.hid (E.out.below hb)
        clear hb e1 c1 c2 c3 hwt2 HGT
        cases hwi : withinB r d with
        | false =>
          go_wp2_with fail
          go_ret
          exact ⟨rfl, E.out.W⟩
        | true =>
        have e2 : w4.cell? ⟨gt, 2, none⟩ = some (.int .i64 s) := E.out.T.cell 2
        go_wp2_with fail
        refine (W2.out _ (HX.out.tbelow _ _ HT.out E.out.W)).mono ?_
        rintro e w5 ⟨rfl, hb⟩
        have E := Lib.hid (E.out.below hb)
        clear hb e2
        cases hwj : withinB s d with
        | false =>
          go_wp2_with fail
          go_ret
          exact ⟨rfl, E.out.W⟩
        | true =>
        have e0 : w5.cell? ⟨gt, 0, none⟩ = some (.int .i64 u) := E.out.T.cell 0
        have e1 : w5.cell? ⟨gt, 1, none⟩ = some (.int .i64 r) := E.out.T.cell 1
        have e5 : w5.cell? ⟨ga, 0, none⟩ = some (.int .i64 a) := E.out.A.cell 0
        go_wp2_with fail
        refine (T1.out _ (HX.out.tbelow _ _ HT.out E.out.W)).mono ?_
        rintro e w6 ⟨rfl, hb⟩
        have E := Lib.hid (E.out.below hb)
        clear hb e0 e1 e5
        obtain ⟨⟨a', ea⟩, hae⟩ : ∃ x, turnP a u r = x := ⟨_, rfl⟩
        obtain ⟨⟨b', eb⟩, hbe⟩ : ∃ x, turnP b u s = x := ⟨_, rfl⟩
        rw [hae]
        rw [hbe] at T2
        have HAE := Lib.hid hae
        have HBE := Lib.hid hbe
        clear hae hbe
        obtain ⟨w7, hw7⟩ : ∃ x, x = w6.alloc (.cells #[.int .i64 a'] 23) := ⟨_, rfl⟩
        obtain ⟨gx, hgx⟩ : ∃ g, g = w6.heap.size := ⟨_, rfl⟩
        have hgx1 : gt < gx := by rw [hgx]; exact E.out.T.lt
        have EX := Lib.hid (show Blk w7 gx 23 [.int .i64 a'] by rw [hw7, hgx]; exact blk_new w6 _ _ _ rfl)
        have E := Lib.hid (show Env w w7 ga gt a b u r s by rw [hw7]; exact E.out.alloc _)
        have HG7 := Lib.hid hgx
        have HW7 := Lib.hid hw7
        have e0 : w7.cell? ⟨gt, 0, none⟩ = some (.int .i64 u) := E.out.T.cell 0
        have e1 : w7.cell? ⟨gt, 2, none⟩ = some (.int .i64 s) := E.out.T.cell 2
        have e5 : w7.cell? ⟨ga + 1, 0, none⟩ = some (.int .i64 b) := E.out.B.cell 0
        clear hw7 hgx
        go_wp2_with (rw [← HW7.out, ← HG7.out])
        refine (T2.out _ (HX.out.tbelow _ _ HT.out E.out.W)).mono ?_
        rintro e w8 ⟨rfl, hb⟩
        have E := Lib.hid (E.out.below hb)
        have EX := Lib.hid (EX.out.below hb)
        clear hb e0 e1 e5 HW7 HG7
        obtain ⟨w9, hw9⟩ : ∃ x, x = w8.alloc (.cells #[.int .i64 b'] 23) := ⟨_, rfl⟩
        obtain ⟨gy, hgy⟩ : ∃ g, g = w8.heap.size := ⟨_, rfl⟩
        have hgy1 : gt < gy := by rw [hgy]; exact E.out.T.lt
        have EY := Lib.hid (show Blk w9 gy 23 [.int .i64 b'] by rw [hw9, hgy]; exact blk_new w8 _ _ _ rfl)
        have EX := Lib.hid (show Blk w9 gx 23 [.int .i64 a'] by rw [hw9]; exact blk_old EX.out _)
        have E := Lib.hid (show Env w w9 ga gt a b u r s by rw [hw9]; exact E.out.alloc _)
        have HG9 := Lib.hid hgy
        have HW9 := Lib.hid hw9
        clear hw9 hgy
        by_cases hea : ea = 0
        · subst hea
          by_cases heb : eb = 0
          · subst heb
            have x0 : w9.cell? ⟨gx, 0, none⟩ = some (.int .i64 a') := EX.out.cell 0
            have y0 : w9.cell? ⟨gy, 0, none⟩ = some (.int .i64 b') := EY.out.cell 0
            have x1 : w9.cell? ⟨ga, 0, none⟩ = some (.int .i64 a) := E.out.A.cell 0
            have y1 : w9.cell? ⟨ga + 1, 0, none⟩ = some (.int .i64 b) := E.out.B.cell 0
            have fa : w9.frozen? ⟨ga, 0, none⟩ = false := E.out.A.frozen 0
            have fb : w9.frozen? ⟨ga + 1, 0, none⟩ = false := E.out.B.frozen 0
            go_wp2_with (rw [← HW9.out, ← HG9.out])
            have m1 : ga ≠ gx := by omega
            have m2 : ga ≠ gy := by omega
            have m3 : ga + 1 ≠ gx := by omega
            have m4 : ga + 1 ≠ gy := by omega
            have m5 : gx ≠ ga := by omega
            have m6 : gy ≠ ga := by omega
            have m7 : gx ≠ ga + 1 := by omega
            have m8 : gy ≠ ga + 1 := by omega
            have EZ : Env w ((w9.setCell ⟨ga, 0, none⟩ (.int .i64 a')).setCell ⟨ga + 1, 0, none⟩ (.int .i64 b')) ga gt a' b' u r s :=
              ⟨(E.out.A.set 0 (.int .i64 a')).set_other (by omega) 0 _, (E.out.B.set_other (by omega) 0 _).set 0 (.int .i64 b'), (E.out.T.set_other (by omega) 0 _).set_other (by omega) 0 _, (E.out.W.setCell (p := ⟨ga, 0, none⟩) hga _).setCell (p := ⟨ga + 1, 0, none⟩) (Nat.le_succ_of_le hga) _⟩
            have EZ := Lib.hid EZ
            have hma : turnOk a u r = true ∧ a' = a + u * (1000 + r) := by
              have e := HAE.out
              have h := turn_made (c := a) (u := u) (r := r) (by rw [e])
              rw [e] at h
              exact ⟨h.1, congrArg Prod.fst h.2.1⟩
            have hmb : turnOk b u s = true ∧ b' = b + u * (1000 + s) := by
              have e := HBE.out
              have h := turn_made (c := b) (u := u) (r := s) (by rw [e])
              rw [e] at h
              exact ⟨h.1, congrArg Prod.fst h.2.1⟩
            have ka := turn_ok hma.1
            have kb := turn_ok hmb.1
            have ha0 : 0 ≤ a0 := HI.out.1 ka.2.2.1
            have hb00 : 0 ≤ b0 := HI.out.2.1 kb.2.2.1
            have HLL : Hid (Leased d a0 b0 a' b') := by
              show Leased _ _ _ _ _
              rw [hma.2, hmb.2]
              exact leased_turn HL.out ka.1.1 ⟨d0, d1⟩ (within_iff.1 hwi).2.2 (within_iff.1 hwj).2.2
            have ia : I64 a' := by have h := turn_64 (c := a) (u := u) (r := r); rw [HAE.out] at h; exact h
            have ib : I64 b' := by have h := turn_64 (c := b) (u := u) (r := s); rw [HBE.out] at h; exact h
            have HII : Hid ((0 ≤ a' → 0 ≤ a0) ∧ (0 ≤ b' → 0 ≤ b0) ∧ I64 a' ∧ I64 b') := ⟨fun _ => ha0, fun _ => hb00, ia, ib⟩
            have HSAFE := Lib.hid (leased_safe (t := t) HLL.out ⟨d0, d1⟩ ha0 hb00)
            rw [HQ.out, HRA.out, HRB.out] at HSAFE
            have RA := Lib.hid (fun w ht => HX.out.read a' w ht ia)
            have RB := Lib.hid (fun w ht => HX.out.read b' w ht ib)
            have iva := read_64 ia
            have ivb := read_64 ib
            obtain ⟨va, hva⟩ : ∃ x, readP a' = x := ⟨_, rfl⟩
            obtain ⟨vb, hvb⟩ : ∃ x, readP b' = x := ⟨_, rfl⟩
            rw [hva] at RA iva HSAFE
            rw [hvb] at RB ivb HSAFE
            have OV := Lib.hid (fun w ht => HX.out.over ra va t w ht hra64 iva htm)
            have LV := Lib.hid (fun w ht => HX.out.live rb vb q w ht hrb64 ivb hq64)
            clear hva hvb ia ib hma hmb ka kb ha0 hb00 iva ivb HL HI HAE HBE
            go_region_with fail
            all_goals
              obtain ⟨wz, hwz⟩ : ∃ x, x = (w9.setCell ⟨ga, 0, none⟩ (.int .i64 a')).setCell ⟨ga + 1, 0, none⟩ (.int .i64 b') := ⟨_, rfl⟩
              rw [← hwz] at EZ ⊢
              clear hwz x0 y0 x1 y1 fa fb m1 m2 m3 m4 m5 m6 m7 m8 E EX EY
              have ED := Lib.hid (EZ.out.below (Below.refl _ _).drew)
              have z0 : wz.cell? ⟨ga, 0, none⟩ = some (.int .i64 a') := EZ.out.A.cell 0
              cases hov : overP ra va t with
              | false =>
                rw [hov] at OV
                clear LV HSAFE RB
                go_wp2_with fail
                refine (RA.out _ (HX.out.tbelow _ _ HT.out ED.out.W)).mono ?_
                rintro e u1 ⟨rfl, hb⟩
                have E := Lib.hid (ED.out.below hb)
                clear hb z0
                go_wp2_with fail
                refine (OV.out _ (HX.out.tbelow _ _ HT.out E.out.W)).mono ?_
                rintro e u2 ⟨rfl, hb⟩
                have E := Lib.hid (E.out.below hb)
                clear hb
                go_wp2_with fail
                go_roundg g
                case measure => omega
                case rel => exact ⟨k + 1, a', b', by omega, by go_num, HLL, HII, E.out.A, E.out.B, E.out.W⟩
              | true =>
                rw [hov] at OV
                have hsf := HSAFE.out hov
                rw [hsf] at LV
                clear HSAFE hsf
                go_wp2_with fail
                refine (RA.out _ (HX.out.tbelow _ _ HT.out ED.out.W)).mono ?_
                rintro e u1 ⟨rfl, hb⟩
                have E := Lib.hid (ED.out.below hb)
                clear hb z0
                go_wp2_with fail
                refine (OV.out _ (HX.out.tbelow _ _ HT.out E.out.W)).mono ?_
                rintro e u2 ⟨rfl, hb⟩
                have E := Lib.hid (E.out.below hb)
                have z1 : u2.cell? ⟨ga + 1, 0, none⟩ = some (.int .i64 b') := E.out.B.cell 0
                clear hb
                go_wp2_with fail
                refine (RB.out _ (HX.out.tbelow _ _ HT.out E.out.W)).mono ?_
                rintro e u3 ⟨rfl, hb⟩
                have E := Lib.hid (E.out.below hb)
                clear hb z1
                go_wp2_with fail
                refine (LV.out _ (HX.out.tbelow _ _ HT.out E.out.W)).mono ?_
                rintro e u4 ⟨rfl, hb⟩
                have E := Lib.hid (E.out.below hb)
                clear hb
                go_wp2_with fail
                go_roundg g
                case measure => omega
                case rel => exact ⟨k + 1, a', b', by omega, by go_num, HLL, HII, E.out.A, E.out.B, E.out.W⟩
          · go_wp2_with (rw [← HW9.out, ← HG9.out])
            go_ret
            exact ⟨rfl, E.out.W⟩
        · go_wp2_with (rw [← HW9.out, ← HG9.out])
          go_ret
          exact ⟨rfl, E.out.W⟩
end Go.Proofs.Ytidgmobnclchkaa.dri
