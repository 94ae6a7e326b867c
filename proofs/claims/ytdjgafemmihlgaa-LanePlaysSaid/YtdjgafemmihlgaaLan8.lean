/- The developers' Twice, At, Spoil. -/
import Derived.Test.YtdjgafemmihlgaaLan7
namespace Go.Proofs.Ytdjgafemmihlgaa.lan
open Go.RowKit
open Go.Proofs.Ytdjgafemmihlgaa.oct Go.Proofs.Ytdjgafemmihlgaa.ref Go.Proofs.Ytdjgafemmihlgaa.rows Go.Proofs.Ytdjgafemmihlgaa.rowg Go.Proofs.Ytdjgafemmihlgaa.trn
open Go.Lib (byteCells)

theorem results_rowtmp {P : Program} {fn : Func} {p q : Tmp} {ty : TypeId} (h : fn.results = #[.cell p ty, .tmp q]) (tmps : Array Value) (w : World) (g : Nat) (t : TypeId) (X : List Value) (u : Value) {d : TypeDesc}
    (hp : tmps.getD p undef = .pointer (some ⟨g, 0, none⟩)) (hq : tmps.getD q undef = u) (hB : Blk w g t X) (hu : P.underlying ty = some d) (hd : (match d with | .struct _ | .array _ _ => true | _ => false) = true) (hi : (P.info? ty).map (·.size) = some X.length) :
    (results fn tmps).run P w = .ok (.tuple #[.agg X.toArray, u]) w := by
  have hp' : tmps[p]?.getD undef = .pointer (some ⟨g, 0, none⟩) := by simpa using hp
  have hq' : tmps[q]?.getD undef = u := by simpa using hq
  have hl := run_loadVar_row (P := P) w g t ty X.toArray (0, 0) d hB hu hd (by simpa using hi)
  simp [results, h, hp', hq', asAddr, hl]
theorem missP_none {s : LS} {k : Int} (h : atP s k = none) : missP s k = 6 := by unfold missP; rw [if_neg (atP_none h)]
theorem missP_some {s : LS} {k : Int} {i : Nat} (h : atP s k = some i) : missP s k = 0 := by have := atP_some h; unfold missP; rw [if_pos (by omega)]
set_option maxRecDepth 100000 in
set_option maxHeartbeats 4000000 in
theorem twice_c {w : World} {R : Nat → Prop} {g : Nat} {s : LS} (h : LA w R g s) (hw : Wf s) (k : Int) (hk : I64 k) :
    Calls Try.prog 19 #[ptr g, .int .i64 k] w fun e w' => e = .returned (err (twiceP s k).1) ∧ To w w' R g (twiceP s k).2 := by
  have HM := Lib.hid (missing_c h hw k hk)
  have HH := Lib.hid h
  unfold twiceP
  cases ha : atP s k with
  | none =>
    rw [missP_none ha] at HM
    dsimp only
    clear ha hw h
    go_enter Try.func19, Try.ntmps19
    go_wp2_with fail
    refine HM.out.mono ?_
    rintro e w1 ⟨rfl, rfl⟩
    go_wp2_with fail
    go_ret
    exact ⟨rfl, To.refl HH.out⟩
  | some i =>
    rw [missP_some ha] at HM
    dsimp only
    obtain ⟨_, rfl, hi⟩ := atP_some ha
    obtain ⟨b, c, x, c1, hlc, hxf, hqo, d0, d1, d2, hb, hg⟩ := h.pk hi
    have hx := hw.getD hi
    rw [hxf] at hx ⊢
    have HC := Lib.hid (add_c h hw x hqo.in8 hqo.room.2 (by have := hx.2.2; exact this))
    unfold qenc at HC
    obtain ⟨r, hr⟩ : ∃ r, addP s x.f = r := ⟨_, rfl⟩
    rw [hr] at HC ⊢
    have i1 : (0 : Int) ≤ i := by omega
    have i2 : (i : Int) < s.ps.length := by omega
    clear ha hx hxf hqo hw h hr
    go_enter Try.func19, Try.ntmps19
    go_wp2_with fail
    refine HM.out.mono ?_
    rintro e w1 ⟨rfl, rfl⟩
    go_wp2_with fail
    refine HC.out.mono ?_
    rintro e w1 ⟨rfl, ht⟩
    have HT := Lib.hid ht
    clear ht
    go_wp2_with fail
    go_ret
    exact ⟨rfl, HT.out⟩
theorem twice_nil (w : World) (k : Int) : Calls Try.prog 19 #[.pointer none, .int .i64 k] w fun e w' => e = .returned (err 12) ∧ w = w' := by
  have HU := Lib.hid (missing_nil w k)
  go_enter Try.func19, Try.ntmps19
  go_wp2_with fail
  refine HU.out.mono ?_
  rintro e w1 ⟨rfl, rfl⟩
  go_wp2_with fail
  go_ret
  exact ⟨rfl, rfl⟩
theorem drop_nil (w : World) (k : Int) : Calls Try.prog 20 #[.pointer none, .int .i64 k] w fun e w' => e = .returned (err 12) ∧ w = w' := by
  have HU := Lib.hid (missing_nil w k)
  go_enter Try.func20, Try.ntmps20
  go_wp2_with fail
  refine HU.out.mono ?_
  rintro e w1 ⟨rfl, rfl⟩
  go_wp2_with fail
  go_ret
  exact ⟨rfl, rfl⟩
theorem spoil_nil (w : World) (k j : Int) (v : Value) : Calls Try.prog 24 #[.pointer none, .int .i64 k, .int .i64 j, v] w fun e w' => e = .returned (err 12) ∧ w = w' := by
  have HU := Lib.hid (missing_nil w k)
  go_enter Try.func24, Try.ntmps24
  go_wp2_with fail
  refine HU.out.mono ?_
  rintro e w1 ⟨rfl, rfl⟩
  go_wp2_with fail
  go_ret
  exact ⟨rfl, rfl⟩
/-- what At tells: a packet of new bytes, and an error -/
def TellA (w w' : World) (x : Pk) (n : Nat) (e : Ending) : Prop := ∃ v, e = .returned (.tuple #[.agg #[.int .i64 (x.a : Nat), .int .i64 (x.b : Nat), v], err n]) ∧ NewB w w' x.d v
theorem zero_tell (w : World) (n : Nat) : TellA w (w.alloc (.cells #[.int .i64 0, .int .i64 0, .slice none 0 0] 44)) zeroPk n (.returned (.tuple #[.agg #[.int .i64 0, .int .i64 0, .slice none 0 0], err n])) :=
  ⟨_, rfl, World.ownsRow_nil _ _ _ _, (Below.refl _ _).alloc (Nat.le_refl _) _⟩
set_option maxRecDepth 100000 in
set_option maxHeartbeats 4000000 in
theorem at_nil (w : World) (k : Int) : Calls Try.prog 23 #[.pointer none, .int .i64 k] w fun e w' => TellA w w' zeroPk 12 e := by
  have HU := Lib.hid (fun w => missing_nil w k)
  have HZ := Lib.hid (zero_tell w 12)
  go_enter Try.func23, Try.ntmps23
  go_wp2_with fail
  refine (HU.out _).mono ?_
  rintro e w1 ⟨rfl, rfl⟩
  go_wp2_with fail
  refine bodyPost_ret (results_rowtmp Try.results23 _ _ w.heap.size 44 [.int .i64 0, .int .i64 0, .slice none 0 0] _ rfl rfl (blk_new w _ _ _ rfl) Try.underlying44 rfl infoPk) rfl ?_
  exact HZ.out
set_option maxRecDepth 100000 in
set_option maxHeartbeats 4000000 in
theorem at_c {w : World} {R : Nat → Prop} {g : Nat} {s : LS} (h : LA w R g s) (hw : Wf s) (k : Int) (hk : I64 k) :
    Calls Try.prog 23 #[ptr g, .int .i64 k] w fun e w' => TellA w w' (tellP s k).1 (tellP s k).2 e := by
  have hb0 := (Below.refl w.heap.size w).alloc (Nat.le_refl _) (.cells #[.int .i64 0, .int .i64 0, .slice none 0 0] 44)
  have HM := Lib.hid (missing_c (h.below hb0) hw k hk)
  unfold tellP
  cases ha : atP s k with
  | none =>
    rw [missP_none ha] at HM
    dsimp only
    have HZ := Lib.hid (zero_tell w 6)
    clear ha hw h hb0
    go_enter Try.func23, Try.ntmps23
    go_wp2_with fail
    refine HM.out.mono ?_
    rintro e w1 ⟨rfl, rfl⟩
    go_wp2_with fail
    refine bodyPost_ret (results_rowtmp Try.results23 _ _ w.heap.size 44 [.int .i64 0, .int .i64 0, .slice none 0 0] _ rfl rfl (blk_new w _ _ _ rfl) Try.underlying44 rfl infoPk) rfl ?_
    exact HZ.out
  | some i =>
    rw [missP_some ha] at HM
    dsimp only
    obtain ⟨_, rfl, hi⟩ := atP_some ha
    obtain ⟨b, c, x, c1, hlc, hxf, hqo, d0, d1, d2, hb, hg⟩ := h.pk hi
    have hx := hw.getD hi
    rw [hxf] at hx ⊢
    have HC := Lib.hid (copied_c (w.alloc (.cells #[.int .i64 0, .int .i64 0, .slice none 0 0] 44)) x (hqo.in8.below hb0) hqo.room.2 (by have := hx.2.2; dsimp only [Qk.f] at this; omega))
    unfold qenc NewQ NewB at HC
    have hB0 := blk_new w #[.int .i64 0, .int .i64 0, .slice none 0 0] 44 [.int .i64 0, .int .i64 0, .slice none 0 0] rfl
    have HB0 := Lib.hid hB0
    have HBL := Lib.hid hb0
    have i1 : (0 : Int) ≤ i := by omega
    have i2 : (i : Int) < s.ps.length := by omega
    have hg0 : g ≠ w.heap.size := Nat.ne_of_lt hg
    have hg1 : w.heap.size ≠ g := Nat.ne_of_gt hg
    have hb1 : b ≠ w.heap.size := Nat.ne_of_lt hb
    have hb2 : w.heap.size ≠ b := Nat.ne_of_gt hb
    clear ha hx hxf hqo hw h hB0 hb0
    go_enter Try.func23, Try.ntmps23
    go_wp2_with fail
    refine HM.out.mono ?_
    rintro e w1 ⟨rfl, rfl⟩
    go_wp2_with fail
    refine HC.out.mono ?_
    rintro e w2 ⟨v, rfl, hv, hbw⟩
    have hB2 := HB0.out.below hbw
    have HV := Lib.hid (own_base hv HBL.out.size)
    have HVW : Hid (∀ b, v.ownBlock = some b → w.heap.size + 1 ≤ b) := fun b e => by have := (hv.lt b e).1; simpa using this
    have HB2 := Lib.hid hB2
    have HW := Lib.hid (bnext HBL.out hbw)
    have e0 := hB2.cell 0
    have e1 := hB2.cell 1
    have e2 := hB2.cell 2
    have f0 := hB2.frozen 0
    have f1 := hB2.frozen 1
    have f2 := hB2.frozen 2
    have l2 := hB2.lt
    clear hv hbw hB2
    obtain ⟨q, kc, rfl⟩ := own_slice HV.out
    go_wp2_with fail
    refine bodyPost_ret (results_rowtmp Try.results23 _ _ w.heap.size 44 [.int .i64 (x.a : Nat), .int .i64 (x.b : Nat), .slice q x.d.length kc] _ rfl rfl (((HB2.out.set 0 _).set 1 _).set 2 _) Try.underlying44 rfl infoPk) rfl ?_
    have ht : Turn (fun i => i = w.heap.size) w2 (((w2.setCell ⟨w.heap.size, 0, none⟩ (.int .i64 (x.a : Nat))).setCell ⟨w.heap.size, 1, none⟩ (.int .i64 (x.b : Nat))).setCell ⟨w.heap.size, 2, none⟩ (.slice q x.d.length kc)) :=
      ((Turn.set (S := fun i => i = w.heap.size) _ _ _ _ rfl).next (Turn.set (S := fun i => i = w.heap.size) _ _ _ _ rfl)).next (Turn.set (S := fun i => i = w.heap.size) _ _ _ _ rfl)
    refine ⟨_, rfl, own_turn HV.out ht (fun i hi he => ?_), ?_⟩
    · have := HVW.out i hi
      omega
    · exact ((HW.out.setCell (p := ⟨w.heap.size, 0, none⟩) (Nat.le_refl _) _).setCell (p := ⟨w.heap.size, 1, none⟩) (Nat.le_refl _) _).setCell (p := ⟨w.heap.size, 2, none⟩) (Nat.le_refl _) _
/-- a byte of a packet that is turned -/
theorem LM.spoilt {w : World} {R : Nat → Prop} {g m cnt n : Nat} {v : Value} {qs : List Qk} {D : DataW Unit} (h : LM w R g v qs m cnt D n) {i : Nat} (hi : i < qs.length) (j : Nat) (cc : UInt8) {b : Nat} (hb : (qs[i]).p = some ⟨b, 0, none⟩) :
    LM (w.setCell ⟨b, j, none⟩ (.int .u8 (cc.toNat : Int))) R g v (qs.set i { (qs[i]) with d := (qs[i]).d.set j cc }) m cnt D n ∧ R b := by
  have hx := h.way.each _ (List.getElem_mem hi)
  have hbo : (qs[i]).v.ownBlock = some b := by unfold Qk.v; rw [hb]; rfl
  have hR := hx.foot b hbo
  have ht : Turn (fun k => k = b) w (w.setCell ⟨b, j, none⟩ (.int .u8 (cc.toNat : Int))) := Turn.set _ _ _ _ rfl
  have hval : ∀ l : T, l.length = (qs[i]).d.length → ({ (qs[i]) with d := l } : Qk).v = (qs[i]).v := fun l e => by unfold Qk.v; dsimp only; rw [e]
  refine ⟨⟨h.mem, fun k hk => Nat.lt_of_lt_of_le (h.lt k hk) ht.size, ?_, ⟨?_, h.way.foot, ?_⟩, ?_, map_turn h.map ht (map_own h.map hx.own hbo), h.mmem⟩, hR⟩
  · exact blk_turn h.blk ht fun e => own_blk hx.own h.blk (by decide) hbo e.symm
  · have hc : cells qenc (qs.set i { (qs[i]) with d := (qs[i]).d.set j cc }) = cells qenc qs := by
      unfold cells
      rw [List.flatMap_def, List.flatMap_def, List.map_set]
      congr 1
      apply List.ext_getElem?
      intro t
      by_cases e : i = t
      · subst e
        rw [List.getElem?_set_self (by rw [List.length_map]; exact hi), List.getElem?_map, List.getElem?_eq_getElem hi]
        simp [qenc]
      · rw [List.getElem?_set_ne e]
    rw [hc, List.length_set]
    exact own_turn h.way.own ht fun k hk e => own_apart hx.own h.way.own (by decide) hbo (e ▸ hk)
  · intro y hy
    obtain ⟨t, ht2, rfl⟩ := List.mem_iff_getElem.1 hy
    rw [List.length_set] at ht2
    by_cases e : i = t
    · subst e
      rw [List.getElem_set_self]
      refine ⟨?_, fun b2 e2 => hx.foot b2 (by rw [← hval _ (List.length_set ..)]; exact e2)⟩
      rw [hval _ (List.length_set ..)]
      dsimp only
      rw [List.length_set]
      have ho := hx.own
      rcases ho.2 with ⟨h1, h2⟩ | ⟨g2, cap, cur, h1, h2, h3, h4, h5, h6, h7⟩
      · rw [h1] at hbo; cases hbo
      · rw [h1] at hbo
        injection hbo with hbo
        subst hbo
        refine ⟨?_, Or.inr ⟨g2, cap, cur.set! j (.int .u8 (cc.toNat : Int)), h1, h2, ?_, h4, h5, ?_, ?_⟩⟩
        · rw [byteCells_len, List.length_set, Nat.mul_one]
        · simp [World.setCell, Array.getElem?_modify, h3]
        · simpa using h6
        · rw [show (cur.set! j (.int .u8 (cc.toNat : Int))).toList = cur.toList.set j (.int .u8 (cc.toNat : Int)) by simp, List.take_set, h7]
          unfold byteCells
          rw [List.map_set]
    · rw [List.getElem_set_ne e]
      have hy2 := h.way.each _ (List.getElem_mem ht2)
      refine ⟨own_turn hy2.own ht fun k hk he => ?_, hy2.foot⟩
      have hk2 : (qs[t]).v.ownBlock = some b := he ▸ hk
      rcases Nat.lt_or_gt_of_ne e with e2 | e2
      · exact (List.pairwise_iff_getElem.1 h.apart i t hi ht2 e2) b hbo hk2
      · exact (List.pairwise_iff_getElem.1 h.apart t i ht2 hi e2) b hk2 hbo
  · have hm : (qs.set i { (qs[i]) with d := (qs[i]).d.set j cc }).map Qk.v = qs.map Qk.v := by
      rw [List.map_set, hval _ (List.length_set ..)]
      apply List.ext_getElem?
      intro t
      by_cases e : i = t
      · subst e
        rw [List.getElem?_set_self (by rw [List.length_map]; exact hi), List.getElem?_map, List.getElem?_eq_getElem hi]
        rfl
      · rw [List.getElem?_set_ne e]
    have h2 : (qs.map Qk.v).Pairwise Disj := List.pairwise_map.2 h.apart
    rw [← hm] at h2
    exact List.pairwise_map.1 h2
theorem set_getD {l : List Pk} {i : Nat} (hi : i < l.length) (x : Pk) (e : l.getD i zeroPk = x) : l.set i x = l := by
  subst e
  rw [getD_at hi]
  exact List.set_getElem_self hi
set_option maxRecDepth 100000 in
set_option maxHeartbeats 4000000 in
theorem spoil_c {w : World} {R : Nat → Prop} {g : Nat} {s : LS} (h : LA w R g s) (hw : Wf s) (k j : Int) (cc : UInt8) (hk : I64 k) (hj : I64 j) :
    Calls Try.prog 24 #[ptr g, .int .i64 k, .int .i64 j, .int .u8 (cc.toNat : Int)] w fun e w' => e = .returned (err (spoilP s k j cc).1) ∧ To w w' R g (spoilP s k j cc).2 := by
  have HM := Lib.hid (missing_c h hw k hk)
  have HH := Lib.hid h
  unfold spoilP
  have a1 := hj.1
  have a2 := hj.2
  cases ha : atP s k with
  | none =>
    rw [missP_none ha] at HM
    dsimp only
    clear ha hw h
    go_enter Try.func24, Try.ntmps24
    go_wp2_with fail
    refine HM.out.mono ?_
    rintro e w1 ⟨rfl, rfl⟩
    go_wp2_with fail
    go_ret
    exact ⟨rfl, To.refl HH.out⟩
  | some i =>
    rw [missP_some ha] at HM
    dsimp only
    obtain ⟨_, rfl, hi⟩ := atP_some ha
    obtain ⟨b, c, x, c1, hlc, hxf, hqo, d0, d1, d2, hb, hg⟩ := h.pk hi
    have hx := hw.getD hi
    have hxd : (s.ps.getD i zeroPk).d = x.d := by rw [hxf]; rfl
    have i1 : (0 : Int) ≤ i := by omega
    have i2 : (i : Int) < s.ps.length := by omega
    rw [hxd] at hx ⊢
    have hxl := hx.2.2
    obtain ⟨n, hn⟩ : ∃ n, x.d.length = n := ⟨_, rfl⟩
    by_cases h0 : 0 ≤ j ∧ j < x.d.length
    · rw [if_pos h0]
      obtain ⟨jn, rfl⟩ : ∃ y : Nat, j = y := ⟨j.toNat, by omega⟩
      rw [Int.toNat_natCast]
      have hj2 : jn < x.d.length := by omega
      obtain ⟨bd, o, hpe, hcell⟩ := hqo.in8.at (by omega)
      have hfz : ∃ b3, x.p = some ⟨b3, 0, none⟩ ∧ ∀ t, w.frozen? ⟨b3, t, none⟩ = false := by
        rcases hqo.own.2 with ⟨e1, _⟩ | ⟨g2, cap, cur, e1, _, hgg, _⟩
        · unfold Qk.v at e1; injection e1 with e1; rw [e1] at hpe; cases hpe
        · unfold Qk.v at e1
          injection e1 with e1
          exact ⟨g2, e1, fun t => by simp [World.frozen?, hgg]⟩
      obtain ⟨b3, hp3, hfr⟩ := hfz
      rw [hp3] at hpe
      injection hpe with hpe
      injection hpe with e1 e2
      subst e1
      subst e2
      have q0 := hcell jn hj2
      rw [Nat.zero_add] at q0
      have q1 := hfr jn
      have hbl : b3 < w.heap.size := cell_lt q0
      have HFIN : Hid (To w (w.setCell ⟨b3, jn, none⟩ (.int .u8 ((x.d.getD jn 0 ^^^ cc).toNat : Int))) R g { s with ps := s.ps.set i (spoil (s.ps.getD i zeroPk) jn cc) }) := by
        obtain ⟨v, qs, m, cnt, D, hM, hqs, hcnt, hsh⟩ := h
        have hl := map_len hqs
        have hiq : i < qs.length := by omega
        have hmx := map_at hqs hiq
        have hqd : (qs[i]).d = x.d := by rw [← hxd, hmx]; rfl
        have hqp : (qs[i]).p = some ⟨b3, 0, none⟩ := by
          obtain ⟨p4, c4, e4, _, _, hat⟩ := hM.way.at
          obtain ⟨b5, e5, r0, r1, r2, _⟩ := hat i hiq
          subst e4
          have e6 := (hM.blk.cell 1).symm.trans c1
          simp at e6
          rw [e5] at e6
          have e7 : b5 = b := by simpa using e6.1
          subst e7
          rw [r2] at d2
          unfold Qk.v at d2
          injection d2 with d2
          injection d2 with d2
          rw [d2, hp3]
        obtain ⟨r1, r2⟩ := hM.spoilt hiq jn (x.d.getD jn 0 ^^^ cc) hqp
        refine ⟨R, ⟨v, _, m, cnt, D, r1, ?_, hcnt, hsh⟩, Turn.set _ _ _ _ r2, Grown.refl R w⟩
        rw [List.map_set, hqs]
        congr 1
        unfold spoil
        rw [hmx]
        unfold Qk.f
        dsimp only
        rw [hqd]
      have HX : Hid (bits .xor .u8 ((x.d[jn]).toNat : Int) (cc.toNat : Int) = ((x.d.getD jn 0 ^^^ cc).toNat : Int)) := by
        show _ = _
        rw [xor_u8, List.getD_eq_getElem?_getD, List.getElem?_eq_getElem hj2]
        rfl
      have j2 : (jn : Int) < x.d.length := by omega
      have j3 : (0 : Int) ≤ jn := by omega
      have j4 : ¬ ((jn : Int) < 0) := by omega
      have j5 : ¬ ((x.d.length : Int) ≤ jn) := by omega
      clear ha hx hxf hqo hw h hxd hcell hfr h0 hn
      rw [hp3] at d2
      clear hp3
      go_enter Try.func24, Try.ntmps24
      go_wp2_with fail
      refine HM.out.mono ?_
      rintro e w1 ⟨rfl, rfl⟩
      go_wp2_with fail
      go_ret
      rw [HX.out]
      exact ⟨rfl, HFIN.out⟩
    · rw [if_neg h0]
      have hj0 : j < 0 ∨ (0 ≤ j ∧ (x.d.length : Int) ≤ j) := by omega
      clear ha hx hxf hqo hw h hxd h0 hn
      rcases hj0 with h1 | ⟨h1, h2⟩
      · go_enter Try.func24, Try.ntmps24
        go_wp2_with fail
        refine HM.out.mono ?_
        rintro e w1 ⟨rfl, rfl⟩
        go_wp2_with fail
        go_ret
        exact ⟨rfl, To.refl HH.out⟩
      · have h3 : ¬ (j < 0) := by omega
        go_enter Try.func24, Try.ntmps24
        go_wp2_with fail
        refine HM.out.mono ?_
        rintro e w1 ⟨rfl, rfl⟩
        go_wp2_with fail
        go_ret
        exact ⟨rfl, To.refl HH.out⟩
end Go.Proofs.Ytdjgafemmihlgaa.lan
