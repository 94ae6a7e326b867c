/- The developers' Peek, Open, Make. Texts within the reach; St. -/
import Derived.Test.YtjadginnaogjoaaGreatDoorSe6
namespace Go.Proofs.YtjadginnaogjoaaGreatDoor.sea
open Go.RowKit
open Go.Proofs.YtjadginnaogjoaaGreatDoor.oct Go.Proofs.YtjadginnaogjoaaGreatDoor.ref Go.Proofs.YtjadginnaogjoaaGreatDoor.rows Go.Proofs.YtjadginnaogjoaaGreatDoor.trn
open Go.Proofs.YtjadginnaogjoaaGreatDoor.sha (Rm)
open Go.Lib (byteCells)

def outP (s : T) : Out := match readP s with
  | some t => .inl t
  | none => .inr 3
def outO (k s : T) : Out := match readP s with
  | some t => if s.drop (s.length - 16) = tagT k (headT t) then .inl t else .inr 5
  | none => .inr 3
theorem outP_some {s : T} {t : Tk} (h : readP s = some t) : outP s = .inl t := by unfold outP; rw [h]
theorem outP_none {s : T} (h : readP s = none) : outP s = .inr 3 := by unfold outP; rw [h]
theorem outO_none {k s : T} (h : readP s = none) : outO k s = .inr 3 := by unfold outO; rw [h]
theorem outO_yes {k s : T} {t : Tk} (h : readP s = some t) (h2 : s.drop (s.length - 16) = tagT k (headT t)) : outO k s = .inl t := by unfold outO; rw [h]; dsimp only; rw [if_pos h2]
theorem outO_no {k s : T} {t : Tk} (h : readP s = some t) (h2 : ¬ s.drop (s.length - 16) = tagT k (headT t)) : outO k s = .inr 5 := by unfold outO; rw [h]; dsimp only; rw [if_neg h2]
/-- a new variable that a token is stored into -/
structure Var3 (w wa wb : World) (x y z : Value) : Prop where
  a : w.alloc (.cells #[.int .i64 0, .string ⟨#[]⟩, .int .i64 0] 24) = wa
  s : ((wa.setCell ⟨w.heap.size, 0, none⟩ x).setCell ⟨w.heap.size, 1, none⟩ y).setCell ⟨w.heap.size, 2, none⟩ z = wb
  zero : Blk wa w.heap.size 24 [.int .i64 0, .string ⟨#[]⟩, .int .i64 0]
  blk : Blk wb w.heap.size 24 [x, y, z]
  below : Below w.heap.size w wb
theorem var3 (w : World) (x y z : Value) : ∃ wa wb, Var3 w wa wb x y z := by
  refine ⟨_, _, rfl, rfl, blk_new w _ _ _ rfl, set3 (blk_new w _ _ _ rfl) x y z, set3_below ((Below.refl _ w).alloc (Nat.le_refl _) _) (Nat.le_refl _) x y z⟩
set_option maxRecDepth 100000 in
set_option maxHeartbeats 8000000 in
theorem peek1_c (s : T) (g e0 : Nat) (w : World) (hB : Blk w g e0 [txt s]) (ht : St w) (hs : s.length ≤ 140737488355328) :
    Calls Tryz.prog 32 #[.pointer (some ⟨g, 0, none⟩)] w fun e w' => AE (outP s) e ∧ Below w.heap.size w w' := by
  obtain ⟨w0, hw0⟩ : ∃ w0, w.alloc (.cells #[.int .i64 0, .string ⟨#[]⟩, .int .i64 0] 24) = w0 := ⟨_, rfl⟩
  have hK0 : Blk w0 w.heap.size 24 [.int .i64 0, .string ⟨#[]⟩, .int .i64 0] := by rw [← hw0]; exact blk_new w _ _ _ rfl
  have hb0 : Below w.heap.size w w0 := by rw [← hw0]; exact (Below.refl _ w).alloc (Nat.le_refl _) _
  have hg := hB.lt
  have c0 : w0.cell? ⟨g, 0, none⟩ = some (txt s) := (hB.below hb0).cell 0
  have HRD := Lib.hid (read_c s w0 (ht.below hb0) hs)
  have HK := Lib.hid hK0
  have HB := Lib.hid hb0
  unfold txt at c0 HRD
  clear hK0 hb0 hB ht hs
  go_enter Tryz.func32, Tryz.ntmps32
  go_wp2_with fail
  refine HRD.out.mono ?_
  rintro e w1 ⟨hre, hb1⟩
  cases hr : readP s with
  | none =>
    rw [hr] at hre
    obtain rfl : e = _ := hre
    have HO := Lib.hid (outP_none hr)
    have HB1 := Lib.hid (bnext HB.out hb1)
    clear hr hb1 HRD HK HB
    go_wp2_with fail
    exact ⟨rfl, by rw [HO.out]; exact rfl, HB1.out⟩
  | some t =>
    rw [hr] at hre
    obtain rfl : e = _ := hre
    have HO := Lib.hid (outP_some hr)
    have HB1 := Lib.hid (bnext HB.out hb1)
    have HK1 := Lib.hid (HK.out.below hb1)
    clear hr hb1 HRD HK HB c0 hw0
    cases t with
    | mk k f n =>
      unfold tok txt
      dsimp only
      obtain ⟨S, hS⟩ : ∃ S, (⟨f.toArray⟩ : ByteArray) = S := ⟨_, rfl⟩
      simp only [hS]
      obtain ⟨wa, wb, hv⟩ := var3 w1 (.int .i64 k) (.string S) (.int .i64 n)
      have ha := hv.a
      have hb := hv.s
      obtain ⟨d0, d1, d2⟩ := blk3 hv.zero
      obtain ⟨f0, f1, f2⟩ := frz3 hv.zero
      obtain ⟨e0, e1, e2⟩ := blk3 hv.blk
      have hK2 := HK1.out.below hv.below
      obtain ⟨k0, k1, k2⟩ := blk3 hK2
      obtain ⟨g0, g1, g2⟩ := frz3 hK2
      have HKF := Lib.hid (set3 hK2 (.int .i64 k) (.string S) (.int .i64 n))
      have HBF := Lib.hid (set3_below (bnext HB1.out hv.below) (Nat.le_refl _) (.int .i64 k) (.string S) (.int .i64 n))
      have HS := Lib.hid hS
      clear hv hK2 hS HK1
      go_wp2_with fail
      refine bodyPost_ret (results_blk Tryz.results32 _ _ w.heap.size 24 _ _ rfl HKF.out Tryz.underlying24 rfl infoTk) rfl ?_
      exact ⟨by rw [HO.out, ← HS.out]; exact rfl, HBF.out⟩
set_option maxRecDepth 100000 in
set_option maxHeartbeats 8000000 in
theorem open1_c (s : T) (g e0 h e1 : Nat) (p : Option Addr) (cp : Nat) (key : T) (w : World) (hB : Blk w g e0 [txt s]) (hC : Blk w h e1 [.slice p key.length cp]) (hp : In8 w p key) (hk : key.length ≤ 140737488354000) (hn : Rm p cp key.length) (ht : St w) (hs : s.length ≤ 140737488355328) :
    Calls Tryz.prog 8 #[.pointer (some ⟨g, 0, none⟩), .pointer (some ⟨h, 0, none⟩)] w fun e w' => AE (outO key s) e ∧ Below w.heap.size w w' := by
  obtain ⟨w0, hw0⟩ : ∃ w0, w.alloc (.cells #[.int .i64 0, .string ⟨#[]⟩, .int .i64 0] 24) = w0 := ⟨_, rfl⟩
  have hK0 : Blk w0 w.heap.size 24 [.int .i64 0, .string ⟨#[]⟩, .int .i64 0] := by rw [← hw0]; exact blk_new w _ _ _ rfl
  have hb0 : Below w.heap.size w w0 := by rw [← hw0]; exact (Below.refl _ w).alloc (Nat.le_refl _) _
  have c0 : w0.cell? ⟨g, 0, none⟩ = some (txt s) := (hB.below hb0).cell 0
  have HRD := Lib.hid (read_c s w0 (ht.below hb0) hs)
  have HK := Lib.hid hK0
  have HB := Lib.hid hb0
  have HC := Lib.hid hC
  have HP := Lib.hid hp
  have HT := Lib.hid ht
  have HD1 := Lib.hid (fun n w => demand_yes n w)
  have HD0 := Lib.hid (fun n w => demand_no n w)
  unfold txt at c0 HRD
  clear hK0 hb0 hB ht hC hp
  go_enter Tryz.func8, Tryz.ntmps8
  go_wp2_with fail
  refine HRD.out.mono ?_
  rintro e w1 ⟨hre, hb1⟩
  cases hr : readP s with
  | none =>
    rw [hr] at hre
    obtain rfl : e = _ := hre
    have HO := Lib.hid (outO_none (k := key) hr)
    have HB1 := Lib.hid (bnext HB.out hb1)
    clear hr hb1 HRD HK HB
    go_wp2_with fail
    exact ⟨rfl, by rw [HO.out]; exact rfl, HB1.out⟩
  | some t =>
    rw [hr] at hre
    obtain rfl : e = _ := hre
    have HOY := Lib.hid (outO_yes (k := key) hr)
    have HON := Lib.hid (outO_no (k := key) hr)
    have HB1 := Lib.hid (bnext HB.out hb1)
    have HK1 := Lib.hid (HK.out.below hb1)
    have HHL := Lib.hid (headT_len ((readP_iff.1 hr).choose_spec.r))
    obtain ⟨G, hG⟩ : ∃ G, s.drop (s.length - 16) = G := ⟨_, rfl⟩
    obtain ⟨H, hH⟩ : ∃ H, headT t = H := ⟨_, rfl⟩
    have HGL : Hid (G.length ≤ 140737488355328) := Lib.hid (by rw [← hG, List.length_drop]; omega)
    rw [hG, hH] at HOY HON
    rw [hH] at HHL
    rw [hG, hH]
    clear hr hb1 HRD HK HB c0 hw0 hG hH
    cases t with
    | mk k f n =>
      unfold tok txt
      dsimp only
      obtain ⟨S, hS⟩ : ∃ S, (⟨f.toArray⟩ : ByteArray) = S := ⟨_, rfl⟩
      simp only [hS]
      obtain ⟨wa, wb, hv⟩ := var3 w1 (.int .i64 k) (.string S) (.int .i64 n)
      have ha := hv.a
      have hb := hv.s
      obtain ⟨d0, d1, d2⟩ := blk3 hv.zero
      obtain ⟨f0, f1, f2⟩ := frz3 hv.zero
      have HB2 := Lib.hid (bnext HB1.out hv.below)
      have HK2 := Lib.hid (HK1.out.below hv.below)
      have HV2 := Lib.hid hv.blk
      have HT2 := Lib.hid (HT.out.below HB2.out)
      obtain ⟨W, cg, hcv, h8, hcg, hbW⟩ := conv_row G wb
      have c1 : W.cell? ⟨h, 0, none⟩ = some (.slice p key.length cp) := (HC.out.below (bnext HB2.out hbW)).cell 0
      have HTG := Lib.hid (tagOf_c p cp key H W (HT2.out.below hbW) (HP.out.below (bnext HB2.out hbW)) hk hn (by have := HHL.out; omega))
      obtain ⟨X, hX⟩ : ∃ X, tagT key H = X := ⟨_, rfl⟩
      rw [hX] at HTG HOY HON
      have HB3 := Lib.hid (bnext HB2.out hbW)
      have HK3 := Lib.hid (HK2.out.below hbW)
      have HV3 := Lib.hid (HV2.out.below hbW)
      have HG8 := Lib.hid h8
      have HS := Lib.hid hS
      have HX := Lib.hid (show X.length ≤ 100 by rw [← hX, tag_len]; decide)
      clear hv hS HK1 HB1 hX HB2 HK2 HV2 HT2 h8 hcg hbW hk hn HC HP HHL hs
      unfold txt at HTG
      go_wp2_with fail
      clear hcv ha hb d0 d1 d2 f0 f1 f2 c1
      refine HTG.out.mono ?_
      rintro e w2 ⟨rfl, hb2⟩
      obtain ⟨W2, cx, hcx, h9, _, hbX⟩ := conv_row X w2
      have hbb : Below W.heap.size W W2 := bnext hb2 hbX
      have HSM := Lib.hid (oct.same_c (some ⟨wb.heap.size, 0, none⟩) (some ⟨w2.heap.size, 0, none⟩) cg cx G X W2 (HG8.out.below hbb) h9 (by have := HGL.out; omega))
      have HB4 := Lib.hid (bnext HB3.out hbb)
      have hK4 := HK3.out.below hbb
      obtain ⟨e0, e1, e2⟩ := blk3 (HV3.out.below hbb)
      obtain ⟨k0, k1, k2⟩ := blk3 hK4
      obtain ⟨g0, g1, g2⟩ := frz3 hK4
      have HKF := Lib.hid (set3 hK4 (.int .i64 k) (.string S) (.int .i64 n))
      have HBF := Lib.hid (set3_below HB4.out (Nat.le_refl _) (.int .i64 k) (.string S) (.int .i64 n))
      clear h9 hbX hb2 hbb HTG HB3 HK3 HV3 HG8 hK4 HGL HX
      by_cases hq : G = X
      · rw [decide_eq_true hq] at HSM
        have HO := Lib.hid (HOY.out hq)
        clear hq HOY HON
        go_wp2_with (first
          | (go_at_call 11; refine HSM.out.mono ?_; rintro e w' ⟨rfl, rfl⟩)
          | (go_at_call 10; refine (HD1.out _ _).mono ?_; rintro e w' ⟨rfl, rfl⟩))
        refine bodyPost_ret (results_blk Tryz.results8 _ _ w.heap.size 24 _ _ rfl HKF.out Tryz.underlying24 rfl infoTk) rfl ?_
        exact ⟨by rw [HO.out, ← HS.out]; exact rfl, HBF.out⟩
      · rw [decide_eq_false hq] at HSM
        have HO := Lib.hid (HON.out hq)
        clear hq HOY HON
        go_wp2_with (first
          | (go_at_call 11; refine HSM.out.mono ?_; rintro e w' ⟨rfl, rfl⟩)
          | (go_at_call 10; refine (HD0.out _ _).mono ?_; rintro e w' ⟨rfl, rfl⟩))
        exact ⟨rfl, by rw [HO.out]; exact rfl, HB4.out⟩
theorem enters_peek : ∀ args w, (callFunc 32 args).run Tryz.prog w = .ok (.enter 32 args) w := fun _ _ => by kernel_rfl
theorem enters_open : ∀ args w, (callFunc 8 args).run Tryz.prog w = .ok (.enter 8 args) w := fun _ _ => by kernel_rfl
/-- results: a struct in a box, a value -/
theorem results_bt {P : Program} {fn : Func} {p q : Tmp} {ty : TypeId} (h : fn.results = #[.cell p ty, .tmp q]) (tmps : Array Value) (w : World) (g : Nat) (t : TypeId) (X : List Value) {d : TypeDesc} (y : Value)
    (hp : tmps.getD p undef = .pointer (some ⟨g, 0, none⟩)) (hq : tmps.getD q undef = y) (hB : Blk w g t X)
    (hu : P.underlying ty = some d) (hd : (match d with | .struct _ | .array _ _ => true | _ => false) = true) (hi : (P.info? ty).map (·.size) = some X.length) :
    (results fn tmps).run P w = .ok (.tuple #[.agg X.toArray, y]) w := by
  have hp' : tmps[p]?.getD undef = .pointer (some ⟨g, 0, none⟩) := by simpa using hp
  have hq' : tmps[q]?.getD undef = y := by simpa using hq
  have hl := run_loadVar_row (P := P) w g t ty X.toArray (0, 0) d hB hu hd (by simpa using hi)
  simp [results, h, hp', hq', asAddr, hl]
set_option maxRecDepth 100000 in
set_option maxHeartbeats 8000000 in
theorem peek_c (s : T) (w : World) (ht : St w) (hs : s.length ≤ 140737488355328) :
    Calls Tryz.prog 15 #[txt s] w fun e w' => e = .returned (.tuple #[tok (tokO (outP s)), .int .i64 (errO (outP s))]) ∧ Below w.heap.size w w' := by
  have hmf : ∀ (fn : Fn) (first cap : Array Value) (w : World), (Instr.makeFunc fn first cap).run Tryz.prog w = .ok (.func fn first cap) w := fun _ _ _ _ => rfl
  obtain ⟨w0, hw0⟩ : ∃ w0, (w.alloc (.cells #[txt s] 9)).alloc (.cells #[.int .i64 0, .string ⟨#[]⟩, .int .i64 0] 24) = w0 := ⟨_, rfl⟩
  have hA0 : Blk w0 w.heap.size 9 [txt s] := by rw [← hw0]; exact blk_old (blk_new w _ _ _ rfl) _
  have hB0 : Blk w0 (w.heap.size + 1) 24 [.int .i64 0, .string ⟨#[]⟩, .int .i64 0] := by
    rw [← hw0]
    have h := blk_new (w.alloc (.cells #[txt s] 9)) #[.int .i64 0, .string ⟨#[]⟩, .int .i64 0] 24 _ rfl
    simpa using h
  have hb0 : Below w.heap.size w w0 := by rw [← hw0]; exact ((Below.refl _ w).alloc (Nat.le_refl _) _).alloc (by simp) _
  have HC := Lib.hid (caught_c 32 #[.pointer (some ⟨w.heap.size, 0, none⟩)] (outP s) w0 enters_peek fun W hW => peek1_c s w.heap.size _ W (hA0.below hW) ((ht.below hb0).below hW) hs)
  obtain ⟨t, htk⟩ : ∃ t, tokO (outP s) = t := ⟨_, rfl⟩
  obtain ⟨er, her⟩ : ∃ er, errO (outP s) = er := ⟨_, rfl⟩
  rw [htk, her] at HC ⊢
  have HB0 := Lib.hid hB0
  have HBW := Lib.hid hb0
  clear hA0 hB0 hb0 ht hs htk her
  unfold txt at hw0
  cases t with
  | mk k f n =>
    unfold tok at HC
    unfold tok
    unfold txt at HC
    unfold txt
    dsimp only at HC ⊢
    obtain ⟨S, hS⟩ : ∃ S, (⟨f.toArray⟩ : ByteArray) = S := ⟨_, rfl⟩
    simp only [hS] at HC ⊢
    clear hS
    go_enter Tryz.func15, Tryz.ntmps15
    go_wp2_with fail
    refine HC.out.mono ?_
    rintro e w1 ⟨rfl, hb1⟩
    have hK1 := HB0.out.below hb1
    obtain ⟨k0, k1, k2⟩ := blk3 hK1
    obtain ⟨g0, g1, g2⟩ := frz3 hK1
    have HKF := Lib.hid (set3 hK1 (.int .i64 k) (.string S) (.int .i64 n))
    have HBF := Lib.hid (set3_below (g := w.heap.size + 1) (bnext HBW.out hb1) (Nat.le_succ _) (.int .i64 k) (.string S) (.int .i64 n))
    clear hK1 hw0 HC HB0 HBW
    go_wp2_with fail
    refine bodyPost_ret (results_bt Tryz.results15 _ _ (w.heap.size + 1) 24 _ (.int .i64 er) rfl rfl HKF.out Tryz.underlying24 rfl infoTk) rfl ?_
    exact ⟨rfl, HBF.out⟩
set_option maxRecDepth 100000 in
set_option maxHeartbeats 8000000 in
theorem open_c (p : Option Addr) (cp : Nat) (key s : T) (w : World) (ht : St w) (hp : In8 w p key) (hk : key.length ≤ 140737488354000) (hn : Rm p cp key.length) (hs : s.length ≤ 140737488355328) :
    Calls Tryz.prog 4 #[.slice p key.length cp, txt s] w fun e w' => e = .returned (.tuple #[tok (tokO (outO key s)), .int .i64 (errO (outO key s))]) ∧ Below w.heap.size w w' := by
  have hmf : ∀ (fn : Fn) (first cap : Array Value) (w : World), (Instr.makeFunc fn first cap).run Tryz.prog w = .ok (.func fn first cap) w := fun _ _ _ _ => rfl
  obtain ⟨w0, hw0⟩ : ∃ w0, ((w.alloc (.cells #[.slice p key.length cp] 22)).alloc (.cells #[txt s] 9)).alloc (.cells #[.int .i64 0, .string ⟨#[]⟩, .int .i64 0] 24) = w0 := ⟨_, rfl⟩
  have hA0 : Blk w0 w.heap.size 22 [.slice p key.length cp] := by rw [← hw0]; exact blk_old (blk_old (blk_new w _ _ _ rfl) _) _
  have hC0 : Blk w0 (w.heap.size + 1) 9 [txt s] := by
    rw [← hw0]
    have h := blk_new (w.alloc (.cells #[.slice p key.length cp] 22)) #[txt s] 9 _ rfl
    exact blk_old (by simpa using h) _
  have hB0 : Blk w0 (w.heap.size + 1 + 1) 24 [.int .i64 0, .string ⟨#[]⟩, .int .i64 0] := by
    rw [← hw0]
    have h := blk_new ((w.alloc (.cells #[.slice p key.length cp] 22)).alloc (.cells #[txt s] 9)) #[.int .i64 0, .string ⟨#[]⟩, .int .i64 0] 24 _ rfl
    simpa using h
  have hb0 : Below w.heap.size w w0 := by rw [← hw0]; exact (((Below.refl _ w).alloc (Nat.le_refl _) _).alloc (by simp) _).alloc (by simp; omega) _
  have HC := Lib.hid (caught_c 8 #[.pointer (some ⟨w.heap.size + 1, 0, none⟩), .pointer (some ⟨w.heap.size, 0, none⟩)] (outO key s) w0 enters_open fun W hW => open1_c s (w.heap.size + 1) _ w.heap.size _ p cp key W (hC0.below hW) (hA0.below hW) (hp.below (bnext hb0 hW)) hk hn ((ht.below hb0).below hW) hs)
  obtain ⟨t, htk⟩ : ∃ t, tokO (outO key s) = t := ⟨_, rfl⟩
  obtain ⟨er, her⟩ : ∃ er, errO (outO key s) = er := ⟨_, rfl⟩
  rw [htk, her] at HC ⊢
  have HB0 := Lib.hid hB0
  have HBW := Lib.hid hb0
  clear hA0 hB0 hb0 hC0 ht hs htk her hp hk hn
  unfold txt at hw0
  cases t with
  | mk k f n =>
    unfold tok at HC
    unfold tok
    unfold txt at HC
    unfold txt
    dsimp only at HC ⊢
    obtain ⟨S, hS⟩ : ∃ S, (⟨f.toArray⟩ : ByteArray) = S := ⟨_, rfl⟩
    simp only [hS] at HC ⊢
    clear hS
    go_enter Tryz.func4, Tryz.ntmps4
    go_wp2_with fail
    refine HC.out.mono ?_
    rintro e w1 ⟨rfl, hb1⟩
    have hK1 := HB0.out.below hb1
    obtain ⟨k0, k1, k2⟩ := blk3 hK1
    obtain ⟨g0, g1, g2⟩ := frz3 hK1
    have HKF := Lib.hid (set3 hK1 (.int .i64 k) (.string S) (.int .i64 n))
    have HBF := Lib.hid (set3_below (g := w.heap.size + 1 + 1) (bnext HBW.out hb1) (by omega) (.int .i64 k) (.string S) (.int .i64 n))
    clear hK1 hw0 HC HB0 HBW
    go_wp2_with fail
    refine bodyPost_ret (results_bt Tryz.results4 _ _ (w.heap.size + 1 + 1) 24 _ (.int .i64 er) rfl rfl HKF.out Tryz.underlying24 rfl infoTk) rfl ?_
    exact ⟨rfl, HBF.out⟩
end Go.Proofs.YtjadginnaogjoaaGreatDoor.sea
