/- A reader's calls but Texts and NewReader, by its plain state (RdV). -/
import Derived.Test.YtpffebcaalbhjaaDoorWdv4
import Derived.Test.YtpffebcaalbhjaaDoorWirApi
namespace Go.Proofs.YtpffebcaalbhjaaDoor.wir
open Go.RowKit
open Go.Proofs.YtpffebcaalbhjaaDoor.oct Go.Proofs.YtpffebcaalbhjaaDoor.ref Go.Proofs.YtpffebcaalbhjaaDoor.rows Go.Proofs.YtpffebcaalbhjaaDoor.rowg
open Go.Lib (byteCells)

/-- a reader, or none -/
def RdV (w : World) (lo hi : Nat) (v : Value) (st : St) : Prop := (v = .pointer none ∧ st = .bad 12 ∧ lo ≤ hi ∧ hi ≤ w.heap.size) ∨ ∃ g, v = .pointer (some ⟨g, 0, none⟩) ∧ RdP w lo hi g st
theorem RdV.sizes {w : World} {lo hi : Nat} {v : Value} {st : St} (h : RdV w lo hi v st) : lo ≤ hi ∧ hi ≤ w.heap.size := by
  rcases h with ⟨_, _, h1, h2⟩ | ⟨g, _, h1, h2, h3, _⟩
  · exact ⟨h1, h2⟩
  · exact ⟨by omega, h3⟩
theorem RdV.keep {w w' : World} {lo hi : Nat} {v : Value} {st : St} (h : RdV w lo hi v st) (hs : w.heap.size ≤ w'.heap.size) (hb : ∀ k, lo ≤ k → k < hi → w'.heap[k]? = w.heap[k]?) : RdV w' lo hi v st := by
  rcases h with ⟨h1, h2, h3, h4⟩ | ⟨g, h1, h2⟩
  · exact Or.inl ⟨h1, h2, h3, Nat.le_trans h4 hs⟩
  · exact Or.inr ⟨g, h1, h2.keep hs hb⟩
theorem stay_grown {w w' : World} {lo hi g : Nat} (h : w.grownBy w' (some g)) (h1 : lo ≤ g) (h2 : g < hi) : Stay lo hi w w' :=
  ⟨h.os, h.tape, h.output, h.size, fun k hk hn => h.block k hk (fun e => hn (by injection e with e; omega))⟩
theorem RdP.blk {w : World} {lo hi g : Nat} {st : St} (h : RdP w lo hi g st) : ∃ d n0, Blk w g 71 [d, .int .i64 n0] := by
  obtain ⟨_, _, _, p, c, t, e0, h4, _⟩ := h
  exact ⟨_, _, h4⟩
theorem in8_front {w : World} {p : Option Addr} {t : T} (h : In8 w p t) (n : Nat) : In8 w p (t.take n) := by
  intro hl
  rw [List.length_take] at hl
  obtain ⟨b, o, rfl, hc⟩ := h (by omega)
  refine ⟨b, o, rfl, fun i hi => ?_⟩
  rw [List.length_take] at hi
  rw [hc i (by omega)]
  simp [List.getD, show i < n by omega]
theorem numM_next (most : Nat) (t : T) : numM most t = if most < (nextR t).1 then (0, .bad 3) else nextR t := by
  by_cases h : (numR 0 t).1 = 0
  · have e : nextR t = ((numR 0 t).2.1, .ok (t.drop (numR 0 t).2.2)) := by unfold nextR; rw [if_neg (by simp [h])]
    rw [e]
    unfold numM
    rw [if_neg (by simp [h])]
  · have e : nextR t = (0, .bad (numR 0 t).1) := by unfold nextR; rw [if_pos h]
    rw [e]
    unfold numM
    rw [if_pos h, if_neg (by simp)]
theorem fault_c (lo hi : Nat) (v : Value) (st : St) (w : World) (hR : RdV w lo hi v st) :
    Calls Tryd.prog 44 #[v] w fun e w' => e = .returned (.int .i64 ((St.err st : Nat) : Int)) ∧ w = w' := by
  rcases hR with ⟨rfl, rfl, _, _⟩ | ⟨g, rfl, hR⟩
  · go_enter Tryd.func44, Tryd.ntmps44
    go_wp2_with fail
    go_ret
    exact ⟨rfl, rfl⟩
  · obtain ⟨_, _, _, p, c, t, e0, hB, _, _, _, _, _, _, hst⟩ := hR
    have c1 : w.cell? ⟨g, 1, none⟩ = some (.int .i64 ((e0 : Nat) : Int)) := hB.cell 1
    have HE : Hid (St.err st = e0) := by
      show _ = _
      rw [hst]
      unfold stC
      by_cases h : e0 = 0
      · rw [if_pos h, h]; rfl
      · rw [if_neg h]; rfl
    rw [HE.out]
    clear hst hB HE
    go_enter Tryd.func44, Tryd.ntmps44
    go_wp2_with fail
    go_ret
    exact ⟨rfl, rfl⟩
/-- what a call of a reader comes to -/
def RdA (w w' : World) (lo hi : Nat) (v u : Value) (st : St) (e : Ending) : Prop := e = .returned u ∧ RdV w' lo hi v st ∧ Stay lo hi w w'
set_option maxRecDepth 100000 in
set_option maxHeartbeats 4000000 in
theorem upto_c (lo hi most : Nat) (v : Value) (st : St) (w : World) (hR : RdV w lo hi v st) :
    Calls Tryd.prog 58 #[v, .int .u64 (most : Int)] w fun e w' => RdA w w' lo hi v (.int .u64 ((numS most st).1 : Nat)) (numS most st).2 e := by
  have HF := Lib.hid (fault_c lo hi v st w hR)
  have HR := Lib.hid hR
  cases st with
  | bad e0 =>
    have hn0 : e0 ≠ 0 := by
      rcases hR with ⟨_, h, _, _⟩ | ⟨g, _, h⟩
      · injection h with h; omega
      · exact h.badE.1
    have i0 : ((e0 : Int) == 0) = false := by rw [beq_eq_false_iff_ne]; omega
    show Calls _ _ _ _ fun e w' => RdA w w' lo hi v (.int .u64 ((0 : Nat) : Int)) (.bad e0) e
    have HF' : Hid (Calls Tryd.prog 44 #[v] w fun e w' => e = .returned (.int .i64 (e0 : Int)) ∧ w = w') := HF.out
    clear hR HF hn0
    go_enter Tryd.func58, Tryd.ntmps58
    go_wp2_with fail
    refine HF'.out.mono ?_
    rintro e w' ⟨rfl, rfl⟩
    go_wp2_with fail
    go_ret
    exact ⟨rfl, HR.out, Stay.refl _ _ _⟩
  | ok t =>
    rcases hR with ⟨_, h, _, _⟩ | ⟨g, rfl, hP⟩
    · cases h
    have hlo := hP.low
    have hhi := hP.high
    have HN := Lib.hid (next_c lo hi g t w hP)
    have HF' : Hid (Calls Tryd.prog 44 #[.pointer (some ⟨g, 0, none⟩)] w fun e w' => e = .returned (.int .i64 0) ∧ w = w') := HF.out
    show Calls _ _ _ _ fun e w' => RdA w w' lo hi _ (.int .u64 ((numM most t).1 : Nat)) (numM most t).2 e
    have HE := Lib.hid (numM_next most t)
    obtain ⟨q, hq⟩ : ∃ q, numM most t = q := ⟨_, rfl⟩
    obtain ⟨r, hr⟩ : ∃ r, nextR t = r := ⟨_, rfl⟩
    rw [hq, hr] at HE
    rw [hr] at HN
    rw [hq]
    clear hq hr hP HF HR
    obtain ⟨n, sn⟩ := r
    dsimp only at HE HN
    go_enter Tryd.func58, Tryd.ntmps58
    go_wp2_with fail
    refine HF'.out.mono ?_
    rintro e w' ⟨rfl, rfl⟩
    go_wp2_with fail
    refine HN.out.mono ?_
    rintro e w1 ⟨rfl, hP1, hg1⟩
    by_cases hgt : most < n
    · have i1 : (n : Int) > (most : Int) := by omega
      obtain ⟨d, n0, hB1⟩ := hP1.blk
      have hsz := hP1.size
      have HC := Lib.hid (fail_c 3 hB1)
      have HG := Lib.hid hg1
      have HQ : Hid (q = (0, .bad 3)) := by show _ = _; rw [HE.out, if_pos hgt]
      clear hP1 hg1 hB1 hgt HE HN HF'
      go_wp2_with fail
      refine HC.out.mono ?_
      rintro e w2 ⟨rfl, hb2, hg2⟩
      go_wp2_with fail
      go_ret
      rw [HQ.out]
      exact ⟨rfl, Or.inr ⟨g, rfl, RdP.bad hlo hhi (Nat.le_trans hsz hg2.size) hb2 (by decide)⟩, (stay_grown HG.out hlo hhi).trans (stay_grown hg2 hlo hhi)⟩
    · have i1 : ¬ ((n : Int) > (most : Int)) := by omega
      have HQ : Hid (q = (n, sn)) := by show _ = _; rw [HE.out, if_neg hgt]
      have HP1 := Lib.hid hP1
      have HG := Lib.hid hg1
      clear hP1 hg1 hgt HE HN HF'
      go_wp2_with fail
      go_ret
      rw [HQ.out]
      exact ⟨rfl, Or.inr ⟨g, rfl, HP1.out⟩, stay_grown HG.out hlo hhi⟩
/-- what take answers of bytes -/
def takeR (n : Nat) (t : T) : T × St := if t.length < n then ([], .bad 4) else (t.take n, .ok (t.drop n))
set_option maxRecDepth 100000 in
set_option maxHeartbeats 4000000 in
theorem take_c (lo hi g n : Nat) (t : T) (w : World) (hn : n ≤ 9223372036854775807) (hR : RdP w lo hi g (.ok t)) :
    Calls Tryd.prog 59 #[.pointer (some ⟨g, 0, none⟩), .int .i64 (n : Int)] w fun e w' => e = .returned (tx8 (takeR n t).1) ∧ RdP w' lo hi g (takeR n t).2 ∧ w.grownBy w' (some g) := by
  have hlo := hR.low
  have hhi := hR.high
  have hsz := hR.size
  obtain ⟨p, c, hB, h8, hnil, htc, htl, hpb, hpp⟩ := hR.good
  have c0 : w.cell? ⟨g, 0, none⟩ = some (.slice p t.length c) := hB.cell 0
  have f0 := hB.frozen 0
  have hlt := hB.lt
  have HB := Lib.hid hB
  have HPB := Lib.hid hpb
  unfold tx8
  by_cases hs : t.length < n
  · have hE : takeR n t = ([], .bad 4) := by unfold takeR; rw [if_pos hs]
    have HC := Lib.hid (fail_c 4 hB)
    have i1 : (n : Int) > (t.length : Int) := by omega
    rw [hE]
    clear hB hR hpb hpp hnil hE hs h8
    go_enter Tryd.func59, Tryd.ntmps59
    go_wp2_with fail
    refine HC.out.mono ?_
    rintro e w2 ⟨rfl, hb2, hg2⟩
    go_wp2_with fail
    go_ret
    exact ⟨rfl, RdP.bad hlo hhi (Nat.le_trans hsz hg2.size) hb2 (by decide), hg2⟩
  · have hE : takeR n t = (t.take n, .ok (t.drop n)) := by unfold takeR; rw [if_neg hs]
    have i1 : ¬ ((n : Int) > (t.length : Int)) := by omega
    have hnt : n ≤ t.length := by omega
    have hnc : n ≤ c := by omega
    have hnI : (n : Int) ≤ (c : Int) := by omega
    have hcv := conv_in8 (in8_front h8 n) hpp c
    rw [List.length_take, Nat.min_eq_left hnt] at hcv
    rw [hE]
    rcases hpp with rfl | ⟨b, o, rfl⟩
    · obtain rfl := in8_nil h8
      obtain rfl := hnil rfl
      obtain rfl : n = 0 := by simpa using hnt
      clear hB hR hpb hnil hE hs h8
      go_enter Tryd.func59, Tryd.ntmps59
      go_wp2_with fail
      go_ret
      refine ⟨rfl, ⟨hlo, hhi, by simpa using hsz, none, 0, [], 0, HB.out.set 0 _, (fun h => absurd h (by simp)), fun _ => rfl, by simp, by simp, (fun b o h => by cases h), Or.inl rfl, rfl⟩, grown_set _ _ _⟩
    · have H8 := Lib.hid h8
      have HPP := Lib.hid (HPB.out b o rfl)
      have HRR : Hid (In8 w (some ⟨b, o + n, none⟩) (t.drop n)) := in8_rest h8
      clear hB hR hpb hnil hE hs h8
      go_enter Tryd.func59, Tryd.ntmps59
      go_wp2_with fail
      · have hck : t.length ≤ n := by omega
        go_ret
        exact ⟨rfl, RdP.rest hlo hhi hsz HB.out (in8_done hck) HPP.out (by omega) htl, grown_set _ _ _⟩
      · go_ret
        exact ⟨rfl, RdP.rest hlo hhi hsz HB.out HRR.out HPP.out (by omega) htl, grown_set _ _ _⟩
theorem numS_most (most : Nat) (st : St) : (numS most st).1 ≤ most := by
  cases st with
  | ok t => exact numM_le most t
  | bad e => exact Nat.zero_le _
theorem RdV.ne {w : World} {lo hi e : Nat} {v : Value} (h : RdV w lo hi v (.bad e)) : e ≠ 0 := by
  rcases h with ⟨_, h, _, _⟩ | ⟨g, _, h⟩
  · injection h with h; omega
  · exact h.badE.1
theorem numS_ne (most : Nat) {w : World} {lo hi : Nat} {v : Value} {st : St} (h : RdV w lo hi v st) : ∀ e, (numS most st).2 = .bad e → e ≠ 0 := by
  intro e he
  cases st with
  | bad e0 =>
    have he2 : St.bad e0 = .bad e := he
    injection he2 with he2
    subst he2
    exact h.ne
  | ok t =>
    have he2 : (numM most t).2 = .bad e := he
    unfold numM at he2
    split at he2
    · rename_i h1
      injection he2 with he2
      subst he2
      exact h1
    · split at he2
      · injection he2 with he2
        omega
      · cases he2
set_option maxRecDepth 100000 in
set_option maxHeartbeats 4000000 in
theorem drint_c (lo hi : Nat) (v : Value) (st : St) (w : World) (hR : RdV w lo hi v st) :
    Calls Tryd.prog 37 #[v] w fun e w' => RdA w w' lo hi v (.int .i64 (unzz (numS 18446744073709551615 st).1)) (numS 18446744073709551615 st).2 e := by
  have HC := Lib.hid (upto_c lo hi 18446744073709551615 v st w hR)
  have HU := Lib.hid (fun wx => unfolded_c (numS 18446744073709551615 st).1 wx (by have := numS_most 18446744073709551615 st; omega))
  obtain ⟨q, hq⟩ : ∃ q, numS 18446744073709551615 st = q := ⟨_, rfl⟩
  rw [hq] at HC HU ⊢
  clear hq hR
  obtain ⟨n, sn⟩ := q
  dsimp only at HC HU ⊢
  go_enter Tryd.func37, Tryd.ntmps37
  go_wp2_with fail
  refine HC.out.mono ?_
  rintro e w1 ⟨rfl, h1, h2⟩
  go_wp2_with fail
  refine (HU.out w1).mono ?_
  rintro e w2 ⟨rfl, rfl⟩
  go_wp2_with fail
  go_ret
  exact ⟨rfl, h1, h2⟩
set_option maxRecDepth 100000 in
set_option maxHeartbeats 4000000 in
theorem drcount_c (lo hi : Nat) (v : Value) (st : St) (w : World) (hR : RdV w lo hi v st) :
    Calls Tryd.prog 40 #[v] w fun e w' => RdA w w' lo hi v (.int .i64 ((numS 4096 st).1 : Nat)) (numS 4096 st).2 e := by
  have HC := Lib.hid (upto_c lo hi 4096 v st w hR)
  have hm := numS_most 4096 st
  obtain ⟨q, hq⟩ : ∃ q, numS 4096 st = q := ⟨_, rfl⟩
  rw [hq] at HC hm ⊢
  clear hq hR
  obtain ⟨n, sn⟩ := q
  dsimp only at HC hm ⊢
  have i1 : IntKind.i64.wrap (n : Int) = (n : Int) := by rw [IntKind.wrap_i64]; omega
  go_enter Tryd.func40, Tryd.ntmps40
  go_wp2_with fail
  refine HC.out.mono ?_
  rintro e w1 ⟨rfl, h1, h2⟩
  go_wp2_with fail
  go_ret
  exact ⟨rfl, h1, h2⟩
set_option maxRecDepth 100000 in
set_option maxHeartbeats 4000000 in
theorem drbool_c (lo hi : Nat) (v : Value) (st : St) (w : World) (hR : RdV w lo hi v st) :
    Calls Tryd.prog 39 #[v] w fun e w' => RdA w w' lo hi v (.bool (decide ((numS 1 st).1 = 1))) (numS 1 st).2 e := by
  have HC := Lib.hid (upto_c lo hi 1 v st w hR)
  obtain ⟨q, hq⟩ : ∃ q, numS 1 st = q := ⟨_, rfl⟩
  rw [hq] at HC ⊢
  clear hq hR
  obtain ⟨n, sn⟩ := q
  dsimp only at HC ⊢
  have HE : Hid (((n : Int) == 1) = decide (n = 1)) := by
    show _ = _
    rw [Bool.eq_iff_iff, beq_iff_eq, decide_eq_true_iff]
    omega
  go_enter Tryd.func39, Tryd.ntmps39
  go_wp2_with fail
  refine HC.out.mono ?_
  rintro e w1 ⟨rfl, h1, h2⟩
  go_wp2_with fail
  go_ret
  exact ⟨congrArg (fun x => Ending.returned (.bool x)) HE.out, h1, h2⟩
set_option maxRecDepth 100000 in
set_option maxHeartbeats 4000000 in
theorem drtext_c (lo hi : Nat) (v : Value) (st : St) (w : World) (hR : RdV w lo hi v st) :
    Calls Tryd.prog 38 #[v] w fun e w' => RdA w w' lo hi v (tx8 (wordS st).1) (wordS st).2 e := by
  have HC := Lib.hid (upto_c lo hi 65536 v st w hR)
  have hm := numS_most 65536 st
  have HW : Hid (wordS st = match numS 65536 st with
    | (n, .ok t) => takeR n t
    | (_, .bad e) => ([], .bad e)) := by
    show _ = _
    unfold wordS takeR
    rfl
  have HV := Lib.hid (numS_ne 65536 hR)
  obtain ⟨q, hq⟩ : ∃ q, numS 65536 st = q := ⟨_, rfl⟩
  rw [hq] at HC hm HW HV
  rw [HW.out]
  clear hq hR HW
  obtain ⟨n, sn⟩ := q
  dsimp only at HC hm HV ⊢
  have i1 : IntKind.i64.wrap (n : Int) = (n : Int) := by rw [IntKind.wrap_i64]; omega
  have hnI : (n : Int) ≤ 65536 := by omega
  cases sn with
  | bad e0 =>
    have hn0 := HV.out e0 rfl
    have i0 : ((e0 : Int) == 0) = false := by rw [beq_eq_false_iff_ne]; omega
    dsimp only
    unfold tx8
    clear HV hn0
    go_enter Tryd.func38, Tryd.ntmps38
    go_wp2_with fail
    refine HC.out.mono ?_
    rintro e w1 ⟨rfl, h1, h2⟩
    have HF : Hid (Calls Tryd.prog 44 #[v] w1 fun e w' => e = .returned (.int .i64 ((e0 : Nat) : Int)) ∧ w1 = w') := fault_c lo hi v (.bad e0) w1 h1
    have H1 := Lib.hid h1
    have H2 := Lib.hid h2
    clear h1 h2
    go_wp2_with fail
    refine HF.out.mono ?_
    rintro e w2 ⟨rfl, rfl⟩
    go_wp2_with fail
    go_ret
    exact ⟨rfl, H1.out, H2.out⟩
  | ok t =>
    dsimp only
    clear HV
    obtain ⟨r, hr⟩ : ∃ r, takeR n t = r := ⟨_, rfl⟩
    rw [hr]
    have HRR := Lib.hid hr
    clear hr
    obtain ⟨x, sx⟩ := r
    unfold tx8
    dsimp only
    go_enter Tryd.func38, Tryd.ntmps38
    go_wp2_with fail
    refine HC.out.mono ?_
    rintro e w1 ⟨rfl, h1, h2⟩
    have HF : Hid (Calls Tryd.prog 44 #[v] w1 fun e w' => e = .returned (.int .i64 0) ∧ w1 = w') := fault_c lo hi v (.ok t) w1 h1
    rcases h1 with ⟨_, h, _, _⟩ | ⟨g, rfl, hP⟩
    · cases h
    have hlo := hP.low
    have hhi := hP.high
    have HT := Lib.hid (take_c lo hi g n t w1 (by omega) hP)
    rw [HRR.out] at HT
    unfold tx8 at HT
    dsimp only at HT
    have H2 := Lib.hid h2
    clear h2 hP HRR HC
    go_wp2_with fail
    refine HF.out.mono ?_
    rintro e w2 ⟨rfl, rfl⟩
    go_wp2_with fail
    refine HT.out.mono ?_
    rintro e w2 ⟨rfl, h3, h4⟩
    go_wp2_with fail
    go_ret
    exact ⟨rfl, Or.inr ⟨g, rfl, h3⟩, H2.out.trans (stay_grown h4 hlo hhi)⟩
set_option maxRecDepth 100000 in
set_option maxHeartbeats 4000000 in
theorem drend_c (lo hi : Nat) (v : Value) (st : St) (w : World) (hR : RdV w lo hi v st) :
    Calls Tryd.prog 21 #[v] w fun e w' => e = .returned (.int .i64 (endS st : Nat)) ∧ w = w' := by
  have HF := Lib.hid (fault_c lo hi v st w hR)
  cases st with
  | bad e0 =>
    have hn0 : e0 ≠ 0 := by
      rcases hR with ⟨_, h, _, _⟩ | ⟨g, _, h⟩
      · injection h with h; omega
      · exact h.badE.1
    have i0 : ((e0 : Int) == 0) = false := by rw [beq_eq_false_iff_ne]; omega
    show Calls _ _ _ _ fun e w' => e = .returned (.int .i64 ((e0 : Nat) : Int)) ∧ w = w'
    have HF' : Hid (Calls Tryd.prog 44 #[v] w fun e w' => e = .returned (.int .i64 (e0 : Int)) ∧ w = w') := HF.out
    clear hR HF hn0
    go_enter Tryd.func21, Tryd.ntmps21
    go_wp2_with fail
    refine HF'.out.mono ?_
    rintro e w' ⟨rfl, rfl⟩
    go_wp2_with fail
    go_ret
    exact ⟨rfl, rfl⟩
  | ok t =>
    rcases hR with ⟨_, h, _, _⟩ | ⟨g, rfl, hP⟩
    · cases h
    obtain ⟨p, c, hB, _, _, _, htl, _, _⟩ := hP.good
    have c0 : w.cell? ⟨g, 0, none⟩ = some (.slice p t.length c) := hB.cell 0
    have HF' : Hid (Calls Tryd.prog 44 #[.pointer (some ⟨g, 0, none⟩)] w fun e w' => e = .returned (.int .i64 0) ∧ w = w') := HF.out
    show Calls _ _ _ _ fun e w' => e = .returned (.int .i64 ((if t = [] then 0 else 3 : Nat) : Int)) ∧ w = w'
    clear hP HF hB
    by_cases ht : t = []
    · subst ht
      rw [if_pos rfl]
      go_enter Tryd.func21, Tryd.ntmps21
      go_wp2_with fail
      refine HF'.out.mono ?_
      rintro e w' ⟨rfl, rfl⟩
      go_wp2_with fail
      go_ret
      exact ⟨rfl, rfl⟩
    · rw [if_neg ht]
      have hpos : (t.length : Int) > 0 := by have := List.length_pos_iff.2 ht; omega
      clear ht
      go_enter Tryd.func21, Tryd.ntmps21
      go_wp2_with fail
      refine HF'.out.mono ?_
      rintro e w' ⟨rfl, rfl⟩
      go_wp2_with fail
      go_ret
      exact ⟨rfl, rfl⟩
end Go.Proofs.YtpffebcaalbhjaaDoor.wir
