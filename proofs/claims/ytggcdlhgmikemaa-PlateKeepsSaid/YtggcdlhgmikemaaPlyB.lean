/- A step by both plates: Read; every step. -/
import Derived.Test.YtggcdlhgmikemaaPlyA
namespace Go.Proofs.Ytggcdlhgmikemaa.plt
open Go.RowKit
open Go.Proofs.Ytggcdlhgmikemaa.oct Go.Proofs.Ytggcdlhgmikemaa.ref Go.Proofs.Ytggcdlhgmikemaa.rows Go.Proofs.Ytggcdlhgmikemaa.rowg Go.Proofs.Ytggcdlhgmikemaa.trn Go.Proofs.Ytggcdlhgmikemaa.cln
open Go.Lib (byteCells)
open Go.Proofs.Ytggcdlhgmikemaa.opn (SP spenc GoodS)

theorem askP_read (s : PS) (n : T) : (askP s n false).2 = s := by
  unfold askP
  split
  · rfl
  · split
    · rfl
    · rfl
theorem fieldF (u v x : Value) (W : World) : (Instr.field 68 (.agg #[u, v, x]) 1).run Try.prog W = .ok v W := by kernel_rfl
/-- what the document's Get answers, beside another row -/
def GotA (w w' : World) (t : PS) (n : T) (e : Ending) : Prop := ∃ x : FA, e = .returned (.agg (fenc x).toArray) ∧ x.b = (getF t.fs n).b ∧ In8 w' x.p x.b ∧ Below w.heap.size w w'
theorem RB.get {w : World} {R : Nat → Prop} {g : Nat} {t : PS} (h : RB w R g t) (hw : Wf t) (n : T) : Calls Try.prog 34 #[dptr g, .string ⟨n.toArray⟩] w fun e w' => GotA w w' t n e := by
  obtain ⟨R0, ⟨P, c, fs, k, hM, hf, _⟩, _⟩ := h
  have hfl : fs.length ≤ 268435456 := by have h1 := congrArg List.length hf; rw [List.length_map] at h1; have := wf_files hw; omega
  refine (rget_c hM (by rw [hf]; exact hw.srt) (by omega) n).mono fun e w' ⟨x, e1, e2, e3, e4⟩ => ⟨x, e1, ?_, e3.row, e4⟩
  rw [hf] at e2
  exact congrArg F.b e2
set_option maxRecDepth 100000 in
set_option maxHeartbeats 16000000 in
theorem do_read {w wx : World} {gl gr : Nat} {s t : PS} {X : Nat → Prop} (h : QS w wx gl gr s t X) (same : Prop) (hst : same → s = t) (n : T) (p : Option Addr) (c : Nat) (d : T) (m : Int) (q : Option Addr) (e : Nat) (ks : List Int) (hg : GoodS w ⟨5, n, p, c, d, m, q, e, ks⟩) :
    Calls Try.prog 11 #[dptr gl, dptr gr, .agg #[.int .i64 5, .string ⟨n.toArray⟩, .slice p d.length c, .int .i64 m, .slice q ks.length e]] wx fun e w2 => DoA w w2 gl gr same s t X wx e := by
  have hn := hg.name
  have hG := Gd.start h [.int .i64 5, .string ⟨n.toArray⟩, .slice p d.length c, .int .i64 m, .slice q ks.length e]
  have hlen : (readP s n).2.length ≤ 268435456 := by
    unfold readP
    dsimp only
    split
    · have h1 := get_le h.ws.srt n
      have h2 := h.ws.used
      have h3 := h.ws.room
      omega
    · simp
  have HWS := Lib.hid h.ws
  have HWT := Lib.hid h.wt
  have HSAME : Hid (same → (askP s n false).1 = (askP t n false).1 ∧ ((askP t n false).1 = 0 → (readP s n).2 = (getF t.fs n).b) ∧ ((askP t n false).1 ≠ 0 → (readP s n).2 = [])) := fun e => by
    rw [hst e]
    refine ⟨rfl, fun e2 => ?_, fun e2 => ?_⟩
    · unfold readP
      dsimp only
      rw [if_pos e2]
    · unfold readP
      dsimp only
      rw [if_neg e2]
  have HREAD : Hid ((readP s n).1 = (askP s n false).1) := rfl
  have x9 := hG.c0
  have zs3 := hG.sz
  clear h hg hst
  obtain ⟨kb, hkb⟩ : ∃ kb, wx.heap.size = kb := ⟨_, rfl⟩
  rw [hkb] at x9 zs3 hG
  obtain ⟨w3, hw3⟩ : ∃ w3, wx.alloc (.cells #[.int .i64 5, .string ⟨n.toArray⟩, .slice p d.length c, .int .i64 m, .slice q ks.length e] 36) = w3 := ⟨_, rfl⟩
  have hw3' : wx.alloc (.cells ([.int .i64 5, .string ⟨n.toArray⟩, .slice p d.length c, .int .i64 m, .slice q ks.length e] : List Value).toArray 36) = w3 := hw3
  rw [hw3'] at x9 zs3 hG
  have x0 : w3.cell? ⟨kb, 0, none⟩ = some (.int .i64 5) := x9 0
  have x1 : w3.cell? ⟨kb, 1, none⟩ = some (.string ⟨n.toArray⟩) := x9 1
  have HL : Hid (Calls Try.prog 18 #[dptr gl, .string ⟨n.toArray⟩] w3 fun e w' => ReadA w3 w' (readP s n) e) := by
    obtain ⟨R1, R2, hr⟩ := hG.ps
    exact pread_c hr.la hr.ws n hn
  have HG := Lib.hid hG
  obtain ⟨l, hl⟩ : ∃ l, (readP s n).2 = l := ⟨_, rfl⟩
  obtain ⟨r1, hr1⟩ : ∃ r1, (askP s n false).1 = r1 := ⟨_, rfl⟩
  have hrp : readP s n = (r1, l) := by rw [← hr1, ← hl]; rfl
  rw [hrp] at HL
  rw [hl] at hlen HSAME
  rw [hr1] at HSAME
  clear x9 hG hw3' hl hr1 hrp HREAD
  go_enter Try.func11, Try.ntmps11
  go_wp2_with fail
  clear hw3
  refine HL.out.mono ?_
  rintro e4 w4 ⟨v, rfl, hv, hb4⟩
  dsimp only at hv
  obtain ⟨pv, cv, rfl, h8⟩ := own_in8' hv
  have hG4 := HG.out.same hb4
  have y1 : w4.cell? ⟨kb, 1, none⟩ = some (.string ⟨n.toArray⟩) := hG4.c0 1
  have HG4 := Lib.hid hG4
  have HR : Hid (Calls Try.prog 33 #[dptr gr, .string ⟨n.toArray⟩, .bool false] w4 fun er w5 => er = .returned (.int .i64 ((askP t n false).1 : Nat)) ∧ Gd w wx w5 gl gr s t X kb [.int .i64 5, .string ⟨n.toArray⟩, .slice p d.length c, .int .i64 m, .slice q ks.length e] ∧ In8 w5 pv l) := by
    obtain ⟨R1, R2, hr3⟩ := HG.out.ps
    have hr := hr3.more hb4 (Y := X1 X kb) fun _ e => Or.inl e
    refine (hr.ra.asked n hn false).mono fun e w5 ⟨e1, e2⟩ => ⟨e1, ?_, ?_⟩
    · rw [askP_read] at e2
      have h3 := hr.right hr.wt e2
      exact hG4.to h3.1 h3.2
    · obtain ⟨R', _, e3, _⟩ := e2
      refine in8_turn h8 e3 fun b o x eb hlt hR => ?_
      have h6 := (hv.lt b (by rw [eb]; rfl)).1
      have h7 := hr3.ra.lt b hR
      omega
  clear x0 x1 hv h8 hb4 hG4
  obtain ⟨f, hf⟩ : ∃ f, (askP t n false).1 = f := ⟨_, rfl⟩
  rw [hf] at HR HSAME
  clear hf
  go_wp2_with fail
  refine HR.out.mono ?_
  rintro e5 w5 ⟨rfl, hg5, h85⟩
  have HG5 := Lib.hid hg5
  have H85 := Lib.hid h85
  have z1 : w5.cell? ⟨kb, 1, none⟩ = some (.string ⟨n.toArray⟩) := hg5.c0 1
  have HGET : Hid (Calls Try.prog 34 #[dptr gr, .string ⟨n.toArray⟩] w5 fun e w' => GotA w5 w' t n e) := by
    obtain ⟨R1, R2, hr⟩ := hg5.ps
    exact hr.ra.get hr.wt n
  clear hg5 h85 y1
  by_cases hf0 : f = 0
  · subst hf0
    go_wp2_with fail
    refine HGET.out.mono ?_
    rintro e6 w6 ⟨x, rfl, hxb, hx8, hb6⟩
    unfold fenc
    have hff := fieldF (.string ⟨x.n.toArray⟩) (.slice x.p x.b.length x.c) (.int .i64 (x.s : Nat)) w6
    obtain ⟨bq, hbq⟩ : ∃ bq, decide (l = x.b) = bq := ⟨_, rfl⟩
    have HBQ := Lib.hid hbq
    have HSM : Hid (Calls Try.prog 19 #[.slice pv l.length cv, .slice x.p x.b.length x.c] w6 fun e w' => e = .returned (.bool bq) ∧ Below w6.heap.size w6 w') := by
      refine (rsame_c pv x.p cv x.c l x.b w6 (H85.out.below hb6) hx8 (by omega)).mono ?_
      rintro e w' ⟨e1, nd, rfl⟩
      exact ⟨by rw [e1, hbq], drewN_below w6 nd⟩
    clear hbq
    have HXB := Lib.hid hxb
    have HB6 := Lib.hid hb6
    clear hxb hx8 hb6
    go_wp2_with fail
    refine HSM.out.mono ?_
    rintro e7 w7 ⟨rfl, hb7⟩
    have HG7 := Lib.hid (HG5.out.same (bnext HB6.out hb7))
    clear hb7
    cases bq with
    | true =>
      go_wp2_with fail
      go_ret
      exact HG7.out.done _ (eq_ints fun e => (HSAME.out e).1)
    | false =>
      go_wp2_with fail
      go_ret
      exact HG7.out.done _ (fun e => absurd (((HSAME.out e).2.1 (by simp)).trans HXB.out.symm) (of_decide_eq_false HBQ.out))
  · have f0 : ((f : Int) == 0) = false := by rw [beq_eq_false_iff_ne]; omega
    have f1 : ((f : Int) != 0) = true := by rw [bne_iff_ne]; omega
    by_cases hl0 : l.length = 0
    · have i0 : ¬ ((l.length : Int) > 0) := by omega
      clear hl0 hf0
      go_wp2_with fail
      go_ret
      exact HG5.out.done _ (eq_ints fun e => (HSAME.out e).1)
    · have i0 : ((l.length : Int) > 0) := by omega
      have HF := Lib.hid hf0
      have HL0 := Lib.hid hl0
      clear hl0 hf0
      go_wp2_with fail
      go_ret
      exact HG5.out.done _ (fun e => absurd (by rw [(HSAME.out e).2.2 HF.out]; rfl) HL0.out)
/-- every step -/
theorem do_c {w wx : World} {gl gr : Nat} {s t : PS} {X : Nat → Prop} (h : QS w wx gl gr s t X) (same : Prop) (hst : same → s = t) (x : SP) (hg : GoodS w x) :
    Calls Try.prog 11 #[dptr gl, dptr gr, .agg (spenc x).toArray] wx fun e w2 => DoA w w2 gl gr same (doP s x).2 (doP t x).2 X wx e := by
  obtain ⟨k, n, p, c, d, m, q, e, ks⟩ := x
  unfold spenc doP
  dsimp only
  by_cases k0 : k = 0
  · subst k0; exact do_append h same hst n p c d m q e ks hg
  by_cases k1 : k = 1
  · subst k1; exact do_sync h same hst n p c d m q e ks hg
  by_cases k2 : k = 2
  · subst k2; exact do_cut h same hst n p c d m q e ks hg
  by_cases k3 : k = 3
  · subst k3; exact do_arm h same hst n p c d m q e ks hg
  by_cases k4 : k = 4
  · subst k4; exact do_crash h same hst n p c d m q e ks hg
  by_cases k5 : k = 5
  · subst k5; exact do_read h same hst n p c d m q e ks hg
  rw [if_neg k0, if_neg k1, if_neg k2, if_neg k3, if_neg k4, if_neg k5, if_neg k0, if_neg k1, if_neg k2, if_neg k3, if_neg k4, if_neg k5]
  exact do_none h same k n p c d m q e ks k0 k1 k2 k3 k4 k5
end Go.Proofs.Ytggcdlhgmikemaa.plt
