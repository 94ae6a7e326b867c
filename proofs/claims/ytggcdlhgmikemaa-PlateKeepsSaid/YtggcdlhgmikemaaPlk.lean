/- Both plates, in one state, tell alike (Alike). -/
import Derived.Test.YtggcdlhgmikemaaPlyB
import Derived.Deep.DeepBigQuietO
import Derived.Deep.Cut
namespace Go.Proofs.Ytggcdlhgmikemaa.plt
open Go.RowKit
open Go.Proofs.Ytggcdlhgmikemaa.oct Go.Proofs.Ytggcdlhgmikemaa.ref Go.Proofs.Ytggcdlhgmikemaa.rows Go.Proofs.Ytggcdlhgmikemaa.rowg Go.Proofs.Ytggcdlhgmikemaa.trn Go.Proofs.Ytggcdlhgmikemaa.cln
open Go.Lib (byteCells)

/-- a file of both, at a place: what each tells of it -/
structure FA2 (w wx : World) (gl gr : Nat) (s : PS) (x : FA) : Prop where
  syn : ∀ wy, Below wx.heap.size wx wy → Calls Try.prog 16 #[dptr gl, .string ⟨x.n.toArray⟩] wy fun e w' => e = .returned (.int .i64 (x.s : Nat)) ∧ Below wy.heap.size wy w'
  read : ∀ wy, Below wx.heap.size wx wy → Calls Try.prog 18 #[dptr gl, .string ⟨x.n.toArray⟩] wy fun e w' => ∃ p c r l, e = .returned (.tuple #[.slice p (l : T).length c, .int .i64 (r : Nat)]) ∧ In8 w' p l ∧ (r = 0 → l = x.b) ∧ l.length ≤ 268435456 ∧ Below wy.heap.size wy w'
  row : In8 wx x.p x.b
theorem alike_at {w wx : World} {gl gr : Nat} {s : PS} {X : Nat → Prop} (h : QS w wx gl gr s s X) {R0 : Nat → Prop} {P : Option Addr} {fs : List FA} {c : Nat} {k : Int} {arm : Bool} (hM : RM wx R0 gr P c fs s.room arm k s.down) (hf : fs.map FA.f = s.fs) (i : Nat) (hi : i < fs.length) : FA2 w wx gl gr s fs[i] := by
  have hm : (fs[i]).f ∈ s.fs := by rw [← hf]; exact List.mem_map_of_mem (List.getElem_mem hi)
  have hge := getF_mem h.ws.srt hm
  have hwf := h.ws.each _ hm
  have hn : (fs[i]).n.length ≤ 64 := hwf.2.2.2
  have hle := get_le h.ws.srt (fs[i]).n
  have hus := h.ws.used
  have hro := h.ws.room
  obtain ⟨R1, R2, hr⟩ := h
  refine ⟨fun wy hb => ?_, fun wy hb => ?_, (hM.files _ (List.getElem_mem hi)).row⟩
  · refine (psynced_c (hr.la.below hb) (fs[i]).n (by omega)).mono fun e w' ⟨e1, e2⟩ => ⟨?_, e2⟩
    rw [e1]
    have h5 : getF s.fs (fs[i]).n = (fs[i]).f := hge
    rw [h5]
    rfl
  · refine (pread_c (hr.la.below hb) hr.ws (fs[i]).n (by omega)).mono fun e w' ⟨v, e1, hv, hb2⟩ => ?_
    obtain ⟨pv, cv, rfl, h8⟩ := own_in8' hv
    refine ⟨pv, cv, _, _, e1, h8, fun e0 => ?_, ?_, hb2⟩
    · unfold readP at e0 ⊢
      dsimp only at e0 ⊢
      rw [if_pos e0]
      have h5 : getF s.fs (fs[i]).n = (fs[i]).f := hge
      rw [h5]
      rfl
    · unfold readP
      dsimp only
      split
      · omega
      · simp
set_option maxRecDepth 100000 in
set_option maxHeartbeats 16000000 in
theorem alike_c {w wx : World} {gl gr : Nat} {s : PS} {X : Nat → Prop} (h : QS w wx gl gr s s X) :
    Calls Try.prog 12 #[dptr gl, dptr gr] wx fun e w' => e = .returned (.bool true) ∧ Below wx.heap.size wx w' := by
  have HQ := Lib.hid h
  have hwfs := wf_files h.ws
  have hwu := h.ws.used
  have hwr := h.ws.room
  have HN : Hid (Calls Try.prog 15 #[dptr gl] wx fun e w' => NamesA wx w' (s.fs.map (·.name)) e) := by
    obtain ⟨R1, R2, hr⟩ := h
    exact pnames_c hr.la hr.ws
  have HUL : Hid (∀ wy, Below wx.heap.size wx wy → Calls Try.prog 21 #[dptr gl] wy fun e w' => e = .returned (.int .i64 (usedP s.fs : Nat)) ∧ wy = w') := by
    intro wy hb
    obtain ⟨R1, R2, hr⟩ := h
    obtain ⟨m, D, fl, k, hM, _⟩ := hr.la.below hb
    exact pused_c hM.blk
  have HDL : Hid (∀ wy, Below wx.heap.size wx wy → Calls Try.prog 17 #[dptr gl] wy fun e w' => e = .returned (.bool s.down) ∧ wy = w') := by
    intro wy hb
    obtain ⟨R1, R2, hr⟩ := h
    obtain ⟨m, D, fl, k, hM, _⟩ := hr.la.below hb
    exact pdown_c hM.blk
  obtain ⟨R1, R2, hr⟩ := h
  obtain ⟨R0, ⟨P, c, fs, k, hM, hf, _⟩, _⟩ := hr.ra
  have hfl : fs.length = s.fs.length := by rw [← hf, List.length_map]
  have HM := Lib.hid hM
  have HF := Lib.hid hf
  have HFL := Lib.hid hfl
  have HUR : Hid (∀ wy, Below wx.heap.size wx wy → Calls Try.prog 35 #[dptr gr] wy fun e w' => e = .returned (.int .i64 (usedP s.fs : Nat)) ∧ wy = w') := by
    intro wy hb
    have h1 := rused_c (hM.turn (S := fun _ => False) (Turn.of_below hb) (fun _ _ => id) id) (by omega) (by rw [hf]; omega)
    rw [hf] at h1
    exact h1
  obtain ⟨u, hu⟩ : ∃ u, usedP s.fs = u := ⟨_, rfl⟩
  rw [hu] at HUL HUR
  have HAT := Lib.hid fun i hi => alike_at HQ.out HM.out HF.out i hi
  clear hr hM hf hu
  go_enter Try.func12, Try.ntmps12
  go_wp2_with fail
  refine HN.out.mono ?_
  rintro e w1 ⟨v, rfl, ho, hb1⟩
  have hml : (s.fs.map (·.name)).length = s.fs.length := List.length_map _
  rw [hml] at ho
  obtain ⟨pn, cn, rfl⟩ := own_slice ho
  rw [← hfl] at ho ⊢
  have HO := Lib.hid ho
  have HB1 := Lib.hid hb1
  have hM1 := HM.out.turn (S := fun _ => False) (Turn.of_below hb1) (fun _ _ => id) id
  have c0 : w1.cell? ⟨gr, 0, none⟩ = some (.slice P fs.length c) := hM1.blk.cell 0
  have c4 : w1.cell? ⟨gr, 4, none⟩ = some (.bool s.down) := hM1.blk.cell 4
  clear ho hb1 hM1 HN
  go_wp2_with fail
  have C0 := Lib.hid (fun x : After w1 => after_same x (HUL.out x.v (bnext HB1.out x.below)))
  have C1 := Lib.hid (fun x : After w1 => after_same x (HUR.out x.v (bnext HB1.out x.below)))
  have C2 := Lib.hid (fun x : After w1 => after_same x (HDL.out x.v (bnext HB1.out x.below)))
  have c0A : ∀ x : After w1, x.v.cell? ⟨gr, 0, none⟩ = some (.slice P fs.length c) := fun x => (x.below.cell (p := ⟨gr, 0, none⟩) (cell_lt c0)).trans c0
  have c4A : ∀ x : After w1, x.v.cell? ⟨gr, 4, none⟩ = some (.bool s.down) := fun x => (x.below.cell (p := ⟨gr, 4, none⟩) (cell_lt c4)).trans c4
  refine wp_region_after (by kernel_rfl) (by kernel_rfl) ?_
  repeat (go_big_quiet_step (first
    | (rename_i x; go_at_call 21; with_reducible exact C0.out x)
    | (rename_i x; go_at_call 35; with_reducible exact C1.out x)
    | (rename_i x; go_at_call 17; with_reducible exact C2.out x)))
  refine wpQuiet_nil ?_
  rintro ⟨wq, hbq⟩
  dsimp only
  have HNM : Hid (∀ wy, Below w1.heap.size w1 wy → ∀ i (hi : i < fs.length), ∃ b, pn = some ⟨b, 0, none⟩ ∧ wy.cell? ⟨b, i, none⟩ = some (.string ⟨(fs[i]).n.toArray⟩)) := by
    intro wy hb i hi
    have ho2 := own_belowG HO.out hb
    have hl : (s.fs.map (·.name)).length = fs.length := by rw [List.length_map]; exact HFL.out.symm
    obtain ⟨b, e1, e2⟩ := tenc_at (l := s.fs.map (·.name)) (by rw [hl]; exact ho2) i (by rw [hl]; exact hi)
    have e3 : (s.fs.map (·.name))[i]'(by rw [hl]; exact hi) = (fs[i]).n := by
      rw [List.getElem_map]
      have e4 : s.fs[i]'(by rw [← HFL.out]; exact hi) = (fs[i]).f := by
        have h5 := List.getElem_map FA.f (l := fs) (i := i) (h := by rw [List.length_map]; exact hi)
        rw [← h5]
        congr 1
        exact HF.out.symm
      rw [e4]
      rfl
    rw [e3] at e2
    rcases HO.out.2 with ⟨h1, _⟩ | ⟨gg, cap, cur, h1, _⟩
    · rw [h1] at e1; cases e1
    · injection h1 with h1
      subst h1
      injection e1 with e1
      subst e1
      exact ⟨gg, rfl, e2⟩
  have HBQ := Lib.hid (bnext HB1.out hbq)
  have HW1 := Lib.hid hbq
  clear C0 C1 C2 c0A c4A hbq HUL HUR HDL HO c0 c4
  rw [← HFL.out] at *
  go_wp2_with fail
  go_loopg [6, 7, 8, 9] fs.length (fun gk s6 _ _ _ wy => ∃ i : Nat, i + gk = fs.length ∧ s6 = .int .i64 (i : Int) ∧ Hid (Below w1.heap.size w1 wy))
  case atStart => exact ⟨0, by omega, rfl, HW1⟩
  case round =>
    obtain ⟨i, hig, rfl, HB⟩ := hrel
    rcases gk with _ | gO
    · obtain rfl : i = fs.length := by omega
      go_wp2_with fail
      go_ret
      exact ⟨rfl, bnext HB1.out HB.out⟩
    · have hi : i < fs.length := by omega
      have hiI : (i : Int) < (fs.length : Int) := by omega
      have hMr := HM.out.turn (S := fun _ => False) (Turn.of_below (bnext HB1.out HB.out)) (fun _ _ => id) id
      have c0 : wr.cell? ⟨gr, 0, none⟩ = some (.slice P fs.length c) := hMr.blk.cell 0
      obtain ⟨bf, of, hpf, a0, a1, a2⟩ := hMr.at i hi
      obtain ⟨bn, hpn, n0⟩ := HNM.out wr HB.out i hi
      have HA := Lib.hid (HAT.out i hi)
      obtain ⟨x, hx⟩ : ∃ x, fs[i] = x := ⟨_, rfl⟩
      rw [hx] at a0 a1 a2 n0 HA
      subst hpf
      subst hpn
      have hbk : Blk (wr.alloc (.cells #[.string ⟨x.n.toArray⟩, .slice x.p x.b.length x.c, .int .i64 (x.s : Nat)] 68)) wr.heap.size 68 [.string ⟨x.n.toArray⟩, .slice x.p x.b.length x.c, .int .i64 (x.s : Nat)] := blk_new wr _ _ _ rfl
      have hb3 := (Below.refl wr.heap.size wr).alloc (Nat.le_refl _) (.cells #[.string ⟨x.n.toArray⟩, .slice x.p x.b.length x.c, .int .i64 (x.s : Nat)] 68)
      have hbnl : bn < wr.heap.size := cell_lt n0
      clear hMr hx
      go_upto_region 8 with fail
      obtain ⟨w3, hw3⟩ : ∃ w3, wr.alloc (.cells #[.string ⟨x.n.toArray⟩, .slice x.p x.b.length x.c, .int .i64 (x.s : Nat)] 68) = w3 := ⟨_, rfl⟩
      rw [hw3] at hbk hb3 ⊢
      obtain ⟨q, hq⟩ : ∃ q, wr.heap.size = q := ⟨_, rfl⟩
      have HBX := Lib.hid (bnext HB.out hb3)
      have n3 : w3.cell? ⟨bn, i, none⟩ = some (.string ⟨x.n.toArray⟩) := (hb3.cell (p := ⟨bn, i, none⟩) hbnl).trans n0
      rw [hq] at hbk ⊢
      have d0 : w3.cell? ⟨q, 0, none⟩ = some (.string ⟨x.n.toArray⟩) := hbk.cell 0
      have d2 : w3.cell? ⟨q, 2, none⟩ = some (.int .i64 (x.s : Nat)) := hbk.cell 2
      have HBK := Lib.hid hbk
      have C3 := Lib.hid (fun y : After w3 => after_of y (HA.out.syn y.v (bnext HB1.out (bnext HBX.out y.below))))
      have n3A : ∀ y : After w3, y.v.cell? ⟨bn, i, none⟩ = some (.string ⟨x.n.toArray⟩) := fun y => (y.below.cell (p := ⟨bn, i, none⟩) (cell_lt n3)).trans n3
      have d0A : ∀ y : After w3, y.v.cell? ⟨q, 0, none⟩ = some (.string ⟨x.n.toArray⟩) := fun y => (y.below.cell (p := ⟨q, 0, none⟩) (cell_lt d0)).trans d0
      have d2A : ∀ y : After w3, y.v.cell? ⟨q, 2, none⟩ = some (.int .i64 (x.s : Nat)) := fun y => (y.below.cell (p := ⟨q, 2, none⟩) (cell_lt d2)).trans d2
      clear hw3 hbk hb3 hq c0 a0 a1 a2 n0 hbnl n3 d0 d2
      refine wp_region_after (by kernel_rfl) (by kernel_rfl) ?_
      repeat (go_big_quiet_step (first
        | (rename_i y; go_at_call 16; with_reducible exact C3.out y)))
      refine wpQuiet_nil ?_
      rintro ⟨w4, hb4⟩
      dsimp only
      have e0 : w4.cell? ⟨q, 0, none⟩ = some (.string ⟨x.n.toArray⟩) := d0A ⟨w4, hb4⟩
      have e1 : w4.cell? ⟨q, 1, none⟩ = some (.slice x.p x.b.length x.c) := (HBK.out.below hb4).cell 1
      have HB4 := Lib.hid (bnext HBX.out hb4)
      have HE4 := Lib.hid (HBK.out.below hb4)
      clear C3 n3A d0A d2A hb4
      have HRD := Lib.hid (HA.out.read w4 (bnext HB1.out HB4.out))
      go_wp2_with fail
      refine HRD.out.mono ?_
      rintro e5 w5 ⟨pv, cv, r, l, rfl, h8, hrl, hll, hb5⟩
      have f1 : w5.cell? ⟨q, 1, none⟩ = some (.slice x.p x.b.length x.c) := (HE4.out.below hb5).cell 1
      have HB5 := Lib.hid (bnext HB4.out hb5)
      have hx8 := HA.out.row.below (bnext HB1.out HB5.out)
      clear e0 e1 hb5 HRD
      by_cases hr0 : r = 0
      · subst hr0
        obtain rfl := hrl rfl
        have HSM : Hid (Calls Try.prog 19 #[.slice pv x.b.length cv, .slice x.p x.b.length x.c] w5 fun e w' => e = .returned (.bool true) ∧ Below w5.heap.size w5 w') := by
          refine (rsame_c pv x.p cv x.c x.b x.b w5 h8 hx8 (by omega)).mono ?_
          rintro e w' ⟨e1, nd, rfl⟩
          exact ⟨by rw [e1, decide_eq_true rfl], drewN_below w5 nd⟩
        clear hrl h8 hx8
        go_wp2_with fail
        refine HSM.out.mono ?_
        rintro e6 w6 ⟨rfl, hb6⟩
        have HB6 := Lib.hid (bnext HB5.out hb6)
        clear hb6
        go_wp2_with fail
        go_roundg gO
        case measure => omega
        case rel => exact ⟨i + 1, by omega, by go_num, HB6⟩
      · have r0 : ((r : Int) == 0) = false := by rw [beq_eq_false_iff_ne]; omega
        clear hrl h8 hx8 hr0
        go_wp2_with fail
        go_roundg gO
        case measure => omega
        case rel => exact ⟨i + 1, by omega, by go_num, HB5⟩
end Go.Proofs.Ytggcdlhgmikemaa.plt
