/- Writer's Texts and Frame. -/
import Derived.Test.YtpffebcaalbhjaaDoorWdv2
import Derived.Laws.MakeOwn
namespace Go.Proofs.YtpffebcaalbhjaaDoor.wir
open Go.RowKit
open Go.Proofs.YtpffebcaalbhjaaDoor.oct Go.Proofs.YtpffebcaalbhjaaDoor.ref Go.Proofs.YtpffebcaalbhjaaDoor.rows Go.Proofs.YtpffebcaalbhjaaDoor.rowg Go.Proofs.YtpffebcaalbhjaaDoor.crc
open Go.Lib (byteCells)

/-- what was written once k of the texts are -/
def lB (t : T) (l : List T) (k : Nat) : T := t ++ (if l.length ≤ 4096 then numB l.length ++ (l.take k).flatMap textB else [])
theorem lB_zero (t : T) (l : List T) : lB t l 0 = t ++ (if l.length ≤ 4096 then numB l.length else []) := by
  unfold lB
  simp only [List.take_zero, List.flatMap_nil, List.append_nil]
theorem lB_succ {t : T} {l : List T} {k : Nat} {s : T} (hk : k < l.length) (hs : l[k] = s) (hn : l.length ≤ 4096) : lB t l (k + 1) = lB t l k ++ textB s := by
  unfold lB
  rw [if_pos hn, if_pos hn, List.take_succ_eq_append_getElem hk, List.flatMap_append, hs]
  simp
set_option maxRecDepth 100000 in
set_option maxHeartbeats 4000000 in
theorem wtexts_c (B g : Nat) (t : T) (bad : Bool) (p : Option Addr) (c : Nat) (l : List T) (w : World) (hW : WrP w B g t bad) (hp : InS w p l) (hl : l.length ≤ 140737488351232) (hy : ∀ y ∈ l, y.length ≤ 140737488351232) (hB : 0 < l.length → ∀ b o, p = some ⟨b, o, none⟩ → b < B) :
    Calls Tryd.prog 51 #[.pointer (some ⟨g, 0, none⟩), .slice p l.length c] w fun e w' =>
      PutA1 w w' B g (lB t l l.length) (bad || decide (4096 < l.length)) e := by
  have HBT : Hid (4096 < l.length → (bad || decide (4096 < l.length)) = true) := fun h => by rw [decide_eq_true h, Bool.or_true]
  obtain ⟨b2, hb2⟩ : ∃ b2, (bad || decide (4096 < l.length)) = b2 := ⟨_, rfl⟩
  rw [hb2] at HBT ⊢
  have HBB := Lib.hid hb2
  clear hb2
  have HC := Lib.hid (wcount_c B g t bad (l.length : Int) w hW (by omega) (by omega))
  have HT := Lib.hid (fun t2 bad2 s wx h1 h2 => wtext_c B g t2 bad2 s wx h1 h2)
  have HY := Lib.hid hy
  have HP := Lib.hid hp
  have hBw := hW.2.1
  clear hW hp hy
  go_enter Tryd.func51, Tryd.ntmps51
  go_wp2_with fail
  refine HC.out.mono ?_
  intro e w1 h
  have h2 : PutA1 w w1 B g (lB t l 0) b2 e := by
    rw [lB_zero, ← HBB.out]
    by_cases hn : l.length ≤ 4096
    · rw [if_pos (by omega)] at h
      rw [if_pos hn, decide_eq_false (by omega), Bool.or_false]
      rwa [Int.toNat_natCast] at h
    · rw [if_neg (by omega)] at h
      rw [if_neg hn, decide_eq_true (by omega), Bool.or_true, List.append_nil]
      exact h
  obtain ⟨rfl, hw1, hb1⟩ := h2
  have HW1 := Lib.hid hw1
  have HB1 := Lib.hid hb1
  clear h hw1 hb1 HC HBB
  go_wp2_with fail
  go_loopg [12] l.length (fun gk s12 wx => ∃ k : Nat, k + gk = l.length ∧ s12 = .int .i64 (k : Int) ∧ Hid (WrP wx B g (lB t l k) b2) ∧ Hid (Below B w wx))
  case atStart => exact ⟨0, by omega, rfl, HW1.out, HB1.out⟩
  case round =>
    obtain ⟨k, hkg, rfl, HWX, HBX⟩ := hrel
    rcases gk with _ | gk
    · obtain rfl : k = l.length := by omega
      go_wp2_with fail
      go_end0
      exact ⟨rfl, HWX.out, HBX.out⟩
    · have hk : k < l.length := by omega
      have hkI : (k : Int) < (l.length : Int) := by omega
      obtain ⟨b, o, hpe, hc⟩ := ins_cell HP.out k hk
      have hb := hB (by omega) b o hpe
      subst hpe
      have c0 : wr.cell? ⟨b, o + k, none⟩ = some (.string ⟨(l[k]).toArray⟩) := (World.cell?_of_block (HBX.out.block b hb)).trans hc
      have HX := Lib.hid (HT.out _ _ _ wr HWX.out (HY.out _ (List.getElem_mem hk)))
      obtain ⟨s, hs⟩ : ∃ s, l[k] = s := ⟨_, rfl⟩
      have HS : Hid (l.length ≤ 4096 → lB t l (k + 1) = lB t l k ++ textB s) := fun hn => lB_succ hk hs hn
      rw [hs] at c0 HX
      clear hs hc hb
      go_wp2_with fail
      refine HX.out.mono ?_
      rintro e w2 ⟨rfl, h1, h2⟩
      have HW2 : Hid (WrP w2 B g (lB t l (k + 1)) b2) := by
        show WrP _ _ _ _ _
        by_cases hn : l.length ≤ 4096
        · rw [HS.out hn]
          exact h1
        · rw [HBT.out (by omega)] at h1 ⊢
          exact h1.any _
      have HB2 := Lib.hid (HBX.out.trans h2)
      clear h1 h2 HX HS
      go_wp2_with fail
      go_roundg gk
      case measure => omega
      case rel => exact ⟨k + 1, by omega, by go_num, HW2.out, HB2.out⟩
theorem four_cells {n : Nat} (hn : n < 4294967296) : (#[.int .u8 ((n : Int) / 16777216), .int .u8 ((n : Int) / 65536 % 256), .int .u8 ((n : Int) / 256 % 256), .int .u8 ((n : Int) % 256)] : Array Value) = (byteCells (fourT n)).toArray := by
  rw [fourT_eq]
  simp only [byteCells, List.map_cons, List.map_nil, fb_val]
  have h0 : (((n / 256 ^ (3 - 0) % 256 : Nat)) : Int) = (n : Int) / 16777216 := by omega
  have h1 : (((n / 256 ^ (3 - 1) % 256 : Nat)) : Int) = (n : Int) / 65536 % 256 := by omega
  have h2 : (((n / 256 ^ (3 - 2) % 256 : Nat)) : Int) = (n : Int) / 256 % 256 := by omega
  have h3 : (((n / 256 ^ (3 - 3) % 256 : Nat)) : Int) = (n : Int) % 256 := by omega
  rw [h0, h1, h2, h3]
/-- a few bytes behind a row of the call's own -/
theorem wpList_append_few {w : World} {ops : Array Oper} {rest : List Oper} {o : Oper} {a : Act} {Q : Exit → Act → World → Prop} (hgd : o.guard = none) (s x : Operand)
    (ho : o.op = .call { callee := .builtin .append, args := #[s, x], argTypes := #[24, 24] }) (base : Nat)
    (v : Value) (n : Nat) (l : List UInt8) (hs : a.eval s = v) (hown : w.ownsRow base 5 1 v n (byteCells l)) (q : List UInt8) (m : Nat) (hm : q.length = m) (hm0 : 0 < m) (hm1 : m ≤ 64) (C : Array Value) (hC : C = (byteCells q).toArray) (hx : a.eval x = .slice (some ⟨w.heap.size, 0, none⟩) m m)
    (hb : n + m ≤ 140737488355328) (hbase : base ≤ w.heap.size)
    (h : ∀ v' w', w'.ownsRow base 5 1 v' (n + m) (byteCells (l ++ q)) → w.grownBy w' v.ownBlock → wpList Tryd.prog ops Q rest (a.put o.dst v') w') :
    wpList Tryd.prog ops Q (o :: rest) a (w.alloc (.cells C 5)) := by
  obtain ⟨j0, hj, hy0, hy1, hy2⟩ := info_parts infoByte
  subst hC hm
  refine wpList_append_lies _ hgd s x 24 ho base 5 j0 (.int .u8 0) 1 1 Tryd.underlying24 hj hy0 hy1 hy2 rfl (by decide) v n (byteCells l) hs (hown.alloc _) ⟨w.heap.size, 0, none⟩ q.length q.length (byteCells q) hx (by rw [byteCells_len]; omega) (src_cells (in8_new w _ q rfl)) (byteCells_one _) hm0 (by unfold maxLen; omega) (by omega) (by simp; omega) (w.heap.size + 1) (by simp) ?_
  intro g cap w' h1 h2 h3 h4
  rw [← byteCells_append] at h1
  exact h _ w' h1 (grown_trans (World.grownBy_alloc w _ _) h2)
set_option maxRecDepth 100000 in
set_option maxHeartbeats 4000000 in
theorem withfour_c (B : Nat) (v : Value) (l : T) (n : Nat) (w : World) (hv : w.ownsRow B 5 1 v l.length (byteCells l)) (hB : B ≤ w.heap.size) (hn : n < 4294967296) (hl : l.length ≤ 140737488355000) :
    Calls Tryd.prog 46 #[v, .int .u32 (n : Int)] w fun e w' => ∃ v', e = .returned v' ∧ w'.ownsRow B 5 1 v' (l.length + 4) (byteCells (l ++ fourT n)) ∧ w.grownBy w' v.ownBlock := by
  obtain ⟨p, c, rfl⟩ := own_sl hv
  have HV := Lib.hid hv
  have HC := Lib.hid (four_cells hn)
  have HF : Hid ((fourT n).length = 4) := fourT_len n
  clear hv
  go_enter Tryd.func46, Tryd.ntmps46
  go_wp2_with (at_builtin; (refine wpList_append_few rfl (.tmp 5) (.tmp 17) rfl B _ l.length l rfl HV.out (fourT n) 4 HF.out (by decide) (by decide) _ HC.out rfl (by omega) hB ?_); intro v2 w2 q1 q2; have HQ := Lib.hid q1; have HG := Lib.hid q2; clear q1 q2)
  go_ret
  exact ⟨_, rfl, HQ.out, HG.out⟩
theorem frameT_eq (t : T) : frameT t = ([] ++ fourT t.length) ++ fourT (more 0 t) ++ t := by unfold frameT; simp
set_option maxRecDepth 100000 in
set_option maxHeartbeats 4000000 in
theorem wframe_c (B g : Nat) (t : T) (bad : Bool) (w : World) (hT : Tab w) (hW : WrP w B g t bad) :
    Calls Tryd.prog 26 #[.pointer (some ⟨g, 0, none⟩)] w fun e w' => FrameA w w' (if bad then (3, []) else if 65536 < t.length then (2, []) else (0, frameT t)) e := by
  obtain ⟨hBg, hBw, d, hblk, hrow⟩ := hW
  by_cases hE : wE t bad = 0
  · obtain ⟨rfl, htl⟩ := wE_zero hE
    have hrw := hrow hE
    rw [hE] at hblk
    obtain ⟨pd, cd, rfl, hd8⟩ := own_in8' hrw
    have hnc := own_nilcap hrw
    have c0 : w.cell? ⟨g, 0, none⟩ = some (.slice pd t.length cd) := hblk.cell 0
    have c1 : w.cell? ⟨g, 1, none⟩ = some (.int .i64 0) := hblk.cell 1
    have HB := Lib.hid hblk
    have H8 := Lib.hid hd8
    have HNC := Lib.hid hnc
    have HT := Lib.hid hT
    rw [if_neg (by simp), if_neg (by omega)]
    have HM := Lib.hid (more_lt (s := 0) (by decide) t)
    have HS := Lib.hid (fun wx (hb : Below w.heap.size w wx) => sum_c pd cd t wx (hd8.below hb) (hT.below hb) (by omega))
    have HE := Lib.hid (frameT_eq t)
    have HF1 : Hid ((fourT t.length).length = 4) := fourT_len _
    have HF2 : Hid ((fourT (more 0 t)).length = 4) := fourT_len _
    obtain ⟨j0, hj, hy0, hy1, hy2⟩ := info_parts infoByte
    obtain ⟨m, hm⟩ : ∃ m, more 0 t = m := ⟨_, rfl⟩
    rw [hm] at HS HE HM HF2
    clear hm hrow hblk hd8 hnc hT hE hrw
    go_enter Tryd.func26, Tryd.ntmps26
    go_wp2_with (at_make; refine wpList_make_own _ rfl _ _ 24 rfl w.heap.size 5 j0 (.int .u8 0) 1 Tryd.underlying24 hj hy0 hy1 .i64 .i64 _ (8 + t.length) rfl rfl (by simp) (by rw [hy2]; omega) (by unfold maxLen; omega) (Nat.le_refl _) ?_; intro w1 hown hgrow; have hb1 := (Below.refl _ w).grown hgrow (Nat.le_refl _) (fun k hk => by cases hk); have d0 := (HB.out.below hb1).cell 0; have HO1 := Lib.hid hown; have HB1 := Lib.hid hb1; clear hgrow hown hb1)
    refine (withfour_c w.heap.size _ [] t.length _ HO1.out HB1.out.size (by omega) (by simp)).mono ?_
    rintro e w2 ⟨v2, rfl, hown2, hg2⟩
    have hb2 := HB1.out.grown hg2 HB1.out.size (fun k hk => (HO1.out.lt k hk).1)
    have d1 := (HB.out.below hb2).cell 0
    have HO2 := Lib.hid hown2
    have HB2 := Lib.hid hb2
    clear hown2 hb2 hg2 d0
    go_wp2_with fail
    refine (HS.out w2 HB2.out).mono ?_
    rintro e wz ⟨rfl, rfl⟩
    go_wp2_with fail
    have HL2 : Hid (([] ++ fourT t.length : T).length = 4) := by show _ = _; rw [List.nil_append]; exact HF1.out
    refine (withfour_c w.heap.size _ ([] ++ fourT t.length) m _ (by rw [HL2.out]; exact HO2.out) HB2.out.size HM.out (by rw [HL2.out]; omega)).mono ?_
    rintro e w3 ⟨v3, rfl, hown3, hg3⟩
    have hb3 := HB2.out.grown hg3 HB2.out.size (fun k hk => (HO2.out.lt k hk).1)
    rw [HL2.out] at hown3
    have d2 := (HB.out.below hb3).cell 0
    have HO3 := Lib.hid hown3
    have HB3 := Lib.hid hb3
    clear hown3 hb3 hg3 d1 HO2 HB2 HO1 HB1
    go_wp2_with (at_builtin; refine wpList_append_in8 rfl (.tmp 43) (.tmp 48) rfl w.heap.size _ 8 (byteCells ([] ++ fourT t.length ++ fourT m)) rfl HO3.out pd t.length cd t rfl (H8.out.below HB3.out) rfl HNC.out.1 (by omega) HB3.out.size ?_; intro v4 w4 hown4 hbb; have hb4 := hbb w HB3.out (Nat.le_refl _); have HO4 := Lib.hid hown4; have HB4 := Lib.hid hb4; clear hown4 hbb hb4)
    go_ret2
    refine ⟨_, rfl, ?_, HB4.out⟩
    have h := HO4.out
    rw [← byteCells_append, ← HE.out, show 8 + t.length = (frameT t).length by rw [frameT_len]; omega] at h
    exact h
  · have i0 : (((wE t bad : Nat) : Int) == 0) = false := by rw [beq_eq_false_iff_ne]; omega
    have c1 : w.cell? ⟨g, 1, none⟩ = some (.int .i64 ((wE t bad : Nat) : Int)) := hblk.cell 1
    have HE : Hid ((if bad then (3, []) else if 65536 < t.length then (2, []) else (0, frameT t)) = (wE t bad, ([] : T))) := by
      show _ = _
      cases bad with
      | true => rfl
      | false =>
        by_cases h : 65536 < t.length
        · rw [wE_long h]; simp [h]
        · exact absurd (wE_ok (by omega)) hE
    obtain ⟨q, hq⟩ : ∃ q, wE t bad = q := ⟨_, rfl⟩
    rw [hq] at i0 c1 HE
    rw [HE.out]
    clear hrow hE hq hblk HE
    go_enter Tryd.func26, Tryd.ntmps26
    go_wp2_with fail
    go_quiet (fail)
    go_wp2_with fail
    go_ret2
    exact ⟨_, rfl, World.ownsRow_nil _ _ _ _, below_drewN (Below.refl _ _) _⟩
end Go.Proofs.YtpffebcaalbhjaaDoor.wir
