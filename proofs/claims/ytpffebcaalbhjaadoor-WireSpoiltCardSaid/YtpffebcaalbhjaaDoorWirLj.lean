/- WireSpoilt by WApi, in full: what is put behind may have any length that an argument has. -/
import Derived.Test.YtpffebcaalbhjaaDoorWirLh
import Derived.Deep.DeepAppendWide
namespace Go.Proofs.YtpffebcaalbhjaaDoor.wir
open Go.RowKit
open Go.Proofs.YtpffebcaalbhjaaDoor.oct Go.Proofs.YtpffebcaalbhjaaDoor.ref Go.Proofs.YtpffebcaalbhjaaDoor.rows Go.Proofs.YtpffebcaalbhjaaDoor.rowg
open Go.Lib (byteCells)

theorem step_append_wide {w : World} {ops : Array Oper} {o : Oper} {a : Act} {K : Act → World → Prop} {Q : Exit → Act → World → Prop} {E : Prop} (hgd : o.guard = none) (s x : Operand)
    (ho : o.op = .call { callee := .builtin .append, args := #[s, x], argTypes := #[24, 24] }) (base : Nat)
    (v : Value) (n : Nat) (xs : List Value) (hs : a.eval s = v) (hown : w.ownsRow base 5 1 v n xs) (q : Option Addr) (m cq : Nat) (l : T) (hx : a.eval x = .slice q m cq)
    (hq : In8 w q l) (hm : l.length = m) (hnil : q = none → cq = 0) (hb : n + m ≤ 211106232532992) (hbase : base ≤ w.heap.size)
    (h : ∀ v' w', w'.ownsRow base 5 1 v' (n + m) (xs ++ byteCells l) → w.grownBy w' v.ownBlock → K (a.put o.dst v') w') :
    if Region.wanted o (yielded ops a.tmps) = true then Oper.wp Tryd.prog o a w K Q else E := by
  have hw : Region.wanted o (yielded ops a.tmps) = true := by simp [Region.wanted, hgd]
  rw [if_pos hw]
  obtain ⟨j0, hj, hy0, hy1, hy2⟩ := info_parts infoByte
  subst hm
  rcases q with _ | ad
  · obtain rfl := in8_nil hq
    obtain rfl := hnil rfl
    have hrun := run_append_owned_none (P := Tryd.prog) (w := w) base 24 o.type 5 j0 1 Tryd.underlying24 hj v n xs hown
    have hx2 : a.eval x = .slice none 0 0 := hx
    unfold Oper.wp
    simp [execOp, ho, resolve, invoke, builtin, hs, hx2, hrun, Result.andThen]
    exact h v w (by simpa [byteCells] using hown) (World.grownBy.refl w _)
  · obtain ⟨v', w', hr, h2, h3, _⟩ := run_append_own_wide (P := Tryd.prog) w base 24 o.type 5 j0 (.int .u8 0) 1 1 Tryd.underlying24 hj hy0 hy1 hy2 rfl (by decide) v n xs hown ad l.length cq (byteCells l) (by rw [byteCells_len]; omega) (src_cells hq) (byteCells_one l) (by unfold maxLen; omega) (by omega) hbase
    unfold Oper.wp execOp
    simp only [ho, resolve, invoke, builtin, Sem.run_bind, Sem.run_pure, Result.andThen_ok, List.map_toArray, List.map_cons, List.map_nil, hs, hx, hr]
    exact h v' w' h2 h3
set_option maxRecDepth 100000 in
set_option maxHeartbeats 8000000 in
theorem law_spoiltF {T' : World → Prop} {Cap : Nat → Prop} (X : WApi T' Cap) (P : Option Addr) (C : Nat) (l0 : List PutA) (at_ less : Int) (by_ : UInt8) (pm : Option Addr) (cm : Nat) (m : T) (w : World) (hp : InP w P l0) (hg : ∀ x ∈ l0, GoodP w x) (hC : l0.length ≤ C) (hc : Cap (bytesB ((l0.take 400).map PutA.put)).length) (hc7 : Cap 7) (ht : T' w)
    (hm : In8 w pm m) (hmn : pm = none → cm = 0) (hml : m.length ≤ 140737488351232)
    (hbig : ∀ (p : Option Addr) (c : Nat) (l : T) (w : World), T' w → In8 w p l → (p = none → c = 0) → l.length ≤ c → l.length ≤ 281474976710656 → Calls Tryd.prog 16 #[.slice p l.length c] w fun e w' => ∃ q, e = .returned (.tuple #[.pointer q, .int .i64 (openE l : Nat)]) ∧ Below w.heap.size w w') :
    Calls Tryd.prog 7 #[.slice P l0.length C, .agg #[.int .i64 at_, .int .u8 (by_.toNat : Int), .int .i64 less, .slice pm m.length cm]] w fun e w' => e = .returned (.bool true) ∧ Below w.heap.size w w' := by
  have HBX : Hid (Blk (w.alloc (.cells #[.int .i64 at_, .int .u8 (by_.toNat : Int), .int .i64 less, .slice pm m.length cm] 53)) w.heap.size 53 [.int .i64 at_, .int .u8 (by_.toNat : Int), .int .i64 less, .slice pm m.length cm]) := blk_new w _ _ _ rfl
  have hb0 := (Below.refl w.heap.size w).alloc (Nat.le_refl _) (.cells #[.int .i64 at_, .int .u8 (by_.toNat : Int), .int .i64 less, .slice pm m.length cm] 53)
  have HB0 := Lib.hid hb0
  have HF := Lib.hid (fun w1 => few_c P C l0 w1 hC)
  have hlm : (l0.take 400).length ≤ 400 := by rw [List.length_take]; omega
  have hp4 := inp_take hp 400
  have hg4 : ∀ x ∈ l0.take 400, GoodP w x := fun x hx => hg x (List.mem_of_mem_take hx)
  obtain ⟨l, hlx⟩ : ∃ l, l0.take 400 = l := ⟨_, rfl⟩
  rw [hlx] at HF hlm hp4 hg4 hc
  have HT := Lib.hid (fun w1 (hb : Below w.heap.size w w1) => X.tbelow _ _ ht hb)
  have HW := Lib.hid (write_c X P C l _ (HT.out _ hb0) (inp_below hp4 hb0) (fun x hx => (hg4 x hx).below hb0) hlm hc)
  have HK := Lib.hid (fun w1 (hb : Below w.heap.size w w1) => wknown_c X w1 (X.tbelow _ _ ht hb) hc7)
  have HWO := Lib.hid (fun (h : (writeT (l.map PutA.put)).1 = 0) => write_ok h)
  have HM := Lib.hid hm
  have HBIG := Lib.hid hbig
  have HMN := Lib.hid hmn
  obtain ⟨r, hr⟩ : ∃ r, writeT (l.map PutA.put) = r := ⟨_, rfl⟩
  rw [hr] at HW HWO
  obtain ⟨q, t⟩ := r
  dsimp only at HWO
  clear hr hp hg hp4 hg4 hlx hc hc7 ht hC hb0 hm hmn hbig
  go_enter Tryd.func7, Tryd.ntmps7
  go_wp2_with (go_at_call 11; refine (HF.out _).mono ?_; rintro e w' ⟨rfl, rfl⟩)
  refine HW.out.mono ?_
  clear HW HF
  rintro e w1 ⟨v1, rfl, ho1, hb1⟩
  dsimp only at ho1 ⊢
  obtain ⟨p1, c1, rfl, h81, hn1, hc1⟩ := own_arg ho1
  have H81 := Lib.hid h81
  have HB1 := Lib.hid (bnext HB0.out hb1)
  have HX1 := Lib.hid (HBX.out.below hb1)
  have HK1 := Lib.hid (HK.out w1 HB1.out)
  have HN1 := Lib.hid hn1
  have HC1 := Lib.hid hc1
  clear ho1 h81 hb1 hn1 hc1 HB0 HBX
  go_wp2_with fail
  refine HK1.out.mono ?_
  clear HK1
  rintro e w2 ⟨rfl, hb2⟩
  have HB2 := Lib.hid (bnext HB1.out hb2)
  have H82 : Hid (In8 w2 p1 t) := H81.out.below hb2
  have HX2 := Lib.hid (HX1.out.below hb2)
  clear hb2 H81 HB1 HX1
  by_cases hq : q = 0
  · subst hq
    obtain ⟨hbad, hlen, htt⟩ := HWO.out rfl
    injection htt with _ htt
    have HLEN := Lib.hid hlen
    have HFT := Lib.hid htt
    have hn8 : t.length = (bytesB (l.map PutA.put)).length + 8 := by rw [htt, frameT_len]
    have HCP := Lib.hid (rcopy_b p1 c1 t w2 H82.out (by omega))
    obtain ⟨n, hn⟩ : ∃ n, t.length = n := ⟨_, rfl⟩
    have HNL := Lib.hid hn
    have hnl : n ≤ 65544 := by omega
    have hn0 : 8 ≤ n := by omega
    rw [hn] at HCP ⊢
    clear hbad hlen HWO htt hn8 hn
    go_wp2_with fail
    refine HCP.out.mono ?_
    clear HCP
    rintro e w3 ⟨rfl, hZ3, hb3⟩
    have HZ3 := Lib.hid hZ3
    have HX3 := Lib.hid (HX2.out.below hb3)
    have HBS : Hid (∀ (i : Nat) (u : Value), Below w2.heap.size w2 (w3.setCell ⟨w2.heap.size, i, none⟩ u).drew) := fun i u => (hb3.setCell (p := ⟨w2.heap.size, i, none⟩) (Nat.le_refl _) u).drew
    have HB3 := Lib.hid (fun i u => bnext HB2.out (HBS.out i u))
    have H83 := Lib.hid (fun i u => H82.out.below (HBS.out i u))
    have HX4 := Lib.hid (fun i u => HX2.out.below (HBS.out i u))
    obtain ⟨gc, hgc⟩ : ∃ gc, w2.heap.size = gc := ⟨_, rfl⟩
    rw [hgc] at HZ3 HB3 H83 HX4 ⊢
    have hx0 := HX3.out.cell 0
    have hx1 := HX3.out.cell 1
    have hx2 := HX3.out.cell 2
    have hx3 := HX3.out.cell 3
    clear hZ3 hb3 HB2 H82 HX2 hgc HBS
    obtain ⟨k, hk, hkk⟩ := umod at_ (n := n) (by omega) hnl
    have HKE := Lib.hid hkk
    go_wp2_with fail
    rw [HKE.out]
    have hkl : k < t.length := by have := HNL.out; omega
    have hkI : (k : Int) < (n : Int) := by omega
    obtain ⟨v, hv⟩ : ∃ v, t[k] = v := ⟨_, rfl⟩
    have ck := HZ3.out.cell k
    rw [show (byteCells t)[k]? = some (.int .u8 (v.toNat : Int)) from by unfold byteCells; rw [List.getElem?_map, List.getElem?_eq_getElem hkl, hv]; rfl] at ck
    have fk := HZ3.out.frozen k
    have xo := xor_u8 v by_
    have HE1 : Hid ((by_ = 0 → openE (t.set k (v ^^^ by_)) = 0) ∧ (by_ ≠ 0 → openE (t.set k (v ^^^ by_)) ≠ 0)) := by
      have h1 := HLEN.out
      have h2 := HFT.out
      rw [← hv]
      subst h2
      exact ⟨fun h0 => by rw [h0, UInt8.xor_zero, List.set_getElem_self]; exact open_frame h1, fun h0 => open_set h1 hkl h0⟩
    have HW4 : Hid (Blk (w3.setCell ⟨gc, k, none⟩ (.int .u8 ((v ^^^ by_).toNat : Int))).drew gc 5 (byteCells (t.set k (v ^^^ by_)))) := by
      have h := blk_drew (HZ3.out.set k (.int .u8 ((v ^^^ by_).toNat : Int)))
      rw [byteCells_set] at h
      exact h
    have HB4 := Lib.hid (HB3.out k (.int .u8 ((v ^^^ by_).toNat : Int)))
    have H84 := Lib.hid (H83.out k (.int .u8 ((v ^^^ by_).toNat : Int)))
    have HX5 := Lib.hid (HX4.out k (.int .u8 ((v ^^^ by_).toNat : Int)))
    clear hkk hv HB3 H83 HX4
    go_region
    rw [← UInt8.toNat_xor]
    obtain ⟨w4, hw4⟩ : ∃ w4, (w3.setCell ⟨gc, k, none⟩ (.int .u8 ((v ^^^ by_).toNat : Int))).drew = w4 := ⟨_, rfl⟩
    rw [hw4] at HW4 HB4 H84 HX5 ⊢
    have HNR := Lib.hid (X.rnew (some ⟨gc, 0, none⟩) n (t.set k (v ^^^ by_)) w4 (HT.out w4 HB4.out) (in8_all HW4.out) (fun h => by cases h) (by rw [List.length_set]; have := HNL.out; omega) (by rw [List.length_set]; have := HNL.out; omega))
    rw [List.length_set, HNL.out] at HNR
    obtain ⟨E1, hE1⟩ : ∃ E1, openE (t.set k (v ^^^ by_)) = E1 := ⟨_, rfl⟩
    rw [hE1] at HNR HE1
    clear hw4 hE1 HW4 ck fk xo hx0 hx1 hx2 hx3 HZ3 HX3 HKE hkl hkI hk
    go_wp2_with fail
    refine HNR.out.mono ?_
    clear HNR
    rintro e w5 ⟨q1, rfl, _, _, hb5⟩
    have HB5 := Lib.hid (bnext HB4.out hb5)
    have H85 : Hid (In8 w5 p1 t) := H84.out.below hb5
    have X5 := HX5.out.below hb5
    have x1 := X5.cell 1
    have x2 := X5.cell 2
    have HX6 := Lib.hid X5
    clear hb5 HB4 H84 HX5 X5
    obtain ⟨j, hj, hjj⟩ := umod less (n := n) (by omega) hnl
    have HJE := Lib.hid hjj
    have HC1n : Hid (n ≤ c1) := by show _ ≤ _; rw [← HNL.out]; exact HC1.out
    have hc1n : (n : Int) ≤ (c1 : Int) := by have := HC1n.out; omega
    have hj0 : (0 : Int) ≤ (n : Int) - (j : Int) := by omega
    have hj1 : (n : Int) - (j : Int) ≤ (c1 : Int) := by omega
    have heq : ((E1 : Int) == 0) = ((by_.toNat : Int) == 0) := by
      by_cases hb : by_ = 0
      · rw [HE1.out.1 hb, hb]; rfl
      · have h1 := HE1.out.2 hb
        have h2 : by_.toNat ≠ 0 := fun h => hb (UInt8.toNat_inj.1 h)
        rw [show ((E1 : Int) == 0) = false by rw [beq_eq_false_iff_ne]; omega, show ((by_.toNat : Int) == 0) = false by rw [beq_eq_false_iff_ne]; omega]
    obtain ⟨bb, hbb⟩ : ∃ bb, ((by_.toNat : Int) == 0) = bb := ⟨_, rfl⟩
    rw [hbb] at heq
    have e3 : (bb != bb) = false := by simp
    have HE2 : Hid ((j = 0 → openE (t.take (n - j)) = 0) ∧ (0 < j → openE (t.take (n - j)) ≠ 0)) := by
      have h1 := HLEN.out
      have h2 := HFT.out
      have h3 := HNL.out
      subst h2
      rw [← h3] at hj ⊢
      exact ⟨fun h0 => by rw [h0, Nat.sub_zero, List.take_length]; exact open_frame h1, fun h0 => open_cut h1 h0 hj⟩
    have HNR2 := Lib.hid (X.rnew p1 c1 (t.take (n - j)) w5 (HT.out w5 HB5.out) (fun hp => by
      have h := in8_take H85.out (n - j)
      exact h hp) HN1.out (by rw [List.length_take]; have := HC1n.out; omega) (by rw [List.length_take]; omega))
    rw [List.length_take, Nat.min_eq_left (by have := HNL.out; omega)] at HNR2
    obtain ⟨E2, hE2⟩ : ∃ E2, openE (t.take (n - j)) = E2 := ⟨_, rfl⟩
    rw [hE2] at HNR2 HE2
    clear hE2
    go_wp2_with fail
    rw [HJE.out]
    refine HNR2.out.mono ?_
    clear HNR2
    rintro e w6 ⟨q2, rfl, _, _, hb6⟩
    have HB6 := Lib.hid (bnext HB5.out hb6)
    have H86 : Hid (In8 w6 p1 t) := H85.out.below hb6
    have HX7 := Lib.hid (HX6.out.below hb6)
    have HM6 : Hid (In8 w6 pm m) := HM.out.below HB6.out
    have y3 := HX7.out.cell 3
    clear hb6 H85 HX6 HB5 x1 x2 heq hbb e3 hj0 hj1 hc1n hjj
    go_wp2_with fail
    have HCP : Hid (Calls Tryd.prog 24 #[.slice p1 n c1] w6.drew fun e w' => e = .returned (.slice (some ⟨w6.heap.size, 0, none⟩) n n) ∧ w'.ownsRow w6.heap.size 5 1 (.slice (some ⟨w6.heap.size, 0, none⟩) n n) n (byteCells t) ∧ Below w6.heap.size w6 w') := by
      have h := rcopy_b p1 c1 t w6.drew (H86.out.below ((Below.refl _ _).drew)) (by have := HNL.out; omega)
      rw [HNL.out] at h
      refine h.mono fun e w' h => ⟨h.1, ?_, ((Below.refl _ _).drew).trans h.2.2⟩
      have ho := own_of_block (Nat.le_refl w6.drew.heap.size) h.2.1 (by rw [byteCells_len, HNL.out]; unfold maxLen; omega)
      rw [byteCells_len, HNL.out] at ho
      exact ho
    have HTM : Hid ((t ++ m).length = n + m.length) := by show _ = _; rw [List.length_append, HNL.out]
    have HE3 : Hid ((((openE (t ++ m) : Nat) : Int) == 0) = ((m.length : Int) == 0)) := by
      have h1 := HLEN.out
      have h2 := HFT.out
      subst h2
      show _ = _
      by_cases hm : m = []
      · rw [hm, List.append_nil, open_frame h1]; rfl
      · have h3 := open_more h1 hm
        have h4 := List.length_pos_iff.2 hm
        rw [show (((openE (frameT (bytesB (l.map PutA.put)) ++ m) : Nat) : Int) == 0) = false by rw [beq_eq_false_iff_ne]; omega, show ((m.length : Int) == 0) = false by rw [beq_eq_false_iff_ne]; omega]
    have HNR3 : Hid (∀ (pa : Option Addr) (ca : Nat) (wa : World), Below w6.heap.size w6 wa → wa.ownsRow w6.heap.size 5 1 (.slice pa (n + m.length) ca) (n + m.length) (byteCells (t ++ m)) → Calls Tryd.prog 16 #[.slice pa (n + m.length) ca] wa fun e w' => ∃ q, e = .returned (.tuple #[.pointer q, .int .i64 (openE (t ++ m) : Nat)]) ∧ Below w6.heap.size w6 w') := fun pa ca wa hba ho => by
      rw [← HTM.out] at ho ⊢
      obtain ⟨p', c', hv, h8, hn', hc'⟩ := own_arg ho
      injection hv with a1 a2 a3
      subst a1 a3
      refine (HBIG.out pa ca (t ++ m) wa (HT.out wa (bnext HB6.out hba)) h8 hn' hc' (by rw [HTM.out]; omega)).mono fun e w' h => ?_
      obtain ⟨q, h1, h4⟩ := h
      exact ⟨q, h1, bnext hba h4⟩
    obtain ⟨E3, hE3⟩ : ∃ E3, openE (t ++ m) = E3 := ⟨_, rfl⟩
    rw [hE3] at HE3 HNR3
    clear hE3
    have hq6 := HX7.out.lt
    go_region_law (first
      | (refine step_append_wide rfl (.tmp 78) (.tmp 80) rfl w6.heap.size (.slice (some ⟨w6.heap.size, 0, none⟩) n n) n (byteCells t) rfl HOC.out pm m.length cm m rfl (HM6.out.below HBC.out) rfl HMN.out (by omega) HBC.out.size ?_; intro va wa howa hgra; rw [← byteCells_append] at howa; obtain ⟨pa, ca, rfl⟩ := own_slice howa; have HBA : Hid (Below w6.heap.size w6 wa) := HBC.out.grown hgra HBC.out.size (fun g hg => (HOC.out.lt g hg).1); have HNA := Lib.hid (HNR3.out pa ca wa HBA.out howa); clear howa hgra)
      | (go_simp; go_at_call 24; (with_reducible refine HCP.out.mono ?_); rintro e wc ⟨rfl, hoc, hbc⟩; have HOC := Lib.hid hoc; have y3c := (HX7.out.below hbc).cell 3; have HBC := Lib.hid hbc; clear hoc hbc)
      | (go_simp; go_at_call 16; (with_reducible refine HNA.out.mono ?_); rintro e w9 ⟨q3, rfl, hb9⟩))
    all_goals
      have heq2 : ((E2 : Int) == 0) = ((j : Int) == 0) := by
        by_cases hj0 : j = 0
        · rw [HE2.out.1 hj0, hj0]
        · have h1 := HE2.out.2 (by omega)
          rw [show ((E2 : Int) == 0) = false by rw [beq_eq_false_iff_ne]; omega, show ((j : Int) == 0) = false by rw [beq_eq_false_iff_ne]; omega]
      have heq3 := HE3.out
      obtain ⟨b2, hb2⟩ : ∃ b2, ((j : Int) == 0) = b2 := ⟨_, rfl⟩
      obtain ⟨b3, hb3⟩ : ∃ b3, ((m.length : Int) == 0) = b3 := ⟨_, rfl⟩
      rw [hb2] at heq2
      rw [hb3] at heq3
      have e4 : (b2 == b2) = true := by simp
      have e5 : (b3 == b3) = true := by simp
      have z3 := (HX7.out.below hb9).cell 3
      have HB9 := Lib.hid (bnext HB6.out hb9)
      clear hb9 HCP HNR3 HE2 HE3 HE1 HOC HBC HNA HBA
      go_wp2_with fail
      go_ret
      exact ⟨rfl, HB9.out⟩
  · have e0 : ((q : Int) != 0) = true := by rw [bne_iff_ne]; omega
    have HK2 := Lib.hid (HK.out w2 HB2.out)
    clear hq HWO H82 HN1 HC1 HK HT HX2
    go_wp2_with fail
    refine HK2.out.mono ?_
    rintro e w3 ⟨rfl, hb3⟩
    have HB3 := Lib.hid (bnext HB2.out hb3)
    clear HK2 hb3 HB2
    go_wp2_with fail
    go_ret
    exact ⟨rfl, HB3.out⟩
end Go.Proofs.YtpffebcaalbhjaaDoor.wir
