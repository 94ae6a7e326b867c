/- The contracts of keyed and sha.Mac. Condition: the two tables hold what the program's text lays. -/
import Derived.Test.YtohmhcglmaifpaaDoorDev9
import Derived.Deep.DeepCutAuto
namespace Go.Proofs.YtohmhcglmaifpaaDoor.sha
open Go.RowKit
open Go.Proofs.YtohmhcglmaifpaaDoor.oct Go.Proofs.YtohmhcglmaifpaaDoor.ref Go.Proofs.YtohmhcglmaifpaaDoor.rows
open Go.Lib (byteCells)

/-- a key filled up to a block -/
def fill (k : List UInt8) : List UInt8 := k ++ List.replicate (64 - k.length) 0
theorem fill_len {k : List UInt8} (h : k.length ≤ 64) : (fill k).length = 64 := by simp [fill]; omega
/-- the block, taken together with the sign up to i -/
def keyF (k : List UInt8) (s : UInt8) (i : Nat) : Nat → UInt8 := fun j => if j < i then (fill k).getD j 0 ^^^ s else (fill k).getD j 0
theorem keyF_next (k : List UInt8) (s : UInt8) (i : Nat) : updB (keyF k s i) i ((fill k).getD i 0 ^^^ s) = keyF k s (i + 1) := by
  funext j
  unfold updB keyF
  by_cases h : j = i
  · rw [if_pos h, if_pos (by omega), h]
  · rw [if_neg h]
    by_cases h2 : j < i
    · rw [if_pos h2, if_pos (by omega)]
    · rw [if_neg h2, if_neg (by omega)]
theorem keyF_end {k : List UInt8} (h : k.length ≤ 64) (s : UInt8) : brow 64 (keyF k s 64) = (fill k).map (· ^^^ s) := by
  refine list_eq64 (brow_len _ _) (by rw [List.length_map, fill_len h]) fun j hj => ?_
  have h1 : (brow 64 (keyF k s 64)).getD j 0 = keyF k s 64 j := by simp [brow, List.getD, hj]
  rw [h1]
  unfold keyF
  have hf := fill_len h
  rw [if_pos hj]
  simp [List.getD, List.getElem?_eq_getElem (show j < (fill k).length by omega)]
theorem fill_splice {k : List UInt8} (h : k.length ≤ 64) (s : UInt8) : splice (byteCells (brow 64 fun _ => 0)) 0 (byteCells k) = byteCells (brow 64 (keyF k s 0)) := by
  have hf := fill_len h
  have e : brow 64 (keyF k s 0) = fill k := by
    refine list_eq64 (brow_len _ _) hf fun j hj => ?_
    have h1 : (brow 64 (keyF k s 0)).getD j 0 = keyF k s 0 j := by simp [brow, List.getD, hj]
    rw [h1]
    unfold keyF
    rw [if_neg (by omega)]
  have z : brow 64 (fun _ => (0 : UInt8)) = List.replicate 64 0 := by kernel_rfl
  rw [e, z]
  unfold splice fill
  rw [List.take_zero, List.nil_append, Nat.zero_add, byteCells_len, byteCells_append, byteCells_rep, byteCells_rep, List.drop_replicate]

/-- an array behind a pointer, whole -/
theorem run_arr_all {P : Program} (w : World) (t e : TypeId) (n b o : Nat) (hu : P.underlying t = some (.array n e)) (he : (P.info? e).map (·.size) = some 1) :
    (Instr.sliceAt t (.pointer (some ⟨b, o, none⟩)) none none none).run P w = .ok (.slice (some ⟨b, o, none⟩) n n) w := by
  cases hq : P.info? e with
  | none => simp [hq] at he
  | some j =>
    simp [Instr.sliceAt, Instr.sureAddr, run_underlying hu, Instr.sliceBounds, sizeOf, typeInfo, hq, Sem.run_bind, Addr.add]
theorem hwrite_n (g : Nat) (L : List UInt8) (p : Option Addr) (n cp : Nat) (l : List UInt8) (w : World) (ht : Tabs w) (h : Holds w g L) (hp : In8 w p l) (hn : l.length = n) (hne : ∀ a, p = some a → a.block ≠ g) (hr : n ≤ cp) (hlen : L.length + n ≤ 140737488355000) :
    (p = none → cp = 0) → Calls Tryd.prog 19 #[.pointer (some ⟨g, 0, none⟩), .slice p n cp] w fun e w' => (∃ v, e = .returned v) ∧ Holds w' g (L ++ l) ∧ w.grownBy w' (some g) := by
  intro hnil
  subst hn
  exact hwrite_c g L p cp l w ht h hp (fun _ => hne) ⟨hnil, hr⟩ hlen

set_option maxHeartbeats 2000000 in
theorem keyed_c (p : Option Addr) (cp : Nat) (k : List UInt8) (s : UInt8) (m : Int) (hm : m = (s.toNat : Int)) (w : World) (ht : Tabs w) (hp : In8 w p k) (hk : k.length ≤ 64) :
    Calls Tryd.prog 29 #[.slice p k.length cp, .int .u8 m] w fun e w' => ∃ g, e = .returned (.pointer (some ⟨g, 0, none⟩)) ∧ w.heap.size ≤ g ∧ Holds w' g ((fill k).map (· ^^^ s)) ∧ Below w.heap.size w w' := by
  subst hm
  have HT := Lib.hid ht
  have hE : Blk (w.alloc (.cells (byteCells (brow 64 fun _ => 0)).toArray 50)) w.heap.size 50 (byteCells (brow 64 fun _ => 0)) := blk_new w _ _ _ rfl
  have hb0 := (Below.refl w.heap.size w).alloc (Nat.le_refl _) (.cells (byteCells (brow 64 fun _ => 0)).toArray 50)
  have H0 := Lib.hid (hp.below hb0)
  have HE := Lib.hid hE
  have HB0 := Lib.hid hb0
  have HSP := Lib.hid (fill_splice hk s)
  have hsA := fun w' => run_arr_all (P := Tryd.prog) w' 50 5 64 w.heap.size 0 Tryd.underlying50 infoB1
  clear ht hp hE hb0
  go_enter Tryd.func29, Tryd.ntmps29
  go_wp2_with (refine wpList_copy_splice rfl (.tmp 8) (.tmp 9) 22 22 rfl 5 Tryd.underlying22 infoB1 (some ⟨w.heap.size, 0, none⟩) p 64 64 k.length cp rfl rfl w.heap.size 0 (byteCells (brow 64 fun _ => 0)) 50 HE.out (byteCells k) (by rw [byteCells_len]; exact (Nat.min_eq_left hk).symm) (copy_src H0.out) (by rw [byteCells_len, bcells_len]; omega) (byteCells_one k) w.heap.size w HB0.out (Nat.le_refl _) ?_; intro w1 hB1 hb1; rw [HSP.out] at hB1)
  have hB1' : Blk w1 w.heap.size 50 (byteCells (brow 64 (keyF k s 0))) := hB1.out
  clear hB1
  go_loopg [11] 64 (fun gk s11 wy => ∃ i : Nat, i + gk = 64 ∧ s11 = .int .i64 i ∧ Blk wy w.heap.size 50 (byteCells (brow 64 (keyF k s i))) ∧ Below w.heap.size w wy)
  case atStart => exact ⟨0, rfl, rfl, hB1', hb1⟩
  case round =>
    clear hB1' hb1
    obtain ⟨i, hik, rfl, hB, hbx⟩ := hrel
    rcases gk with _ | gk
    · obtain rfl : i = 64 := by omega
      rw [keyF_end hk s] at hB
      have hml : ((fill k).map (· ^^^ s)).length = 64 := by rw [List.length_map, fill_len hk]
      obtain ⟨M, hM⟩ : ∃ M, (fill k).map (· ^^^ s) = M := ⟨_, rfl⟩
      rw [hM] at hB hml
      have HM := Lib.hid hM
      have HB := Lib.hid hB
      have HML := Lib.hid hml
      have HBX := Lib.hid hbx
      clear hM hB hml hbx
      go_wp2_with fail
      refine (hnew_c wr (HT.out.below HBX.out)).mono ?_
      rintro e w2 ⟨g, rfl, hg, hh, hb2⟩
      have hlt := HB.out.lt
      have h8 := in8_all (HB.out.below hb2)
      have hbw := bnext HBX.out hb2
      have HC := Lib.hid (hwrite_n g [] (some ⟨w.heap.size, 0, none⟩) 64 64 M w2 (HT.out.below hbw) hh h8 HML.out (fun a ha => by cases ha; show w.heap.size ≠ g; omega) (by decide) (by decide) (fun h => by cases h))
      have HBW := Lib.hid hbw
      have HG : Hid (w.heap.size ≤ g) := by show _ ≤ _; have := HBX.out.size; omega
      clear hg hh hb2 h8 hbw
      go_wp2_with fail
      refine HC.out.mono ?_
      rintro e w3 ⟨⟨v3, rfl⟩, hh3, hg3⟩
      rw [List.nil_append, ← HM.out] at hh3
      have HH3 := Lib.hid hh3
      have HB3 := Lib.hid (grown_below HBW.out hg3 HG.out HBW.out.size)
      clear hh3 hg3
      go_wp2_with fail
      go_ret
      exact ⟨g, rfl, HG.out, HH3.out, HB3.out⟩
    · have hi : i < 64 := by omega
      have hiI : (i : Int) < 64 := by omega
      have c1 := (hB.cell i).trans (brow_at _ hi)
      have f1 := hB.frozen i
      have hv : keyF k s i i = (fill k).getD i 0 := by unfold keyF; rw [if_neg (by omega)]
      rw [hv] at c1
      have hn := keyF_next k s i
      obtain ⟨c, hc⟩ : ∃ c, (fill k).getD i 0 = c := ⟨_, rfl⟩
      rw [hc] at c1 hn
      have hx := xor_u8 c s
      have HSET : Hid (Blk (wr.setCell ⟨w.heap.size, i, none⟩ (.int .u8 ((c ^^^ s).toNat : Int))) w.heap.size 50 (byteCells (brow 64 (keyF k s (i + 1))))) := by
        have h := hB.set i (.int .u8 ((c ^^^ s).toNat : Int))
        rw [brow_set, hn] at h
        exact h
      have HBX : Hid (Below w.heap.size w (wr.setCell ⟨w.heap.size, i, none⟩ (.int .u8 ((c ^^^ s).toNat : Int)))) := hbx.setCell (Nat.le_refl _) _
      clear hB hbx hv hn hc
      go_wp2_with fail
      go_roundg gk
      case measure => omega
      case rel => exact ⟨i + 1, by omega, by go_num, HSET.out, HBX.out⟩

theorem key64_fill (k : List UInt8) : key64 k = fill (key0 k) := rfl

set_option maxHeartbeats 4000000 in
theorem mac_c (p : Option Addr) (cp : Nat) (k : List UInt8) (P : Option Addr) (C : Nat) (ps : List Part) (w : World) (ht : Tabs w) (hp : In8 w p k) (hk : k.length ≤ 140737488354000) (hr : Rm p cp k.length) (hP : InP w P ps) (hn : ps.length ≤ 200) (hl : (joined ps).length ≤ 140737488354000) :
    Calls Tryd.prog 15 #[.slice p k.length cp, .slice P ps.length C] w fun e w' => e = .returned (dval (mac k (joined ps))) ∧ Below w.heap.size w w' := by
  have HT := Lib.hid ht
  have HP := Lib.hid hP
  have HK := Lib.hid hp
  have HR := Lib.hid hr
  have hE : Blk (w.alloc (.cells (byteCells (brow 32 fun _ => 0)).toArray 26)) w.heap.size 26 (byteCells (brow 32 fun _ => 0)) := blk_new w _ _ _ rfl
  have hb0 := (Below.refl w.heap.size w).alloc (Nat.le_refl _) (.cells (byteCells (brow 32 fun _ => 0)).toArray 26)
  have HE := Lib.hid hE
  have HB0 := Lib.hid hb0
  have hsA := fun w' b => run_arr_all (P := Tryd.prog) w' 26 5 32 b 0 Tryd.underlying26 infoB1
  have HKL := Lib.hid (key0_len k)
  have HMAC : Hid (mac k (joined ps) = digest ((fill (key0 k)).map (· ^^^ 92) ++ digest ((fill (key0 k)).map (· ^^^ 54) ++ joined ps))) := rfl
  clear ht hP hp hr hE hb0
  go_enter Tryd.func15, Tryd.ntmps15
  go_upto_if 13 with (fail)
  go_cut [0] (fun s0 wx => ∃ q cq, s0 = .slice q (key0 k).length cq ∧ In8 wx q (key0 k) ∧ Blk wx w.heap.size 26 (byteCells (brow 32 fun _ => 0)) ∧ Below w.heap.size w wx)
  case first =>
    by_cases hlong : 64 < k.length
    · have hI : decide ((64 : Int) < (k.length : Int)) = true := decide_eq_true (by omega)
      have hKe : key0 k = digest k := by unfold key0; rw [if_pos hlong]
      have hDl : (digest k).length = 32 := digest_len k
      have hD1 := bytes_one (digest k)
      have hDi : Hid ((Tryd.prog.info? 26).map (·.size) = some (byteCells (digest k)).length) := by show _ = _; rw [byteCells_len, hDl]; exact infoDS
      have HDL2 : Hid (32 = (byteCells (digest k)).length) := by show _ = _; rw [byteCells_len, hDl]
      have HDL : Hid ((digest k).length = 32) := hDl
      obtain ⟨D, hDe⟩ : ∃ D, digest k = D := ⟨_, rfl⟩
      rw [hDe] at hD1 hDi HDL2 HDL hKe
      have HV : Hid (dval (digest k) = .agg (byteCells D).toArray) := by show _ = _; unfold dval; rw [hDe]
      have HKE := Lib.hid hKe
      clear hKe hDl hDe
      go_wp2_with fail
      refine (sum_top p cp k _ (HT.out.below HB0.out) (HK.out.below HB0.out) (by omega) HR.out).mono ?_
      rintro e w1 ⟨rfl, hb1⟩
      rw [HV.out]
      have hbw1 := bnext HB0.out hb1
      have hE1 := HE.out.below hb1
      clear hb1
      go_wp2_with ((with_reducible refine wpList_store_new rfl 26 (.tmp 5) (.tmp 15) rfl (byteCells D) 26 _ rfl rfl hDi.out (Eq.trans (by decide) HDL2.out) hD1 ?_); intro w2 hS hSb hz; clear hz; have hbw2 := bnext hbw1 hSb; have hE2 := hE1.below hSb; have h8 := in8_all hS; clear hSb hS hbw1 hE1)
      go_meet
      rw [HKE.out]
      exact ⟨_, 32, by rw [HDL.out], h8, hE2, hbw2⟩
    · have hI : decide ((64 : Int) < (k.length : Int)) = false := decide_eq_false (by omega)
      have hKe : key0 k = k := by unfold key0; rw [if_neg (by omega)]
      have HKE := Lib.hid hKe
      clear hKe
      go_wp2_with fail
      go_meet
      rw [HKE.out]
      exact ⟨p, cp, rfl, HK.out.below HB0.out, HE.out, HB0.out⟩
  case rest =>
    obtain ⟨q, cq, rfl, hq, hO, hbx⟩ := hcut
    obtain ⟨K, hKK⟩ : ∃ K, key0 k = K := ⟨_, rfl⟩
    rw [hKK] at hq HKL HMAC ⊢
    have HQ := Lib.hid hq
    have HO := Lib.hid hO
    have HBX := Lib.hid hbx
    have HTC := Lib.hid (HT.out.below hbx)
    have HPC := Lib.hid (HP.out.below hbx)
    clear hKK hq hO hbx HE HB0 HK
    go_wp2_with fail
    refine (keyed_c q cq K 54 54 rfl wc HTC.out HQ.out HKL.out).mono ?_
    rintro e w1 ⟨g, rfl, hg, hh1, hb1⟩
    have HG := Lib.hid hg
    have hLl : ((fill K).map (· ^^^ 54)).length = 64 := by rw [List.length_map, fill_len HKL.out]
    obtain ⟨Li, hLi⟩ : ∃ Li, (fill K).map (· ^^^ 54) = Li := ⟨_, rfl⟩
    rw [hLi] at hh1 HMAC hLl
    clear hg hLi
    go_wp2_with fail
    go_loopg [21] ps.length (fun gk s21 wy => ∃ i : Nat, i + gk = ps.length ∧ s21 = .int .i64 i ∧ Holds wy g (Li ++ joined (ps.take i)) ∧ Below wc.heap.size wc wy)
    case atStart => exact ⟨0, by omega, rfl, by simpa [joined] using hh1, hb1⟩
    case round =>
      clear hh1 hb1
      obtain ⟨i, hik, rfl, hh, hbx⟩ := hrel
      rcases gk with _ | gk
      · obtain rfl : i = ps.length := by omega
        have e : ps.take ps.length = ps := List.take_length
        rw [e] at hh
        have hsl : (Li ++ joined ps).length ≤ 140737488354500 := by rw [List.length_append, hLl]; omega
        have hDl : (digest (Li ++ joined ps)).length = 32 := digest_len _
        have hC := hsum_c g (Li ++ joined ps) wr (HTC.out.below hbx) hh hsl
        obtain ⟨D, hDe⟩ : ∃ D, digest (Li ++ joined ps) = D := ⟨_, rfl⟩
        rw [hDe] at hC HMAC hDl
        have hD1 := bytes_one D
        have hDi : Hid ((Tryd.prog.info? 26).map (·.size) = some (byteCells D).length) := by show _ = _; rw [byteCells_len, hDl]; exact infoDS
        have HDL2 : Hid (32 = (byteCells D).length) := by show _ = _; rw [byteCells_len, hDl]
        have HDL := Lib.hid hDl
        have HC := Lib.hid hC
        have HBX2 := Lib.hid hbx
        clear e hh hbx hsl hC hDl hDe
        go_wp2_with fail
        refine HC.out.mono ?_
        rintro e w2 ⟨rfl, hb2⟩
        have hbw2 := bnext HBX2.out hb2
        unfold dval
        clear hb2
        go_wp2_with ((with_reducible refine wpList_store_new rfl 26 (.tmp 9) (.tmp 30) rfl (byteCells D) 26 _ rfl rfl hDi.out (Eq.trans (by decide) HDL2.out) hD1 ?_); intro w3 hS hSb hz; clear hz; have hbw3 := bnext hbw2 hSb; have h8 := in8_all hS; have hlt3 := hS.lt; clear hSb hS hbw2)
        refine (keyed_c q cq K 92 92 rfl w3 (HTC.out.below hbw3) (HQ.out.below hbw3) HKL.out).mono ?_
        rintro e w4 ⟨g4, rfl, hg4, hh4, hb4⟩
        have hLl4 : ((fill K).map (· ^^^ 92)).length = 64 := by rw [List.length_map, fill_len HKL.out]
        obtain ⟨Lo, hLo⟩ : ∃ Lo, (fill K).map (· ^^^ 92) = Lo := ⟨_, rfl⟩
        rw [hLo] at hh4 HMAC hLl4
        have hbw4 := bnext hbw3 hb4
        have HC4 := Lib.hid (hwrite_n g4 Lo (some ⟨w2.heap.size, 0, none⟩) 32 32 D w4 (HTC.out.below hbw4) hh4 (h8.below hb4) HDL.out (fun a ha => by cases ha; show w2.heap.size ≠ g4; omega) (by decide) (by rw [hLl4]; decide) (fun h => by cases h))
        have HBW4 := Lib.hid hbw4
        have hwg4 : wc.heap.size ≤ g4 := by have := hbw3.size; omega
        have hl5 : (Lo ++ D).length ≤ 140737488354500 := by rw [List.length_append, hLl4, HDL.out]; decide
        clear hg4 hh4 hb4 hLo hbw3 h8 hlt3 hbw4
        go_wp2_with fail
        refine HC4.out.mono ?_
        rintro e w5 ⟨⟨v5, rfl⟩, hh5, hgr5⟩
        have hbw5 := grown_below HBW4.out hgr5 hwg4 HBW4.out.size
        have HC5 := Lib.hid (hsum_c g4 (Lo ++ D) w5 (HTC.out.below hbw5) hh5 hl5)
        have HBW5 := Lib.hid hbw5
        clear hh5 hgr5 hbw5
        go_wp2_with fail
        refine HC5.out.mono ?_
        rintro e w6 ⟨rfl, hb6⟩
        rw [← HMAC.out]
        have hbw6 := bnext HBW5.out hb6
        have hO6 := Lib.hid (HO.out.below hbw6)
        have hbf := Lib.hid (bnext HBX.out hbw6)
        have hMl : (byteCells (mac k (joined ps))).length = 32 := by rw [byteCells_len]; exact digest_len _
        have hM1 := bytes_one (mac k (joined ps))
        have hMi : Hid ((Tryd.prog.info? 26).map (·.size) = some (byteCells (mac k (joined ps))).length) := by show _ = _; rw [hMl]; exact infoDS
        have hOl : (byteCells (brow 32 fun _ => 0)).length = (byteCells (mac k (joined ps))).length := by rw [bcells_len, hMl]
        unfold dval
        obtain ⟨M, hMe⟩ : ∃ M, byteCells (mac k (joined ps)) = M := ⟨_, rfl⟩
        rw [hMe] at hM1 hMi hOl ⊢
        have HME := Lib.hid hMe
        generalize byteCells (brow 32 fun _ => 0) = O at hO6 hOl
        clear hMe hMl hb6 hbw6
        go_wp2_with (with_reducible refine wpList_store_blk rfl 26 (.tmp 4) (.tmp 37) rfl w.heap.size M O 26 hO6.out rfl rfl hMi.out hOl hM1 ?_; intro wf hR hW)
        refine bodyPost_ret (v := .agg M.toArray) (results_blk Tryd.results15 _ _ w.heap.size 26 M _ rfl hR Tryd.underlying26 rfl hMi.out) rfl ⟨by unfold dval; rw [HME.out], hW.below _ _ hbf.out (Nat.le_refl _)⟩
      · have hi : i < ps.length := by omega
        have hq := HPC.out.below hbx
        obtain ⟨bb, oo, rfl, hc⟩ := hq.1 (by omega)
        have c1 := hc i hi
        have hx := hq.2 _ (List.getElem_mem hi)
        have hx0 := HPC.out.2 _ (List.getElem_mem hi)
        have hle := joined_take_le ps (i + 1)
        have hj := joined_take hi
        rw [hj, List.length_append] at hle
        have HJ := Lib.hid hj
        obtain ⟨x, hxe⟩ : ∃ x, ps[i] = x := ⟨_, rfl⟩
        rw [hxe] at c1 hx hx0 hle HJ
        obtain ⟨qx, cx, lx⟩ := x
        simp only [Part.val] at c1
        simp only at hle
        have HC := Lib.hid (hwrite_c g (Li ++ joined (ps.take i)) qx cx lx wr (HTC.out.below hbx) hh hx.1 (part_block hx0 HG.out) hx.2 (by rw [List.length_append, hLl]; omega))
        have HBX3 := Lib.hid hbx
        clear hq hc hxe hx hx0 hj hh hbx
        go_wp2_with fail
        refine HC.out.mono ?_
        rintro e w2 ⟨⟨v2, rfl⟩, hh2, hg2⟩
        have hbw2 := grown_below HBX3.out hg2 HG.out HBX3.out.size
        rw [List.append_assoc, ← HJ.out] at hh2
        clear hg2
        go_wp2_with fail
        go_roundg gk
        case measure => omega
        case rel => exact ⟨i + 1, by omega, by go_num, hh2, hbw2⟩
end Go.Proofs.YtohmhcglmaifpaaDoor.sha
