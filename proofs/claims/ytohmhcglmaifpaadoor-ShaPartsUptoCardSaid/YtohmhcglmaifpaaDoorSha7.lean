/- The contract of the reference's Mac: the keyed digest (rows within the reach). -/
import Derived.Test.YtohmhcglmaifpaaDoorSha6
namespace Go.Proofs.YtohmhcglmaifpaaDoor.sha
open Go.RowKit
open Go.Proofs.YtohmhcglmaifpaaDoor.oct Go.Proofs.YtohmhcglmaifpaaDoor.ref Go.Proofs.YtohmhcglmaifpaaDoor.rows
open Go.Lib (byteCells)

/-- what the key is before the bytes 0 -/
def key0 (k : List UInt8) : List UInt8 := if k.length > 64 then digest k else k
theorem key64_eq (k : List UInt8) : key64 k = key0 k ++ List.replicate (64 - (key0 k).length) 0 := rfl
theorem key0_len (k : List UInt8) : (key0 k).length ≤ 64 := by
  unfold key0
  split
  · rw [digest_len]; decide
  · omega
theorem map_take {l : List UInt8} (f : UInt8 → UInt8) {i : Nat} (h : i < l.length) : (l.take (i + 1)).map f = (l.take i).map f ++ [f l[i]] := by
  rw [List.take_succ_eq_append_getElem h, List.map_append]; rfl

theorem rsumN_c (g cap N : Nat) (l : List UInt8) (w : World) (hN : l.length = N) (hp : In8 w (some ⟨g, 0, none⟩) l) (hl : N ≤ 140737488355000) :
    Calls Tryd.prog 14 #[.slice (some ⟨g, 0, none⟩) N cap] w fun e w' => e = .returned (.agg (byteCells (digest l)).toArray) ∧ Below w.heap.size w w' := by
  subst hN
  exact rsum_c _ cap l w hp hl (fun h => by cases h)
theorem in8_get {w : World} {b o i : Nat} {l : List UInt8} (h : In8 w (some ⟨b, o, none⟩) l) (hi : i < l.length) : w.cell? ⟨b, o + i, none⟩ = some (.int .u8 ((l[i]).toNat : Int)) := by
  obtain ⟨_, _, he, hc⟩ := h (by omega)
  cases he
  rw [hc i hi]
  simp [List.getD, List.getElem?_eq_getElem hi]
/-- an own row that is not empty, as a slice -/
theorem own_slice {w : World} {B e n : Nat} {v : Value} {l : List UInt8} (h : w.ownsRow B e 1 v n (byteCells l)) (hn : 0 < n) : ∃ g cap, v = .slice (some ⟨g, 0, none⟩) n cap ∧ In8 w (some ⟨g, 0, none⟩) l ∧ l.length = n := by
  obtain ⟨hl, p, cap, rfl, h8⟩ := own_in8 h
  obtain ⟨g, cap2, hv, _, _⟩ := own_parts h hn
  simp only [Value.slice.injEq] at hv
  obtain ⟨rfl, _, rfl⟩ := hv
  exact ⟨g, cap, rfl, h8, hl.symm⟩
theorem own_down {w : World} {B C e n : Nat} {v : Value} {xs : List Value} (h : w.ownsRow B e 1 v n xs) (hc : C ≤ B) : w.ownsRow C e 1 v n xs :=
  ⟨h.1, h.2.imp id fun ⟨g, cap, cur, hv, hb, r⟩ => ⟨g, cap, cur, hv, Nat.le_trans hc hb, r⟩⟩

set_option maxRecDepth 8000 in
set_option maxHeartbeats 4000000 in
theorem rmac_c (p : Option Addr) (cp : Nat) (k : List UInt8) (q : Option Addr) (cq : Nat) (b : List UInt8) (w : World) (hp : In8 w p k) (hk : k.length ≤ 140737488354000) (hpn : p = none → cp = 0) (hq : In8 w q b) (hl : b.length ≤ 140737488354000) (hqn : q = none → cq = 0) :
    Calls Tryd.prog 16 #[.slice p k.length cp, .slice q b.length cq] w fun e w' => e = .returned (.agg (byteCells (mac k b)).toArray) ∧ Below w.heap.size w w' := by
  have HP := Lib.hid hp
  have HQ := Lib.hid hq
  clear hp hq
  by_cases hlong : k.length > 64
  · skip
    have hI : (k.length : Int) > 64 := by omega
    have hKe : key0 k = digest k := by unfold key0; rw [if_pos hlong]
    have HKE := Lib.hid hKe
    have hdl := digest_len k
    have hd1 := bytes_one (digest k)
    have hdi : Hid ((Tryd.prog.info? 28).map (·.size) = some (byteCells (digest k)).length) := by show _ = _; rw [byteCells_len, hdl]; exact infoD
    have HDL : Hid ((digest k).length = 32) := hdl
    have HDL2 : Hid (32 = (byteCells (digest k)).length) := by show _ = _; rw [byteCells_len, hdl]
    clear hKe hdl hlong
    have hA : Blk (w.alloc (.cells (byteCells (brow 32 fun _ => 0)).toArray 28)) w.heap.size 28 (byteCells (brow 32 fun _ => 0)) := blk_new _ _ _ _ rfl
    have ho0 : ((w.alloc (.cells (byteCells (brow 32 fun _ => 0)).toArray 28)).alloc (.cells #[] 5)).ownsRow (w.heap.size + 1) 5 1 (.slice (some ⟨w.heap.size + 1, 0, none⟩) 0 0) 0 [] := by
      have := own_nil (w.alloc (.cells (byteCells (brow 32 fun _ => 0)).toArray 28)); simpa using this
    have hb0 : Below w.heap.size w ((w.alloc (.cells (byteCells (brow 32 fun _ => 0)).toArray 28)).alloc (.cells #[] 5)) := ((Below.refl _ _).alloc (Nat.le_refl _) _).alloc (by simp) _
    have hA0 := blk_old hA (.cells #[] 5)
    have hp0 := HP.out.below hb0
    obtain ⟨DK, hDK⟩ : ∃ DK, digest k = DK := ⟨_, rfl⟩
    have HDK := Lib.hid hDK
    rw [hDK] at hd1 hdi HDL HDL2 HKE
    clear hDK
    go_enter Tryd.func16, Tryd.ntmps16
    go_wp2_with (at_builtin; refine wpList_append_in8g rfl (.tmp 11) (.tmp 12) rfl (w.heap.size + 1) _ 0 [] rfl ho0 p k.length cp k rfl hp0 rfl hpn (by omega) (by simp) ?_; intro v4 w5 hown5 hgX; have hA5 : Blk w5 w.heap.size 28 (byteCells (brow 32 fun _ => 0)) := (hgX.block _ hA0.lt (fun e => by have := (ho0.lt _ e.symm).1; omega)).trans hA0; have hb5 := hb0.grown hgX hb0.size (fun i hi => by have := (ho0.lt _ hi).1; omega); clear hgX ho0 hb0 hA0 hp0 hA hown5)
    refine (rsum_c p cp k w5 (HP.out.below hb5) (by omega) hpn).mono ?_
    rintro e w6 ⟨rfl, hb6⟩
    have hA6 := Lib.hid (hA5.below hb6)
    have hbw6 := Lib.hid (bnext hb5 hb6)
    rw [HDK.out]
    clear hA5 hb5 hb6
    go_wp2_with (first
      | (with_reducible refine wpList_store_new rfl 28 (.tmp 6) (.tmp 18) rfl (byteCells DK) 28 _ rfl rfl hdi.out (Eq.trans (by decide) HDL2.out) hd1 ?_; intro w7 hS hSb hz; clear hz; have hb7 := bnext hbw6.out hSb; have hA7 := hA6.out.below hSb; have hA8 := blk_old hA7 (.cells #[] 5); have hb8 := hb7.alloc hb7.size (.cells #[] 5); have h88 := (in8_all hS).below ((Below.refl w7.heap.size w7).alloc (Nat.le_refl _) (.cells #[] 5)); have ho7 := own_nil w7)
      | (at_builtin; refine wpList_append_in8g rfl (.tmp 19) (.tmp 20) rfl w7.heap.size _ 0 [] rfl ho7 _ 32 32 DK rfl h88 HDL.out (fun h => by cases h) (by decide) (by simp) ?_; intro v5 wX hownX hgX; have hAX : Blk wX w.heap.size 28 (byteCells (brow 32 fun _ => 0)) := (hgX.block _ hA8.lt (fun e => by have := (ho7.lt _ e.symm).1; have := hA7.lt; omega)).trans hA8; have hbX := hb8.grown hgX hb8.size (fun i hi => by have := (ho7.lt _ hi).1; have := hA7.lt; omega); have hownX := own_down hownX (show w.heap.size + 1 ≤ w7.heap.size from hA7.lt); clear hgX ho7 hb8 hA8 h88 hA7 hb7 hS hSb))
    rw [Nat.zero_add, List.nil_append] at hownX
    obtain ⟨K0, hK0⟩ : ∃ K0, key0 k = K0 := ⟨_, rfl⟩
    have HK := Lib.hid hK0
    have HN0 : Hid (K0.length = 32) := by show _ = _; rw [← hK0, HKE.out, HDL.out]
    obtain ⟨n0, hn0⟩ : ∃ n0, 32 = n0 := ⟨_, rfl⟩
    have h64 : n0 ≤ 64 := by omega
    rw [hn0] at HN0
    rw [show byteCells DK = byteCells K0 from by rw [← hK0, HKE.out], hn0] at hownX
    have HZ0 : (byteCells (brow 32 fun _ => 0)).length = 32 := bcells_len _ _
    generalize byteCells (brow 32 fun _ => 0) = Z at hAX HZ0
    have HZ := Lib.hid HZ0
    clear HZ0 hK0 hn0
    go_loopg [5] (64 - n0) (fun g s5 wy => ∃ j : Nat, j + g = 64 - n0 ∧ wy.ownsRow (w.heap.size + 1) 5 1 s5 (n0 + j) (byteCells (K0 ++ List.replicate j 0)) ∧ Blk wy w.heap.size 28 Z ∧ Below w.heap.size w wy)
    case atStart => exact ⟨0, by omega, by simpa using hownX, hAX, hbX⟩
    case round =>
      clear hownX hAX hbX
      obtain ⟨j, hjg, hrow, hA, hbx⟩ := hrel
      obtain ⟨hcl, p5, c5, rfl, h8⟩ := own_in8 hrow
      obtain ⟨n, hn⟩ : ∃ n, n0 + j = n := ⟨_, rfl⟩
      rw [hn] at hrow hcl ⊢
      have hA64 := hA.lt
      rcases gk with _ | g
      · obtain rfl : n = 64 := by omega
        have HKK : Hid (K0 ++ List.replicate j 0 = key64 k) := by show _ = _; rw [key64_eq, HK.out, HN0.out, show 64 - n0 = j from by omega]
        rw [HKK.out] at h8
        have hKl := key64_len k
        have HMAC : Hid (mac k b = digest ((key64 k).map (· ^^^ 92) ++ digest ((key64 k).map (· ^^^ 54) ++ b))) := rfl
        obtain ⟨K, hK⟩ : ∃ K, key64 k = K := ⟨_, rfl⟩
        rw [hK] at h8 hKl HMAC
        clear hrow hcl hn hK HKK
        obtain ⟨wL, rfl⟩ : ∃ wL, wL = wr := ⟨_, rfl⟩
        have hbw := Below.refl wL.heap.size wL
        have hqb := HQ.out.below hbx
        obtain ⟨b5, o5, rfl, _⟩ := h8.at (by rw [hKl]; decide)
        have H8 := Lib.hid h8
        have HQB := Lib.hid hqb
        have HA := Lib.hid hA
        have HBX := Lib.hid hbx
        have HKL := Lib.hid hKl
        clear hqb hA hbx h8 hKl
        go_wp2_with fail
        go_loopg [7, 8, 9] 64 (fun g s7 s8 s9 wy => ∃ i : Nat, i + g = 64 ∧ s9 = .int .i64 i ∧ wy.ownsRow wL.heap.size 5 1 s7 i (byteCells ((K.take i).map (· ^^^ 54))) ∧ wy.ownsRow wL.heap.size 5 1 s8 i (byteCells ((K.take i).map (· ^^^ 92))) ∧ Hid (Disj s7 s8) ∧ Below wL.heap.size wL wy)
        case atStart => exact ⟨0, rfl, rfl, World.ownsRow_nil _ _ _ _, World.ownsRow_nil _ _ _ _, (fun k h => by cases h), hbw⟩
        case round =>
          clear hbw
          obtain ⟨i, hig, rfl, h7, hr8, HD, hbx⟩ := hrel
          rcases gk with _ | g
          · obtain rfl : i = 64 := by omega
            have hKt : K.take 64 = K := List.take_of_length_le (by rw [HKL.out]; exact Nat.le_refl _)
            rw [hKt] at h7 hr8
            have hqw := HQB.out.below hbx
            have hl2 : (K.map (· ^^^ 54) ++ b).length = 64 + b.length := by rw [List.length_append, List.length_map, HKL.out]
            have hl3 : (K.map (· ^^^ 92) ++ digest (K.map (· ^^^ 54) ++ b)).length = 96 := by rw [List.length_append, List.length_map, HKL.out, digest_len]
            obtain ⟨Li, hLi⟩ : ∃ Li, K.map (· ^^^ 54) = Li := ⟨_, rfl⟩
            obtain ⟨Lo, hLo⟩ : ∃ Lo, K.map (· ^^^ 92) = Lo := ⟨_, rfl⟩
            rw [hLi] at h7 hl2 hl3 HMAC
            rw [hLo] at hr8 hl3 HMAC
            have HL2 := Lib.hid hl2
            have HL3 := Lib.hid hl3
            clear hKt hl2 hl3 hLi hLo
            go_wp2_with (at_builtin; refine wpList_append_in8g rfl (.tmp 48) (.tmp 49) rfl wL.heap.size _ _ _ rfl h7 q b.length cq b rfl hqw rfl hqn (by omega) hbx.size ?_; intro vI wI hownI hgI; rw [← byteCells_append] at hownI; have hrI := hr8.kept hgI HD.out.ne; have hbI := hbx.grown hgI hbx.size (fun x hx => (h7.lt _ hx).1); obtain ⟨gI, cI, rfl, h8I, hlI⟩ := own_slice hownI (by omega))
            refine (rsumN_c gI cI _ _ _ HL2.out h8I (by omega)).mono ?_
            rintro e wJ ⟨rfl, hbJ⟩
            have hrJ := own_below hrI hbJ
            have hbJ2 := bnext hbI hbJ
            obtain ⟨D1, hD1⟩ : ∃ D1, digest (Li ++ b) = D1 := ⟨_, rfl⟩
            have hd1 := bytes_one (digest (Li ++ b))
            have hdl : (digest (Li ++ b)).length = 32 := digest_len _
            rw [hD1] at hd1 hdl HMAC HL3 ⊢
            have hdi : Hid ((Tryd.prog.info? 28).map (·.size) = some (byteCells D1).length) := by show _ = _; rw [byteCells_len, hdl]; exact infoD
            have HDL := Lib.hid hdl
            have HDL2 : Hid (32 = (byteCells D1).length) := by show _ = _; rw [byteCells_len, hdl]
            have HRJ := Lib.hid hrJ
            have HBJ2 := Lib.hid hbJ2
            clear hownI hgI hrI hbI hbJ hrJ hbJ2 h7 hr8 hbx hqw h8I hlI hD1 hdl
            go_wp2_with (first
              | (with_reducible refine wpList_store_new rfl 28 (.tmp 10) (.tmp 51) rfl (byteCells D1) 28 _ rfl rfl hdi.out (Eq.trans (by decide) HDL2.out) hd1 ?_; intro wS hS hSb hz; clear hz; have h8S := in8_all hS; have hrS := own_below HRJ.out hSb; have hbS := bnext HBJ2.out hSb)
              | (at_builtin; refine wpList_append_in8g rfl (.tmp 52) (.tmp 53) rfl wL.heap.size _ _ _ rfl hrS _ 32 32 D1 rfl h8S HDL.out (fun h => by cases h) (by decide) hbS.size ?_; intro vO wO hownO hgO; rw [← byteCells_append] at hownO; have hbO := hbS.grown hgO hbS.size (fun x hx => (hrS.lt _ hx).1); obtain ⟨gO, cO, rfl, h8O, hlO⟩ := own_slice hownO (by decide)))
            refine (rsumN_c gO cO _ _ _ HL3.out h8O (by decide)).mono ?_
            rintro e wM ⟨rfl, hbM⟩
            rw [← HMAC.out]
            have hbf := bnext hbO hbM
            have hAM := Lib.hid (HA.out.below hbf)
            have hbW := Lib.hid (bnext HBX.out hbf)
            have hml : (byteCells (mac k b)).length = 32 := by rw [byteCells_len, HMAC.out, digest_len]
            have hm1 := bytes_one (mac k b)
            have hmi : Hid ((Tryd.prog.info? 28).map (·.size) = some (byteCells (mac k b)).length) := by show _ = _; rw [hml]; exact infoD
            have hZm : Z.length = (byteCells (mac k b)).length := by rw [hml, HZ.out]
            obtain ⟨Y, hYe⟩ : ∃ Y, byteCells (mac k b) = Y := ⟨_, rfl⟩
            rw [hYe] at hm1 hmi hZm ⊢
            have HYE := Lib.hid hYe
            clear hownO hgO hbO h8O hlO hbM hbf hS hSb h8S hrS hbS hml hYe
            go_wp2_with (with_reducible refine wpList_store_blk rfl 28 (.tmp 4) (.tmp 55) rfl w.heap.size Y Z 28 hAM.out rfl rfl hmi.out hZm hm1 ?_; intro wf hR hW)
            refine bodyPost_ret (v := .agg Y.toArray) (results_blk Tryd.results16 _ _ w.heap.size 28 Y _ rfl hR Tryd.underlying28 rfl hmi.out) rfl ⟨by rw [HYE.out], hW.below _ _ hbW.out (Nat.le_refl _)⟩
          · have hiI : (i : Int) < 64 := by omega
            have hi64 : i < 64 := by omega
            have hiK : i < K.length := by rw [HKL.out]; exact hi64
            have c1 := in8_get (H8.out.below hbx) hiK
            have e1 : bits .xor .u8 (K[i].toNat : Int) 54 = ((K[i] ^^^ 54).toNat : Int) := xor_u8 K[i] 54
            have e2 : bits .xor .u8 (K[i].toNat : Int) 92 = ((K[i] ^^^ 92).toNat : Int) := xor_u8 K[i] 92
            have HM1 := Lib.hid (map_take (· ^^^ 54) hiK)
            have HM2 := Lib.hid (map_take (· ^^^ 92) hiK)
            go_wp2_with (first
              | (at_builtin; (refine wpList_append_one rfl (.tmp 32) (.tmp 38) rfl wL.heap.size _ i _ rfl h7 (K[i] ^^^ 54) _ rfl rfl (by omega) hbx.size ?_); intro g7 c7 w7 hn7 hg7 ho7 hl7; have hr7 := hr8.kept hg7 HD.out.ne; have HD7 := Lib.hid (HD.out.step (m := i + 1) (cap := c7) hr8 ho7); have hb7 := hbx.grown hg7 hbx.size (fun x hx => (h7.lt _ hx).1); have d1 := in8_get (H8.out.below hb7) hiK; clear hg7 ho7 h7)
              | (at_builtin; refine wpList_append_one rfl (.tmp 40) (.tmp 46) rfl wL.heap.size _ i _ rfl hr7 (K[i] ^^^ 92) _ rfl rfl (by omega) hb7.size ?_; intro g8 c8 w8 hn8 hg8 ho8 hl8; have hn7' := hn7.kept hg8 HD7.out.symm.ne; have HD8 := Lib.hid ((HD7.out.symm.step (m := i + 1) (cap := c8) hn7 ho8).symm); have hb8 := hb7.grown hg8 hb7.size (fun x hx => (hr7.lt _ hx).1); clear hg8 ho8))
            go_roundg g
            case measure => omega
            case rel => exact ⟨i + 1, by omega, by go_num, by rw [HM1.out]; exact hn7', by rw [HM2.out]; exact hn8, HD8, hb8⟩
      · have hnI : (n : Int) < 64 := by omega
        have hnb : n < 64 := by omega
        have hbs : w.heap.size + 1 ≤ wr.heap.size := hA.lt
        have HN := Lib.hid hn
        clear hn hcl h8 hA64
        go_wp2_with (at_builtin; go_loud (refine wpList_append_one rfl (.tmp 25) (.tmp 26) rfl (w.heap.size + 1) _ n _ rfl hrow 0 _ rfl rfl (by omega) hbs ?_); intro gz cz wz hnz hgz hoz hlz)
        have hAz : Blk wz w.heap.size 28 Z := (hgz.block _ hA.lt (fun e => by have := (hrow.lt _ e.symm).1; omega)).trans hA
        have hbz := hbx.grown hgz hbx.size (fun x hx => by have := (hrow.lt _ hx).1; omega)
        have hnz2 : wz.ownsRow (w.heap.size + 1) 5 1 (.slice (some ⟨gz, 0, none⟩) (n + 1) cz) (n0 + (j + 1)) (byteCells (K0 ++ List.replicate (j + 1) 0)) := by
          rw [show n0 + (j + 1) = n + 1 from by have := HN.out; omega, List.replicate_succ', ← List.append_assoc]
          exact hnz
        clear hgz hnz hrow hA hbx
        go_roundg g
        case measure => omega
        case rel => exact ⟨j + 1, by omega, hnz2, hAz, hbz⟩
  · have hI : ¬ ((k.length : Int) > 64) := by omega
    have hKe : key0 k = k := by unfold key0; rw [if_neg hlong]
    have HKE := Lib.hid hKe
    clear hKe
    have hA : Blk (w.alloc (.cells (byteCells (brow 32 fun _ => 0)).toArray 28)) w.heap.size 28 (byteCells (brow 32 fun _ => 0)) := blk_new _ _ _ _ rfl
    have ho0 : ((w.alloc (.cells (byteCells (brow 32 fun _ => 0)).toArray 28)).alloc (.cells #[] 5)).ownsRow (w.heap.size + 1) 5 1 (.slice (some ⟨w.heap.size + 1, 0, none⟩) 0 0) 0 [] := by
      have := own_nil (w.alloc (.cells (byteCells (brow 32 fun _ => 0)).toArray 28)); simpa using this
    have hb0 : Below w.heap.size w ((w.alloc (.cells (byteCells (brow 32 fun _ => 0)).toArray 28)).alloc (.cells #[] 5)) := ((Below.refl _ _).alloc (Nat.le_refl _) _).alloc (by simp) _
    have hA0 := blk_old hA (.cells #[] 5)
    have hp0 := HP.out.below hb0
    go_enter Tryd.func16, Tryd.ntmps16
    go_wp2_with (at_builtin; refine wpList_append_in8g rfl (.tmp 11) (.tmp 12) rfl (w.heap.size + 1) _ 0 [] rfl ho0 p k.length cp k rfl hp0 rfl hpn (by omega) (by simp) ?_; intro v5 wX hownX hgX; have hAX : Blk wX w.heap.size 28 (byteCells (brow 32 fun _ => 0)) := (hgX.block _ hA0.lt (fun e => by have := (ho0.lt _ e.symm).1; omega)).trans hA0; have hbX := hb0.grown hgX hb0.size (fun i hi => by have := (ho0.lt _ hi).1; omega); clear hgX ho0 hb0 hA0 hp0 hA)
    rw [Nat.zero_add, List.nil_append] at hownX
    obtain ⟨K0, hK0⟩ : ∃ K0, key0 k = K0 := ⟨_, rfl⟩
    have HK := Lib.hid hK0
    obtain ⟨n0, hn0⟩ : ∃ n0, k.length = n0 := ⟨_, rfl⟩
    have HN0 : Hid (K0.length = n0) := by show _ = _; rw [← hK0, HKE.out, hn0]
    have h64 : n0 ≤ 64 := by omega
    rw [show byteCells k = byteCells K0 from by rw [← hK0, HKE.out], hn0] at hownX
    have HZ0 : (byteCells (brow 32 fun _ => 0)).length = 32 := bcells_len _ _
    generalize byteCells (brow 32 fun _ => 0) = Z at hAX HZ0
    have HZ := Lib.hid HZ0
    clear HZ0
    clear hK0 hn0
    go_loopg [5] (64 - n0) (fun g s5 wy => ∃ j : Nat, j + g = 64 - n0 ∧ wy.ownsRow (w.heap.size + 1) 5 1 s5 (n0 + j) (byteCells (K0 ++ List.replicate j 0)) ∧ Blk wy w.heap.size 28 Z ∧ Below w.heap.size w wy)
    case atStart => exact ⟨0, by omega, by simpa using hownX, hAX, hbX⟩
    case round =>
      clear hownX hAX hbX
      obtain ⟨j, hjg, hrow, hA, hbx⟩ := hrel
      obtain ⟨hcl, p5, c5, rfl, h8⟩ := own_in8 hrow
      obtain ⟨n, hn⟩ : ∃ n, n0 + j = n := ⟨_, rfl⟩
      rw [hn] at hrow hcl ⊢
      have hA64 := hA.lt
      rcases gk with _ | g
      · obtain rfl : n = 64 := by omega
        have HKK : Hid (K0 ++ List.replicate j 0 = key64 k) := by show _ = _; rw [key64_eq, HK.out, HN0.out, show 64 - n0 = j from by omega]
        rw [HKK.out] at h8
        have hKl := key64_len k
        have HMAC : Hid (mac k b = digest ((key64 k).map (· ^^^ 92) ++ digest ((key64 k).map (· ^^^ 54) ++ b))) := rfl
        obtain ⟨K, hK⟩ : ∃ K, key64 k = K := ⟨_, rfl⟩
        rw [hK] at h8 hKl HMAC
        clear hrow hcl hn hK HKK
        obtain ⟨wL, rfl⟩ : ∃ wL, wL = wr := ⟨_, rfl⟩
        have hbw := Below.refl wL.heap.size wL
        have hqb := HQ.out.below hbx
        obtain ⟨b5, o5, rfl, _⟩ := h8.at (by rw [hKl]; decide)
        have H8 := Lib.hid h8
        have HQB := Lib.hid hqb
        have HA := Lib.hid hA
        have HBX := Lib.hid hbx
        have HKL := Lib.hid hKl
        clear hqb hA hbx h8 hKl
        go_wp2_with fail
        go_loopg [7, 8, 9] 64 (fun g s7 s8 s9 wy => ∃ i : Nat, i + g = 64 ∧ s9 = .int .i64 i ∧ wy.ownsRow wL.heap.size 5 1 s7 i (byteCells ((K.take i).map (· ^^^ 54))) ∧ wy.ownsRow wL.heap.size 5 1 s8 i (byteCells ((K.take i).map (· ^^^ 92))) ∧ Hid (Disj s7 s8) ∧ Below wL.heap.size wL wy)
        case atStart => exact ⟨0, rfl, rfl, World.ownsRow_nil _ _ _ _, World.ownsRow_nil _ _ _ _, (fun k h => by cases h), hbw⟩
        case round =>
          clear hbw
          obtain ⟨i, hig, rfl, h7, hr8, HD, hbx⟩ := hrel
          rcases gk with _ | g
          · obtain rfl : i = 64 := by omega
            have hKt : K.take 64 = K := List.take_of_length_le (by rw [HKL.out]; exact Nat.le_refl _)
            rw [hKt] at h7 hr8
            have hqw := HQB.out.below hbx
            have hl2 : (K.map (· ^^^ 54) ++ b).length = 64 + b.length := by rw [List.length_append, List.length_map, HKL.out]
            have hl3 : (K.map (· ^^^ 92) ++ digest (K.map (· ^^^ 54) ++ b)).length = 96 := by rw [List.length_append, List.length_map, HKL.out, digest_len]
            obtain ⟨Li, hLi⟩ : ∃ Li, K.map (· ^^^ 54) = Li := ⟨_, rfl⟩
            obtain ⟨Lo, hLo⟩ : ∃ Lo, K.map (· ^^^ 92) = Lo := ⟨_, rfl⟩
            rw [hLi] at h7 hl2 hl3 HMAC
            rw [hLo] at hr8 hl3 HMAC
            have HL2 := Lib.hid hl2
            have HL3 := Lib.hid hl3
            clear hKt hl2 hl3 hLi hLo
            go_wp2_with (at_builtin; refine wpList_append_in8g rfl (.tmp 48) (.tmp 49) rfl wL.heap.size _ _ _ rfl h7 q b.length cq b rfl hqw rfl hqn (by omega) hbx.size ?_; intro vI wI hownI hgI; rw [← byteCells_append] at hownI; have hrI := hr8.kept hgI HD.out.ne; have hbI := hbx.grown hgI hbx.size (fun x hx => (h7.lt _ hx).1); obtain ⟨gI, cI, rfl, h8I, hlI⟩ := own_slice hownI (by omega))
            refine (rsumN_c gI cI _ _ _ HL2.out h8I (by omega)).mono ?_
            rintro e wJ ⟨rfl, hbJ⟩
            have hrJ := own_below hrI hbJ
            have hbJ2 := bnext hbI hbJ
            obtain ⟨D1, hD1⟩ : ∃ D1, digest (Li ++ b) = D1 := ⟨_, rfl⟩
            have hd1 := bytes_one (digest (Li ++ b))
            have hdl : (digest (Li ++ b)).length = 32 := digest_len _
            rw [hD1] at hd1 hdl HMAC HL3 ⊢
            have hdi : Hid ((Tryd.prog.info? 28).map (·.size) = some (byteCells D1).length) := by show _ = _; rw [byteCells_len, hdl]; exact infoD
            have HDL := Lib.hid hdl
            have HDL2 : Hid (32 = (byteCells D1).length) := by show _ = _; rw [byteCells_len, hdl]
            have HRJ := Lib.hid hrJ
            have HBJ2 := Lib.hid hbJ2
            clear hownI hgI hrI hbI hbJ hrJ hbJ2 h7 hr8 hbx hqw h8I hlI hD1 hdl
            go_wp2_with (first
              | (with_reducible refine wpList_store_new rfl 28 (.tmp 10) (.tmp 51) rfl (byteCells D1) 28 _ rfl rfl hdi.out (Eq.trans (by decide) HDL2.out) hd1 ?_; intro wS hS hSb hz; clear hz; have h8S := in8_all hS; have hrS := own_below HRJ.out hSb; have hbS := bnext HBJ2.out hSb)
              | (at_builtin; refine wpList_append_in8g rfl (.tmp 52) (.tmp 53) rfl wL.heap.size _ _ _ rfl hrS _ 32 32 D1 rfl h8S HDL.out (fun h => by cases h) (by decide) hbS.size ?_; intro vO wO hownO hgO; rw [← byteCells_append] at hownO; have hbO := hbS.grown hgO hbS.size (fun x hx => (hrS.lt _ hx).1); obtain ⟨gO, cO, rfl, h8O, hlO⟩ := own_slice hownO (by decide)))
            refine (rsumN_c gO cO _ _ _ HL3.out h8O (by decide)).mono ?_
            rintro e wM ⟨rfl, hbM⟩
            rw [← HMAC.out]
            have hbf := bnext hbO hbM
            have hAM := Lib.hid (HA.out.below hbf)
            have hbW := Lib.hid (bnext HBX.out hbf)
            have hml : (byteCells (mac k b)).length = 32 := by rw [byteCells_len, HMAC.out, digest_len]
            have hm1 := bytes_one (mac k b)
            have hmi : Hid ((Tryd.prog.info? 28).map (·.size) = some (byteCells (mac k b)).length) := by show _ = _; rw [hml]; exact infoD
            have hZm : Z.length = (byteCells (mac k b)).length := by rw [hml, HZ.out]
            obtain ⟨Y, hYe⟩ : ∃ Y, byteCells (mac k b) = Y := ⟨_, rfl⟩
            rw [hYe] at hm1 hmi hZm ⊢
            have HYE := Lib.hid hYe
            clear hownO hgO hbO h8O hlO hbM hbf hS hSb h8S hrS hbS hml hYe
            go_wp2_with (with_reducible refine wpList_store_blk rfl 28 (.tmp 4) (.tmp 55) rfl w.heap.size Y Z 28 hAM.out rfl rfl hmi.out hZm hm1 ?_; intro wf hR hW)
            refine bodyPost_ret (v := .agg Y.toArray) (results_blk Tryd.results16 _ _ w.heap.size 28 Y _ rfl hR Tryd.underlying28 rfl hmi.out) rfl ⟨by rw [HYE.out], hW.below _ _ hbW.out (Nat.le_refl _)⟩
          · have hiI : (i : Int) < 64 := by omega
            have hi64 : i < 64 := by omega
            have hiK : i < K.length := by rw [HKL.out]; exact hi64
            have c1 := in8_get (H8.out.below hbx) hiK
            have e1 : bits .xor .u8 (K[i].toNat : Int) 54 = ((K[i] ^^^ 54).toNat : Int) := xor_u8 K[i] 54
            have e2 : bits .xor .u8 (K[i].toNat : Int) 92 = ((K[i] ^^^ 92).toNat : Int) := xor_u8 K[i] 92
            have HM1 := Lib.hid (map_take (· ^^^ 54) hiK)
            have HM2 := Lib.hid (map_take (· ^^^ 92) hiK)
            go_wp2_with (first
              | (at_builtin; (refine wpList_append_one rfl (.tmp 32) (.tmp 38) rfl wL.heap.size _ i _ rfl h7 (K[i] ^^^ 54) _ rfl rfl (by omega) hbx.size ?_); intro g7 c7 w7 hn7 hg7 ho7 hl7; have hr7 := hr8.kept hg7 HD.out.ne; have HD7 := Lib.hid (HD.out.step (m := i + 1) (cap := c7) hr8 ho7); have hb7 := hbx.grown hg7 hbx.size (fun x hx => (h7.lt _ hx).1); have d1 := in8_get (H8.out.below hb7) hiK; clear hg7 ho7 h7)
              | (at_builtin; refine wpList_append_one rfl (.tmp 40) (.tmp 46) rfl wL.heap.size _ i _ rfl hr7 (K[i] ^^^ 92) _ rfl rfl (by omega) hb7.size ?_; intro g8 c8 w8 hn8 hg8 ho8 hl8; have hn7' := hn7.kept hg8 HD7.out.symm.ne; have HD8 := Lib.hid ((HD7.out.symm.step (m := i + 1) (cap := c8) hn7 ho8).symm); have hb8 := hb7.grown hg8 hb7.size (fun x hx => (hr7.lt _ hx).1); clear hg8 ho8))
            go_roundg g
            case measure => omega
            case rel => exact ⟨i + 1, by omega, by go_num, by rw [HM1.out]; exact hn7', by rw [HM2.out]; exact hn8, HD8, hb8⟩
      · have hnI : (n : Int) < 64 := by omega
        have hnb : n < 64 := by omega
        have hbs : w.heap.size + 1 ≤ wr.heap.size := hA.lt
        have HN := Lib.hid hn
        clear hn hcl h8 hA64
        go_wp2_with (at_builtin; go_loud (refine wpList_append_one rfl (.tmp 25) (.tmp 26) rfl (w.heap.size + 1) _ n _ rfl hrow 0 _ rfl rfl (by omega) hbs ?_); intro gz cz wz hnz hgz hoz hlz)
        have hAz : Blk wz w.heap.size 28 Z := (hgz.block _ hA.lt (fun e => by have := (hrow.lt _ e.symm).1; omega)).trans hA
        have hbz := hbx.grown hgz hbx.size (fun x hx => by have := (hrow.lt _ hx).1; omega)
        have hnz2 : wz.ownsRow (w.heap.size + 1) 5 1 (.slice (some ⟨gz, 0, none⟩) (n + 1) cz) (n0 + (j + 1)) (byteCells (K0 ++ List.replicate (j + 1) 0)) := by
          rw [show n0 + (j + 1) = n + 1 from by have := HN.out; omega, List.replicate_succ', ← List.append_assoc]
          exact hnz
        clear hgz hnz hrow hA hbx
        go_roundg g
        case measure => omega
        case rel => exact ⟨j + 1, by omega, hnz2, hAz, hbz⟩
end Go.Proofs.YtohmhcglmaifpaaDoor.sha
