/- A text's place: the developers' placeOf and the reference's Place. Condition: sha's package variables (Tabs) for the first; lengths within the reach. -/
import Derived.Test.YtkababeeikhifaaDoorRi1
import Derived.Test.YtkababeeikhifaaDoorDevA0
import Derived.Test.YtkababeeikhifaaDoorShaA
import Derived.Test.YtkababeeikhifaaDoorBaseA
import Derived.Laws.Bits64b
import Derived.Lib.ConvBytes
namespace Go.Proofs.YtkababeeikhifaaDoor.rng
open Go.RowKit
open Go.Proofs.YtkababeeikhifaaDoor.oct Go.Proofs.YtkababeeikhifaaDoor.ref Go.Proofs.YtkababeeikhifaaDoor.rows Go.Proofs.YtkababeeikhifaaDoor.rowg
open Go.Proofs.YtkababeeikhifaaDoor.scp (tx senc senc_len InS ins_below ins_cell)
open Go.Proofs.YtkababeeikhifaaDoor.sha (digest digest_len dval Tabs sum_top run_arr_to')
open Go.Lib (byteCells)

/-- a text as a new row of bytes -/
theorem conv_row (l : T) (w : World) : ∃ W cp, (convert 9 49 (.string ⟨l.toArray⟩)).run Tryd.prog w = .ok (.slice (some ⟨w.heap.size, 0, none⟩) l.length cp) W ∧ In8 W (some ⟨w.heap.size, 0, none⟩) l ∧ l.length ≤ cp ∧ Below w.heap.size w W := by
  have h := Lib.run_convert_string_bytes (P := Tryd.prog) w 9 49 5 ⟨l.toArray⟩ Tryd.underlying9 Tryd.underlying49 Tryd.underlying5
  have hs : (⟨l.toArray⟩ : ByteArray).size = l.length := List.size_toArray
  have hb : Below w.heap.size w (Lib.bytesWorld w 5 ⟨l.toArray⟩) := ⟨rfl, rfl, rfl, by rw [Lib.bytesWorld_size]; omega, fun k hk => Lib.bytesWorld_at_old w _ _ k hk⟩
  refine ⟨_, _, by rw [h, hs], fun _ => ⟨w.heap.size, 0, rfl, fun i hi => ?_⟩, grownCap_ge _ _ _ _, hb⟩
  rw [Nat.zero_add]
  have hc := Lib.bytesWorld_cell w 5 ⟨l.toArray⟩ i (by rw [hs]; exact hi)
  rw [hc]
theorem infoB8 : (Tryd.prog.info? 5).map (·.size) = some 1 := by kernel_rfl
theorem infoDg : (Tryd.prog.info? 73).map (·.size) = some 32 := by kernel_rfl
theorem or256 (n : Nat) (c : UInt8) (hn : n < 72057594037927936) : bits .or .u64 ((n : Int) * 256) (c.toNat : Int) = ((256 * n + c.toNat : Nat) : Int) := by
  have hc := c.toNat_lt
  have e : (n : Int) * 256 = ((n * 256 : Nat) : Int) := by omega
  rw [e, bits_or_u64_nat _ _ (by omega) (by omega), show n * 256 = n <<< 8 by rw [Nat.shiftLeft_eq], ← Nat.shiftLeft_add_eq_or_of_lt (by omega), Nat.shiftLeft_eq]
  congr 1
  omega
theorem beN_take (D : T) (k : Nat) (hk : k < D.length) : beN (D.take (k + 1)) = 256 * beN (D.take k) + (D[k]).toNat := by
  rw [List.take_succ_eq_append_getElem hk, beN_snoc]
theorem beN_small (D : T) (k : Nat) (hk : k ≤ 7) : beN (D.take k) < 72057594037927936 := by
  have h := beN_lt (D.take k)
  refine Nat.lt_of_lt_of_le h ?_
  have h1 : (D.take k).length ≤ 7 := by rw [List.length_take]; omega
  exact Nat.le_trans (Nat.pow_le_pow_right (by decide) h1) (by decide)
theorem in8_get {w : World} {p : Option Addr} {D : T} (h : In8 w p D) (k : Nat) (hk : k < D.length) : ∃ b o, p = some ⟨b, o, none⟩ ∧ w.cell? ⟨b, o + k, none⟩ = some (.int .u8 ((D[k]).toNat : Int)) := by
  obtain ⟨b, o, e, hc⟩ := h.at (by omega)
  have := hc k hk
  rw [List.getD, List.getElem?_eq_getElem hk] at this
  exact ⟨b, o, e, this⟩
set_option maxRecDepth 100000 in
set_option maxHeartbeats 8000000 in
theorem place_c (s : T) (w : World) (ht : Tabs w) (hl : s.length ≤ 140737488354500) :
    Calls Tryd.prog 25 #[tx s] w fun e w' => e = .returned (.int .u64 (plc s : Nat)) ∧ Below w.heap.size w w' := by
  obtain ⟨W, cp, hcv, h8, hcp, hbW⟩ := conv_row s w
  have HS := Lib.hid (sum_top (some ⟨w.heap.size, 0, none⟩) cp s W (ht.below hbW) h8 hl ⟨(fun h => by cases h), hcp⟩)
  have HBW := Lib.hid hbW
  have hdl := digest_len s
  have HNL : Hid (32 = (byteCells (digest s)).length) := by show _ = _; rw [byteCells_len, hdl]
  have HI : Hid ((Tryd.prog.info? 73).map (·.size) = some (byteCells (digest s)).length) := by show _ = _; rw [byteCells_len, hdl]; exact infoDg
  have HO := Lib.hid (bytes_one (digest s))
  have HP : Hid (plc s = beN ((digest s).take 8)) := Lib.hid rfl
  obtain ⟨D, hD⟩ : ∃ D, digest s = D := ⟨_, rfl⟩
  obtain ⟨X, hX⟩ : ∃ X, plc s = X := ⟨_, rfl⟩
  rw [hD] at HS hdl HNL HI HO HP
  rw [hX] at HP ⊢
  have HDL := Lib.hid hdl
  unfold tx at *
  unfold dval at HS
  clear h8 hbW hD hX hdl ht
  go_enter Tryd.func25, Tryd.ntmps25
  go_wp2_with fail
  refine HS.out.mono ?_
  rintro e w1 ⟨rfl, hb1⟩
  have HB1 := Lib.hid (bnext HBW.out hb1)
  have har := fun (w : World) (b o : Nat) => run_arr_to' (P := Tryd.prog) w 73 5 32 b o 8 8 rfl Tryd.underlying73 infoB8 (by decide)
  clear hb1 HS hcv
  go_wp2_with ((with_reducible refine wpList_store_new rfl 73 (.tmp 3) (.tmp 9) rfl (byteCells D) 73 _ rfl rfl HI.out (Eq.trans (by decide) HNL.out) HO.out ?_); intro w2 hS hSb hz; clear hz; have H8 := Lib.hid (in8_all hS); have HB2 := Lib.hid (bnext HB1.out hSb); clear hS hSb)
  go_loopg [12, 4] 8 (fun g s12 s4 wx => ∃ k : Nat, k + g = 8 ∧ s12 = .int .i64 k ∧ s4 = .int .u64 (beN (D.take k) : Nat) ∧ wx = w2)
  case atStart => exact ⟨0, rfl, rfl, rfl, rfl⟩
  case round =>
    obtain ⟨k, hkg, rfl, rfl, rfl⟩ := hrel
    rcases gk with _ | g
    · obtain rfl : k = 8 := by omega
      obtain ⟨N, hN⟩ : ∃ N, beN (D.take 8) = N := ⟨_, rfl⟩
      rw [hN] at HP ⊢
      clear hN
      go_wp2_with fail
      go_ret
      exact ⟨ret_int (congrArg (fun n : Nat => (n : Int)) HP.out.symm), HB2.out⟩
    · have hk : k < D.length := by rw [HDL.out]; omega
      have hk8 : k < 8 := by omega
      have hkI : (k : Int) < 8 := by omega
      obtain ⟨b, o, hq, c0⟩ := in8_get H8.out k hk
      cases hq
      rw [Nat.zero_add] at c0
      have HT := Lib.hid (beN_take D k hk)
      have hnn := beN_small D k (by omega)
      obtain ⟨N, hN⟩ : ∃ N, beN (D.take k) = N := ⟨_, rfl⟩
      rw [hN] at HT hnn ⊢
      have hor := or256 N D[k] hnn
      have hcl := (D[k]).toNat_lt
      rw [← HT.out] at hor
      obtain ⟨c, hc⟩ : ∃ c, (D[k]).toNat = c := ⟨_, rfl⟩
      rw [hc] at hor c0 hcl
      have hnI : (N : Int) < 72057594037927936 := by omega
      have hcI : (c : Int) < 256 := by omega
      clear HT hN hc hk
      go_wp2_with fail
      go_roundg g
      case measure => omega
      case rel => exact ⟨k + 1, by omega, by go_num, rfl, rfl⟩
theorem infoRD : (Tryd.prog.info? 63).map (·.size) = some 32 := by kernel_rfl
set_option maxRecDepth 100000 in
set_option maxHeartbeats 8000000 in
theorem rplace_c (s : T) (w : World) (hl : s.length ≤ 140737488354500) :
    Calls Tryd.prog 17 #[tx s] w fun e w' => e = .returned (.int .u64 (plc s : Nat)) ∧ Below w.heap.size w w' := by
  obtain ⟨W, cp, hcv, h8, hcp, hbW⟩ := conv_row s w
  have HS := Lib.hid (sha.rsum_c (some ⟨w.heap.size, 0, none⟩) cp s W h8 (by omega) (fun h => by cases h))
  have HBW := Lib.hid hbW
  have hdl := digest_len s
  have HNL : Hid (32 = (byteCells (digest s)).length) := by show _ = _; rw [byteCells_len, hdl]
  have HI : Hid ((Tryd.prog.info? 63).map (·.size) = some (byteCells (digest s)).length) := by show _ = _; rw [byteCells_len, hdl]; exact infoRD
  have HO := Lib.hid (bytes_one (digest s))
  have HP : Hid (plc s = beN ((digest s).take 8)) := Lib.hid rfl
  obtain ⟨D, hD⟩ : ∃ D, digest s = D := ⟨_, rfl⟩
  obtain ⟨X, hX⟩ : ∃ X, plc s = X := ⟨_, rfl⟩
  rw [hD] at HS hdl HNL HI HO HP
  rw [hX] at HP ⊢
  have HDL := Lib.hid hdl
  unfold tx at *
  clear h8 hbW hD hX hdl
  go_enter Tryd.func17, Tryd.ntmps17
  go_wp2_with fail
  refine HS.out.mono ?_
  rintro e w1 ⟨rfl, hb1⟩
  have HB1 := Lib.hid (bnext HBW.out hb1)
  clear hb1 HS hcv
  go_wp2_with ((with_reducible refine wpList_store_new rfl 63 (.tmp 3) (.tmp 8) rfl (byteCells D) 63 _ rfl rfl HI.out (Eq.trans (by decide) HNL.out) HO.out ?_); intro w2 hS hSb hz; clear hz; have H8 := Lib.hid (in8_all hS); have HB2 := Lib.hid (bnext HB1.out hSb); clear hS hSb)
  go_loopg [5, 4] 8 (fun g s12 s4 wx => ∃ k : Nat, k + g = 8 ∧ s12 = .int .i64 k ∧ s4 = .int .u64 (beN (D.take k) : Nat) ∧ wx = w2)
  case atStart => exact ⟨0, rfl, rfl, rfl, rfl⟩
  case round =>
    obtain ⟨k, hkg, rfl, rfl, rfl⟩ := hrel
    rcases gk with _ | g
    · obtain rfl : k = 8 := by omega
      obtain ⟨N, hN⟩ : ∃ N, beN (D.take 8) = N := ⟨_, rfl⟩
      rw [hN] at HP ⊢
      clear hN
      go_wp2_with fail
      go_ret
      exact ⟨ret_int (congrArg (fun n : Nat => (n : Int)) HP.out.symm), HB2.out⟩
    · have hk : k < D.length := by rw [HDL.out]; omega
      have hk8 : k < 8 := by omega
      have hkI : (k : Int) < 8 := by omega
      obtain ⟨b, o, hq, c0⟩ := in8_get H8.out k hk
      cases hq
      rw [Nat.zero_add] at c0
      have HT := Lib.hid (beN_take D k hk)
      have hnn := beN_small D k (by omega)
      obtain ⟨N, hN⟩ : ∃ N, beN (D.take k) = N := ⟨_, rfl⟩
      rw [hN] at HT hnn ⊢
      have hcl := (D[k]).toNat_lt
      obtain ⟨c, hc⟩ : ∃ c, (D[k]).toNat = c := ⟨_, rfl⟩
      rw [hc] at HT c0 hcl
      have hnI : (N : Int) < 72057594037927936 := by omega
      have hcI : (c : Int) < 256 := by omega
      clear hN hc hk
      go_wp2_with fail
      go_roundg g
      case measure => omega
      case rel => exact ⟨k + 1, by omega, by go_num, by rw [HT.out]; go_num, rfl⟩
end Go.Proofs.YtkababeeikhifaaDoor.rng
