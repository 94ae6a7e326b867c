/- The contracts of the reference's Challenge and Check. Verifiers of any length. -/
import Derived.Test.YtefdgnlobhdajaaDoorPkc4
import Derived.Test.YtefdgnlobhdajaaDoorBaseA
import Derived.Lib.AtoiErrMem
namespace Go.Proofs.YtefdgnlobhdajaaDoor.pkc
open Go.RowKit
open Go.Proofs.YtefdgnlobhdajaaDoor.oct Go.Proofs.YtefdgnlobhdajaaDoor.ref Go.Proofs.YtefdgnlobhdajaaDoor.rows Go.Proofs.YtefdgnlobhdajaaDoor.sha
open Go.Lib (byteCells)

/-- a text as a new row of bytes -/
theorem conv_row (l : T) (w : World) : ∃ W cp, (convert 9 37 (.string ⟨l.toArray⟩)).run Tryd.prog w = .ok (.slice (some ⟨w.heap.size, 0, none⟩) l.length cp) W ∧ In8 W (some ⟨w.heap.size, 0, none⟩) l ∧ l.length ≤ cp ∧ Below w.heap.size w W := by
  have h := Lib.run_convert_string_bytes (P := Tryd.prog) w 9 37 5 ⟨l.toArray⟩ Tryd.underlying9 Tryd.underlying37 Tryd.underlying5
  have hs : (⟨l.toArray⟩ : ByteArray).size = l.length := List.size_toArray
  refine ⟨_, _, by rw [h, hs], fun _ => ⟨w.heap.size, 0, rfl, fun i hi => ?_⟩, grownCap_ge _ _ _ _, Lib.bytesWorld_below w _ _⟩
  rw [Nat.zero_add]
  have hc := Lib.bytesWorld_cell w 5 ⟨l.toArray⟩ i (by rw [hs]; exact hi)
  rw [hc]
theorem infoB8 : (Tryd.prog.info? 5).map (·.size) = some 1 := by kernel_rfl
/-- an array behind a pointer, whole -/
theorem arr_all {P : Program} (w : World) (t e : TypeId) (n b o : Nat) (hu : P.underlying t = some (.array n e)) (he : (P.info? e).map (·.size) = some 1) :
    (Instr.sliceAt t (.pointer (some ⟨b, o, none⟩)) none none none).run P w = .ok (.slice (some ⟨b, o, none⟩) n n) w := by
  cases hq : P.info? e with
  | none => simp [hq] at he
  | some j =>
    simp [Instr.sliceAt, Instr.sureAddr, run_underlying hu, Instr.sliceBounds, sizeOf, typeInfo, hq, Sem.run_bind, Addr.add]
theorem infoD3 : (Tryd.prog.info? 41).map (·.size) = some 32 := by kernel_rfl
set_option maxRecDepth 100000 in
set_option maxHeartbeats 4000000 in
theorem rchal_c (v m : T) (w : World) (hl : v.length ≤ 140737488351232) :
    Calls Tryd.prog 13 #[txt v, txt m] w fun e w' => e = .returned (.tuple #[txt (chalP v m).2, .int .i64 ((chalP v m).1 : Nat)]) ∧ Below w.heap.size w w' := by
  have HV := Lib.hid (rverT_c v w)
  by_cases hp : m = plainM
  · cases hv : verB v with
    | false =>
      have hc := chal_bad (Or.inl hp) hv
      rw [hv] at HV
      subst hp
      rw [hc]
      unfold txt plainM at *
      clear hc hv
      go_enter Tryd.func13, Tryd.ntmps13
      go_wp2_with (go_at_call 9; refine HV.out.mono ?_; rintro e w' ⟨rfl, rfl⟩)
      go_ret2
      exact ⟨rfl, Below.refl _ _⟩
    | true =>
      have hc := chal_plain hv
      rw [hv] at HV
      subst hp
      rw [hc]
      unfold txt plainM at *
      clear hc hv
      go_enter Tryd.func13, Tryd.ntmps13
      go_wp2_with (go_at_call 9; refine HV.out.mono ?_; rintro e w' ⟨rfl, rfl⟩)
      go_ret2
      exact ⟨rfl, Below.refl _ _⟩
  · by_cases hm : m = hashM
    · cases hv : verB v with
      | false =>
        have hc := chal_bad (Or.inr hm) hv
        rw [hv] at HV
        subst hm
        rw [hc]
        unfold txt hashM at *
        clear hp hc hv
        go_enter Tryd.func13, Tryd.ntmps13
        go_wp2_with (go_at_call 9; refine HV.out.mono ?_; rintro e w' ⟨rfl, rfl⟩)
        go_ret2
        exact ⟨rfl, Below.refl _ _⟩
      | true =>
        have hc := chal_hash hv
        rw [hv] at HV
        subst hm
        rw [hc]
        obtain ⟨W, cp, hcv, h8, hcp, hbW⟩ := conv_row v w
        have hvl := (ver_len hv).2
        have HS := Lib.hid (rsum_c (some ⟨w.heap.size, 0, none⟩) cp v W h8 (by omega) (fun h => by cases h))
        have HBW := Lib.hid hbW
        have hdl := digest_len v
        have HH : Hid (hashT v = webT (digest v)) := rfl
        have HNL : Hid (32 = (byteCells (digest v)).length) := by show _ = _; rw [byteCells_len, hdl]
        have HI : Hid ((Tryd.prog.info? 41).map (·.size) = some (byteCells (digest v)).length) := by show _ = _; rw [byteCells_len, hdl]; exact infoD3
        have HO := Lib.hid (bytes_one (digest v))
        obtain ⟨D, hD⟩ : ∃ D, digest v = D := ⟨_, rfl⟩
        obtain ⟨X, hX⟩ : ∃ X, hashT v = X := ⟨_, rfl⟩
        rw [hD] at HS hdl HNL HI HO HH
        rw [hX] at HH ⊢
        have HDL := Lib.hid hdl
        unfold txt hashM at *
        clear hp hc hv h8 hbW hD hX hdl
        go_enter Tryd.func13, Tryd.ntmps13
        go_wp2_with (go_at_call 9; refine HV.out.mono ?_; rintro e w' ⟨rfl, rfl⟩)
        refine HS.out.mono ?_
        rintro e w1 ⟨rfl, hb1⟩
        have HB1 := Lib.hid (bnext HBW.out hb1)
        have har := fun (w : World) (b o : Nat) => arr_all (P := Tryd.prog) w 41 5 32 b o Tryd.underlying41 infoB8
        clear hb1 HS HV hcv
        go_wp2_with ((with_reducible refine wpList_store_new rfl 41 (.tmp 6) (.tmp 21) rfl (byteCells D) 41 _ rfl rfl HI.out (Eq.trans (by decide) HNL.out) HO.out ?_); intro w2 hS hSb hz; clear hz; have H8 := Lib.hid (in8_all hS); have hb2 := Lib.hid (bnext HB1.out hSb); clear hS hSb)
        have HWB := Lib.hid (rweb_c (some ⟨w1.heap.size, 0, none⟩) 32 D w2 H8.out (by rw [HDL.out]; decide))
        rw [HDL.out, ← HH.out] at HWB
        refine HWB.out.mono ?_
        rintro e w3 ⟨rfl, hb3⟩
        go_wp2_with fail
        go_ret2
        exact ⟨rfl, bnext hb2.out hb3⟩
    · have hc := chal_none (v := v) hp hm
      have hb : (m == [112, 108, 97, 105, 110]) = false := by simpa using (show m ≠ [112, 108, 97, 105, 110] from hp)
      have hb2 : (m == [83, 50, 53, 54]) = false := by simpa using (show m ≠ [83, 50, 53, 54] from hm)
      have hb3 : (m != [112, 108, 97, 105, 110]) = true := by rw [bne, hb]; rfl
      have hb4 : (m != [83, 50, 53, 54]) = true := by rw [bne, hb2]; rfl
      rw [hc]
      unfold txt at *
      clear hc hp hm HV
      go_enter Tryd.func13, Tryd.ntmps13
      go_wp2_with fail
      go_ret2
      exact ⟨rfl, Below.refl _ _⟩
set_option maxRecDepth 100000 in
set_option maxHeartbeats 4000000 in
theorem rcheck_c (c m v : T) (w : World) (hl : v.length ≤ 140737488351232) :
    Calls Tryd.prog 15 #[txt c, txt m, txt v] w fun e w' => e = .returned (.bool (checkP c m v)) ∧ Below w.heap.size w w' := by
  have HC := Lib.hid (rchal_c v m w hl)
  have HR : Hid (checkP c m v = (decide ((chalP v m).1 = 0) && decide ((chalP v m).2 = c))) := rfl
  obtain ⟨q, hq⟩ : ∃ q, (chalP v m).1 = q := ⟨_, rfl⟩
  obtain ⟨X, hX⟩ : ∃ X, (chalP v m).2 = X := ⟨_, rfl⟩
  obtain ⟨r, hr⟩ : ∃ r, checkP c m v = r := ⟨_, rfl⟩
  rw [hq, hX] at HC HR
  rw [hr] at HR ⊢
  unfold txt at *
  clear hq hX hr
  by_cases h0 : q = 0
  · subst h0
    by_cases hc : X = c
    · have HT : Hid (r = true) := by show _ = _; rw [HR.out, decide_eq_true hc]; rfl
      subst hc
      have hb : (X == X) = true := by simp
      go_enter Tryd.func15, Tryd.ntmps15
      go_wp2_with (go_at_call 13; refine HC.out.mono ?_; rintro e w1 ⟨rfl, hb1⟩)
      go_ret
      exact ⟨ret_bool HT.out.symm, hb1⟩
    · have HT : Hid (r = false) := by show _ = _; rw [HR.out, decide_eq_false hc]; rfl
      have hb : (X == c) = false := by simpa using hc
      go_enter Tryd.func15, Tryd.ntmps15
      go_wp2_with (go_at_call 13; refine HC.out.mono ?_; rintro e w1 ⟨rfl, hb1⟩)
      go_ret
      exact ⟨ret_bool HT.out.symm, hb1⟩
  · have HT : Hid (r = false) := by show _ = _; rw [HR.out, decide_eq_false h0]; rfl
    have hb : ((q : Int) == 0) = false := by rw [beq_eq_false_iff_ne]; omega
    clear h0
    go_enter Tryd.func15, Tryd.ntmps15
    go_wp2_with (go_at_call 13; refine HC.out.mono ?_; rintro e w1 ⟨rfl, hb1⟩)
    go_ret
    exact ⟨ret_bool HT.out.symm, hb1⟩
end Go.Proofs.YtefdgnlobhdajaaDoor.pkc
