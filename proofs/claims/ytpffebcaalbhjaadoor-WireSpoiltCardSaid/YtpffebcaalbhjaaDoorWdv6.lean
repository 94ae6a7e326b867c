/- wire.four, bytes.Clone, NewReader. -/
import Derived.Test.YtpffebcaalbhjaaDoorWdv5
import Derived.Deep.DeepBigQuietO
import Derived.Lib.SliceRun
namespace Go.Proofs.YtpffebcaalbhjaaDoor.wir
open Go.RowKit
open Go.Proofs.YtpffebcaalbhjaaDoor.oct Go.Proofs.YtpffebcaalbhjaaDoor.ref Go.Proofs.YtpffebcaalbhjaaDoor.rows Go.Proofs.YtpffebcaalbhjaaDoor.rowg Go.Proofs.YtpffebcaalbhjaaDoor.crc
open Go.Lib (byteCells)

theorem or_high {x y : Int} (i : Nat) (hx0 : 0 ≤ x) (hx : x % 2 ^ i = 0) (hx1 : x < 4294967296) (hy0 : 0 ≤ y) (hy : y < 2 ^ i) (hi : i ≤ 32) : bits .or .u32 x y = x + y := by
  have e : (2 : Int) ^ 32 = 4294967296 := by decide
  have hp : (2 : Int) ^ i ≤ 2 ^ 32 := by
    have := Nat.pow_le_pow_right (n := 2) (by decide) hi
    exact_mod_cast this
  exact bits_join .u32 32 (by decide) Go.wraps_u32 i x y hx0 hx (by omega) hy0 hy (by omega)
theorem four_val {a b c d : Nat} (ha : a < 256) (hb : b < 256) (hc : c < 256) (hd : d < 256) :
    bits .or .u32 (bits .or .u32 (bits .or .u32 ((a : Int) * 16777216) ((b : Int) * 65536)) ((c : Int) * 256)) (d : Int) = (((256 * (256 * (256 * (256 * 0 + a) + b) + c) + d : Nat)) : Int) := by
  have p24 : (2 : Int) ^ 24 = 16777216 := by decide
  have p16 : (2 : Int) ^ 16 = 65536 := by decide
  have p8 : (2 : Int) ^ 8 = 256 := by decide
  have h1 := or_high (x := (a : Int) * 16777216) (y := (b : Int) * 65536) 24 (by omega) (by omega) (by omega) (by omega) (by omega) (by decide)
  have h2 := or_high (x := (a : Int) * 16777216 + (b : Int) * 65536) (y := (c : Int) * 256) 16 (by omega) (by omega) (by omega) (by omega) (by omega) (by decide)
  have h3 := or_high (x := (a : Int) * 16777216 + (b : Int) * 65536 + (c : Int) * 256) (y := (d : Int)) 8 (by omega) (by omega) (by omega) (by omega) (by omega) (by decide)
  rw [h1, h2, h3]
  omega
set_option maxRecDepth 100000 in
set_option maxHeartbeats 4000000 in
theorem four_c (p : Option Addr) (c : Nat) (l : T) (w : World) (h8 : In8 w p l) (h4 : 4 ≤ l.length) :
    Calls Tryd.prog 32 #[.slice p l.length c] w fun e w' => e = .returned (.int .u32 (saidT l : Nat)) ∧ Below w.heap.size w w' := by
  obtain ⟨b, o, rfl, hc⟩ := h8 (by omega)
  obtain ⟨a0, e0⟩ : ∃ a, (l.getD 0 0).toNat = a := ⟨_, rfl⟩
  obtain ⟨a1, e1⟩ : ∃ a, (l.getD 1 0).toNat = a := ⟨_, rfl⟩
  obtain ⟨a2, e2⟩ : ∃ a, (l.getD 2 0).toNat = a := ⟨_, rfl⟩
  obtain ⟨a3, e3⟩ : ∃ a, (l.getD 3 0).toNat = a := ⟨_, rfl⟩
  have b0 : a0 < 256 := by rw [← e0]; exact UInt8.toNat_lt _
  have b1 : a1 < 256 := by rw [← e1]; exact UInt8.toNat_lt _
  have b2 : a2 < 256 := by rw [← e2]; exact UInt8.toNat_lt _
  have b3 : a3 < 256 := by rw [← e3]; exact UInt8.toNat_lt _
  have c0 := hc 0 (by omega)
  have c1 := hc 1 (by omega)
  have c2 := hc 2 (by omega)
  have c3 := hc 3 (by omega)
  rw [e0, Nat.add_zero] at c0
  rw [e1] at c1
  rw [e2] at c2
  rw [e3] at c3
  have hlI : (4 : Int) ≤ (l.length : Int) := by omega
  have HV := Lib.hid (four_val b0 b1 b2 b3)
  have HS : Hid (saidT l = 256 * (256 * (256 * (256 * 0 + a0) + a1) + a2) + a3) := by
    show _ = _
    match l, h4, e0, e1, e2, e3 with
    | x0 :: x1 :: x2 :: x3 :: r, _, e0, e1, e2, e3 =>
      unfold saidT
      simp only [List.getD_cons_zero, List.getD_cons_succ] at e0 e1 e2 e3
      subst e0 e1 e2 e3
      rfl
  clear h8 hc e0 e1 e2 e3 h4
  go_enter Tryd.func32, Tryd.ntmps32
  go_wp2_with fail
  go_quiet (fail)
  go_wp2_with fail
  go_ret
  exact ⟨by rw [HS.out, ← HV.out]; rfl, below_drewN (Below.refl _ _) _⟩
theorem own_ptr {w : World} {B e k n c : Nat} {p : Option Addr} {xs : List Value} (h : w.ownsRow B e k (.slice p n c) n xs) : p = none ∨ ∃ g, p = some ⟨g, 0, none⟩ ∧ B ≤ g := by
  rcases h.2 with ⟨h1, h2⟩ | ⟨g, cap, cur, h1, h2, _⟩
  · injection h1 with e1
    exact Or.inl e1
  · injection h1 with e1
    exact Or.inr ⟨g, e1, h2⟩
/-- a slice, cut from n on -/
def cutW (b o cq n : Nat) : Option Addr := if cq = n then some ⟨b, o, none⟩ else some ⟨b, o + n, none⟩
theorem run_cutW {P : Program} (w : World) (t e : TypeId) (len cq b o n : Nat) (h : P.underlying t = some (.slice e)) (he : (P.info? e).map (·.size) = some 1) (hn : n ≤ len) :
    (Instr.sliceAt t (.slice (some ⟨b, o, none⟩) len cq) (some (.int .i64 (n : Int))) none none).run P w = .ok (.slice (cutW b o cq n) (len - n) (cq - n)) w := by
  cases hq : P.info? e with
  | none => simp [hq] at he
  | some j =>
    have hs : j.size = 1 := by simpa [hq] using he
    unfold cutW
    by_cases hc : cq = n
    · simp [Instr.sliceAt, Instr.slice, run_underlying h, Instr.sliceBounds, Instr.sliceBound, asIntOf, hc, hn, sizeOf, typeInfo, hq, Sem.run_bind]
    · simp [Instr.sliceAt, Instr.slice, run_underlying h, Instr.sliceBounds, Instr.sliceBound, asIntOf, hc, hn, sizeOf, typeInfo, hq, hs, Sem.run_bind, Addr.add]
theorem cutW_in8 {w : World} {b o cq n len : Nat} {l : T} (h : In8 w (some ⟨b, o, none⟩) l) (hl : l.length = len) (hc : len ≤ cq) : In8 w (cutW b o cq n) (l.drop n) := by
  unfold cutW
  split
  · exact in8_done (by omega)
  · exact in8_rest h
theorem cutW_some (b o cq n : Nat) : ∃ o', cutW b o cq n = some ⟨b, o', none⟩ := by
  unfold cutW
  split
  · exact ⟨_, rfl⟩
  · exact ⟨_, rfl⟩
set_option maxRecDepth 100000 in
set_option maxHeartbeats 4000000 in
theorem clone_c (b o c : Nat) (l : T) (w : World) (h8 : In8 w (some ⟨b, o, none⟩) l) (hl : l.length ≤ 140737488355000) :
    Calls Tryd.prog 34 #[.slice (some ⟨b, o, none⟩) l.length c] w fun e w' => ∃ v, e = .returned v ∧ w'.ownsRow w.heap.size 5 1 v l.length (byteCells l) ∧ Below w.heap.size w w' := by
  have H8 := Lib.hid h8
  have heq : ∀ w : World, (binOp .eql 24 (.slice (some ⟨b, o, none⟩) l.length c) (.slice none 0 0)).run Tryd.prog w = .ok (.bool false) w := fun w => Lib.run_eql_slice_nil w 24 5 _ _ _ 0 0 Tryd.underlying24
  have hb0 : Below w.heap.size w (w.alloc (.cells #[] 5)) := (Below.refl _ w).alloc (Nat.le_refl _) _
  have HB0 := Lib.hid hb0
  clear h8 hb0
  go_enter Tryd.func34, Tryd.ntmps34
  go_wp2_with (at_builtin; refine wpList_append_in8 rfl (.tmp 5) (.tmp 6) rfl w.heap.size _ 0 [] rfl (own_nil w) (some ⟨b, o, none⟩) l.length c l rfl (H8.out.below HB0.out) rfl (fun h => by cases h) (by omega) HB0.out.size ?_; intro v1 w1 hown hbb; have hb1 := hbb w HB0.out (Nat.le_refl _); have HO := Lib.hid hown; have HB := Lib.hid hb1; clear hown hbb hb1)
  go_ret
  refine ⟨_, rfl, ?_, HB.out⟩
  have h := HO.out
  rw [Nat.zero_add, List.nil_append] at h
  exact h
/-- what NewReader comes to -/
def NewA (w w' : World) (l : T) (e : Ending) : Prop := ∃ q, e = .returned (.tuple #[.pointer q, .int .i64 (openE l : Nat)]) ∧ (openE l = 0 → q.isSome = true ∧ RdV w' w.heap.size w'.heap.size (.pointer q) (.ok (l.drop 8))) ∧ (openE l ≠ 0 → q = none) ∧ Below w.heap.size w w'
theorem newA_no {w w' : World} {l : T} {n : Nat} (h : openE l = n) (hn : n ≠ 0) (hb : Below w.heap.size w w') : NewA w w' l (.returned (.tuple #[.pointer none, .int .i64 (n : Int)])) :=
  ⟨none, by rw [h], fun h0 => absurd (h.symm.trans h0) hn, fun _ => rfl, hb⟩
set_option maxRecDepth 100000 in
set_option maxHeartbeats 8000000 in
theorem newreader_c (p : Option Addr) (c : Nat) (l : T) (w : World) (hT : Tab w) (h8 : In8 w p l) (hc : l.length ≤ c) (hl : l.length ≤ 281474976710656) :
    Calls Tryd.prog 16 #[.slice p l.length c] w fun e w' => NewA w w' l e := by
  by_cases hs : l.length < 8
  · have HE : openE l = 4 := by unfold openE; rw [if_pos hs]
    have HA : Hid (∀ w' : World, Below w.heap.size w w' → NewA w w' l (.returned (.tuple #[.pointer none, .int .i64 4]))) := fun w' hb => newA_no HE (by decide) hb
    have i1 : (l.length : Int) < 8 := by omega
    clear h8 HE hs
    go_enter Tryd.func16, Tryd.ntmps16
    go_wp2_with fail
    go_ret2
    exact HA.out _ (Below.refl _ _)
  · have i1 : ¬ ((l.length : Int) < 8) := by omega
    have hl8 : (8 : Int) ≤ (l.length : Int) := by omega
    obtain ⟨b, o, rfl, _⟩ := h8 (by omega)
    have hs8 : ∀ w', (Instr.sliceAt 24 (.slice (some ⟨b, o, none⟩) l.length c) (some (.int .i64 8)) none none).run Tryd.prog w' = .ok (.slice (cutW b o c 8) (l.length - 8) (c - 8)) w' := fun w' => run_cutW (P := Tryd.prog) w' 24 5 l.length c b o 8 Tryd.underlying24 infoB8 (by omega)
    have hs4 : ∀ w', (Instr.sliceAt 24 (.slice (some ⟨b, o, none⟩) l.length c) (some (.int .i64 4)) none none).run Tryd.prog w' = .ok (.slice (cutW b o c 4) (l.length - 4) (c - 4)) w' := fun w' => run_cutW (P := Tryd.prog) w' 24 5 l.length c b o 4 Tryd.underlying24 infoB8 (by omega)
    have H8 := Lib.hid h8
    have HT := Lib.hid hT
    have C0 := Lib.hid (fun x : After w => after_of x (four_c (some ⟨b, o, none⟩) c l x.v (h8.below x.below) (by omega)))
    have HM : Hid (saidT l < 4294967296) := said_lt l 4
    have HO : Hid (openE l = if 65536 < saidT l then 2 else if l.length - 8 < saidT l then 4 else if saidT l < l.length - 8 then 3 else if saidT (l.drop 4) ≠ more 0 (l.drop 8) then 5 else 0) := by show _ = _; unfold openE; rw [if_neg hs]
    obtain ⟨m, hm⟩ : ∃ m, saidT l = m := ⟨_, rfl⟩
    rw [hm] at C0 HM HO
    have hm4 : m < 4294967296 := HM.out
    have HI8 : Hid (∀ wx : World, In8 wx (some ⟨b, o, none⟩) l → In8 wx (cutW b o c 8) (l.drop 8)) := fun wx h => cutW_in8 h rfl hc
    have HI4 : Hid (∀ wx : World, In8 wx (some ⟨b, o, none⟩) l → In8 wx (cutW b o c 4) (l.drop 4)) := fun wx h => cutW_in8 h rfl hc
    obtain ⟨o8, ho8⟩ := cutW_some b o c 8
    obtain ⟨o4, ho4⟩ := cutW_some b o c 4
    rw [ho8] at hs8 HI8
    rw [ho4] at hs4 HI4
    have HN8 : Hid ((l.drop 8).length = l.length - 8) := List.length_drop
    have HN4 : Hid ((l.drop 4).length = l.length - 4) := List.length_drop
    obtain ⟨n8, hn8⟩ : ∃ n, l.length - 8 = n := ⟨_, rfl⟩
    rw [hn8] at hs8 HN8 HO
    have hn8l : n8 + 8 = l.length := by omega
    have HUL : Hid (saidT (l.drop 4) < 4294967296) := said_lt (l.drop 4) 4
    have HVL : Hid (more 0 (l.drop 8) < 4294967296) := more_lt (by decide) (l.drop 8)
    obtain ⟨u, hu⟩ : ∃ u, saidT (l.drop 4) = u := ⟨_, rfl⟩
    obtain ⟨v, hv⟩ : ∃ v, more 0 (l.drop 8) = v := ⟨_, rfl⟩
    rw [hu] at HO HUL
    rw [hv] at HO HVL
    have HU := Lib.hid hu
    have HV := Lib.hid hv
    have hu4 : u < 4294967296 := HUL.out
    have hv4 : v < 4294967296 := HVL.out
    have HL := Lib.hid hn8l
    clear hm HM h8 hT ho8 ho4 hn8 hu hv HUL HVL hs
    go_enter Tryd.func16, Tryd.ntmps16
    go_wp2_with fail
    refine wp_region_after (by kernel_rfl) (by kernel_rfl) ?_
    repeat (go_big_quiet_step (first
      | (rename_i x; go_at_call 32; with_reducible exact C0.out x)))
    refine wpQuiet_nil ?_
    rintro ⟨wq, hxb⟩
    dsimp only
    have HXB := Lib.hid hxb
    clear hxb C0
    by_cases h1 : 65536 < m
    · have HE : openE l = 2 := by rw [HO.out, if_pos h1]
      have HA : Hid (∀ w' : World, Below w.heap.size w w' → NewA w w' l (.returned (.tuple #[.pointer none, .int .i64 2]))) := fun w' hb => newA_no HE (by decide) hb
      have i2 : (m : Int) > 65536 := by omega
      clear h1 HE
      go_wp2_with fail
      go_ret2
      exact HA.out _ HXB.out
    · have i2 : ¬ ((m : Int) > 65536) := by omega
      by_cases h2 : n8 < m
      · have HE : openE l = 4 := by rw [HO.out, if_neg h1, if_pos h2]
        have HA : Hid (∀ w' : World, Below w.heap.size w w' → NewA w w' l (.returned (.tuple #[.pointer none, .int .i64 4]))) := fun w' hb => newA_no HE (by decide) hb
        have i3 : (n8 : Int) < (m : Int) := by omega
        clear h1 h2 HE
        go_wp2_with fail
        go_ret2
        exact HA.out _ HXB.out
      · have i3 : ¬ ((n8 : Int) < (m : Int)) := by omega
        by_cases h3 : m < n8
        · have HE : openE l = 3 := by rw [HO.out, if_neg h1, if_neg h2, if_pos h3]
          have HA : Hid (∀ w' : World, Below w.heap.size w w' → NewA w w' l (.returned (.tuple #[.pointer none, .int .i64 3]))) := fun w' hb => newA_no HE (by decide) hb
          have i4 : (n8 : Int) > (m : Int) := by omega
          clear h1 h2 h3 HE
          go_wp2_with fail
          go_ret2
          exact HA.out _ HXB.out
        · have i4 : ¬ ((n8 : Int) > (m : Int)) := by omega
          have hn6 : n8 ≤ 65536 := by omega
          have HOE : Hid (openE l = if u ≠ v then 5 else 0) := by show _ = _; rw [HO.out, if_neg h1, if_neg h2, if_neg h3]
          have hq8 := H8.out.below HXB.out
          have C1 := Lib.hid (fun x : After wq => after_same x (sumN_c (some ⟨b, o8, none⟩) (c - 8) n8 (l.drop 8) x.v HN8.out (HI8.out _ (H8.out.below (bnext HXB.out x.below))) (HT.out.below (bnext HXB.out x.below)) (by omega)))
          have C2 := Lib.hid (fun x : After wq => after_of x (four_c (some ⟨b, o4, none⟩) (c - 4) (l.drop 4) x.v (HI4.out _ (H8.out.below (bnext HXB.out x.below))) (by rw [HN4.out]; omega)))
          rw [HV.out] at C1
          rw [HU.out, HN4.out] at C2
          clear h1 h2 h3 HO hq8
          go_wp2_with fail
          refine wp_region_after (by kernel_rfl) (by kernel_rfl) ?_
          repeat (go_big_quiet_step (first
            | (rename_i x; go_at_call 33; with_reducible exact C1.out x)
            | (rename_i x; go_at_call 32; with_reducible exact C2.out x)))
          refine wpQuiet_nil ?_
          rintro ⟨wz, hxz⟩
          dsimp only
          have HXZ := Lib.hid (bnext HXB.out hxz)
          clear hxz C1 C2
          by_cases h5 : u = v
          · have HE : openE l = 0 := by rw [HOE.out, if_neg (by omega)]
            have i5 : ((u : Int) == (v : Int)) = true := by rw [beq_iff_eq]; omega
            have HE0 := Lib.hid HE
            have HC := Lib.hid (clone_c b o8 (c - 8) (l.drop 8) wz (HI8.out _ (H8.out.below HXZ.out)) (by rw [HN8.out]; omega))
            rw [HN8.out] at HC
            clear h5 HE HOE
            go_wp2_with fail
            refine HC.out.mono ?_
            rintro e w3 ⟨v3, rfl, hown, hb3⟩
            obtain ⟨p3, c3, hv3⟩ := own_sl hown
            subst hv3
            have hbx := bnext HXZ.out hb3
            have HA : Hid (NewA w (w3.alloc (.cells #[.slice p3 n8 c3, .int .i64 0] 71)) l (.returned (.tuple #[.pointer (some ⟨w3.heap.size, 0, none⟩), .int .i64 0]))) := by
              refine ⟨some ⟨w3.heap.size, 0, none⟩, by rw [HE0.out]; rfl, fun _ => ⟨rfl, Or.inr ⟨w3.heap.size, rfl, hbx.size, by simp, Nat.le_refl _, p3, c3, l.drop 8, 0, ?_, ?_, (own_nilcap hown).1, by rw [HN8.out]; exact (own_nilcap hown).2, by rw [HN8.out]; exact hn6, ?_, ?_, rfl⟩⟩, fun h => absurd HE0.out h, hbx.alloc hbx.size _⟩
              · rw [HN8.out]
                exact blk_new _ _ _ _ rfl
              · obtain ⟨p4, c4, e4, h4⟩ := own_in8' hown
                injection e4 with e4
                subst e4
                exact h4.below ((Below.refl _ _).alloc (Nat.le_refl _) _)
              · intro b' o' e
                subst e
                have h4 := hown.lt b' rfl
                have h5 := HXZ.out.size
                refine ⟨by omega, ?_, by omega⟩
                simp
                omega
              · rcases own_ptr hown with h | ⟨g, h, _⟩
                · exact Or.inl h
                · exact Or.inr ⟨g, 0, h⟩
            clear hown hb3 hbx HC
            go_wp2_with fail
            go_ret2
            exact HA.out
          · have HE : openE l = 5 := by rw [HOE.out, if_pos h5]
            have HA : Hid (∀ w' : World, Below w.heap.size w w' → NewA w w' l (.returned (.tuple #[.pointer none, .int .i64 5]))) := fun w' hb => newA_no HE (by decide) hb
            have i5 : ((u : Int) == (v : Int)) = false := by rw [beq_eq_false_iff_ne]; omega
            clear h5 HE HOE
            go_wp2_with fail
            go_ret2
            exact HA.out _ HXZ.out
end Go.Proofs.YtpffebcaalbhjaaDoor.wir
