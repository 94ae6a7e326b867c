/- The contract of the reference's Unhex (texts up to 140737488355328 signs). -/
import Derived.Test.YtddihhpahghajaaDoorRef1
import Derived.Deep.AppendLies
import Derived.Deep.RegionLaw
namespace Go.Proofs.YtddihhpahghajaaDoor.ref
open Go.RowKit
open Go.Proofs.YtddihhpahghajaaDoor.pl Go.Proofs.YtddihhpahghajaaDoor.oct
open Go.Lib (byteCells)

/-- a byte's two halves -/
def nib (c : UInt8) : List Nat := [c.toNat / 16, c.toNat % 16]
theorem bits_split (c : Nat) (h : c < 256) : bitsN 8 c = bitsN 4 (c / 16) ++ bitsN 4 (c % 16) := by
  refine num_inj (by simp) ?_
  rw [num_append, num_bitsN, num_bitsN, num_bitsN, bitsN_len]
  omega
theorem nib_tells (l : List UInt8) : Tells 4 l (l.flatMap nib) := by
  refine ⟨?_, 0, by decide, ?_⟩
  · intro d hd
    obtain ⟨c, _, hc⟩ := List.mem_flatMap.1 hd
    have := c.toNat_lt
    simp [nib] at hc
    rcases hc with rfl | rfl <;> omega
  · simp only [List.replicate_zero, List.append_nil]
    induction l with
    | nil => rfl
    | cons c l ih =>
      rw [List.flatMap_cons, flat_append, ih]
      simp only [bitsOf, nats, List.map_cons, flat_cons, nib, flat_nil, List.append_nil]
      rw [bits_split _ c.toNat_lt]
theorem hexR_eq (l : List UInt8) : hexR l = hexT l := by
  unfold hexT
  rw [← (nib_tells l).eq_enc (by decide)]
  induction l with
  | nil => rfl
  | cons c l ih =>
    rw [List.flatMap_cons]
    have := c.toNat_lt
    have e1 := hexS_dig (c.toNat / 16) (by omega)
    have e2 := hexS_dig (c.toNat % 16) (by omega)
    unfold hexR
    rw [List.flatMap_cons]
    unfold hexR at ih
    rw [ih]
    simp only [text, List.map_append, nib, List.map_cons, List.map_nil, two]
    congr 1
    congr 1
    · rw [show ((c.toNat : Int) / 16) = ((c.toNat / 16 : Nat) : Int) from by omega, ← e1]; simp
    · congr 1
      rw [show ((c.toNat : Int) % 16) = ((c.toNat % 16 : Nat) : Int) from by omega, ← e2]; simp
theorem hexR_snoc (l : List UInt8) (c : UInt8) : hexR (l ++ [c]) = hexR l ++ two c := by unfold hexR; rw [List.flatMap_append]; simp
theorem hexR_len (l : List UInt8) : (hexR l).length = 2 * l.length := by rw [hexR_eq, hexT_len]

/-- a sign's worth, one way or the other -/
theorem wor_cases (c : UInt8) : (∃ a : Nat, a < 16 ∧ dig (a : Int) = (c.toNat : Int) ∧ wor (c.toNat : Int) = (a : Int)) ∨ ((∀ a : Nat, a < 16 → dig (a : Int) ≠ (c.toNat : Int)) ∧ wor (c.toNat : Int) = -1) := by
  by_cases h : ∃ a : Nat, a < 16 ∧ dig (a : Int) = (c.toNat : Int)
  · obtain ⟨a, ha, hd⟩ := h
    exact Or.inl ⟨a, ha, hd, wor_dig (by omega) (by omega) hd⟩
  · refine Or.inr ⟨fun a ha hd => h ⟨a, ha, hd⟩, wor_none fun k h0 h1 hk => h ⟨k.toNat, by omega, ?_⟩⟩
    rw [show ((k.toNat : Nat) : Int) = k from by omega]; exact hk

theorem two_of {a d : Nat} (ha : a < 16) (hd : d < 16) {x y : UInt8} (hx : dig (a : Int) = (x.toNat : Int)) (hy : dig (d : Int) = (y.toNat : Int)) : two (UInt8.ofNat (16 * a + d)) = [x, y] := by
  unfold two
  rw [UInt8.toNat_ofNat', Nat.mod_eq_of_lt (by omega)]
  rw [show (((16 * a + d : Nat) : Int)) / 16 = (a : Int) from by omega, show (((16 * a + d : Nat) : Int)) % 16 = (d : Int) from by omega, hx, hy]
  simp

/-- an alien sign at i: no bytes -/
theorem alien {s : List UInt8} {i : Nat} (hi : i < s.length) (h : ∀ a : Nat, a < 16 → dig (a : Int) ≠ ((s.getD i 0).toNat : Int)) (o : List UInt8) : hexR o ≠ s := by
  intro he
  have hm : s.getD i 0 ∈ hexR o := by rw [he]; simp [List.getD, List.getElem?_eq_getElem hi]
  obtain ⟨c, _, hc⟩ := List.mem_flatMap.1 hm
  have hcl := c.toNat_lt
  simp only [two, List.mem_cons, List.not_mem_nil, or_false] at hc
  rcases hc with hc | hc
  · obtain ⟨x, hx⟩ := dig_u8 (c.toNat / 16) (by omega)
    refine h (c.toNat / 16) (by omega) ?_
    rw [hc, show ((c.toNat : Int) / 16) = ((c.toNat / 16 : Nat) : Int) from by omega, hx]; simp
  · obtain ⟨x, hx⟩ := dig_u8 (c.toNat % 16) (by omega)
    refine h (c.toNat % 16) (by omega) ?_
    rw [hc, show ((c.toNat : Int) % 16) = ((c.toNat % 16 : Nat) : Int) from by omega, hx]; simp

set_option maxHeartbeats 4000000 in
theorem runhex_c (s : ByteArray) (w : World) (hs : s.size ≤ 140737488355328) :
    Calls Tryd.prog 19 #[.string s] w (ReadT hexR s.data.toList w) := by
  obtain ⟨j0, hj, hy0, hy1, hy2⟩ := info_parts infoByte
  have HSL : Hid (s.data.toList.length = s.size) := by show _ = _; rw [Array.length_toList]; rfl
  go_enter Tryd.func19, Tryd.ntmps19
  go_wp2_with fail
  go_loopg [4, 5] (s.size) (fun g s4 s5 wx => ∃ (i : Nat) (out : List UInt8), i + g = s.size ∧ s5 = .int .i64 i ∧ i = 2 * out.length ∧ Hid (hexR out = s.data.toList.take i) ∧ wx.ownsRow w.heap.size 5 1 s4 out.length (byteCells out) ∧ Below w.heap.size w wx)
  case atStart => exact ⟨0, [], by omega, rfl, rfl, rfl, World.ownsRow_nil _ _ _ _, Below.refl _ _⟩
  case round =>
    obtain ⟨i, out, hig, rfl, hi2, HO, hrow, hbx⟩ := hrel
    by_cases hlt : i + 1 < s.size
    · have hkz : ((i : Int) + 1) < (s.size : Int) := by omega
      have hG : ∀ j, (hj : j < s.size) → s[j] = s.data.toList.getD j 0 := fun j hj => by
        simp [List.getD, List.getElem?_eq_getElem (show j < s.data.toList.length by rw [HSL.out]; exact hj)]; rfl
      have HG := Lib.hid hG
      have HI2 := Lib.hid hi2
      have hout : out.length ≤ 70368744177664 := by omega
      clear hG hi2
      rcases wor_cases s[i] with ⟨a, ha, hdx, hwx⟩ | ⟨hnx, hwx⟩
      · have cX := fun W => worth_c ((s[i].toNat : Nat) : Int) W
        rw [hwx] at cX
        have CX := Lib.hid cX
        clear cX hwx
        rcases wor_cases (s[i + 1]) with ⟨d, hd, hdy, hwy⟩ | ⟨hny, hwy⟩
        · have cY := fun W => worth_c ((s[i + 1].toNat : Nat) : Int) W
          rw [hwy] at cY
          have CY := Lib.hid cY
          have s1 : IntKind.i64.wrap (16 * (a : Int)) = 16 * (a : Int) := wraps_i64 _ (by omega) (by omega)
          have s2 : IntKind.i64.wrap (16 * (a : Int) + (d : Int)) = 16 * (a : Int) + (d : Int) := wraps_i64 _ (by omega) (by omega)
          obtain ⟨z, hz⟩ : ∃ z : UInt8, UInt8.ofNat (16 * a + d) = z := ⟨_, rfl⟩
          have s3 : IntKind.u8.wrap (16 * (a : Int) + (d : Int)) = (z.toNat : Int) := by rw [← hz, UInt8.toNat_ofNat', Nat.mod_eq_of_lt (by omega), wraps_u8 _ (by omega) (by omega)]; omega
          have s4 : IntKind.i64.wrap ((i : Int) + 1) = (i : Int) + 1 := wraps_i64 _ (by omega) (by omega)
          have s5 : (0 : Int) ≤ (i : Int) + 1 := by omega
          have s6 : ((i : Int) + 1).toNat = i + 1 := by omega
          have HO2 : Hid (hexR (out ++ [z]) = s.data.toList.take (i + 2)) := by
            show _ = _
            rw [hexR_snoc, HO.out, ← hz, two_of ha hd hdx hdy, List.take_succ_eq_append_getElem (show i + 1 < s.data.toList.length by rw [HSL.out]; omega), List.take_succ_eq_append_getElem (show i < s.data.toList.length by rw [HSL.out]; omega), List.append_assoc]
            rfl
          clear cY hwy hdx hdy hz
          go_wp2_with (first
            | (go_at_call 37; (with_reducible refine (CX.out _).mono ?_); rintro e w2 ⟨rfl, rfl⟩)
            | (go_at_call 37; (with_reducible refine (CY.out _).mono ?_); rintro e w2 ⟨rfl, rfl⟩))
          go_region_law (first
            | (refine step_append_lies _ rfl (.tmp 26) (.tmp 39) 22 rfl w.heap.size 5 j0 (.int .u8 0) 1 1 Tryd.underlying22 hj hy0 hy1 hy2 rfl (by decide) _ _ _ rfl (hrow.alloc _).drew ⟨wr.heap.size, 0, none⟩ 1 1 [.int .u8 (z.toNat : Int)] rfl rfl (fun j u hu => cell_one_new wr _ _ j u hu) (fun x hx => by simp at hx; subst hx; rfl) (by decide) (by unfold maxLen; omega) (by omega) (by have := hbx.size; simp; omega) _ rfl ?_; intro g cap w1 hown' hgrow _ _)
            | (go_simp; go_at_call 37; (with_reducible refine (CX.out _).mono ?_); rintro e w2 ⟨rfl, rfl⟩)
            | (go_simp; go_at_call 37; (with_reducible refine (CY.out _).mono ?_); rintro e w2 ⟨rfl, rfl⟩))
          all_goals go_wp2_with fail
          all_goals go_roundg (s.size - (i + 2))
          all_goals first
            | (case measure => omega)
            | skip
          all_goals (refine ⟨i + 2, out ++ [z], by omega, by go_num, by rw [HI2.out]; simp; omega, HO2, ?_, ?_⟩)
          all_goals first
            | (rw [byteCells_snoc, List.length_append]; exact hown')
            | exact ((hbx.alloc hbx.size _).drew).grown hgrow (by have := hbx.size; simp; omega) (fun q hq => (hrow.lt q hq).1)
        · have cY := fun W => worth_c ((s[i + 1].toNat : Nat) : Int) W
          rw [hwy] at cY
          have CY := Lib.hid cY
          have HF := Lib.hid (alien (s := s.data.toList) (i := i + 1) (by rw [HSL.out]; omega) (fun a ha => by rw [← HG.out (i + 1) hlt]; exact hny a ha))
          clear cY hwy hny
          go_wp2_with (first
            | (go_at_call 37; (with_reducible refine (CX.out _).mono ?_); rintro e w2 ⟨rfl, rfl⟩)
            | (go_at_call 37; (with_reducible refine (CY.out _).mono ?_); rintro e w2 ⟨rfl, rfl⟩))
          go_ret2
          exact Or.inr ⟨HF.out, rfl, hbx⟩
      · have cX := fun W => worth_c ((s[i].toNat : Nat) : Int) W
        rw [hwx] at cX
        have CX := Lib.hid cX
        have HF := Lib.hid (alien (s := s.data.toList) (i := i) (by rw [HSL.out]; omega) (fun a ha => by rw [← HG.out i (by omega)]; exact hnx a ha))
        clear cX hwx hnx
        go_wp2_with (go_at_call 37; refine (CX.out _).mono ?_; rintro e w2 ⟨rfl, rfl⟩)
        go_ret2
        exact Or.inr ⟨HF.out, rfl, hbx⟩
    · have hkz : ¬ (((i : Int) + 1) < (s.size : Int)) := by omega
      by_cases hev : i = s.size
      · have ht : ((s.size : Int) % 2 == 1) = false := by rw [beq_eq_false_iff_ne]; omega
        have HK : Hid (hexR out = s.data.toList) := by have := HO.out; rwa [List.take_of_length_le (by rw [HSL.out]; omega)] at this
        clear hev hi2
        go_wp2_with fail
        go_ret2
        exact Or.inl ⟨out, _, HK.out, rfl, hrow, hbx⟩
      · have ht : ((s.size : Int) % 2 == 1) = true := by rw [beq_iff_eq]; omega
        have HF : Hid (∀ o, hexR o ≠ s.data.toList) := by
          intro o ho
          have := congrArg List.length ho
          rw [hexR_len, HSL.out] at this
          omega
        clear hev hi2
        go_wp2_with fail
        go_ret2
        exact Or.inr ⟨HF.out, rfl, hbx⟩
end Go.Proofs.YtddihhpahghajaaDoor.ref
