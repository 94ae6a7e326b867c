/- The contract of the reference's Unquote. Texts of up to 2^47 - 4096 bytes. -/
import Derived.Test.YtfgenbmobfbifaaFld3
namespace Go.Proofs.Ytfgenbmobfbifaa.fld
open Go.RowKit
open Go.Proofs.Ytfgenbmobfbifaa.oct Go.Proofs.Ytfgenbmobfbifaa.ref
open Go.Lib (byteCells)

/-- what Unquote answers -/
def unqV (o : Option (List UInt8)) : Value := match o with
  | some m => .tuple #[.string ⟨m.toArray⟩, .int .i64 0]
  | none => .tuple #[.string ⟨#[]⟩, .int .i64 3]
theorem worth_q (c : UInt8) (m : Int) (hm : m = (c.toNat : Int)) (w : World) : Calls Try.prog 32 #[.int .u8 m] w fun e w' => e = .returned (.int .i64 (worth c : Nat)) ∧ w' = w := by
  subst hm; exact (worth_c c w).mono fun e w' ⟨a, b⟩ => ⟨a, b.symm⟩
theorem drop_text (s : ByteArray) (k : Nat) (h : k < s.size) : s.data.toList.drop k = s[k] :: s.data.toList.drop (k + 1) := by
  rw [List.drop_eq_getElem_cons (by simpa using h)]; rfl
theorem unq_bad {c : UInt8} {r : List UInt8} (h : c.toNat < 33 ∨ 126 < c.toNat) : unq (c :: r) = none := by rw [unq_cons, if_pos h]
theorem unq_pct_end {r : List UInt8} (h : r.length < 2) : unq (37 :: r) = none := by
  rw [unq_cons, if_neg (by decide), if_pos rfl]
  match r, h with
  | [], _ => rfl
  | [_], _ => rfl
theorem unq_pct_bad {a b : UInt8} {r : List UInt8} (h : ¬ (worth a < 16 ∧ worth b < 16)) : unq (37 :: a :: b :: r) = none := by
  rw [unq_cons, if_neg (by decide), if_pos rfl]
  show (if worth a < 16 ∧ worth b < 16 then _ else none) = none
  rw [if_neg h]
theorem unq_pct {a b : UInt8} {r : List UInt8} (h1 : worth a < 16) (h2 : worth b < 16) : unq (37 :: a :: b :: r) = (unq r).map (UInt8.ofNat (16 * worth a + worth b) :: ·) := by
  rw [unq_cons, if_neg (by decide), if_pos rfl]
  show (if worth a < 16 ∧ worth b < 16 then _ else none) = _
  rw [if_pos ⟨h1, h2⟩]
theorem unq_else {c : UInt8} {r : List UInt8} (h : ¬ (c.toNat < 33 ∨ 126 < c.toNat)) (h2 : c ≠ 37) : unq (c :: r) = (unq r).map ((if c = 43 then 32 else c) :: ·) := by
  rw [unq_cons, if_neg h, if_neg h2]
theorem map_snoc (o : Option (List UInt8)) (acc : List UInt8) (c : UInt8) : (o.map (c :: ·)).map (acc ++ ·) = o.map ((acc ++ [c]) ++ ·) := by
  cases o <;> simp

set_option maxRecDepth 100000 in
set_option maxHeartbeats 4000000 in
theorem runquote_c (s : ByteArray) (w : World) (hs : s.size ≤ 140737488351232) :
    Calls Try.prog 16 #[.string s] w fun e w' => e = .returned (unqV (unq s.data.toList)) ∧ Below w.heap.size w w' := by
  have HSL : Hid (s.data.toList.length = s.size) := by show _ = _; rw [Array.length_toList]; rfl
  go_enter Try.func16, Try.ntmps16
  go_wp2_with fail
  go_loopg [4, 5] s.size (fun g s4 s5 wx => ∃ (k : Nat) (acc : List UInt8), k + g = s.size ∧ s5 = .int .i64 k ∧ acc.length ≤ k ∧ Hid (unq s.data.toList = (unq (s.data.toList.drop k)).map (acc ++ ·)) ∧ wx.ownsRow w.heap.size 5 1 s4 acc.length (byteCells acc) ∧ Below w.heap.size w wx)
  case atStart => exact ⟨0, [], by omega, rfl, Nat.le_refl _, by show _ = _; simp, World.ownsRow_nil _ _ _ _, Below.refl _ _⟩
  case round =>
    obtain ⟨k, acc, hkg, rfl, hal, HU, hrow, hbx⟩ := hrel
    by_cases hg0 : gk = 0
    · have hkz : ¬ ((k : Int) < (s.size : Int)) := by omega
      have HR : Hid (unq s.data.toList = some acc) := by
        show _ = _
        rw [HU.out, List.drop_of_length_le (by rw [HSL.out]; omega)]
        simp [unq]
      have hc := conv_own hrow
      have HBX := Lib.hid hbx
      clear HU hrow hbx
      go_wp2_with fail
      go_ret2
      exact ⟨by rw [HR.out]; rfl, HBX.out⟩
    · have hkz : (k : Int) < (s.size : Int) := by omega
      have hks : k < s.size := by omega
      have HD := Lib.hid (drop_text s k hks)
      obtain ⟨c, hc⟩ : ∃ c, s[k] = c := ⟨_, rfl⟩
      rw [hc] at HD
      have hcl := c.toNat_lt
      have hcc : (s[k].toNat : Int) = (c.toNat : Int) := by rw [hc]
      have HBX := Lib.hid hbx
      by_cases hbad : c.toNat < 33 ∨ 126 < c.toNat
      · have HR : Hid (unq s.data.toList = none) := by show _ = _; rw [HU.out, HD.out, unq_bad hbad]; rfl
        clear HU HD hrow hbx
        rcases hbad with h | h
        · have hI : (c.toNat : Int) < 33 := by omega
          go_wp2_with fail
          go_ret2
          exact ⟨by rw [HR.out]; rfl, HBX.out⟩
        · have hI : (c.toNat : Int) > 126 := by omega
          have hI2 : ¬ ((c.toNat : Int) < 33) := by omega
          go_wp2_with fail
          go_ret2
          exact ⟨by rw [HR.out]; rfl, HBX.out⟩
      · have hI : ¬ ((c.toNat : Int) > 126) := by omega
        have hI2 : ¬ ((c.toNat : Int) < 33) := by omega
        by_cases h37 : c = 37
        · have hb37 : ((c.toNat : Int) == 37) = true := by rw [h37]; rfl
          by_cases hend : s.size ≤ k + 2
          · have hE : (k : Int) + 2 ≥ (s.size : Int) := by omega
            have HR : Hid (unq s.data.toList = none) := by
              show _ = _
              rw [HU.out, HD.out, h37, unq_pct_end (by rw [List.length_drop, HSL.out]; omega)]; rfl
            clear HU HD hrow hbx hbad h37
            go_wp2_with fail
            go_ret2
            exact ⟨by rw [HR.out]; rfl, HBX.out⟩
          · have hE : ¬ ((k : Int) + 2 ≥ (s.size : Int)) := by omega
            have hk1 : k + 1 < s.size := by omega
            have hk2 : k + 2 < s.size := by omega
            have hd1 := drop_text s (k + 1) hk1
            have hd2 := drop_text s (k + 2) hk2
            obtain ⟨a, ha⟩ : ∃ a, s[k + 1] = a := ⟨_, rfl⟩
            obtain ⟨b, hb⟩ : ∃ b, s[k + 2] = b := ⟨_, rfl⟩
            rw [ha] at hd1
            rw [hb] at hd2
            have HD2 : Hid (s.data.toList.drop k = 37 :: a :: b :: s.data.toList.drop (k + 3)) := by show _ = _; rw [HD.out, hd1, hd2, h37]
            have haa : (s[k + 1].toNat : Int) = (a.toNat : Int) := by rw [ha]
            have hbb : (s[k + 2].toNat : Int) = (b.toNat : Int) := by rw [hb]
            have HWA := Lib.hid (fun w => worth_q a (a.toNat : Int) rfl w)
            have HWB := Lib.hid (fun w => worth_q b (b.toNat : Int) rfl w)
            have ha16 := worth_le a
            have hb16 := worth_le b
            have HWD : Hid (¬ (worth a < 16 ∧ worth b < 16) → unq s.data.toList = none) := fun hn => by rw [HU.out, HD2.out, unq_pct_bad hn]; rfl
            have HWO : Hid (worth a < 16 → worth b < 16 → unq s.data.toList = (unq (s.data.toList.drop (k + 3))).map ((acc ++ [UInt8.ofNat (16 * worth a + worth b)]) ++ ·)) := fun x y => by rw [HU.out, HD2.out, unq_pct x y, map_snoc]
            obtain ⟨x, hx⟩ : ∃ x, worth a = x := ⟨_, rfl⟩
            obtain ⟨y, hy⟩ : ∃ y, worth b = y := ⟨_, rfl⟩
            rw [hx] at HWA HWD HWO ha16
            rw [hy] at HWB HWD HWO hb16
            clear HU HD HD2 hd1 hd2 hx hy h37 hbad
            by_cases hx16 : x < 16
            · have hxI : ¬ ((x : Int) > 15) := by omega
              by_cases hy16 : y < 16
              · have hyI : ¬ ((y : Int) > 15) := by omega
                have HN := Lib.hid (HWO.out hx16 hy16)
                have hdn : (UInt8.ofNat (16 * x + y)).toNat = 16 * x + y := by rw [UInt8.toNat_ofNat', Nat.mod_eq_of_lt (by omega)]
                obtain ⟨d, hd⟩ : ∃ d, UInt8.ofNat (16 * x + y) = d := ⟨_, rfl⟩
                rw [hd] at HN hdn
                have HCD : Hid (#[Value.int .u8 (16 * (x : Int) + (y : Int))] = (byteCells [d]).toArray) := by
                  show #[Value.int .u8 (16 * (x : Int) + (y : Int))] = #[Value.int .u8 (d.toNat : Int)]
                  rw [show 16 * (x : Int) + (y : Int) = (d.toNat : Int) by omega]
                have m1 : IntKind.i64.wrap (16 * (x : Int)) = 16 * (x : Int) := by rw [IntKind.wrap_i64]; omega
                have m2 : IntKind.i64.wrap (16 * (x : Int) + (y : Int)) = (d.toNat : Int) := by rw [IntKind.wrap_i64]; omega
                have m3 : IntKind.u8.wrap (d.toNat : Int) = (d.toNat : Int) := wraps_u8 _ (by omega) (by omega)
                have m4 : IntKind.i64.wrap ((k : Int) + 1) = (k : Int) + 1 := by rw [IntKind.wrap_i64]; omega
                have m5 : IntKind.i64.wrap ((k : Int) + 2) = (k : Int) + 2 := by rw [IntKind.wrap_i64]; omega
                have m6 : (0 : Int) ≤ (k : Int) + 1 ∧ (k : Int) + 1 < (s.size : Int) := by omega
                have m7 : (0 : Int) ≤ (k : Int) + 2 ∧ (k : Int) + 2 < (s.size : Int) := by omega
                have m8 : ((k : Int) + 1).toNat = k + 1 := by omega
                have m9 : ((k : Int) + 2).toNat = k + 2 := by omega
                clear hd HWD HWO
                go_wp2_with fail
                refine (HWA.out wr).mono ?_
                rintro e w' ⟨rfl, rfl⟩
                go_wp2_with fail
                refine (HWB.out _).mono ?_
                rintro e w' ⟨rfl, rfl⟩
                go_wp2_with fail
                go_quiet ((first | (go_at_call_of 32 (Value.int .u8 (a.toNat : Int)); exact Calls.quiet_of_same (HWA.out _)) | (go_at_call 32; exact Calls.quiet_of_same (HWB.out _))))
                have hrn : (w'.drewN nq).ownsRow w.heap.size 5 1 u4 acc.length (byteCells acc) := hrow
                have hbn := below_drewN hbx nq
                obtain ⟨wn, hwn⟩ : ∃ x, x = w'.drewN nq := ⟨_, rfl⟩
                rw [← hwn] at hrn hbn ⊢
                clear hrow hbx hwn
                go_wp2_with (at_builtin; (refine wpList_append_one rfl (.tmp 62) (.tmp 64) rfl w.heap.size _ acc.length acc rfl hrn d _ HCD.out rfl (by omega) hbn.size ?_); intro g7 c7 w7 hn7 hg7 ho7 hl7; have hb7 := hbn.grown hg7 hbn.size (fun x hx => (hrn.lt _ hx).1); clear hg7 ho7)
                go_roundg (gk - 3)
                case measure => omega
                case rel => exact ⟨k + 3, acc ++ [d], by omega, by go_num, by simp; omega, HN, by rw [List.length_append]; exact hn7, hb7⟩
              · have hyI : (y : Int) > 15 := by omega
                have HR := Lib.hid (HWD.out (by omega))
                clear hrow hbx HWD HWO
                go_wp2_with fail
                refine (HWA.out wr).mono ?_
                rintro e w' ⟨rfl, rfl⟩
                go_wp2_with fail
                refine (HWB.out _).mono ?_
                rintro e w' ⟨rfl, rfl⟩
                go_wp2_with fail
                go_ret2
                exact ⟨by rw [HR.out]; rfl, HBX.out⟩
            · have hxI : (x : Int) > 15 := by omega
              have HR := Lib.hid (HWD.out (by omega))
              clear hrow hbx HWD HWO
              go_wp2_with fail
              refine (HWA.out wr).mono ?_
              rintro e w' ⟨rfl, rfl⟩
              go_wp2_with fail
              go_ret2
              exact ⟨by rw [HR.out]; rfl, HBX.out⟩
        · have hb37 : ((c.toNat : Int) == 37) = false := ne_byte h37
          have HUE := Lib.hid (unq_else (r := s.data.toList.drop (k + 1)) hbad h37)
          by_cases h43 : c = 43
          · have hb43 : ((c.toNat : Int) == 43) = true := by rw [h43]; rfl
            have HN : Hid (unq s.data.toList = (unq (s.data.toList.drop (k + 1))).map ((acc ++ [32]) ++ ·)) := by show _ = _; rw [HU.out, HD.out, HUE.out, if_pos h43, map_snoc]
            clear HU HD HUE hbad h37 h43
            go_wp2_with (at_builtin; (refine wpList_append_one rfl (.tmp 62) (.tmp 64) rfl w.heap.size _ acc.length acc rfl hrow 32 _ rfl rfl (by omega) hbx.size ?_); intro g7 c7 w7 hn7 hg7 ho7 hl7; have hb7 := hbx.grown hg7 hbx.size (fun x hx => (hrow.lt _ hx).1); clear hg7 ho7)
            go_roundg (gk - 1)
            case measure => omega
            case rel => exact ⟨k + 1, acc ++ [32], by omega, by go_num, by simp; omega, HN, by rw [List.length_append]; exact hn7, hb7⟩
          · have hb43 : ((c.toNat : Int) == 43) = false := ne_byte h43
            have HN : Hid (unq s.data.toList = (unq (s.data.toList.drop (k + 1))).map ((acc ++ [c]) ++ ·)) := by show _ = _; rw [HU.out, HD.out, HUE.out, if_neg h43, map_snoc]
            clear HU HD HUE hbad h37 h43
            go_wp2_with (at_builtin; (refine wpList_append_one rfl (.tmp 62) (.tmp 64) rfl w.heap.size _ acc.length acc rfl hrow c _ rfl rfl (by omega) hbx.size ?_); intro g7 c7 w7 hn7 hg7 ho7 hl7; have hb7 := hbx.grown hg7 hbx.size (fun x hx => (hrow.lt _ hx).1); clear hg7 ho7)
            go_roundg (gk - 1)
            case measure => omega
            case rel => exact ⟨k + 1, acc ++ [c], by omega, by go_num, by simp; omega, HN, by rw [List.length_append]; exact hn7, hb7⟩
end Go.Proofs.Ytfgenbmobfbifaa.fld
