/- The contracts of the reference's Quote and Unquote. Texts of up to 1048576 bytes. -/
import Derived.Test.YtfgenbmobfbifaaFld2
import Derived.Test.YtfgenbmobfbifaaApp
namespace Go.Proofs.Ytfgenbmobfbifaa.fld
open Go.RowKit
open Go.Proofs.Ytfgenbmobfbifaa.oct Go.Proofs.Ytfgenbmobfbifaa.ref
open Go.Lib (byteCells)

theorem qB_len (c : UInt8) : (qB c).length ≤ 3 := by unfold qB; split <;> (try split) <;> simp
theorem quote_len (l : List UInt8) : (quote l).length ≤ 3 * l.length := by
  induction l with
  | nil => simp [quote]
  | cons c l ih =>
    have e : quote (c :: l) = qB c ++ quote l := rfl
    rw [e, List.length_append, List.length_cons]
    have := qB_len c
    omega
theorem quote_append (a b : List UInt8) : quote (a ++ b) = quote a ++ quote b := by simp [quote]
theorem quote_snoc (l : List UInt8) (c : UInt8) : quote (l ++ [c]) = quote l ++ qB c := by rw [quote_append]; simp [quote]
theorem take_text (s : ByteArray) (k : Nat) (h : k < s.size) : s.data.toList.take (k + 1) = s.data.toList.take k ++ [s[k]] := by
  rw [List.take_succ_eq_append_getElem (by simpa using h)]; rfl

theorem ne_byte {c d : UInt8} (h : c ≠ d) : ((c.toNat : Int) == (d.toNat : Int)) = false := by
  rw [beq_eq_false_iff_ne]
  intro e
  exact h (UInt8.toNat_inj.1 (by omega))
theorem sign_i (n : Nat) (m : Int) (hm : m = n) (hn : n < 16) (w : World) : Calls Try.prog 29 #[.int .i64 m] w fun e w' => e = .returned (.int .u8 ((sg n).toNat : Int)) ∧ w = w' := by
  subst hm; exact sign_c n hn w
set_option maxRecDepth 8000 in
set_option maxHeartbeats 2000000 in
theorem rquote_c (s : ByteArray) (w : World) (hs : s.size ≤ 16777216) :
    Calls Try.prog 14 #[.string s] w fun e w' => e = .returned (.string ⟨(quote s.data.toList).toArray⟩) ∧ Below w.heap.size w w' := by
  have HSL : Hid (s.data.toList.length = s.size) := by show _ = _; rw [Array.length_toList]; rfl
  go_enter Try.func14, Try.ntmps14
  go_wp2_with fail
  go_loopg [3, 4] s.size (fun g s3 s4 wx => ∃ k : Nat, k + g = s.size ∧ s4 = .int .i64 k ∧ wx.ownsRow w.heap.size 5 1 s3 (quote (s.data.toList.take k)).length (byteCells (quote (s.data.toList.take k))) ∧ Below w.heap.size w wx)
  case atStart => exact ⟨0, by omega, rfl, World.ownsRow_nil _ _ _ _, Below.refl _ _⟩
  case round =>
    obtain ⟨k, hkg, rfl, hrow, hbx⟩ := hrel
    have hql : (quote (s.data.toList.take k)).length ≤ 3 * k := Nat.le_trans (quote_len _) (by rw [List.length_take]; omega)
    cases gk with
    | zero =>
      have hkz : ¬ ((k : Int) < (s.size : Int)) := by omega
      have HK : Hid (s.data.toList.take k = s.data.toList) := List.take_of_length_le (by rw [HSL.out]; omega)
      rw [HK.out] at hrow
      have hc := conv_own hrow
      have HBX := Lib.hid hbx
      clear hrow hbx hql
      go_wp2_with fail
      go_ret
      exact ⟨rfl, HBX.out⟩
    | succ g =>
      have hkz : (k : Int) < (s.size : Int) := by omega
      have hks : k < s.size := by omega
      have HQ := Lib.hid (quote_snoc (s.data.toList.take k) s[k])
      have HT := Lib.hid (take_text s k hks)
      obtain ⟨c, hc⟩ : ∃ c, s[k] = c := ⟨_, rfl⟩
      rw [hc] at HQ HT
      obtain ⟨L, hL⟩ : ∃ L, quote (s.data.toList.take k) = L := ⟨_, rfl⟩
      rw [hL] at hrow hql HQ
      have hcc : (s[k].toNat : Int) = (c.toNat : Int) := by rw [hc]
      clear hL
      have HIT := Lib.hid (fun w => itself_c c w)
      by_cases h1 : itself c = true
      · have HQB : Hid (qB c = [c]) := by show _ = _; unfold qB; rw [if_pos h1]
        rw [HQB.out] at HQ
        have HI1 := Lib.hid h1
        clear h1
        go_wp2_with (first
          | (go_at_call 28; refine (HIT.out wr).mono ?_; rintro e w' ⟨rfl, rfl⟩; rw [HI1.out])
          | (at_builtin; (refine wpList_append_one rfl (.tmp 17) (.tmp 19) rfl w.heap.size _ L.length L rfl hrow c _ rfl rfl (by omega) hbx.size ?_); intro g7 c7 w7 hn7 hg7 ho7 hl7; have hb7 := hbx.grown hg7 hbx.size (fun x hx => (hrow.lt _ hx).1); clear hg7 ho7))
        go_roundg g
        case measure => omega
        case rel => exact ⟨k + 1, by omega, by go_num, by rw [HT.out, HQ.out, List.length_append]; exact hn7, hb7⟩
      · have h1f : itself c = false := by simpa using h1
        have HI1 := Lib.hid h1f
        by_cases h2 : c = 32
        · have HQB : Hid (qB c = [43]) := by show _ = _; unfold qB; rw [if_neg h1, if_pos h2]
          rw [HQB.out] at HQ
          have hb32 : ((c.toNat : Int) == 32) = true := by rw [h2]; rfl
          clear h1 h2 h1f
          go_wp2_with (first
            | (go_at_call 28; refine (HIT.out wr).mono ?_; rintro e w' ⟨rfl, rfl⟩; rw [HI1.out])
            | (at_builtin; (refine wpList_append_one rfl (.tmp 23) (.tmp 24) rfl w.heap.size _ L.length L rfl hrow 43 _ rfl rfl (by omega) hbx.size ?_); intro g7 c7 w7 hn7 hg7 ho7 hl7; have hb7 := hbx.grown hg7 hbx.size (fun x hx => (hrow.lt _ hx).1); clear hg7 ho7))
          go_roundg g
          case measure => omega
          case rel => exact ⟨k + 1, by omega, by go_num, by rw [HT.out, HQ.out, List.length_append]; exact hn7, hb7⟩
        · have HQB : Hid (qB c = [37, sg (c.toNat / 16), sg (c.toNat % 16)]) := by show _ = _; unfold qB; rw [if_neg h1, if_neg h2]
          rw [HQB.out] at HQ
          have hb32 : ((c.toNat : Int) == 32) = false := ne_byte h2
          have hcl := c.toNat_lt
          have HS1 := Lib.hid (fun w => sign_i (c.toNat / 16) ((c.toNat : Int) / 16) (by omega) (by omega) w)
          have HS2 := Lib.hid (fun w => sign_i (c.toNat % 16) ((c.toNat : Int) % 16) (by omega) (by omega) w)
          obtain ⟨x, hx⟩ : ∃ x, sg (c.toNat / 16) = x := ⟨_, rfl⟩
          obtain ⟨y, hy⟩ : ∃ y, sg (c.toNat % 16) = y := ⟨_, rfl⟩
          rw [hx] at HS1 HQ
          rw [hy] at HS2 HQ
          clear h1 h2 h1f hx hy
          go_wp2_with (go_at_call 28; refine (HIT.out wr).mono ?_; rintro e w' ⟨rfl, rfl⟩; rw [HI1.out])
          refine (HS1.out wr).mono ?_
          rintro e w' ⟨rfl, rfl⟩
          go_wp2_with fail
          refine (HS2.out wr).mono ?_
          rintro e w' ⟨rfl, rfl⟩
          go_wp2_with (first
            | (at_builtin; (refine wpList_append_in8 rfl (.tmp 26) (.tmp 35) rfl w.heap.size _ L.length _ rfl (hrow.alloc _) _ 3 3 [37, x, y] rfl (in8_new wr #[.int .u8 37, .int .u8 (x.toNat : Int), .int .u8 (y.toNat : Int)] [37, x, y] rfl) rfl (fun h => by cases h) (by omega) (by have := hbx.size; simp; omega) ?_); intro v7 w7 hn7 hbb; have hb7 := hbb w (hbx.alloc hbx.size _) (Nat.le_refl _); clear hbb))
          go_roundg g
          case measure => omega
          case rel => exact ⟨k + 1, by omega, by go_num, by rw [HT.out, HQ.out, List.length_append, byteCells_append]; exact hn7, hb7⟩
end Go.Proofs.Ytfgenbmobfbifaa.fld
