/- The contracts of the reference's sign, worth, text. Texts of up to 2^47 - 4096 bytes. -/
import Derived.Test.YtbgnoobgnpebdaaDoorJsn2
import Derived.Test.YtbgnoobgnpebdaaDoorApp
import Derived.BigGuardPart
namespace Go.Proofs.YtbgnoobgnpebdaaDoor.jsn
open Go.RowKit
open Go.Proofs.YtbgnoobgnpebdaaDoor.oct Go.Proofs.YtbgnoobgnpebdaaDoor.ref
open Go.Lib (byteCells)

set_option maxHeartbeats 400000 in
theorem sign_c (n : Nat) (hn : n < 16) (w : World) : Calls Tryd.prog 51 #[.int .i64 n] w fun e w' => e = .returned (.int .u8 ((sg n).toNat : Int)) ∧ w = w' := by
  have HS := Lib.hid (sg_nat n hn)
  by_cases h : n < 10
  · have HV : Hid (48 + (n : Int) = ((sg n).toNat : Int)) := by show _ = _; rw [HS.out, if_pos h]; omega
    go_enter Tryd.func51, Tryd.ntmps51
    go_wp2_with fail
    go_ret
    exact ⟨ret_int HV.out, rfl⟩
  · have HV : Hid (87 + (n : Int) = ((sg n).toNat : Int)) := by show _ = _; rw [HS.out, if_neg h]; omega
    go_enter Tryd.func51, Tryd.ntmps51
    go_wp2_with fail
    go_ret
    exact ⟨ret_int HV.out, rfl⟩
theorem worth_eq (c : UInt8) (n : Nat) (hn : n < 16) : worth c = n ↔ (sg n).toNat = c.toNat := by
  rw [sg_nat n hn]
  unfold worth
  have := c.toNat_lt
  by_cases h : n < 10
  · rw [if_pos h]; constructor <;> (intro h2; (repeat' split at h2) <;> (try split) <;> (try split) <;> omega)
  · rw [if_neg h]; constructor <;> (intro h2; (repeat' split at h2) <;> (try split) <;> (try split) <;> omega)
set_option maxRecDepth 100000 in
set_option maxHeartbeats 1000000 in
theorem worth_c (c : UInt8) (w : World) : Calls Tryd.prog 43 #[.int .u8 (c.toNat : Int)] w fun e w' => e = .returned (.int .i64 (worth c : Nat)) ∧ w = w' := by
  have hc := c.toNat_lt
  have HW := Lib.hid (worth_eq c)
  have hwl := worth_le c
  go_enter Tryd.func43, Tryd.ntmps43
  go_wp2_with fail
  go_loop [3] (fun i => ∃ n : Nat, n ≤ 16 ∧ i = .int .i64 n ∧ n ≤ worth c) (fun i => 16 - (intOf i).toNat)
  case atStart => exact ⟨0, by omega, rfl, by omega⟩
  case round =>
    obtain ⟨n, hn, rfl, hle⟩ := hrel
    by_cases hlt : n < 16
    · have HS := Lib.hid (sign_c n hlt w)
      have HWN := Lib.hid (HW.out n hlt)
      obtain ⟨x, hx⟩ : ∃ x, (sg n).toNat = x := ⟨_, rfl⟩
      obtain ⟨y, hy⟩ : ∃ y, c.toNat = y := ⟨_, rfl⟩
      rw [hx] at HS HWN
      rw [hy] at HWN hc ⊢
      clear hx hy
      by_cases he : worth c = n
      · have hb : ((x : Int) == (y : Int)) = true := by have := HWN.out.1 he; rw [beq_iff_eq]; omega
        go_wp2_with (go_at_call 51; refine HS.out.mono ?_; rintro e w' ⟨rfl, rfl⟩)
        go_ret
        exact ⟨ret_int (by rw [he]), rfl⟩
      · have h1 : ¬ x = y := fun h => he (HWN.out.2 h)
        have hb : ((x : Int) == (y : Int)) = false := by rw [beq_eq_false_iff_ne]; omega
        go_wp2_with (go_at_call 51; refine HS.out.mono ?_; rintro e w' ⟨rfl, rfl⟩)
        go_round
        case rel => exact ⟨n + 1, by omega, by go_num, by omega⟩
        case measure => simp [intOf]; omega
    · obtain rfl : n = 16 := by omega
      go_wp2_with fail
      go_ret
      exact ⟨ret_int (by omega), rfl⟩
theorem ne_byte {c d : UInt8} (h : c ≠ d) : ((c.toNat : Int) == (d.toNat : Int)) = false := by
  rw [beq_eq_false_iff_ne]
  intro e
  exact h (UInt8.toNat_inj.1 (by omega))
theorem sign_i (n : Nat) (m : Int) (hm : m = n) (hn : n < 16) (w : World) : Calls Tryd.prog 51 #[.int .i64 m] w fun e w' => e = .returned (.int .u8 ((sg n).toNat : Int)) ∧ w = w' := by
  subst hm; exact sign_c n hn w
theorem take_text (s : ByteArray) (k : Nat) (h : k < s.size) : s.data.toList.take (k + 1) = s.data.toList.take k ++ [s[k]] := by
  rw [List.take_succ_eq_append_getElem (by simpa using h)]; rfl
theorem strB_snoc (l : List UInt8) (c : UInt8) : strB (l ++ [c]) = strB l ++ sB c := by rw [strB_append]; simp [strB]
theorem strB_take_le (l : List UInt8) (k : Nat) : (strB (l.take k)).length ≤ (strB l).length := by
  have h := strB_append (l.take k) (l.drop k)
  rw [List.take_append_drop] at h
  rw [h, List.length_append]
  omega
theorem own_val {w : World} {B e n z : Nat} {v : Value} {xs : List Value} (h : w.ownsRow B e z v n xs) : ∃ p c, v = .slice p n c := by
  rcases h.2 with ⟨rfl, rfl⟩ | ⟨g, cap, cur, rfl, _⟩
  · exact ⟨none, 0, rfl⟩
  · exact ⟨_, _, rfl⟩
/-- what the reference's text answers: the string, or something as long as is too long -/
def TxtOf (l R : List UInt8) : Prop := R.length ≤ 16400 ∧ (R = strT l ∨ (16384 < R.length ∧ 16384 < (strT l).length))
def TxtV (l : List UInt8) (w w' : World) (e : Ending) : Prop := ∃ R, TxtOf l R ∧ e = .returned (.string ⟨R.toArray⟩) ∧ Below w.heap.size w w'
theorem own_lit (w : World) (l : List UInt8) (C : Array Value) (hC : C = (byteCells l).toArray) (hm : l.length ≤ 1000) : (w.alloc (.cells C 5)).ownsRow w.heap.size 5 1 (.slice (some ⟨w.heap.size, 0, none⟩) l.length l.length) l.length (byteCells l) := by
  subst hC
  have h := own_of_block (w := w.alloc (.cells (byteCells l).toArray 5)) (B := w.heap.size) (e := 5) (g := w.heap.size) (xs := byteCells l) (Nat.le_refl _) (heap_alloc_new w _) (by rw [byteCells_len]; unfold maxLen; omega)
  rwa [byteCells_len] at h
set_option maxRecDepth 8000 in
set_option maxHeartbeats 4000000 in
theorem text_c (s : ByteArray) (w : World) (hs : s.size ≤ 140737488351232) :
    Calls Tryd.prog 38 #[.string s] w fun e w' => TxtV s.data.toList w w' e := by
  have HSL : Hid (s.data.toList.length = s.size) := by show _ = _; rw [Array.length_toList]; rfl
  have HO := Lib.hid (own_lit w [34] #[.int .u8 34] rfl (by decide))
  go_enter Tryd.func38, Tryd.ntmps38
  go_wp2_with fail
  go_loopg [3, 4] s.size (fun g s3 s4 wx => ∃ k : Nat, k + g = s.size ∧ s4 = .int .i64 k ∧ (34 :: strB (s.data.toList.take k)).length ≤ 16390 ∧ wx.ownsRow w.heap.size 5 1 s3 (34 :: strB (s.data.toList.take k)).length (byteCells (34 :: strB (s.data.toList.take k))) ∧ Below w.heap.size w wx)
  case atStart => exact ⟨0, by omega, rfl, by simp [strB], HO.out, (Below.refl _ _).alloc (Nat.le_refl _) _⟩
  case round =>
    obtain ⟨k, hkg, rfl, hlen, hrow, hbx⟩ := hrel
    obtain ⟨L, hL⟩ : ∃ L, 34 :: strB (s.data.toList.take k) = L := ⟨_, rfl⟩
    rw [hL] at hrow hlen
    have HLE := Lib.hid hL
    clear hL
    obtain ⟨p, c0, rfl⟩ := own_val hrow
    by_cases hend : k < s.size ∧ L.length ≤ 16384
    · obtain ⟨hks, hl⟩ := hend
      cases gk with
      | zero => omega
      | succ g =>
        have hkI : (k : Int) < (s.size : Int) := by omega
        have hlI : (L.length : Int) ≤ 16384 := by omega
        have HQ := Lib.hid (strB_snoc (s.data.toList.take k) s[k])
        have HT := Lib.hid (take_text s k hks)
        obtain ⟨c, hc⟩ : ∃ c, s[k] = c := ⟨_, rfl⟩
        rw [hc] at HQ HT
        have HN : Hid (34 :: strB (s.data.toList.take (k + 1)) = L ++ sB c) := by show _ = _; rw [HT.out, HQ.out, ← HLE.out]; rfl
        have hcc : (s[k].toNat : Int) = (c.toNat : Int) := by rw [hc]
        have hcl := c.toNat_lt
        clear HQ HT HLE
        by_cases hbad : c.toNat < 32 ∨ 126 < c.toNat
        · have HSB : Hid (sB c = [92, 117, 48, 48, sg (c.toNat / 16), sg (c.toNat % 16)]) := by show _ = _; unfold sB; rw [if_pos hbad]
          rw [HSB.out] at HN
          have HS1 := Lib.hid (fun w => sign_i (c.toNat / 16) ((c.toNat : Int) / 16) (by omega) (by omega) w)
          have HS2 := Lib.hid (fun w => sign_i (c.toNat % 16) ((c.toNat : Int) % 16) (by omega) (by omega) w)
          obtain ⟨x, hx⟩ : ∃ x, sg (c.toNat / 16) = x := ⟨_, rfl⟩
          obtain ⟨y, hy⟩ : ∃ y, sg (c.toNat % 16) = y := ⟨_, rfl⟩
          rw [hx] at HS1 HN
          rw [hy] at HS2 HN
          clear hx hy
          by_cases h31 : c.toNat < 32
          all_goals
            (first | (have i1 : (c.toNat : Int) < 32 := by omega) | (have i1 : ¬ ((c.toNat : Int) < 32) := by omega))
            (try (have i2 : (c.toNat : Int) > 126 := by omega))
            clear hbad h31
            go_wp2_with fail
            refine (HS1.out wr).mono ?_
            rintro e w' ⟨rfl, rfl⟩
            go_wp2_with fail
            refine (HS2.out wr).mono ?_
            rintro e w' ⟨rfl, rfl⟩
            go_wp2_with (first
              | (at_builtin; (refine wpList_append_in8 rfl (.tmp 27) (.tmp 36) rfl w.heap.size _ L.length _ rfl (hrow.alloc _) _ 6 6 [92, 117, 48, 48, x, y] rfl (in8_new wr #[.int .u8 92, .int .u8 117, .int .u8 48, .int .u8 48, .int .u8 (x.toNat : Int), .int .u8 (y.toNat : Int)] [92, 117, 48, 48, x, y] rfl) rfl (fun h => by cases h) (by omega) (by have := hbx.size; simp; omega) ?_); intro v7 w7 hn7 hbb; have hb7 := hbb w (hbx.alloc hbx.size _) (Nat.le_refl _); clear hbb))
            go_roundg g
            case measure => omega
            case rel => exact ⟨k + 1, by omega, by go_num, by rw [HN.out, List.length_append]; simp only [List.length_cons, List.length_nil]; omega, by rw [HN.out, List.length_append, byteCells_append]; exact hn7, hb7⟩
        · have i1 : ¬ ((c.toNat : Int) < 32) := by omega
          have i2 : ¬ ((c.toNat : Int) > 126) := by omega
          by_cases hq : c = 34 ∨ c = 92
          · have HSB : Hid (sB c = [92, c]) := by show _ = _; unfold sB; rw [if_neg hbad, if_pos hq]
            rw [HSB.out] at HN
            by_cases h34 : c = 34
            all_goals
              (first | (have j1 : ((c.toNat : Int) == 34) = true := by rw [h34]; rfl) | (have j1 : ((c.toNat : Int) == 34) = false := ne_byte h34))
              (try (have j2 : ((c.toNat : Int) == 92) = true := by rw [hq.resolve_left h34]; rfl))
              clear hbad hq h34
              go_wp2_with (first
                | (at_builtin; (refine wpList_append_one rfl (.tmp 44) (.tmp 45) rfl w.heap.size _ L.length L rfl hrow 92 _ rfl rfl (by omega) hbx.size ?_); intro g7 c7 w7 hn7 hg7 ho7 hl7; have hb7 := hbx.grown hg7 hbx.size (fun x hx => (hrow.lt _ hx).1); clear hg7 ho7)
                | (at_builtin; (refine wpList_append_one rfl (.tmp 47) (.tmp 49) rfl w.heap.size _ (L.length + 1) (L ++ [92]) rfl hn7 c _ rfl rfl (by omega) hb7.size ?_); intro g8 c8 w8 hn8 hg8 ho8 hl8; have hb8 := hb7.grown hg8 hb7.size (fun x hx => (hn7.lt _ hx).1); clear hg8 ho8))
              go_roundg g
              case measure => omega
              case rel => exact ⟨k + 1, by omega, by go_num, by rw [HN.out, List.length_append]; simp only [List.length_cons, List.length_nil]; omega, by rw [HN.out, List.length_append]; simpa using hn8, hb8⟩
          · have HSB : Hid (sB c = [c]) := by show _ = _; unfold sB; rw [if_neg hbad, if_neg hq]
            rw [HSB.out] at HN
            have j1 : ((c.toNat : Int) == 34) = false := ne_byte (fun e => hq (Or.inl e))
            have j2 : ((c.toNat : Int) == 92) = false := ne_byte (fun e => hq (Or.inr e))
            clear hbad hq
            go_wp2_with (at_builtin; (refine wpList_append_one rfl (.tmp 47) (.tmp 49) rfl w.heap.size _ L.length L rfl hrow c _ rfl rfl (by omega) hbx.size ?_); intro g7 c7 w7 hn7 hg7 ho7 hl7; have hb7 := hbx.grown hg7 hbx.size (fun x hx => (hrow.lt _ hx).1); clear hg7 ho7)
            go_roundg g
            case measure => omega
            case rel => exact ⟨k + 1, by omega, by go_num, by rw [HN.out, List.length_append]; simp only [List.length_cons, List.length_nil]; omega, by rw [HN.out, List.length_append]; exact hn7, hb7⟩
    · have HT : Hid (TxtOf s.data.toList (L ++ [34])) := by
        refine ⟨by simp; omega, ?_⟩
        by_cases hk : k < s.size
        · refine Or.inr ⟨by simp; omega, ?_⟩
          have h1 := strB_take_le s.data.toList k
          have h2 := congrArg List.length HLE.out
          unfold strT
          simp only [List.length_cons, List.length_append, List.length_nil] at h2 ⊢
          omega
        · refine Or.inl ?_
          rw [← HLE.out, List.take_of_length_le (by rw [HSL.out]; omega)]
          rfl
      by_cases hk : k < s.size
      all_goals
        (first | (have hkI : (k : Int) < (s.size : Int) := by omega) | (have hkI : ¬ ((k : Int) < (s.size : Int)) := by omega))
        (try (have hlI : ¬ ((L.length : Int) ≤ 16384) := by omega))
        clear hend hk
        go_wp2_with (at_builtin; (refine wpList_append_one rfl (.tmp 51) (.tmp 52) rfl w.heap.size _ L.length L rfl hrow 34 _ rfl rfl (by omega) hbx.size ?_); intro g7 c7 w7 hn7 hg7 ho7 hl7; have hb7 := hbx.grown hg7 hbx.size (fun x hx => (hrow.lt _ hx).1); clear hg7 ho7; have hcv := conv_own hn7; have HB7 := Lib.hid hb7; clear hn7 hb7 hrow)
        go_ret
        exact ⟨_, HT.out, rfl, HB7.out⟩
end Go.Proofs.YtbgnoobgnpebdaaDoor.jsn
