/- The contract of octet's unspell: the walk (texts up to 140737488355328 signs). -/
import Derived.Test.YtddihhpahghajaaDoorOct7
namespace Go.Proofs.YtddihhpahghajaaDoor.oct
open Go.RowKit
open Go.Proofs.YtddihhpahghajaaDoor.pl
open Go.Lib (byteCells)

/-- what unspell comes to -/
def Read (sg : Nat → UInt8) (wd : Nat) (s : List UInt8) (w : World) (e : Ending) (w' : World) : Prop :=
  (∃ out v, text sg (enc wd out) = s ∧ e = .returned (.tuple #[v, .int .i64 0]) ∧ w'.ownsRow w.heap.size 5 1 v out.length (byteCells out) ∧ Below w.heap.size w w') ∨
  ((∀ o, text sg (enc wd o) ≠ s) ∧ e = .returned (.tuple #[.slice none 0 0, .int .i64 3]) ∧ Below w.heap.size w w')

theorem mul_bd (a b : Nat) (ha : a ≤ 140737488355328) (hb : b ≤ 6) : 0 ≤ (a : Int) * (b : Int) ∧ (a : Int) * (b : Int) ≤ 844424930131968 := by
  have h := Nat.mul_le_mul ha hb
  rw [← Int.natCast_mul]
  omega

set_option maxHeartbeats 2000000 in
theorem unspell_c (s S : ByteArray) (wd : Nat) (w : World) (hs : s.size ≤ 140737488355328) (hwd : wd = 4 ∨ wd = 6) (hS : S.size = 2 ^ wd) (hinj : ∀ a b, a < 2 ^ wd → b < 2 ^ wd → sgS S a = sgS S b → a = b) :
    Calls Tryd.prog 36 #[.string s, .string S, .int .i64 wd] w (Read (sgS S) wd s.data.toList w) := by
  obtain ⟨j0, hj, hy0, hy1, hy2⟩ := info_parts infoByte
  have HI := Lib.hid hinj
  have HS := Lib.hid hS
  have hw4 : 4 ≤ wd := by omega
  have hw6 : wd ≤ 6 := by omega
  have HSL : Hid (s.data.toList.length = s.size) := by show _ = _; rw [Array.length_toList]; rfl
  have HSS : Hid (S.data.toList.length = S.size) := by show _ = _; rw [Array.length_toList]; rfl
  obtain ⟨hm0, hm1⟩ := mul_bd s.size wd hs hw6
  have HC : Hid ((s.size : Int) * (wd : Int) / 8 = ((s.size * wd / 8 : Nat) : Int)) := by show _ = _; omega
  have hcb : s.size * wd / 8 ≤ 105553116266496 := by have := Nat.mul_le_mul hs hw6; omega
  clear hinj hS hwd
  go_enter Tryd.func36, Tryd.ntmps36
  go_wp2_with fail
  go_step3
  go_wp2_with (first
    | (at_make; refine wpList_make_own _ rfl _ _ 22 rfl w.heap.size 5 j0 (.int .u8 0) 1 Tryd.underlying22 hj hy0 hy1 .i64 .i64 _ (s.size * wd / 8) rfl rfl (by first | exact HC.out | (simp; exact HC.out)) (by rw [hy2]; omega) (by unfold maxLen; omega) (Nat.le_refl _) ?_; intro w1 hown hgrow))
  go_step3
  go_wp2_with fail
  have hb0 : Below w.heap.size w w1 := (Below.refl _ w).grown hgrow (Nat.le_refl _) (fun k hk => by cases hk)
  go_loopg [8, 9, 10, 11] s.size (fun g s8 s9 s10 s11 wx => ∃ (n : Nat) (ws : List Nat) (out : List UInt8) (rest : List Bool), n + g = s.size ∧ s11 = .int .i64 n ∧ s9 = .int .i64 (num rest) ∧ s10 = .int .i64 rest.length ∧ rest.length < 8 ∧
    Hid (Unspelt (sgS S) wd s.data.toList n ws out rest) ∧ wx.ownsRow w.heap.size 5 1 s8 out.length (byteCells out) ∧ Below w.heap.size w wx)
  case atStart => exact ⟨0, [], [], [], by omega, rfl, rfl, rfl, by simp, Unspelt.start, hown, hb0⟩
  case round =>
    clear hown hb0 hgrow
    obtain ⟨n, ws, out, rest, hng, rfl, rfl, rfl, hr8, HU, hrow, hbx⟩ := hrel
    obtain ⟨go, rfl⟩ : ∃ go : Nat, go = gk := ⟨_, rfl⟩
    go_wp2_with fail
    go_loopg [9, 10, 11] go (fun g2 s9 s10 s11 wy => ∃ (n2 : Nat) (ws : List Nat) (rest : List Bool), n2 + g2 = s.size ∧ n ≤ n2 ∧ (n2 = n → rest.length < 8) ∧ s11 = .int .i64 n2 ∧ s9 = .int .i64 (num rest) ∧ s10 = .int .i64 rest.length ∧ rest.length < 8 + wd ∧ 
      Hid (Unspelt (sgS S) wd s.data.toList n2 ws out rest) ∧ wr = wy)
    case atStart => exact ⟨n, ws, rest, by omega, Nat.le_refl _, fun _ => hr8, rfl, rfl, rfl, by omega, HU, rfl⟩
    case round =>
      clear HU hr8
      obtain ⟨n2, ws, rest, hn2, hnn, hnew, rfl, rfl, rfl, hrl, HU, rfl⟩ := hrel
      have hn1 : num rest < 16384 := Nat.lt_of_lt_of_le (num_lt rest) (Nat.pow_le_pow_right (n := 2) (j := 14) (by decide) (by omega))
      by_cases hlt : rest.length < 8
      · by_cases hend : n2 < s.size
        · have hne : ((n2 : Int) == (s.size : Int)) = false := by rw [beq_eq_false_iff_ne]; omega
          have HG : Hid (s[n2] = s.data.toList.getD n2 0) := by show _ = _; simp [List.getD, List.getElem?_eq_getElem (show n2 < s.data.toList.length by rw [HSL.out]; omega)]; rfl
          have hx := indexByte_spec S.data.toList (s[n2])
          have HA : Hid (((s[n2].toNat : Int)).toNat.toUInt8 = s[n2]) := by show _ = _; simp
          rcases hx with ⟨d, hd, hdS, hdI⟩ | ⟨hnone, hdI⟩
          · rw [← HA.out] at hdI
            have HDI := Lib.hid hdI
            have hd2 : d < 2 ^ wd := by rw [← HS.out, ← HSS.out]; exact hd
            have hd64 : d < 64 := Nat.lt_of_lt_of_le hd2 (Nat.pow_le_pow_right (n := 2) (j := 6) (by decide) hw6)
            have HU2 := Lib.hid (HU.out.sign (by rw [HSL.out]; exact hend) d hd2 (by rw [← HG.out, ← hdS]; rfl))
            obtain ⟨x, hx⟩ : ∃ x, num rest * 2 ^ wd = x := ⟨_, rfl⟩
            have hx1 : ((num rest : Nat) : Int) * 2 ^ wd = (x : Int) := by rw [← hx]; simp
            have hr128 : num rest < 128 := Nat.lt_of_lt_of_le (num_lt rest) (Nat.pow_le_pow_right (n := 2) (j := 7) (by decide) (by omega))
            have hxb : x ≤ 8192 := by rw [← hx]; exact Nat.le_trans (Nat.mul_le_mul (show num rest ≤ 128 by omega) (Nat.pow_le_pow_right (n := 2) (j := 6) (by decide) hw6)) (by decide)
            have hor : bits .or .i64 (x : Int) (d : Int) = ((num (rest ++ bitsN wd d) : Nat) : Int) := by
              have e : (2 : Int) ^ wd = ((2 ^ wd : Nat) : Int) := by simp
              rw [bits_join .i64 62 (by decide) wraps_i64 wd _ _ (by omega) (by rw [e, ← hx]; norm_cast; exact Nat.mul_mod_left _ _) (by omega) (by omega) (by rw [e]; exact_mod_cast hd2) (by omega), num_append, num_bitsN, bitsN_len, Nat.mod_eq_of_lt hd2, hx]
              simp
            have hlr : (rest ++ bitsN wd d).length = rest.length + wd := by rw [List.length_append, bitsN_len]
            have HLR := Lib.hid hlr
            clear hx hd hdS hdI hlr HG
            go_wp2_with (go_at_call 46; refine (sh.indexByte S _ _).mono ?_; rintro e w2 ⟨rfl, rfl⟩; rw [HDI.out])
            go_roundg (s.size - (n2 + 1))
            case measure => omega
            case rel => exact ⟨n2 + 1, ws ++ [d], rest ++ bitsN wd d, by omega, by omega, fun h => by omega, by go_num, rfl, by rw [HLR.out]; go_num, by rw [HLR.out]; omega, HU2, rfl⟩
          · rw [← HA.out] at hdI
            have HDI := Lib.hid hdI
            have HF := Lib.hid (Unspelt.alien (sg := sgS S) (wd := wd) (n := n2) (s := s.data.toList) (by rw [HSL.out]; exact hend) (fun d hd => by rw [← HG.out]; exact hnone d (by rw [HSS.out, HS.out]; exact hd)) (by omega))
            clear hnone hdI HG
            go_wp2_with (go_at_call 46; refine (sh.indexByte S _ _).mono ?_; rintro e w2 ⟨rfl, rfl⟩; rw [HDI.out])
            rw [Exit.noGoto_ret]
            go_ret2
            exact Or.inr ⟨HF.out, rfl, hbx⟩
        · have hne : ((n2 : Int) == (s.size : Int)) = true := by rw [beq_iff_eq]; omega
          have HN : Hid (n2 = s.data.toList.length) := by show _ = _; rw [HSL.out]; omega
          by_cases ha : wd ≤ rest.length
          · have HF := Lib.hid (HU.out.none HI.out HN.out (by omega) (by omega) hlt (Or.inl ha))
            go_wp2_with fail
            rw [Exit.noGoto_ret]
            go_ret2
            exact Or.inr ⟨HF.out, rfl, hbx⟩
          · by_cases h0 : num rest = 0
            · have HF := Lib.hid (HU.out.done HN.out (by omega) h0)
              have hz : ((num rest : Int) != 0) = false := by simp [h0]
              clear h0
              go_wp2_with fail
              rw [Exit.noGoto_ret]
              go_ret2
              exact Or.inl ⟨out, _, HF.out, rfl, hrow, hbx⟩
            · have HF := Lib.hid (HU.out.none HI.out HN.out (by omega) (by omega) hlt (Or.inr h0))
              have hz : ((num rest : Int) != 0) = true := by rw [bne_iff_ne]; omega
              clear h0
              go_wp2_with fail
              rw [Exit.noGoto_ret]
              go_ret2
              exact Or.inr ⟨HF.out, rfl, hbx⟩
      · obtain ⟨m, hm⟩ : ∃ m, rest.length = m + 8 := ⟨rest.length - 8, by omega⟩
        obtain ⟨d, hd⟩ : ∃ d, num (rest.take 8) = d := ⟨_, rfl⟩
        obtain ⟨rs, hrs⟩ : ∃ rs, rest.drop 8 = rs := ⟨_, rfl⟩
        have hsplit : rest.take 8 ++ rest.drop 8 = rest := List.take_append_drop _ _
        have hrsl : rs.length = m := by rw [← hrs, List.length_drop]; omega
        have hval : num rest = d * 2 ^ m + num rs := by rw [← hsplit, num_append, hd, hrs, hrsl]
        have hrlt : num rs < 2 ^ m := by have := num_lt rs; rwa [hrsl] at this
        have hd256 : d < 256 := by have := num_lt (rest.take 8); rwa [hd, List.length_take, Nat.min_eq_left (by omega)] at this
        have h2m := two_pow_le m (by omega)
        have h2p := two_pow_pos m
        have hq : ((num rest : Nat) : Int) / 2 ^ m = (d : Int) := by
          have : num rest / 2 ^ m = d := by rw [hval, Nat.mul_comm, Nat.mul_add_div (Nat.two_pow_pos m), Nat.div_eq_of_lt hrlt, Nat.add_zero]
          rw [← this]; simp
        have hand : bits .and .i64 ((num rest : Nat) : Int) (2 ^ m - 1) = ((num rs : Nat) : Int) := by
          rw [bits_mask .i64 62 (by decide) wraps_i64 m (by omega) _ (by omega) (by omega)]
          have : num rest % 2 ^ m = num rs := by rw [hval, Nat.mul_comm, Nat.mul_add_mod, Nat.mod_eq_of_lt hrlt]
          rw [← this]; simp
        have hmod : (d : Int) % 256 = (d : Int) := by omega
        have HB : Hid (byteCells (out ++ [UInt8.ofNat d]) = byteCells out ++ [.int .u8 (d : Int)]) := by show _ = _; rw [byteCells_snoc, UInt8.toNat_ofNat', Nat.mod_eq_of_lt (by omega)]
        have HU2 : Hid (Unspelt (sgS S) wd s.data.toList n2 ws (out ++ [UInt8.ofNat d]) rs) := by show Unspelt _ _ _ _ _ _ _; rw [← hd, ← hrs]; exact HU.out.byte (by omega)
        have hlo : out.length ≤ 105553116266496 := by have := HU.out.len; have h3 := Nat.mul_le_mul hw6 (show n2 ≤ s.size by omega); omega
        rw [hm]
        clear hsplit hd hrs hval hrlt HU
        go_wp2_with (first
          | (at_builtin; refine wpList_append_own _ rfl _ _ 22 rfl w.heap.size 5 j0 (.int .u8 0) 1 1 Tryd.underlying22 hj hy0 hy1 hy2 rfl (by decide) _ _ _ rfl (hrow.alloc _) ⟨wr.heap.size, 0, none⟩ 1 1 [.int .u8 (d : Int)] rfl rfl (cell_one_new _ _ _) (fun x hx => by simp at hx; subst hx; rfl) (by unfold maxLen; omega) (by omega) (by have := hbx.size; simp; omega) ?_; intro v' w1 hown' hgrow _))
        go_roundg (s.size - n2)
        case measure => omega
        case rel =>
          refine ⟨n2, ws, out ++ [UInt8.ofNat d], rs, by omega, rfl, rfl, by rw [hrsl], by omega, HU2, ?_, (hbx.alloc hbx.size _).grown hgrow (by have := hbx.size; simp; omega) (fun q hq => (hrow.lt q hq).1)⟩
          rw [HB.out, List.length_append]
          exact hown'
end Go.Proofs.YtddihhpahghajaaDoor.oct
