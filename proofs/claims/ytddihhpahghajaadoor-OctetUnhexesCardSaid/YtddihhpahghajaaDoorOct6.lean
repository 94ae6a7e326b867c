/- The contract of octet's spell: the digits of 4 or of 6 bits that tell a row of bytes (texts up to 2^47 signs). -/
import Derived.Test.YtddihhpahghajaaDoorOct4
import Derived.Test.YtddihhpahghajaaDoorShBuild
namespace Go.Proofs.YtddihhpahghajaaDoor.oct
open Go.RowKit
open Go.Proofs.YtddihhpahghajaaDoor.pl
open Go.Lib (byteCells)

/-- the sign at n of a text of signs -/
def sgS (S : ByteArray) (n : Nat) : UInt8 := S.data.toList.getD n 0

/-- what a round of spell leaves: digits that are written, bits that are left *)-/
def Spelt (wd : Nat) (L : List Bool) (ds : List Nat) (rest : List Bool) : Prop :=
  flat wd ds ++ rest = L ∧ (∀ d ∈ ds, d < 2 ^ wd) ∧ wd * ds.length + rest.length = L.length
theorem Spelt.start (wd : Nat) : Spelt wd (bitsOf []) [] [] := ⟨rfl, by simp, rfl⟩
theorem Spelt.byte {wd : Nat} {l : List UInt8} {ds : List Nat} {rest : List Bool} (c : UInt8) (h : Spelt wd (bitsOf l) ds rest) : Spelt wd (bitsOf (l ++ [c])) ds (rest ++ bitsN 8 c.toNat) := by
  obtain ⟨h1, h2, h3⟩ := h
  refine ⟨by rw [← List.append_assoc, h1, bitsOf_snoc], h2, ?_⟩
  rw [bitsOf_snoc, List.length_append, List.length_append, bitsN_len]; omega
theorem Spelt.digit {wd : Nat} {L : List Bool} {ds : List Nat} {rest : List Bool} (h : Spelt wd L ds rest) (hr : wd ≤ rest.length) : Spelt wd L (ds ++ [num (rest.take wd)]) (rest.drop wd) := by
  obtain ⟨h1, h2, h3⟩ := h
  refine ⟨?_, ?_, ?_⟩
  · rw [flat_snoc, bitsN_num' (by rw [List.length_take]; omega), List.append_assoc, List.take_append_drop, h1]
  · intro d hd
    rcases List.mem_append.1 hd with hd | hd
    · exact h2 d hd
    · rw [List.mem_singleton.1 hd]
      have := num_lt (rest.take wd)
      rwa [List.length_take, Nat.min_eq_left hr] at this
  · rw [List.length_append, List.length_drop, List.length_singleton, Nat.mul_add]; omega
theorem Spelt.bound {wd k : Nat} {l : List UInt8} {ds : List Nat} {rest : List Bool} (h : Spelt wd (bitsOf (l.take k)) ds rest) (hw : 4 ≤ wd) (hl : 8 * l.length ≤ wd * 140737488355328) : ds.length ≤ 140737488355328 := by
  have h3 := h.2.2
  rw [bitsOf_len] at h3
  have h4 : (l.take k).length ≤ l.length := by rw [List.length_take]; omega
  have h5 : wd * ds.length ≤ wd * 140737488355328 := by omega
  exact Nat.le_of_mul_le_mul_left h5 (by omega)
theorem Spelt.bound2 {wd : Nat} {l : List UInt8} {ds : List Nat} {rest : List Bool} (h : Spelt wd (bitsOf l) ds rest) (hr : 0 < rest.length) (hl : 8 * l.length ≤ wd * 140737488355328) : ds.length + 1 ≤ 140737488355328 := by
  have h3 := h.2.2
  rw [bitsOf_len] at h3
  have h5 : wd * ds.length < wd * 140737488355328 := by omega
  exact Nat.lt_of_mul_lt_mul_left h5
theorem Spelt.done {wd : Nat} {l : List UInt8} {ds : List Nat} {rest : List Bool} (h : Spelt wd (bitsOf l) ds rest) (hw : 0 < wd) (hr : rest.length = 0) : ds = enc wd l := by
  obtain ⟨h1, h2, h3⟩ := h
  obtain rfl : rest = [] := List.eq_nil_of_length_eq_zero hr
  exact Tells.eq_enc hw ⟨h2, 0, hw, by simpa using h1⟩
theorem Spelt.last {wd : Nat} {l : List UInt8} {ds : List Nat} {rest : List Bool} (h : Spelt wd (bitsOf l) ds rest) (hr : 0 < rest.length) (hr2 : rest.length < wd) : ds ++ [num rest * 2 ^ (wd - rest.length)] = enc wd l := by
  obtain ⟨h1, h2, h3⟩ := h
  have hn : num (rest ++ List.replicate (wd - rest.length) false) = num rest * 2 ^ (wd - rest.length) := by rw [num_append, num_false, List.length_replicate, Nat.add_zero]
  refine Tells.eq_enc (by omega) ⟨?_, wd - rest.length, by omega, ?_⟩
  · intro d hd
    rcases List.mem_append.1 hd with hd | hd
    · exact h2 d hd
    · rw [List.mem_singleton.1 hd, ← hn]
      have := num_lt (rest ++ List.replicate (wd - rest.length) false)
      rwa [List.length_append, List.length_replicate, show rest.length + (wd - rest.length) = wd from by omega] at this
  · rw [flat_snoc, ← hn, bitsN_num' (by rw [List.length_append, List.length_replicate]; omega), ← List.append_assoc, h1]

theorem wraps_i64 (n : Int) (h₀ : 0 ≤ n) (h₁ : n < 2 ^ 62) : IntKind.i64.wrap n = n := by rw [IntKind.wrap_i64]; omega
theorem or_step (rest : List Bool) (c : UInt8) (h : num rest < 2 ^ 40) : bits .or .i64 ((num rest : Int) * 256) (c.toNat : Int) = (num (rest ++ bitsN 8 c.toNat) : Int) := by
  have hc := c.toNat_lt
  rw [bits_join .i64 62 (by decide) wraps_i64 8 _ _ (by omega) (by omega) (by omega) (by omega) (by omega) (by omega), num_append, num_bitsN, bitsN_len, Nat.mod_eq_of_lt hc]
  simp

theorem two_pow_le (m : Nat) (h : m ≤ 9) : (2 : Int) ^ m ≤ 512 := by
  have h1 : 2 ^ m ≤ 512 := Nat.le_trans (Nat.pow_le_pow_right (n := 2) (by decide) h) (by decide)
  have e : ((2 ^ m : Nat) : Int) = (2 : Int) ^ m := by simp
  rw [← e]
  exact Int.ofNat_le.2 h1
theorem two_pow_pos (m : Nat) : (1 : Int) ≤ (2 : Int) ^ m := by
  have e : ((2 ^ m : Nat) : Int) = (2 : Int) ^ m := by simp
  rw [← e]
  exact Int.ofNat_le.2 (Nat.two_pow_pos m)
theorem sign_cells (S : ByteArray) (d : Nat) (h : d < S.size) : Lib.strCells (S.extract d (d + 1)) = [.int .u8 ((sgS S d).toNat : Int)] ∧ (S.extract d (d + 1)).size = 1 := by
  have hl : d < S.data.toList.length := by rw [Array.length_toList]; exact h
  have e : (S.extract d (d + 1)).data.toList = [sgS S d] := by
    rw [Lib.extract_data S d (d + 1), Nat.add_sub_cancel_left, sgS]
    simp [List.take_one, List.getD, List.getElem?_eq_getElem hl]
  refine ⟨?_, ?_⟩
  · unfold Lib.strCells; rw [e]; rfl
  · rw [Lib.size_eq, e]; rfl

theorem grow_bd (n wd : Nat) (hn : 8 * n ≤ wd * 140737488355328) (hw : 4 ≤ wd) : 0 ≤ ((n : Int) * 8 + (wd : Int) - 1) / (wd : Int) ∧ ((n : Int) * 8 + (wd : Int) - 1) / (wd : Int) ≤ 281474976710656 := by
  have e : ((n : Int) * 8 + (wd : Int) - 1) / (wd : Int) = (((n * 8 + wd - 1) / wd : Nat) : Int) := by
    rw [Int.natCast_ediv]; congr 1; omega
  rw [e]
  have h1 : (n * 8 + wd - 1) / wd ≤ 281474976710656 := by
    refine Nat.div_le_of_le_mul ?_
    omega
  exact ⟨Int.natCast_nonneg _, Int.ofNat_le.2 h1⟩
theorem grow_int (B b : Nat) (N : Int) (w : World) (hB : B ≤ b) (hbk : w.heap[b]? = some (.cells #[.pointer none, .slice none 0 0] 47 (0, 0))) (hBw : B ≤ w.heap.size) (h0 : 0 ≤ N) (hn : N ≤ 281474976710656) :
    Calls Tryd.prog 43 #[.pointer (some ⟨b, 0, none⟩), .int .i64 N] w fun e w' => e = .returned (.tuple #[]) ∧ (Lib.BuilderAt 47 5 B b (.pointer (some ⟨b, 0, none⟩)) [] w' ∧ Below B w w') := by
  obtain ⟨n, rfl⟩ := Int.eq_ofNat_of_zero_le h0
  exact (sh.grow_fresh B b n w hB hbk hBw (by omega)).mono fun e w' h => ⟨h.1, h.2.1⟩

set_option maxHeartbeats 1000000 in
theorem spell_c (p : Option Addr) (cp : Nat) (l : List UInt8) (S : ByteArray) (wd : Nat) (w : World) (hp : In8 w p l) (hl : 8 * l.length ≤ wd * 140737488355328) (hwd : wd = 4 ∨ wd = 6) (hS : S.size = 2 ^ wd) :
    Calls Tryd.prog 34 #[.slice p l.length cp, .string S, .int .i64 wd] w fun e w' =>
      e = .returned (.string ⟨(text (sgS S) (enc wd l)).toArray⟩) ∧ Below w.heap.size w w' := by
  have HP := Lib.hid hp
  clear hp
  have HBK : Hid ((w.alloc (.cells #[.pointer none, .slice none 0 0] 47)).heap[w.heap.size]? = some (.cells #[.pointer none, .slice none 0 0] 47 (0, 0))) := heap_alloc_new w _
  have hw4 : 4 ≤ wd := by omega
  have hw6 : wd ≤ 6 := by omega
  have hS64 : S.size ≤ 64 := by rcases hwd with rfl | rfl <;> rw [hS] <;> decide
  obtain ⟨hg0, hg1⟩ := grow_bd l.length wd hl hw4
  clear hwd
  have HS := Lib.hid hS
  clear hS
  go_enter Tryd.func34, Tryd.ntmps34
  go_wp2_with fail
  go_step3
  go_wp2_with (go_at_call 43; refine (grow_int w.heap.size w.heap.size _ _ (Nat.le_refl _) HBK.out (by simp) hg0 hg1).mono ?_; rintro e w1 ⟨rfl, hB1, hbl1⟩)
  go_step3
  go_wp2_with fail
  have hb0 : Below w.heap.size w w1 := ((Below.refl _ w).alloc (Nat.le_refl _) _).trans hbl1
  go_loopg [8, 9, 25] l.length (fun g s8 s9 s25 wx => ∃ (k : Nat) (ds : List Nat) (rest : List Bool), k + g = l.length ∧ s25 = .int .i64 k ∧ s8 = .int .i64 (num rest) ∧ s9 = .int .i64 rest.length ∧ rest.length < wd ∧ Hid (Spelt wd (bitsOf (l.take k)) ds rest) ∧
    Lib.BuilderAt 47 5 w.heap.size w.heap.size (.pointer (some ⟨w.heap.size, 0, none⟩)) (byteCells (text (sgS S) ds)) wx ∧ Below w.heap.size w wx)
  case atStart => exact ⟨0, [], [], by omega, rfl, rfl, rfl, by simp; omega, Spelt.start _, hB1, hb0⟩
  case round =>
    clear hB1 hbl1 hb0
    obtain ⟨k, ds, rest, hkg, rfl, rfl, rfl, hrl, HSP, hB, hbx⟩ := hrel
    cases gk with
    | zero =>
      have hkz : ¬ ((k : Int) < (l.length : Int)) := by omega
      have HSL : Hid (Spelt wd (bitsOf l) ds rest) := by have := HSP.out; rwa [List.take_of_length_le (by omega)] at this
      by_cases h0 : rest.length = 0
      · have hds := HSL.out.done (by omega) h0
        rw [hds] at hB
        have h0' : ¬ ((0 : Int) < (rest.length : Int)) := by omega
        clear h0 hds
        go_wp2_with (go_at_call 45; refine (sh.string_any w.heap.size w.heap.size _ _ (Or.inr hB) hbx.size).mono ?_; rintro e w2 ⟨rfl, hb2⟩)
        rw [Exit.noGoto_ret]
        go_ret
        exact ⟨rfl, hbx.trans hb2⟩
      · have h0' : (0 : Int) < (rest.length : Int) := by omega
        have hlast := HSL.out.last (by omega) hrl
        have hdl1 : ds.length + 1 ≤ 140737488355328 := HSL.out.bound2 (by omega) hl
        have hd1 : num rest * 2 ^ (wd - rest.length) < 2 ^ wd := by
          have := (enc_tells (by omega : 0 < wd) l).1
          rw [← hlast] at this
          exact this _ (by simp)
        obtain ⟨d, hd⟩ : ∃ d, num rest * 2 ^ (wd - rest.length) = d := ⟨_, rfl⟩
        rw [hd] at hlast hd1
        have hq : ((num rest : Nat) : Int) * 2 ^ (wd - rest.length) = (d : Int) := by rw [← hd]; simp
        have hdS : d < S.size := by rw [HS.out]; exact hd1
        have HL := Lib.hid hlast
        have HSC := Lib.hid (sign_cells S d hdS)
        have hbl2 : (byteCells (text (sgS S) ds)).length + (S.extract d (d + 1)).size ≤ 140737488355328 := by rw [byteCells_len, HSC.out.2]; simp [text]; omega
        clear h0 hlast hd hd1
        go_wp2_with (first
          | (go_at_call 44; refine (sh.writeString w.heap.size w.heap.size _ _ _ (Or.inr hB) hbl2 hbx.size).mono ?_; rintro e w2 ⟨rfl, hB2, hb2⟩; rw [HSC.out.1, ← byteCells_snoc, show text (sgS S) ds ++ [sgS S d] = text (sgS S) (ds ++ [d]) from by simp [text], HL.out] at hB2; have hb3 := hbx.trans hb2)
          | (go_at_call 45; refine (sh.string_any w.heap.size w.heap.size _ _ (Or.inr hB2) hb3.size).mono ?_; rintro e w3 ⟨rfl, hb4⟩))
        rw [Exit.noGoto_ret]
        go_ret
        exact ⟨rfl, hb3.trans hb4⟩
    | succ g =>
      have hkz : (k : Int) < (l.length : Int) := by omega
      obtain ⟨b, o, rfl, hc⟩ := HP.out.at (by omega)
      have hbl : b < w.heap.size := HP.out.blt (by omega)
      have hcell := (hbx.cell (p := ⟨b, o + k, none⟩) hbl).trans (hc k (by omega))
      obtain ⟨c, hcd⟩ : ∃ c : UInt8, l.getD k 0 = c := ⟨_, rfl⟩
      have HT : Hid (l.take (k + 1) = l.take k ++ [c]) := by
        show _ = _
        rw [List.take_succ_eq_append_getElem (by omega), ← hcd]; simp [List.getD, List.getElem?_eq_getElem (show k < l.length by omega)]
      rw [hcd] at hcell
      have hc256 := c.toNat_lt
      have hn1 : num rest < 64 := Nat.lt_of_lt_of_le (num_lt rest) (Nat.pow_le_pow_right (n := 2) (j := 6) (by decide) (by omega))
      have HOR := Lib.hid (or_step rest c (by omega))
      have HS2 : Hid (Spelt wd (bitsOf (l.take (k + 1))) ds (rest ++ bitsN 8 c.toNat)) := by show Spelt _ _ _ _; rw [HT.out]; exact HSP.out.byte c
      have hlr : (rest ++ bitsN 8 c.toNat).length = rest.length + 8 := by rw [List.length_append, bitsN_len]
      obtain ⟨rest2, hr2⟩ : ∃ r, rest ++ bitsN 8 c.toNat = r := ⟨_, rfl⟩
      rw [hr2] at HOR HS2 hlr
      have HLR := Lib.hid hlr
      clear hc hcd hr2 hlr
      go_wp2_with fail
      go_loopg [8, 9, 12] (rest2.length) (fun g2 s8 s9 s12 wy => ∃ (ds : List Nat) (rest : List Bool), rest.length = g2 ∧ g2 ≤ 13 ∧ s8 = .int .i64 (num rest) ∧ s9 = .int .i64 g2 ∧ Hid (Spelt wd (bitsOf (l.take (k + 1))) ds rest) ∧
        Lib.BuilderAt 47 5 w.heap.size w.heap.size (.pointer (some ⟨w.heap.size, 0, none⟩)) (byteCells (text (sgS S) ds)) wy ∧ Below w.heap.size w wy)
      case atStart => exact ⟨ds, rest2, rfl, by rw [HLR.out]; omega, by rw [HOR.out], by rw [HLR.out]; go_num, HS2, hB, hbx⟩
      case round =>
        clear hB hbx HSP HOR HS2 hn1
        obtain ⟨ds, rest, hrg, hr13, rfl, rfl, HSP, hB, hbx⟩ := hrel
        have hn1 : num rest < 8192 := Nat.lt_of_lt_of_le (num_lt rest) (Nat.pow_le_pow_right (n := 2) (j := 13) (by decide) (by omega))
        by_cases hlt : gk < wd
        · go_wp2_with fail
          go_roundg g
          case measure => omega
          case rel => exact ⟨k + 1, ds, rest, by omega, by go_num, rfl, by rw [hrg], by omega, HSP, hB, hbx⟩
        · obtain ⟨m, rfl⟩ : ∃ m, gk = m + wd := ⟨gk - wd, by omega⟩
          obtain ⟨d, hd⟩ : ∃ d, num (rest.take wd) = d := ⟨_, rfl⟩
          obtain ⟨rs, hrs⟩ : ∃ rs, rest.drop wd = rs := ⟨_, rfl⟩
          have hsplit : rest.take wd ++ rest.drop wd = rest := List.take_append_drop _ _
          have hrsl : rs.length = m := by rw [← hrs, List.length_drop]; omega
          have hval : num rest = d * 2 ^ m + num rs := by rw [← hsplit, num_append, hd, hrs, hrsl]
          have hrlt : num rs < 2 ^ m := by have := num_lt rs; rwa [hrsl] at this
          have hdS : d < S.size := by have := num_lt (rest.take wd); rw [hd, List.length_take, Nat.min_eq_left (by omega)] at this; rw [HS.out]; exact this
          have h2m := two_pow_le m (by omega)
          have h2p := two_pow_pos m
          have hq : ((num rest : Nat) : Int) / 2 ^ m = (d : Int) := by
            have : num rest / 2 ^ m = d := by rw [hval, Nat.mul_comm, Nat.mul_add_div (Nat.two_pow_pos m), Nat.div_eq_of_lt hrlt, Nat.add_zero]
            rw [← this]; simp
          have hand : bits .and .i64 ((num rest : Nat) : Int) (2 ^ m - 1) = ((num rs : Nat) : Int) := by
            rw [bits_mask .i64 62 (by decide) wraps_i64 m (by omega) _ (by omega) (by omega)]
            have : num rest % 2 ^ m = num rs := by rw [hval, Nat.mul_comm, Nat.mul_add_mod, Nat.mod_eq_of_lt hrlt]
            rw [← this]; simp
          have HSP2 : Hid (Spelt wd (bitsOf (l.take (k + 1))) (ds ++ [d]) rs) := by show Spelt _ _ _ _; rw [← hd, ← hrs]; exact HSP.out.digit (by omega)
          have hdl : (ds ++ [d]).length ≤ 140737488355328 := HSP2.out.bound hw4 hl
          rw [List.length_append, List.length_singleton] at hdl
          clear hsplit hd hrs hval hrlt
          have HSC := Lib.hid (sign_cells S d hdS)
          have hbl2 : (byteCells (text (sgS S) ds)).length + (S.extract d (d + 1)).size ≤ 140737488355328 := by rw [byteCells_len, HSC.out.2]; simp [text]; omega
          go_wp2_with (go_at_call 44; refine (sh.writeString w.heap.size w.heap.size _ _ _ (Or.inr hB) hbl2 hbx.size).mono ?_; rintro e w2 ⟨rfl, hB2, hb2⟩)
          rw [HSC.out.1, ← byteCells_snoc, show text (sgS S) ds ++ [sgS S d] = text (sgS S) (ds ++ [d]) from by simp [text]] at hB2
          go_roundg m
          case measure => omega
          case rel => exact ⟨ds ++ [d], rs, hrsl, by omega, rfl, rfl, HSP2, hB2, hbx.trans hb2⟩
end Go.Proofs.YtddihhpahghajaaDoor.oct
