/- wire's small functions: folded, unfolded, digits, fail. A cursor's block holds its two cells. -/
import Derived.Test.YtpffebcaalbhjaaDoorWir1
import Derived.Test.YtpffebcaalbhjaaDoorBaseA
import Derived.WalkKit
import Derived.Lib.AppendStr
import Derived.Laws.BitsAllLaws
import Derived.Laws.Bits64b
namespace Go.Proofs.YtpffebcaalbhjaaDoor.wir
open Go.RowKit
open Go.Proofs.YtpffebcaalbhjaaDoor.oct Go.Proofs.YtpffebcaalbhjaaDoor.ref
open Go.Lib (byteCells)

theorem not_u64 (s : Nat) (hs : s < 18446744073709551616) : bits .xor .u64 IntKind.u64.max (s : Int) = ((18446744073709551615 - s : Nat) : Int) := by
  have h : bits .xor .u64 ((18446744073709551615 : Nat) : Int) (s : Int) = ((18446744073709551615 ^^^ s : Nat) : Int) := u64_xor_nat _ _ (by decide) hs
  have e : IntKind.u64.max = ((18446744073709551615 : Nat) : Int) := by decide
  rw [e, h]
  have h2 := congrArg BitVec.toNat (BitVec.allOnes_xor (x := BitVec.ofNat 64 s))
  rw [BitVec.toNat_xor, BitVec.toNat_not, BitVec.toNat_allOnes, BitVec.toNat_ofNat, Nat.mod_eq_of_lt (by omega)] at h2
  have h3 : 18446744073709551615 ^^^ s = 18446744073709551615 - s := by
    have e1 : (2 ^ 64 - 1 : Nat) = 18446744073709551615 := by decide
    rw [e1] at h2
    exact h2
  rw [h3]
theorem not_i64 (q : Nat) (hq : q < 9223372036854775808) : bits .xor .i64 (-1) (q : Int) = -(q : Int) - 1 := by
  have h2 := congrArg BitVec.toNat (BitVec.allOnes_xor (x := BitVec.ofNat 64 q))
  rw [BitVec.toNat_not, BitVec.toNat_ofNat, Nat.mod_eq_of_lt (by omega)] at h2
  have e1 : BitVec.ofInt 64 (-1) = BitVec.allOnes 64 := by decide
  show IntKind.i64.wrap ((BitVec.ofInt 64 (-1) ^^^ BitVec.ofInt 64 (q : Int)).toNat : Int) = _
  rw [e1, BitVec.ofInt_natCast, h2, IntKind.wrap_i64]
  have e3 : (2 ^ 64 - 1 - q : Nat) = 18446744073709551615 - q := by
    have e2 : (2 ^ 64 : Nat) = 18446744073709551616 := by decide
    omega
  rw [e3]
  omega
theorem or_128 (x : Nat) (hx : x < 256) : bits .or .u8 (x : Int) 128 = ((128 + x % 128 : Nat) : Int) := by
  have h := u8_or_nat x 128 hx (by decide)
  have h2 : ∀ k : Fin 256, k.val ||| 128 = 128 + k.val % 128 := by decide +kernel
  rw [h2 ⟨x, hx⟩] at h
  exact h
theorem folded_c (n : Int) (w : World) (h1 : -9223372036854775808 ≤ n) (h2 : n ≤ 9223372036854775807) :
    Calls Tryd.prog 61 #[.int .i64 n] w fun e w' => e = .returned (.int .u64 (zz n : Nat)) ∧ w = w' := by
  by_cases h0 : n < 0
  · have HE : Hid (bits .xor .u64 IntKind.u64.max (IntKind.u64.wrap (IntKind.u64.wrap n * 2)) = ((zz n : Nat) : Int)) := by
      show _ = _
      have e : IntKind.u64.wrap (IntKind.u64.wrap n * 2) = ((18446744073709551616 - 2 * (-n).toNat : Nat) : Int) := by
        rw [IntKind.wrap_u64, IntKind.wrap_u64]
        omega
      rw [e, not_u64 _ (by omega)]
      unfold zz
      rw [if_pos h0]
      omega
    go_enter Tryd.func61, Tryd.ntmps61
    go_wp2_with fail
    go_ret
    exact ⟨congrArg (fun x => Ending.returned (.int .u64 x)) HE.out, rfl⟩
  · have HE : Hid (n * 2 = ((zz n : Nat) : Int)) := by
      show _ = _
      unfold zz
      rw [if_neg h0]
      omega
    go_enter Tryd.func61, Tryd.ntmps61
    go_wp2_with fail
    go_ret
    exact ⟨congrArg (fun x => Ending.returned (.int .u64 x)) HE.out, rfl⟩
theorem unfolded_c (n : Nat) (w : World) (h : n < 18446744073709551616) :
    Calls Tryd.prog 57 #[.int .u64 (n : Int)] w fun e w' => e = .returned (.int .i64 (unzz n)) ∧ w = w' := by
  by_cases h0 : n % 2 = 1
  · have HE : Hid (bits .xor .i64 (-1) ((n : Int) / 2) = unzz n) := by
      show _ = _
      have e : (n : Int) / 2 = ((n / 2 : Nat) : Int) := by omega
      rw [e, not_i64 _ (by omega)]
      unfold unzz
      rw [if_pos h0]
    have i0 : (n : Int) % 2 = 1 := by omega
    go_enter Tryd.func57, Tryd.ntmps57
    go_wp2_with fail
    go_ret
    exact ⟨congrArg (fun x => Ending.returned (.int .i64 x)) HE.out, rfl⟩
  · have HE : Hid ((n : Int) / 2 = unzz n) := by
      show _ = _
      unfold unzz
      rw [if_neg h0]
      omega
    have i0 : (n : Int) % 2 = 0 := by omega
    go_enter Tryd.func57, Tryd.ntmps57
    go_wp2_with fail
    go_ret
    exact ⟨congrArg (fun x => Ending.returned (.int .i64 x)) HE.out, rfl⟩
theorem dcell_of {c : UInt8} {x : Int} (h : (c.toNat : Int) = x) : (#[.int .u8 x] : Array Value) = (byteCells [c]).toArray := by
  subst h; simp [byteCells]
set_option maxRecDepth 100000 in
set_option maxHeartbeats 4000000 in
theorem digits_c (n : Nat) (w : World) (hn : n < 18446744073709551616) :
    Calls Tryd.prog 66 #[.int .u64 (n : Int)] w fun e w' => ∃ v, e = .returned v ∧ w'.ownsRow w.heap.size 5 1 v (numB n).length (byteCells (numB n)) ∧ Below w.heap.size w w' := by
  have hten := numB_ten hn
  obtain ⟨R, hR⟩ : ∃ R, numB n = R := ⟨_, rfl⟩
  rw [hR] at hten ⊢
  have HRR := Lib.hid hR
  clear hR
  go_enter Tryd.func66, Tryd.ntmps66
  go_wp2_with fail
  go_loopg [0, 3] 10 (fun g s0 s3 wx => ∃ (m : Nat) (d : T), s0 = .int .u64 (m : Int) ∧ m < 18446744073709551616 ∧ Hid (d ++ numB m = R) ∧ d.length + g = 10 ∧ wx.ownsRow w.heap.size 5 1 s3 d.length (byteCells d) ∧ Below w.heap.size w wx)
  case atStart => exact ⟨n, [], rfl, hn, HRR.out, rfl, World.ownsRow_nil _ _ _ _, Below.refl _ _⟩
  case round =>
    obtain ⟨m, d, rfl, hm, HD, hdg, hrow, hbx⟩ := hrel
    have HRW := Lib.hid hrow
    have HBX := Lib.hid hbx
    clear hrow hbx
    by_cases h1 : m < 128
    · have i1 : ¬ ((m : Int) ≥ 128) := by omega
      have i2 : (m : Int) % 256 = (m : Int) := by omega
      have HN : Hid (R = d ++ [UInt8.ofNat m]) := by show _ = _; rw [← HD.out, numB_one h1]
      have HC : Hid ((#[.int .u8 (m : Int)] : Array Value) = (byteCells [UInt8.ofNat m]).toArray) := dcell_of (by rw [byte_lo h1])
      have hdl : d.length ≤ 10 := by omega
      clear HD HRR h1
      go_wp2_with (at_builtin; (refine wpList_append_one rfl (.tmp 14) (.tmp 17) rfl w.heap.size _ d.length d rfl HRW.out (UInt8.ofNat m) _ HC.out rfl (by omega) HBX.out.size ?_); intro gg cap w2 q1 q2 q3 q4; have hb2 := HBX.out.grown q2 HBX.out.size (fun k hk => (HRW.out.lt k hk).1); have HQ := Lib.hid q1; have HB2 := Lib.hid hb2; clear q1 q2 q3 q4 hb2)
      go_ret
      refine ⟨_, rfl, ?_, HB2.out⟩
      rw [HN.out, List.length_append, List.length_singleton]
      exact HQ.out
    · obtain ⟨r, hr⟩ : ∃ r, m / 128 = r := ⟨_, rfl⟩
      obtain ⟨u, hu⟩ : ∃ u, m % 256 = u := ⟨_, rfl⟩
      have hu2 : u < 256 := by omega
      have i1 : (m : Int) ≥ 128 := by omega
      have i0 : (m : Int) / 128 = (r : Int) := by omega
      have i2 : (m : Int) % 256 = (u : Int) := by omega
      have i4 := or_128 u hu2
      obtain ⟨q, hq⟩ : ∃ q, 128 + u % 128 = q := ⟨_, rfl⟩
      rw [hq] at i4
      have HN : Hid (d ++ [UInt8.ofNat q] ++ numB r = R) := by
        show _ = _
        rw [← HD.out, numB_more (n := m) (by omega), ← hq, hr, show u % 128 = m % 128 by omega]; simp
      have HC : Hid ((#[.int .u8 (q : Int)] : Array Value) = (byteCells [UInt8.ofNat q]).toArray) := dcell_of (by rw [UInt8.toNat_ofNat']; omega)
      have hr2 : r < 18446744073709551616 := by omega
      have hlen : d.length + 1 + (numB r).length ≤ 10 := by
        have h := HN.out
        have h2 := congrArg List.length h
        rw [List.length_append, List.length_append, List.length_singleton] at h2
        omega
      have hrp := numB_pos r
      obtain ⟨NB, hNB⟩ : ∃ NB, (numB r).length = NB := ⟨_, rfl⟩
      rw [hNB] at hlen hrp
      clear HD HRR h1 hm hq hr hNB hu
      rcases gk with _ | g
      · exfalso; omega
      · go_wp2_with (at_builtin; refine wpList_append_one rfl (.tmp 8) (.tmp 12) rfl w.heap.size _ d.length d rfl HRW.out (UInt8.ofNat q) _ HC.out rfl (by omega) HBX.out.size ?_; intro gg cap w2 q1 q2 q3 q4; have hb2 := HBX.out.grown q2 HBX.out.size (fun k hk => (HRW.out.lt k hk).1); have HQ := Lib.hid q1; have HB2 := Lib.hid hb2; clear q1 q2 q3 q4 hb2)
        go_roundg g
        case measure => omega
        case rel =>
          refine ⟨r, d ++ [UInt8.ofNat q], rfl, hr2, HN.out, by rw [List.length_append, List.length_singleton]; omega, ?_, HB2.out⟩
          rw [List.length_append, List.length_singleton]
          exact HQ.out
theorem grown_set {w : World} (g i : Nat) (v : Value) : w.grownBy (w.setCell ⟨g, i, none⟩ v) (some g) :=
  ⟨rfl, rfl, rfl, by simp, fun k _ hn => Below.heap_setCell _ _ _ _ (by exact fun e => hn (congrArg some e))⟩
theorem fail_c {w : World} {g e : Nat} {d : Value} {n0 : Int} (n : Int) (hB : Blk w g e [d, .int .i64 n0]) :
    Calls Tryd.prog 62 #[.pointer (some ⟨g, 0, none⟩), .int .i64 n] w fun x w' => x = .returned (.tuple #[]) ∧ Blk w' g e [.slice none 0 0, .int .i64 n] ∧ w.grownBy w' (some g) := by
  have c0 := hB.cell 0
  have c1 := hB.cell 1
  have f0 := hB.frozen 0
  have f1 := hB.frozen 1
  have hlt := hB.lt
  have HX := Lib.hid ((hB.set 0 (.slice none 0 0)).set 1 (.int .i64 n))
  clear hB
  go_enter Tryd.func62, Tryd.ntmps62
  go_wp2_with fail
  go_end0
  exact ⟨rfl, HX.out, grown_trans (grown_set _ _ _) (grown_set _ _ _)⟩
end Go.Proofs.YtpffebcaalbhjaaDoor.wir
