/- Several texts in one: Wir2, Wir3, Wir4, Wir5, Wir6, Wir7, Wir8, Wir9, WirA, WirB, WirC, WirD, WirE. Conditions: as each theorem says. -/
import Derived.Test.YtpffebcaalbhjaaDoorWir1
import Derived.Test.YtpffebcaalbhjaaDoorBaseA
import Derived.WalkKit
import Derived.Lib.AppendStr
import Derived.Test.YtpffebcaalbhjaaDoorCrc2
import Derived.ArgAppend
import Derived.Deep.CutBlock
import Derived.Deep.DeepCutAuto
import Derived.StillTailTactics
namespace Go.Proofs.YtpffebcaalbhjaaDoor.wir
open Go.RowKit
open Go.Proofs.YtpffebcaalbhjaaDoor.oct Go.Proofs.YtpffebcaalbhjaaDoor.ref
open Go.Lib (byteCells)

/-- a new row of bytes -/
def RowB (w w' : World) (l : T) (e : Ending) : Prop := ∃ v, e = .returned v ∧ w'.ownsRow w.heap.size 5 1 v l.length (byteCells l) ∧ Below w.heap.size w w'
theorem cell_of {c : UInt8} {q : Nat} (h : c.toNat = 128 + q) : (#[.int .u8 (128 + (q : Int))] : Array Value) = (byteCells [c]).toArray := by
  have e : ((c.toNat : Nat) : Int) = 128 + (q : Int) := by rw [h]; omega
  show _ = (([c]).map fun b => Value.int .u8 ((b.toNat : Nat) : Int)).toArray
  rw [List.map_cons, List.map_nil, e]
set_option maxRecDepth 100000 in
set_option maxHeartbeats 4000000 in
theorem rnumber_c (n : Nat) (w : World) (hn : n < 18446744073709551616) :
    Calls Tryd.prog 54 #[.int .u64 (n : Int)] w fun e w' => RowB w w' (numB n) e := by
  have hten := numB_ten hn
  obtain ⟨R, hR⟩ : ∃ R, numB n = R := ⟨_, rfl⟩
  rw [hR] at hten ⊢
  have HRR := Lib.hid hR
  clear hR
  go_enter Tryd.func54, Tryd.ntmps54
  go_wp2_with fail
  go_loopg [0, 3] 10 (fun g s0 s3 wx => ∃ (m : Nat) (d : T), s0 = .int .u64 (m : Int) ∧ m < 18446744073709551616 ∧ Hid (d ++ numB m = R) ∧ d.length + g = 10 ∧ wx.ownsRow w.heap.size 5 1 s3 d.length (byteCells d) ∧ Below w.heap.size w wx)
  case atStart => exact ⟨n, [], rfl, hn, HRR.out, rfl, World.ownsRow_nil _ _ _ _, Below.refl _ _⟩
  case round =>
    obtain ⟨m, d, rfl, hm, HD, hdg, hrow, hbx⟩ := hrel
    have HRW := Lib.hid hrow
    have HBX := Lib.hid hbx
    clear hrow hbx
    by_cases h1 : m < 128
    · have i1 : ¬ ((m : Int) / 128 > 0) := by omega
      have i2 : (m : Int) % 256 = (m : Int) := by omega
      have HN : Hid (R = d ++ [UInt8.ofNat m]) := by show _ = _; rw [← HD.out, numB_one h1]
      have HC : Hid ((#[.int .u8 (m : Int)] : Array Value) = (byteCells [UInt8.ofNat m]).toArray) := by show _ = _; simp [byteCells, byte_lo h1]
      have hdl : d.length ≤ 10 := by omega
      clear HD HRR h1
      go_wp2_with (at_builtin; (refine wpList_append_one rfl (.tmp 16) (.tmp 19) rfl w.heap.size _ d.length d rfl HRW.out (UInt8.ofNat m) _ HC.out rfl (by omega) HBX.out.size ?_); intro gg cap w2 q1 q2 q3 q4; have hb2 := HBX.out.grown q2 HBX.out.size (fun k hk => (HRW.out.lt k hk).1); have HQ := Lib.hid q1; have HB2 := Lib.hid hb2; clear q1 q2 q3 q4 hb2)
      go_ret
      refine ⟨_, rfl, ?_, HB2.out⟩
      rw [HN.out, List.length_append, List.length_singleton]
      exact HQ.out
    · obtain ⟨q, hq⟩ : ∃ q, m % 128 = q := ⟨_, rfl⟩
      obtain ⟨r, hr⟩ : ∃ r, m / 128 = r := ⟨_, rfl⟩
      have hq1 : q < 128 := by omega
      have i0 : (m : Int) / 128 = (r : Int) := by omega
      have ir : (r : Int) > 0 := by omega
      have i2 : (m : Int) % 128 = (q : Int) := by omega
      have i3 : (128 + (q : Int)) % 18446744073709551616 = 128 + (q : Int) := by omega
      have i4 : (128 + (q : Int)) % 256 = 128 + (q : Int) := by omega
      have HN : Hid (d ++ [UInt8.ofNat (128 + q)] ++ numB r = R) := by
        show _ = _
        rw [← HD.out, numB_more (n := m) (by omega), hq, hr]; simp
      have HC : Hid ((#[.int .u8 (128 + (q : Int))] : Array Value) = (byteCells [UInt8.ofNat (128 + q)]).toArray) := by
        show _ = _
        have e := byte_hi q
        rw [Nat.mod_eq_of_lt hq1] at e
        exact cell_of e
      have hr2 : r < 18446744073709551616 := by omega
      have hlen : d.length + 1 + (numB r).length ≤ 10 := by
        have h := HN.out
        have h2 := congrArg List.length h
        rw [List.length_append, List.length_append, List.length_singleton] at h2
        omega
      have hrp := numB_pos r
      obtain ⟨NB, hNB⟩ : ∃ NB, (numB r).length = NB := ⟨_, rfl⟩
      rw [hNB] at hlen hrp
      clear HD HRR h1 hm hq hr hNB
      rcases gk with _ | g
      · exfalso; omega
      · go_wp2_with (at_builtin; refine wpList_append_one rfl (.tmp 7) (.tmp 12) rfl w.heap.size _ d.length d rfl HRW.out (UInt8.ofNat (128 + q)) _ HC.out rfl (by omega) HBX.out.size ?_; intro gg cap w2 q1 q2 q3 q4; have hb2 := HBX.out.grown q2 HBX.out.size (fun k hk => (HRW.out.lt k hk).1); have HQ := Lib.hid q1; have HB2 := Lib.hid hb2; clear q1 q2 q3 q4 hb2)
        go_roundg g
        case measure => omega
        case rel =>
          refine ⟨r, d ++ [UInt8.ofNat (128 + q)], rfl, hr2, HN.out, by rw [List.length_append, List.length_singleton]; omega, ?_, HB2.out⟩
          rw [List.length_append, List.length_singleton]
          exact HQ.out
set_option maxRecDepth 100000 in
set_option maxHeartbeats 4000000 in
theorem rinteger_c (n : Int) (w : World) (h1 : -9223372036854775808 ≤ n) (h2 : n ≤ 9223372036854775807) :
    Calls Tryd.prog 52 #[.int .i64 n] w fun e w' => RowB w w' (numB (zz n)) e := by
  have HZ := Lib.hid (zz_lt h1 h2)
  have HC := Lib.hid (rnumber_c (zz n) w HZ.out)
  by_cases h0 : n < 0
  · have e : ((zz n : Nat) : Int) = 2 * (-(n + 1)) + 1 := by unfold zz; rw [if_pos h0]; omega
    rw [e] at HC
    obtain ⟨q, hq⟩ : ∃ q : Int, -(n + 1) = q := ⟨_, rfl⟩
    rw [hq] at HC
    have hq0 : 0 ≤ q := by omega
    have hq1 : q ≤ 9223372036854775807 := by omega
    have i1 : IntKind.i64.wrap (n + 1) = n + 1 := by rw [IntKind.wrap_i64]; omega
    have i2 : IntKind.i64.wrap (-(n + 1)) = q := by rw [hq, IntKind.wrap_i64]; omega
    have i3 : q % 18446744073709551616 = q := by omega
    have i4 : (2 * q) % 18446744073709551616 = 2 * q := by omega
    have i5 : (2 * q + 1) % 18446744073709551616 = 2 * q + 1 := by omega
    clear e hq
    go_enter Tryd.func52, Tryd.ntmps52
    go_wp2_with fail
    refine HC.out.mono ?_
    rintro e w1 ⟨v, rfl, hown, hb1⟩
    go_wp2_with fail
    go_ret
    exact ⟨v, rfl, hown, hb1⟩
  · have e : ((zz n : Nat) : Int) = 2 * n := by unfold zz; rw [if_neg h0]; omega
    rw [e] at HC
    have i3 : n % 18446744073709551616 = n := by omega
    have i4 : (2 * n) % 18446744073709551616 = 2 * n := by omega
    clear e
    go_enter Tryd.func52, Tryd.ntmps52
    go_wp2_with fail
    refine HC.out.mono ?_
    rintro e w1 ⟨v, rfl, hown, hb1⟩
    go_wp2_with fail
    go_ret
    exact ⟨v, rfl, hown, hb1⟩
/-- a text's bytes, of one that is too long for a frame no more than that -/
def textR (s : T) : T := numB s.length ++ s.take 65537
theorem textR_short {s : T} (h : s.length ≤ 65537) : textR s = textB s := by unfold textR textB; rw [List.take_of_length_le h]
theorem textR_len (s : T) (h : s.length < 18446744073709551616) : (textR s).length ≤ 65547 := by
  unfold textR
  rw [List.length_append, List.length_take]
  have := numB_ten h
  omega
theorem textR_long {s : T} (h : 65537 ≤ s.length) : 65537 < (textR s).length := by
  unfold textR
  rw [List.length_append, List.length_take]
  have := numB_pos s.length
  omega
theorem str_bytes (s : ByteArray) : Lib.strCells s = byteCells s.data.toList := rfl
theorem ba_of (l : T) (b : ByteArray) (h : b.data.toList = l) : b = ⟨l.toArray⟩ := by subst h; simp
theorem str_take (l : T) (n : Nat) : (⟨l.toArray⟩ : ByteArray).extract 0 n = ⟨(l.take n).toArray⟩ := ba_of _ _ (by rw [Lib.extract_data]; simp)
/-- a text appended to a row of the call's own -/
theorem wpList_append_text {w : World} {ops : Array Oper} {rest : List Oper} {o : Oper} {a : Act} {Q : Exit → Act → World → Prop} (hgd : o.guard = none) (s x : Operand)
    (ho : o.op = .call { callee := .builtin .append, args := #[s, x], argTypes := #[24, 9] }) (base : Nat)
    (v : Value) (n : Nat) (l : T) (hs : a.eval s = v) (hown : w.ownsRow base 5 1 v n (byteCells l)) (q : T) (hx : a.eval x = .string ⟨q.toArray⟩) (hb : n + q.length ≤ 140737488355328) (hbase : base ≤ w.heap.size)
    (h : ∀ v' w', w'.ownsRow base 5 1 v' (n + q.length) (byteCells (l ++ q)) → w.grownBy w' v.ownBlock → wpList Tryd.prog ops Q rest (a.put o.dst v') w') :
    wpList Tryd.prog ops Q (o :: rest) a w := by
  obtain ⟨j0, hj, hy0, hy1, hy2⟩ := info_parts infoByte
  have hsz : (⟨q.toArray⟩ : ByteArray).size = q.length := List.size_toArray
  refine Lib.wpList_append_own_string w hgd s x 24 9 ho base 5 j0 Tryd.underlying24 Tryd.underlying9 hj hy0 hy1 hy2 v n (byteCells l) hs hown ⟨q.toArray⟩ hx (by rw [hsz]; unfold maxLen; omega) (by rw [hsz]; exact hb) hbase ?_
  intro v' w' h1 h2 _
  rw [hsz, show Lib.strCells ⟨q.toArray⟩ = byteCells q from rfl, ← byteCells_append] at h1
  exact h v' w' h1 h2
set_option maxRecDepth 100000 in
set_option maxHeartbeats 4000000 in
theorem rtext_c (s : T) (w : World) (hs : s.length ≤ 140737488351232) :
    Calls Tryd.prog 53 #[.string ⟨s.toArray⟩] w fun e w' => RowB w w' (textR s) e := by
  have HC := Lib.hid (rnumber_c s.length w (by omega))
  have i1 : (s.length : Int) % 18446744073709551616 = (s.length : Int) := by omega
  have hnl := numB_ten (n := s.length) (by omega)
  by_cases hlong : s.length > 65536
  · have i2 : (s.length : Int) > 65536 := by omega
    have i3 : (65537 : Int) ≤ (s.length : Int) := by omega
    have HT : Hid (textR s = numB s.length ++ s.take 65537) := rfl
    have htl : (s.take 65537).length = 65537 := by rw [List.length_take]; omega
    have hex := str_take s 65537
    obtain ⟨q, hq⟩ : ∃ q, s.take 65537 = q := ⟨_, rfl⟩
    obtain ⟨nb, hnb⟩ : ∃ nb, numB s.length = nb := ⟨_, rfl⟩
    obtain ⟨R, hR⟩ : ∃ R, textR s = R := ⟨_, rfl⟩
    rw [hq] at HT htl hex
    rw [hnb] at HT HC hnl
    rw [hR] at HT ⊢
    have HQL := Lib.hid htl
    have HEX := Lib.hid hex
    clear hq hnb hR hlong htl hex
    go_enter Tryd.func53, Tryd.ntmps53
    go_wp2_with fail
    refine HC.out.mono ?_
    rintro e w1 ⟨v, rfl, hown, hb1⟩
    have HO := Lib.hid hown
    have HB := Lib.hid hb1
    clear hown hb1 HC
    go_wp2_with (at_builtin; refine wpList_append_text rfl (.tmp 13) (.tmp 14) rfl w.heap.size _ nb.length nb rfl HO.out q (congrArg Value.string HEX.out) (by rw [HQL.out]; omega) HB.out.size ?_; intro v2 w2 q1 q2; have HQ := Lib.hid q1; have HB2 := Lib.hid (HB.out.grown q2 HB.out.size (fun k hk => (HO.out.lt k hk).1)); clear q1 q2)
    go_ret
    refine ⟨_, rfl, ?_, HB2.out⟩
    rw [HT.out, List.length_append]
    exact HQ.out
  · have i2 : ¬ ((s.length : Int) > 65536) := by omega
    have HT : Hid (textR s = numB s.length ++ s) := by show _ = _; rw [textR_short (by omega)]; rfl
    obtain ⟨nb, hnb⟩ : ∃ nb, numB s.length = nb := ⟨_, rfl⟩
    obtain ⟨R, hR⟩ : ∃ R, textR s = R := ⟨_, rfl⟩
    rw [hnb] at HT HC hnl
    rw [hR] at HT ⊢
    clear hnb hR hlong
    go_enter Tryd.func53, Tryd.ntmps53
    go_wp2_with fail
    refine HC.out.mono ?_
    rintro e w1 ⟨v, rfl, hown, hb1⟩
    have HO := Lib.hid hown
    have HB := Lib.hid hb1
    clear hown hb1 HC
    go_wp2_with (at_builtin; refine wpList_append_text rfl (.tmp 13) (.tmp 14) rfl w.heap.size _ nb.length nb rfl HO.out s rfl (by omega) HB.out.size ?_; intro v2 w2 q1 q2; have HQ := Lib.hid q1; have HB2 := Lib.hid (HB.out.grown q2 HB.out.size (fun k hk => (HO.out.lt k hk).1)); clear q1 q2)
    go_ret
    refine ⟨_, rfl, ?_, HB2.out⟩
    rw [HT.out, List.length_append]
    exact HQ.out
end Go.Proofs.YtpffebcaalbhjaaDoor.wir

namespace Go.Proofs.YtpffebcaalbhjaaDoor.wir
open Go.RowKit
open Go.Proofs.YtpffebcaalbhjaaDoor.oct Go.Proofs.YtpffebcaalbhjaaDoor.ref Go.Proofs.YtpffebcaalbhjaaDoor.rows Go.Proofs.YtpffebcaalbhjaaDoor.crc
open Go.Lib (byteCells)

/-- byte j of a number in four -/
def fb (n j : Nat) : UInt8 := UInt8.ofNat (n / 256 ^ (3 - j) % 256)
def fourT (n : Nat) : T := brow 4 (fb n)
theorem fourT_len (n : Nat) : (fourT n).length = 4 := brow_len 4 _
theorem fourT_eq (n : Nat) : fourT n = [fb n 0, fb n 1, fb n 2, fb n 3] := rfl
theorem fb_val (n j : Nat) : (fb n j).toNat = n / 256 ^ (3 - j) % 256 := by unfold fb; rw [UInt8.toNat_ofNat']; omega
/-- the number in the first four bytes -/
def saidT (l : T) : Nat := (l.take 4).foldl (fun n c => 256 * n + c.toNat) 0
theorem said_four (n : Nat) (r : T) (h : n < 4294967296) : saidT (fourT n ++ r) = n := by
  unfold saidT
  rw [List.take_left' (fourT_len n), fourT_eq]
  simp only [List.foldl_cons, List.foldl_nil, fb_val]
  omega
def frameT (b : T) : T := fourT b.length ++ fourT (more 0 b) ++ b
theorem frameT_len (b : T) : (frameT b).length = b.length + 8 := by unfold frameT; rw [List.length_append, List.length_append, fourT_len, fourT_len]; omega
theorem infoB8 : (Tryd.prog.info? 5).map (·.size) = some 1 := by kernel_rfl
/-- an array behind a pointer, whole -/
theorem arr_all {P : Program} (w : World) (t e : TypeId) (n b o : Nat) (hu : P.underlying t = some (.array n e)) (he : (P.info? e).map (·.size) = some 1) :
    (Instr.sliceAt t (.pointer (some ⟨b, o, none⟩)) none none none).run P w = .ok (.slice (some ⟨b, o, none⟩) n n) w := by
  cases hq : P.info? e with
  | none => simp [hq] at he
  | some j =>
    simp [Instr.sliceAt, Instr.sureAddr, run_underlying hu, Instr.sliceBounds, sizeOf, typeInfo, hq, Sem.run_bind, Addr.add]
theorem four_round {w : World} {g e n k q : Nat} {f : Nat → UInt8} (hk : k < 4) (hB : Blk w g e (byteCells (brow 4 f))) (hf : ∀ j, 4 - k ≤ j → j < 4 → f j = fb n j) (hq : n / 256 ^ k % 256 = q) :
    ∃ f', Blk (w.setCell ⟨g, 3 - k, none⟩ (.int .u8 (q : Int))) g e (byteCells (brow 4 f')) ∧ ∀ j, 4 - (k + 1) ≤ j → j < 4 → f' j = fb n j := by
  have hb := hB.set (3 - k) (.int .u8 (((fb n (3 - k)).toNat : Nat) : Int))
  rw [brow_set, fb_val, show 3 - (3 - k) = k by omega, hq] at hb
  refine ⟨_, hb, fun j h1 h2 => ?_⟩
  by_cases e : j = 3 - k
  · subst e; exact updB_at _ _ _
  · rw [updB_ne e]; exact hf j (by omega) h2
set_option maxRecDepth 100000 in
set_option maxHeartbeats 4000000 in
theorem rfour_c (n : Nat) (w : World) (hn : n < 4294967296) :
    Calls Tryd.prog 45 #[.int .u32 (n : Int)] w fun e w' => e = .returned (.slice (some ⟨w.heap.size, 0, none⟩) 4 4) ∧ In8 w' (some ⟨w.heap.size, 0, none⟩) (fourT n) ∧ Below w.heap.size w w' := by
  have hB0 : Blk (w.alloc (.cells #[.int .u8 0, .int .u8 0, .int .u8 0, .int .u8 0] 95)) w.heap.size 95 (byteCells (brow 4 fun _ => 0)) := blk_new w _ _ _ rfl
  have HB0 := Lib.hid hB0
  have har := fun (w : World) (b o : Nat) => arr_all (P := Tryd.prog) w 95 5 4 b o Tryd.underlying95 infoB8
  clear hB0
  go_enter Tryd.func45, Tryd.ntmps45
  go_wp2_with fail
  go_loopg [0, 4] 4 (fun g s0 s4 wx => ∃ (k m : Nat) (f : Nat → UInt8), k + g = 4 ∧ s4 = .int .i64 (3 - (k : Int)) ∧ s0 = .int .u32 (m : Int) ∧ n / 256 ^ k = m ∧ Hid (Blk wx w.heap.size 95 (byteCells (brow 4 f))) ∧ Hid (∀ j, 4 - k ≤ j → j < 4 → f j = fb n j) ∧ Hid (Below w.heap.size w wx))
  case atStart => exact ⟨0, n, _, rfl, rfl, rfl, by simp, HB0.out, (fun j h1 h2 => by omega), (Below.refl _ _).alloc (Nat.le_refl _) _⟩
  case round =>
    obtain ⟨k, m, f, hkg, rfl, rfl, hm, HB, HF, HBX⟩ := hrel
    rcases gk with _ | g
    · obtain rfl : k = 4 := by omega
      have HE : Hid (fourT n = brow 4 f) := (brow_eq fun j h => (HF.out j (by omega) h).symm)
      have H8 : Hid (In8 wr (some ⟨w.heap.size, 0, none⟩) (fourT n)) := by show In8 _ _ _; rw [HE.out]; exact in8_all HB.out
      clear hm
      go_wp2_with fail
      go_ret
      exact ⟨rfl, H8.out, HBX.out⟩
    · have hk4 : k < 4 := by omega
      obtain ⟨q, hq⟩ : ∃ q, m % 256 = q := ⟨_, rfl⟩
      obtain ⟨r, hr⟩ : ∃ r, m / 256 = r := ⟨_, rfl⟩
      have HR := Lib.hid (four_round (q := q) hk4 HB.out HF.out (by rw [hm]; exact hq))
      have HR2 : Hid (n / 256 ^ (k + 1) = r) := by show _ = _; rw [Nat.pow_succ, ← Nat.div_div_eq_div_mul, hm, hr]
      have hmn : m < 4294967296 := by rw [← hm]; exact Nat.lt_of_le_of_lt (Nat.div_le_self _ _) hn
      have i1 : (m : Int) % 256 = (q : Int) := by omega
      have i2 : (m : Int) / 256 = (r : Int) := by omega
      have i3 : (q : Int) % 256 = (q : Int) := by omega
      have hlt := HB.out.lt
      have hbset : ∀ i v, Below w.heap.size w (wr.setCell ⟨w.heap.size, i, none⟩ v) := fun i v => HBX.out.setCell (p := ⟨w.heap.size, i, none⟩) (Nat.le_refl _) v
      have HBS := Lib.hid hbset
      clear hq hr hm hn hbset
      have hkk : k = 0 ∨ k = 1 ∨ k = 2 ∨ k = 3 := by omega
      rcases hkk with rfl | rfl | rfl | rfl
      all_goals (
        first
          | have c0 := (HB.out.cell 3).trans (brow_at f (by decide))
          | skip
        have c1 := (HB.out.cell 2).trans (brow_at f (by decide))
        have c2 := (HB.out.cell 1).trans (brow_at f (by decide))
        have c3 := (HB.out.cell 0).trans (brow_at f (by decide))
        have f0 := HB.out.frozen 3
        have f1 := HB.out.frozen 2
        have f2 := HB.out.frozen 1
        have f3 := HB.out.frozen 0
        go_wp2_with fail
        obtain ⟨f', hB', hF'⟩ := HR.out
        go_roundg g)
      all_goals first
        | omega
        | exact ⟨_, r, f', by omega, by go_num, rfl, HR2.out, hB', hF', HBS.out _ _⟩
theorem said_step {l : T} {k : Nat} (h : k < l.length) : (l.take (k + 1)).foldl (fun n (c : UInt8) => 256 * n + c.toNat) 0 = 256 * (l.take k).foldl (fun n (c : UInt8) => 256 * n + c.toNat) 0 + l[k].toNat := by
  rw [List.take_succ_eq_append_getElem h, List.foldl_append]
  rfl
theorem said_lt (l : T) : ∀ k, (l.take k).foldl (fun n (c : UInt8) => 256 * n + c.toNat) 0 < 256 ^ k := by
  intro k
  induction k with
  | zero => simp
  | succ k ih =>
    by_cases h : k < l.length
    · rw [List.take_succ_eq_append_getElem h, List.foldl_append, Nat.pow_succ]
      have := l[k].toNat_lt
      simp only [List.foldl_cons, List.foldl_nil]
      omega
    · rw [List.take_of_length_le (by omega)]
      rw [List.take_of_length_le (by omega)] at ih
      rw [Nat.pow_succ]; omega
set_option maxRecDepth 100000 in
set_option maxHeartbeats 4000000 in
theorem rsaid_c (p : Option Addr) (cp : Nat) (l : T) (w : World) (hp : In8 w p l) (h4 : 4 ≤ l.length) :
    Calls Tryd.prog 35 #[.slice p l.length cp] w fun e w' => e = .returned (.int .i64 (saidT l : Nat)) ∧ w = w' := by
  obtain ⟨b, o, rfl, hc⟩ := hp (by omega)
  have HC := Lib.hid hc
  have HL := Lib.hid (said_lt l)
  have HS : Hid (∀ k, k < 4 → ∀ h : k < l.length, _) := fun k _ h => said_step (l := l) h
  have HR : Hid (saidT l = (l.take 4).foldl (fun n (c : UInt8) => 256 * n + c.toNat) 0) := rfl
  clear hc hp
  go_enter Tryd.func35, Tryd.ntmps35
  go_wp2_with fail
  go_loopg [3, 4] 4 (fun g s3 s4 wx => ∃ (k m : Nat), k + g = 4 ∧ s4 = .int .i64 (k : Int) ∧ s3 = .int .i64 (m : Int) ∧ Hid ((l.take k).foldl (fun n (c : UInt8) => 256 * n + c.toNat) 0 = m) ∧ wx = w)
  case atStart => exact ⟨0, 0, rfl, rfl, rfl, rfl, rfl⟩
  case round =>
    obtain ⟨k, m, hkg, rfl, rfl, HM, rfl⟩ := hrel
    rcases gk with _ | g
    · obtain rfl : k = 4 := by omega
      have HV : Hid (saidT l = m) := by show _ = _; rw [HR.out]; exact HM.out
      go_wp2_with fail
      go_ret
      exact ⟨by rw [HV.out]; rfl, rfl⟩
    · have hk4 : k < 4 := by omega
      have hkl : k < l.length := by omega
      have hkI : (k : Int) < 4 := by omega
      have hkL : (k : Int) < (l.length : Int) := by omega
      have hml : m < 16777216 := by
        have h1 := HL.out k
        rw [HM.out] at h1
        have h2 : 256 ^ k ≤ 256 ^ 3 := Nat.pow_le_pow_right (by decide) (by omega)
        have h3 : (256 : Nat) ^ 3 = 16777216 := by decide
        omega
      have c0 := HC.out k hkl
      have hst := HS.out k hk4 hkl
      rw [HM.out] at hst
      have e1 : l.getD k 0 = l[k] := by simp [List.getD, List.getElem?_eq_getElem hkl]
      obtain ⟨c, hcc⟩ : ∃ c, l[k].toNat = c := ⟨_, rfl⟩
      have hc8 : c < 256 := by rw [← hcc]; exact l[k].toNat_lt
      rw [hcc] at hst
      replace c0 : wr.cell? ⟨b, o + k, none⟩ = some (.int .u8 (c : Int)) := by rw [c0, ← hcc]; first | rfl | (rw [← e1])
      have HST := Lib.hid hst
      clear hst e1 hcc
      go_wp2_with fail
      go_roundg g
      case measure => omega
      case rel => exact ⟨k + 1, 256 * m + c, by omega, by go_num, by go_num, HST.out, rfl⟩
theorem own_base {w : World} {B B' e k n : Nat} {v : Value} {xs : List Value} (h : w.ownsRow B e k v n xs) (hB : B' ≤ B) : w.ownsRow B' e k v n xs := by
  refine ⟨h.1, ?_⟩
  rcases h.2 with h1 | ⟨g, cap, cur, h1, h2, h3⟩
  · exact Or.inl h1
  · exact Or.inr ⟨g, cap, cur, h1, Nat.le_trans hB h2, h3⟩
theorem own_size {w : World} {B e k n : Nat} {v : Value} {xs : List Value} (h : w.ownsRow B e k v n xs) (hn : 0 < n) : B ≤ w.heap.size := by
  rcases h.2 with ⟨_, h1⟩ | ⟨g, cap, cur, h1, h2, h3, _⟩
  · omega
  · have := (Array.getElem?_eq_some_iff.1 h3).1; omega
theorem src8 {w : World} {a : Addr} {l : T} (h : In8 w (some a) l) : ∀ b, some a = some b → ∀ j u, (byteCells l)[j]? = some u → w.cell? (b.add j) = some u := fun b hb j u hj => by
  injection hb with hb
  subst hb
  exact src_cells h j u hj
set_option maxRecDepth 100000 in
set_option maxHeartbeats 4000000 in
theorem rframe_c (p : Option Addr) (cp : Nat) (l : T) (w : World) (hp : In8 w p l) (hl : l.length ≤ 4294967295) (hn : p = none → cp = 0) :
    Calls Tryd.prog 23 #[.slice p l.length cp] w fun e w' => RowB w w' (frameT l) e := by
  have HP := Lib.hid hp
  have HF := Lib.hid (rfour_c l.length w (by omega))
  have HS := Lib.hid (fun w hp => rsum_c p cp l w hp (by omega))
  have HT : Hid (frameT l = fourT l.length ++ fourT (more 0 l) ++ l) := rfl
  have hsl : more 0 l < 4294967296 := more_lt (s := 0) (by decide) l
  have HL1 := Lib.hid (fourT_len l.length)
  have HL2 := Lib.hid (fourT_len (more 0 l))
  obtain ⟨F1, hF1⟩ : ∃ F, fourT l.length = F := ⟨_, rfl⟩
  obtain ⟨F, hF⟩ : ∃ F, frameT l = F := ⟨_, rfl⟩
  have HG := Lib.hid (fun w => rfour_c (more 0 l) w hsl)
  obtain ⟨s, hs⟩ : ∃ s, more 0 l = s := ⟨_, rfl⟩
  rw [hs] at HS HG HT HL2
  obtain ⟨F2, hF2⟩ : ∃ F, fourT s = F := ⟨_, rfl⟩
  rw [hF1] at HF HT HL1
  rw [hF2] at HG HT HL2
  rw [hF] at HT ⊢
  obtain ⟨j0, hj, hy0, hy1, hy2⟩ := info_parts infoByte
  have i1 : (l.length : Int) % 4294967296 = (l.length : Int) := by omega
  clear hp hsl hF1 hF hs hF2
  go_enter Tryd.func23, Tryd.ntmps23
  go_wp2_with fail
  refine HF.out.mono ?_
  rintro e w1 ⟨rfl, h8a, hb1⟩
  have HB1 := Lib.hid hb1
  have H8A := Lib.hid h8a
  clear h8a hb1 HF
  go_wp2_with fail
  refine (HS.out w1 (HP.out.below HB1.out)).mono ?_
  rintro e w2 ⟨rfl, rfl⟩
  go_wp2_with fail
  refine (HG.out w1).mono ?_
  rintro e w2 ⟨rfl, h8b, hb2⟩
  have HB2 := Lib.hid (bnext HB1.out hb2)
  have H8A2 := Lib.hid (H8A.out.below hb2)
  have H8B := Lib.hid h8b
  clear h8b hb2 HG H8A
  go_wp2_with (first
    | (at_builtin; refine wpList_append_grows _ rfl (.tmp 6) (.tmp 9) 24 rfl 5 j0 _ 1 1 Tryd.underlying24 hj hy0 hy1 hy2 rfl (by decide) (some ⟨w.heap.size, 0, none⟩) 4 4 (byteCells F1) rfl (fun h => by cases h) (by rw [byteCells_len, HL1.out]) (src8 H8A2.out) ⟨w1.heap.size, 0, none⟩ 4 4 (byteCells F2) rfl (by rw [byteCells_len, HL2.out]) (src_cells H8B.out) (byteCells_one F2) (by decide) (by decide) (by decide) ?_; intro v3 w3 hown3 hg3; have HO3 := Lib.hid hown3; have HB3 := Lib.hid (HB2.out.grown hg3 HB2.out.size (fun k hk => by cases hk)); clear hown3 hg3)
    | (at_builtin; refine wpList_append_in8g rfl (.tmp 10) (.tmp 11) rfl w2.heap.size _ (4 + 4) _ rfl HO3.out p l.length cp l rfl (HP.out.below HB3.out) rfl hn (by omega) (own_size HO3.out (by decide)) ?_; intro v4 w4 hown4 hg4; have HO4 := Lib.hid hown4; have HB4 := Lib.hid (HB3.out.grown hg4 HB3.out.size (fun k hk => Nat.le_trans HB2.out.size (HO3.out.lt k hk).1)); clear hown4 hg4))
  go_ret
  refine ⟨_, rfl, ?_, HB4.out⟩
  rw [HT.out, List.length_append, List.length_append, HL1.out, HL2.out, byteCells_append, byteCells_append]
  exact own_base HO4.out HB2.out.size
end Go.Proofs.YtpffebcaalbhjaaDoor.wir

namespace Go.Proofs.YtpffebcaalbhjaaDoor.wir
open Go.RowKit
open Go.Proofs.YtpffebcaalbhjaaDoor.oct Go.Proofs.YtpffebcaalbhjaaDoor.ref Go.Proofs.YtpffebcaalbhjaaDoor.rows Go.Proofs.YtpffebcaalbhjaaDoor.rowg
open Go.Lib (byteCells)

/-- rows of texts -/
def senc (a : T) : List Value := [.string ⟨a.toArray⟩]
theorem senc_len : ∀ a, (senc a).length = 1 := fun _ => rfl
abbrev InS (w : World) (P : Option Addr) (l : List T) : Prop := InG senc 1 w P l
theorem ins_cell {w : World} {P : Option Addr} {ms : List T} (h : InS w P ms) (i : Nat) (hi : i < ms.length) : ∃ b o, P = some ⟨b, o, none⟩ ∧ w.cell? ⟨b, o + i, none⟩ = some (.string ⟨(ms[i]).toArray⟩) := by
  obtain ⟨b, o, e, hc⟩ := InG.cells h i hi
  have h0 := hc 0 (by decide)
  rw [Nat.mul_one, Nat.add_zero] at h0
  exact ⟨b, o, e, h0⟩
/-- a put as it lies in memory: where its list is, with what room -/
structure PutA where
  k : Int
  n : Int
  s : T
  p : Option Addr
  c : Nat
  l : List T
def PutA.put (x : PutA) : Put := ⟨x.k, x.n, x.s, x.l⟩
def penc (x : PutA) : List Value := [.int .i64 x.k, .int .i64 x.n, .string ⟨x.s.toArray⟩, .slice x.p x.l.length x.c]
theorem penc_len : ∀ a, (penc a).length = 4 := fun _ => rfl
structure GoodP (w : World) (x : PutA) : Prop where
  ints : -9223372036854775808 ≤ x.n ∧ x.n ≤ 9223372036854775807
  text : x.s.length ≤ 140737488351232
  row : InS w x.p x.l
  nil : x.p = none → x.c = 0
  room : x.l.length ≤ x.c
  many : x.l.length ≤ 140737488351232
  texts : ∀ y ∈ x.l, y.length ≤ 140737488351232
theorem GoodP.below {w w' : World} {x : PutA} (h : GoodP w x) (hb : Below w.heap.size w w') : GoodP w' x := ⟨h.ints, h.text, InG.below senc_len (by decide) h.row hb, h.nil, h.room, h.many, h.texts⟩
abbrev InP (w : World) (P : Option Addr) (l : List PutA) : Prop := InG penc 4 w P l
theorem inp_below {w w' : World} {P : Option Addr} {l : List PutA} (h : InP w P l) (hb : Below w.heap.size w w') : InP w' P l := InG.below penc_len (by decide) h hb
theorem put_cells {w : World} {P : Option Addr} {l : List PutA} (h : InP w P l) (i : Nat) (hi : i < l.length) :
    ∃ b o, P = some ⟨b, o, none⟩ ∧ w.cell? ⟨b, o + i * 4, none⟩ = some (.int .i64 (l[i]).k) ∧ w.cell? ⟨b, o + i * 4 + 1, none⟩ = some (.int .i64 (l[i]).n) ∧ w.cell? ⟨b, o + i * 4 + 2, none⟩ = some (.string ⟨(l[i]).s.toArray⟩) ∧ w.cell? ⟨b, o + i * 4 + 3, none⟩ = some (.slice (l[i]).p (l[i]).l.length (l[i]).c) := by
  obtain ⟨b, o, e, hc⟩ := InG.cells h i hi
  exact ⟨b, o, e, hc 0 (by decide), hc 1 (by decide), hc 2 (by decide), hc 3 (by decide)⟩
/-- the same, or both too long for a frame -/
def Near (b t : T) : Prop := (t.length ≤ 65536 → b = t) ∧ (65536 < t.length → 65536 < b.length)
theorem near_refl (t : T) : Near t t := ⟨fun _ => rfl, fun h => h⟩
theorem near_app {b t x y : T} (h : Near b t) (k : Near x y) : Near (b ++ x) (t ++ y) := by
  constructor
  · intro hl
    rw [List.length_append] at hl
    rw [h.1 (by omega), k.1 (by omega)]
  · intro hl
    rw [List.length_append] at hl ⊢
    by_cases ht : t.length ≤ 65536
    · rw [h.1 ht]
      by_cases hy : y.length ≤ 65536
      · rw [k.1 hy]; exact hl
      · have := k.2 (by omega); omega
    · have := h.2 (by omega); omega
theorem near_cut {b t : T} (h : Near b t) (hb : 65536 < b.length) : Near (b.take 65537) t := by
  constructor
  · intro hl
    rw [h.1 hl] at hb
    omega
  · intro _
    rw [List.length_take]; omega
theorem near_text (s : T) : Near (textR s) (textB s) := by
  constructor
  · intro hl
    unfold textB at hl
    rw [List.length_append] at hl
    exact textR_short (by omega)
  · intro hl
    by_cases hs : s.length ≤ 65537
    · rw [textR_short hs]; exact hl
    · have := textR_long (s := s) (by omega); omega
/-- what is longer stays longer -/
theorem near_stop {b t u : T} (h : Near b t) (hb : 65536 < b.length) : Near b (t ++ u) := by
  have ht : 65536 < t.length := by
    by_cases ht : t.length ≤ 65536
    · rw [h.1 ht] at hb; exact absurd hb (by omega)
    · omega
  exact ⟨fun hl => by rw [List.length_append] at hl; omega, fun _ => hb⟩
/-- an own row of bytes as an argument -/
theorem own_arg {w : World} {B : Nat} {v : Value} {l : T} (h : w.ownsRow B 5 1 v l.length (byteCells l)) : ∃ p c, v = .slice p l.length c ∧ In8 w p l ∧ (p = none → c = 0) ∧ l.length ≤ c := by
  obtain ⟨_, p, c, hv, h8⟩ := own_in8 h
  refine ⟨p, c, hv, h8, ?_⟩
  rcases h.2 with ⟨h1, h2⟩ | ⟨g, cap, cur, h1, _, _, h4, _⟩
  · rw [h1] at hv
    injection hv with e1 e2 e3
    exact ⟨fun _ => e3.symm, by omega⟩
  · rw [h1] at hv
    injection hv with e1 e2 e3
    exact ⟨fun hp => (by rw [hp] at e1; cases e1), by omega⟩
/-- a row of the call's own, cut off -/
theorem own_cut {w : World} {B n m : Nat} {p : Option Addr} {c : Nat} {l : T} (h : w.ownsRow B 5 1 (.slice p n c) n (byteCells l)) (hm : m ≤ n) (h0 : 0 < m) : ∃ g, p = some ⟨g, 0, none⟩ ∧ n ≤ c ∧ w.ownsRow B 5 1 (.slice p m c) m (byteCells (l.take m)) := by
  obtain ⟨hl, h2⟩ := h
  rw [byteCells_len, Nat.mul_one] at hl
  rcases h2 with ⟨h1, h3⟩ | ⟨g, cap, cur, h1, h3, h4, h5, h6, h7, h8⟩
  · omega
  · injection h1 with e1 _ e3
    subst e1
    subst e3
    refine ⟨g, rfl, h5, by rw [byteCells_len, List.length_take]; omega, Or.inr ⟨g, c, cur, rfl, h3, h4, by omega, h6, h7, ?_⟩⟩
    rw [Nat.mul_one] at h8 ⊢
    have e : cur.toList.take m = (cur.toList.take n).take m := by rw [List.take_take, Nat.min_eq_left hm]
    rw [e, h8]
    unfold byteCells
    rw [List.map_take]
/-- the same as wpList_append_in8g, and where the row lies then: where it lay, or in new memory -/
theorem wpList_append_in8d {w : World} {ops : Array Oper} {rest : List Oper} {o : Oper} {a : Act} {Q : Exit → Act → World → Prop} (hgd : o.guard = none) (s x : Operand)
    (ho : o.op = .call { callee := .builtin .append, args := #[s, x], argTypes := #[24, 24] }) (base : Nat)
    (v : Value) (n : Nat) (xs : List Value) (hs : a.eval s = v) (hown : w.ownsRow base 5 1 v n xs) (q : Option Addr) (m cq : Nat) (l : T) (hx : a.eval x = .slice q m cq)
    (hq : In8 w q l) (hm : l.length = m) (h0 : 0 < m) (hb : n + m ≤ 140737488355328) (hbase : base ≤ w.heap.size)
    (h : ∀ v' w', w'.ownsRow base 5 1 v' (n + m) (xs ++ byteCells l) → w.grownBy w' v.ownBlock → (∀ k, v'.ownBlock = some k → v.ownBlock = some k ∨ w.heap.size ≤ k) → wpList Tryd.prog ops Q rest (a.put o.dst v') w') :
    wpList Tryd.prog ops Q (o :: rest) a w := by
  obtain ⟨j0, hj, hy0, hy1, hy2⟩ := info_parts infoByte
  subst hm
  rcases q with _ | ad
  · obtain rfl := in8_nil hq
    exact absurd h0 (by decide)
  · refine wpList_append_lies _ hgd s x 24 ho base 5 j0 (.int .u8 0) 1 1 Tryd.underlying24 hj hy0 hy1 hy2 rfl (by decide) v n xs hs hown ad l.length cq (byteCells l) hx (by rw [byteCells_len]; omega) (src_cells hq) (byteCells_one l) h0 (by unfold maxLen; omega) (by omega) hbase w.heap.size rfl ?_
    intro g cap w' h1 h2 h3 h4
    exact h _ w' h1 h2 (fun k hk => by
      have e : g = k := by simpa [Value.ownBlock] using hk
      subst e; exact h3.imp id (fun e2 => by omega))
/-- one byte behind a row of the call's own; the byte's row lies at g -/
theorem append_one_at {w : World} {ops : Array Oper} {rest : List Oper} {o : Oper} {a : Act} {Q : Exit → Act → World → Prop} (hgd : o.guard = none) (s x : Operand)
    (ho : o.op = .call { callee := .builtin .append, args := #[s, x], argTypes := #[24, 24] }) (base : Nat)
    (v : Value) (n : Nat) (l : List UInt8) (hs : a.eval s = v) (hown : w.ownsRow base 5 1 v n (byteCells l)) (c : UInt8) (C : Array Value) (hC : C = (byteCells [c]).toArray) (g : Nat) (hg : g = w.heap.size) (hx : a.eval x = .slice (some ⟨g, 0, none⟩) 1 1)
    (hb : n + 1 ≤ 140737488355328) (hbase : base ≤ w.heap.size)
    (h : ∀ v' w', w'.ownsRow base 5 1 v' (n + 1) (byteCells (l ++ [c])) → w.grownBy w' v.ownBlock → wpList Tryd.prog ops Q rest (a.put o.dst v') w') :
    wpList Tryd.prog ops Q (o :: rest) a (w.alloc (.cells C 5)) := by
  subst hg
  exact wpList_append_one hgd s x ho base v n l hs hown c C hC hx hb hbase fun g cap w' h1 h2 _ _ => h _ w' h1 h2
end Go.Proofs.YtpffebcaalbhjaaDoor.wir

namespace Go.Proofs.YtpffebcaalbhjaaDoor.wir
open Go.RowKit
open Go.Proofs.YtpffebcaalbhjaaDoor.oct Go.Proofs.YtpffebcaalbhjaaDoor.ref Go.Proofs.YtpffebcaalbhjaaDoor.rows Go.Proofs.YtpffebcaalbhjaaDoor.rowg
open Go.Lib (byteCells)

def putsB (l : List PutA) (k : Nat) : T := bytesB ((l.take k).map PutA.put)
def putsBad (l : List PutA) (k : Nat) : Bool := badB ((l.take k).map PutA.put)
theorem putsB_succ (l : List PutA) (k : Nat) (h : k < l.length) : putsB l (k + 1) = putsB l k ++ putB (l[k]).put := by
  unfold putsB
  rw [List.take_succ_eq_append_getElem h, List.map_append, List.map_singleton, bytesB_snoc]
theorem putsBad_succ (l : List PutA) (k : Nat) (h : k < l.length) : putsBad l (k + 1) = (putsBad l k || putBad (l[k]).put) := by
  unfold putsBad
  rw [List.take_succ_eq_append_getElem h, List.map_append, List.map_singleton, badB_snoc]
/-- what is known of a round: the bytes so far (b), those of the document (t), whether it is spoilt -/
def BR (w wx : World) (v : Value) (b t : T) : Prop := b.length ≤ 140000 ∧ Near b t ∧ wx.ownsRow w.heap.size 5 1 v b.length (byteCells b) ∧ Below w.heap.size w wx
theorem br_app {w wy : World} {v : Value} {b t x y : T} (hn : Near b t) (hx : Near x y) (hl : b.length + x.length ≤ 140000) (ho : wy.ownsRow w.heap.size 5 1 v (b.length + x.length) (byteCells b ++ byteCells x)) (hb : Below w.heap.size w wy) : BR w wy v (b ++ x) (t ++ y) := by
  refine ⟨by rw [List.length_append]; exact hl, near_app hn hx, ?_, hb⟩
  rw [byteCells_append, List.length_append]
  exact ho
theorem br_keep {w wx : World} {v : Value} {b t : T} (hl : b.length ≤ 65537) (hn : Near b t) (ho : wx.ownsRow w.heap.size 5 1 v b.length (byteCells b)) (hb : Below w.heap.size w wx) : BR w wx v b (t ++ []) := by
  rw [List.append_nil]
  exact ⟨by omega, hn, ho, hb⟩
theorem bor_f (b : Bool) : (b || false) = b := by cases b <;> rfl
theorem bor_t (b : Bool) : (b || true) = true := by cases b <;> rfl
set_option maxRecDepth 100000 in
set_option maxHeartbeats 16000000 in
theorem rbytes_c (P : Option Addr) (C : Nat) (l : List PutA) (w : World) (hp : InP w P l) (hg : ∀ x ∈ l, GoodP w x) (hl : l.length ≤ 400) :
    Calls Tryd.prog 31 #[.slice P l.length C] w fun e w' => ∃ b v, e = .returned (.tuple #[v, .bool (badB (l.map PutA.put))]) ∧ BR w w' v b (bytesB (l.map PutA.put)) := by
  have HP := Lib.hid hp
  have HG := Lib.hid hg
  have HSB := Lib.hid (putsB_succ l)
  have HSD := Lib.hid (putsBad_succ l)
  have HEB : Hid (putsB l l.length = bytesB (l.map PutA.put)) := by show _ = _; unfold putsB; rw [List.take_length]
  have HED : Hid (putsBad l l.length = badB (l.map PutA.put)) := by show _ = _; unfold putsBad; rw [List.take_length]
  clear hp hg
  go_enter Tryd.func31, Tryd.ntmps31
  go_wp2_with fail
  go_loopg [4, 5, 6] l.length (fun g s4 s5 s6 wx => ∃ (k : Nat) (b : T) (bd : Bool), k + g = l.length ∧ s6 = .int .i64 (k : Int) ∧ s5 = .bool bd ∧ Hid (putsBad l k = bd) ∧ Hid (BR w wx s4 b (putsB l k)))
  case atStart => exact ⟨0, [], false, by omega, rfl, rfl, rfl, ⟨by decide, near_refl _, World.ownsRow_nil _ _ _ _, Below.refl _ _⟩⟩
  case round =>
    obtain ⟨k, b, bd, hkg, rfl, rfl, HD, HB⟩ := hrel
    rcases gk with _ | g
    · obtain rfl : k = l.length := by omega
      rw [HED.out] at HD
      rw [HEB.out] at HB
      go_wp2_with fail
      go_ret2
      exact ⟨b, _, by rw [HD.out]; rfl, HB.out⟩
    · have hk : k < l.length := by omega
      have hkI : (k : Int) < (l.length : Int) := by omega
      obtain ⟨hbl, hnear, hown, hbx⟩ := HB.out
      obtain ⟨p4, c4, rfl, _, _, _⟩ := own_arg hown
      obtain ⟨bx, ox, rfl, c0, c1, c2, c3⟩ := put_cells (inp_below HP.out hbx) k hk
      have hgw := HG.out _ (List.getElem_mem hk)
      have hgp := hgw.below hbx
      have hsb := HSB.out k hk
      have hsd := HSD.out k hk
      obtain ⟨x, hx⟩ : ∃ x, l[k] = x := ⟨_, rfl⟩
      rw [hx] at c0 c1 c2 c3 hgp hgw hsb hsd
      obtain ⟨xk, xn, xs, xp, xc, xl⟩ := x
      dsimp only at c0 c1 c2 c3
      have HGP := Lib.hid hgp
      have HGW := Lib.hid hgw
      have HTB := Lib.hid hsb
      have HTD := Lib.hid hsd
      have HOW := Lib.hid hown
      have HBX := Lib.hid hbx
      have HNE := Lib.hid hnear
      obtain ⟨t, ht⟩ : ∃ t, putsB l k = t := ⟨_, rfl⟩
      rw [ht] at HTB HNE
      rw [HD.out] at HTD
      obtain ⟨wo, hwo⟩ : ∃ wo : World, wo = wr := ⟨_, rfl⟩
      subst hwo
      clear hx hsb hsd hgp hgw hown hbx hnear ht HB HD
      go_upto_if 17 with (fail)
      go_cut [4] (fun s4 wx => ∃ b' : T, b'.length ≤ 65537 ∧ Hid (Near b' t) ∧ Hid (wo.ownsRow w.heap.size 5 1 s4 b'.length (byteCells b')) ∧ wx = wo)
      case first =>
        by_cases hcut : 65536 < b.length
        · have hI : (b.length : Int) > 65536 := by omega
          obtain ⟨g4, rfl, hcc, hoc⟩ := own_cut HOW.out (m := 65537) (by omega) (by decide)
          have hC : (65537 : Int) ≤ (c4 : Int) := by omega
          have HOC := Lib.hid hoc
          have HNC := Lib.hid (near_cut HNE.out hcut)
          have htl : (b.take 65537).length = 65537 := by rw [List.length_take]; omega
          have HLT := Lib.hid htl
          clear hoc hcut htl
          go_wp2_with fail
          go_meet
          refine ⟨b.take 65537, by rw [HLT.out]; exact Nat.le_refl _, HNC.out, ?_, rfl⟩
          show World.ownsRow _ _ _ _ _ _ _
          rw [HLT.out]
          exact HOC.out
        · have hI : ¬ ((b.length : Int) > 65536) := by omega
          go_wp2_with fail
          go_meet
          exact ⟨b, by omega, HNE.out, HOW.out, rfl⟩
      case rest =>
        clear HOW HNE hbl
        obtain ⟨b', hbl, HNE, HOW, rfl⟩ := hcut
        obtain ⟨p4, c4, rfl, _, _, _⟩ := own_arg HOW.out
        have HBA := Lib.hid (HBX.out.alloc HBX.out.size (.cells #[.int .i64 xk, .int .i64 xn, .string ⟨xs.toArray⟩, .slice xp xl.length xc] 43))
        have HOA : Hid ((wc.alloc (.cells #[.int .i64 xk, .int .i64 xn, .string ⟨xs.toArray⟩, .slice xp xl.length xc] 43)).ownsRow w.heap.size 5 1 (.slice p4 b'.length c4) b'.length (byteCells b')) := HOW.out.alloc _

        by_cases k0 : xk = 0
        · subst k0
          have hx10 := numB_ten (zz_lt HGP.out.ints.1 HGP.out.ints.2)
          dsimp only at hx10
          obtain ⟨y, hy⟩ : ∃ y, numB (zz xn) = y := ⟨_, rfl⟩
          have HI := Lib.hid (fun W => rinteger_c xn W HGP.out.ints.1 HGP.out.ints.2)
          rw [hy] at hx10 HI
          have HY : Hid (putB (PutA.put ⟨0, xn, xs, xp, xc, xl⟩) = y) := hy
          have HZ : Hid (putBad (PutA.put ⟨0, xn, xs, xp, xc, xl⟩) = false) := rfl
          clear hy
          go_wp2_with fail
          refine (HI.out _).mono ?_
          rintro e w2 ⟨v2, rfl, hown2, hb2⟩
          obtain ⟨p2, c2, rfl, h8, hn2, _⟩ := own_arg hown2
          have H2 := Lib.hid h8
          have HN2 := Lib.hid hn2
          have HO2 := Lib.hid (own_below HOA.out hb2)
          have HB2 := Lib.hid (bnext HBA.out hb2)
          clear hown2 hb2 h8 hn2
          go_wp2_with (at_builtin; refine wpList_append_in8g rfl (.tmp 28) (.tmp 31) rfl w.heap.size _ b'.length (byteCells b') rfl HO2.out p2 _ c2 _ rfl H2.out rfl HN2.out (by omega) HB2.out.size ?_; intro v3 w3 q1 q2; have HQ := Lib.hid q1; have HB3 := Lib.hid (HB2.out.grown q2 HB2.out.size (fun k hk => (HO2.out.lt k hk).1)); clear q1 q2)
          go_roundg g
          case measure => omega
          case rel =>
            refine ⟨k + 1, (b' ++ y), bd, by omega, by go_num, rfl, ?_, ?_⟩
            · show _ = _
              rw [HTD.out]
              rw [HZ.out, bor_f]
            · show BR _ _ _ _ _
              rw [HTB.out]
              rw [HY.out]
              exact br_app HNE.out (near_refl y) (by omega) HQ.out HB3.out
        by_cases k1 : xk = 1
        · subst k1
          have hx10 := textR_len xs (by have := HGP.out.text; dsimp only at this; omega)
          have HI := Lib.hid (fun W => rtext_c xs W HGP.out.text)
          have HY := Lib.hid (near_text xs)
          obtain ⟨y, hy⟩ : ∃ y, textR xs = y := ⟨_, rfl⟩
          rw [hy] at hx10 HI HY
          have HE : Hid (putB (PutA.put ⟨1, xn, xs, xp, xc, xl⟩) = textB xs) := rfl
          have HZ : Hid (putBad (PutA.put ⟨1, xn, xs, xp, xc, xl⟩) = false) := rfl
          clear hy
          go_wp2_with fail
          refine (HI.out _).mono ?_
          rintro e w2 ⟨v2, rfl, hown2, hb2⟩
          obtain ⟨p2, c2, rfl, h8, hn2, _⟩ := own_arg hown2
          have H2 := Lib.hid h8
          have HN2 := Lib.hid hn2
          have HO2 := Lib.hid (own_below HOA.out hb2)
          have HB2 := Lib.hid (bnext HBA.out hb2)
          clear hown2 hb2 h8 hn2
          go_wp2_with (at_builtin; refine wpList_append_in8g rfl (.tmp 35) (.tmp 38) rfl w.heap.size _ b'.length (byteCells b') rfl HO2.out p2 _ c2 _ rfl H2.out rfl HN2.out (by omega) HB2.out.size ?_; intro v3 w3 q1 q2; have HQ := Lib.hid q1; have HB3 := Lib.hid (HB2.out.grown q2 HB2.out.size (fun k hk => (HO2.out.lt k hk).1)); clear q1 q2)
          go_roundg g
          case measure => omega
          case rel =>
            refine ⟨k + 1, (b' ++ y), bd, by omega, by go_num, rfl, ?_, ?_⟩
            · show _ = _
              rw [HTD.out]
              rw [HZ.out, bor_f]
            · show BR _ _ _ _ _
              rw [HTB.out]
              rw [HE.out]
              exact br_app HNE.out HY.out (by omega) HQ.out HB3.out
        by_cases k2 : xk = 2
        · subst k2
          by_cases n1 : xn = 1
          · subst n1
            have HE : Hid (putB (PutA.put ⟨2, (1 : Int), xs, xp, xc, xl⟩) = [1]) := by show (([if (1 : Int) = 1 then 1 else 0] : T)) = _; rw [if_pos rfl]
            have HZ : Hid (putBad (PutA.put ⟨2, (1 : Int), xs, xp, xc, xl⟩) = false) := rfl

            go_wp2_with (at_builtin; refine append_one_at rfl (.tmp 45) (.tmp 46) rfl w.heap.size _ b'.length b' rfl HOA.out 1 _ rfl (wc.heap.size + 1) (by simp) rfl (by omega) HBA.out.size ?_; intro v3 w3 q1 q2; have HQ := Lib.hid q1; have HB3 := Lib.hid (HBA.out.grown q2 HBA.out.size (fun k hk => (HOA.out.lt k hk).1)); clear q1 q2)
            go_roundg g
            case measure => omega
            case rel =>
              refine ⟨k + 1, (b' ++ [1]), bd, by omega, by go_num, rfl, ?_, ?_⟩
              · show _ = _
                rw [HTD.out]
                rw [HZ.out, bor_f]
              · show BR _ _ _ _ _
                rw [HTB.out]
                rw [HE.out]
                exact br_app (x := [1]) HNE.out (near_refl [1]) (by simp; omega) (by rw [byteCells_append] at HQ; exact HQ.out) HB3.out
          · have HE : Hid (putB (PutA.put ⟨2, xn, xs, xp, xc, xl⟩) = [0]) := by show (([if xn = 1 then 1 else 0] : T)) = _; rw [if_neg n1]
            have HZ : Hid (putBad (PutA.put ⟨2, xn, xs, xp, xc, xl⟩) = false) := rfl
            have i1 : (xn == 1) = false := by rw [beq_eq_false_iff_ne]; exact n1
            go_wp2_with (at_builtin; refine append_one_at rfl (.tmp 48) (.tmp 49) rfl w.heap.size _ b'.length b' rfl HOA.out 0 _ rfl (wc.heap.size + 1) (by simp) rfl (by omega) HBA.out.size ?_; intro v3 w3 q1 q2; have HQ := Lib.hid q1; have HB3 := Lib.hid (HBA.out.grown q2 HBA.out.size (fun k hk => (HOA.out.lt k hk).1)); clear q1 q2)
            go_roundg g
            case measure => omega
            case rel =>
              refine ⟨k + 1, (b' ++ [0]), bd, by omega, by go_num, rfl, ?_, ?_⟩
              · show _ = _
                rw [HTD.out]
                rw [HZ.out, bor_f]
              · show BR _ _ _ _ _
                rw [HTB.out]
                rw [HE.out]
                exact br_app (x := [0]) HNE.out (near_refl [0]) (by simp; omega) (by rw [byteCells_append] at HQ; exact HQ.out) HB3.out
        by_cases k3 : xk = 3
        · subst k3
          by_cases hn : 0 ≤ xn ∧ xn ≤ 4096
          · obtain ⟨m, rfl⟩ : ∃ m : Nat, xn = (m : Int) := ⟨xn.toNat, by omega⟩
            have hm : m ≤ 4096 := by omega
            have hx10 := numB_ten (n := m) (by omega)
            have HI := Lib.hid (fun W => rnumber_c m W (by omega))
            have HE : Hid (putB (PutA.put ⟨3, (m : Int), xs, xp, xc, xl⟩) = numB m) := by show (if 0 ≤ (m : Int) ∧ (m : Int) ≤ 4096 then numB (m : Int).toNat else []) = _; rw [if_pos hn, Int.toNat_natCast]
            have HZ : Hid (putBad (PutA.put ⟨3, (m : Int), xs, xp, xc, xl⟩) = false) := by show ((true && !(decide (0 ≤ (m : Int)) && decide ((m : Int) ≤ 4096))) || (false && _)) = false; rw [decide_eq_true hn.1, decide_eq_true hn.2]; rfl
            obtain ⟨y, hy⟩ : ∃ y, numB m = y := ⟨_, rfl⟩
            rw [hy] at hx10 HI HE
            have i1 : decide ((m : Int) < 0) = false := decide_eq_false (by omega)
            have i2 : decide ((4096 : Int) < (m : Int)) = false := decide_eq_false (by omega)
            have i3 : (m : Int) % 18446744073709551616 = (m : Int) := by omega
            clear hy hn
            go_wp2_with fail
            refine (HI.out _).mono ?_
            rintro e w2 ⟨v2, rfl, hown2, hb2⟩
            obtain ⟨p2, c2, rfl, h8, hn2, _⟩ := own_arg hown2
            have H2 := Lib.hid h8
            have HN2 := Lib.hid hn2
            have HO2 := Lib.hid (own_below HOA.out hb2)
            have HB2 := Lib.hid (bnext HBA.out hb2)
            clear hown2 hb2 h8 hn2
            go_wp2_with (at_builtin; refine wpList_append_in8g rfl (.tmp 61) (.tmp 65) rfl w.heap.size _ b'.length (byteCells b') rfl HO2.out p2 _ c2 _ rfl H2.out rfl HN2.out (by omega) HB2.out.size ?_; intro v3 w3 q1 q2; have HQ := Lib.hid q1; have HB3 := Lib.hid (HB2.out.grown q2 HB2.out.size (fun k hk => (HO2.out.lt k hk).1)); clear q1 q2)
            go_roundg g
            case measure => omega
            case rel =>
              refine ⟨k + 1, (b' ++ y), bd, by omega, by go_num, rfl, ?_, ?_⟩
              · show _ = _
                rw [HTD.out]
                rw [HZ.out, bor_f]
              · show BR _ _ _ _ _
                rw [HTB.out]
                rw [HE.out]
                exact br_app HNE.out (near_refl y) (by omega) HQ.out HB3.out
          · have HE : Hid (putB (PutA.put ⟨3, xn, xs, xp, xc, xl⟩) = []) := by show (if 0 ≤ xn ∧ xn ≤ 4096 then numB xn.toNat else []) = _; rw [if_neg hn]
            have HZ : Hid (putBad (PutA.put ⟨3, xn, xs, xp, xc, xl⟩) = true) := by
              show ((true && !(decide (0 ≤ xn) && decide (xn ≤ 4096))) || (false && _)) = true
              by_cases h1 : 0 ≤ xn
              · have h2 : ¬ xn ≤ 4096 := fun h => hn ⟨h1, h⟩
                rw [decide_eq_true h1, decide_eq_false h2]; rfl
              · rw [decide_eq_false h1]; rfl
            by_cases hlo : xn < 0
            · have i1 : decide (xn < 0) = true := decide_eq_true hlo
              clear hn
              go_wp2_with fail
              go_roundg g
              case measure => omega
              case rel =>
                refine ⟨k + 1, b', true, by omega, by go_num, rfl, ?_, ?_⟩
                · show _ = _
                  rw [HTD.out]
                  rw [HZ.out, bor_t]
                · show BR _ _ _ _ _
                  rw [HTB.out]
                  rw [HE.out]
                  exact br_keep hbl HNE.out HOA.out HBA.out
            · have i1 : decide (xn < 0) = false := decide_eq_false hlo
              have i2 : decide ((4096 : Int) < xn) = true := decide_eq_true (by omega)
              clear hn
              go_wp2_with fail
              go_roundg g
              case measure => omega
              case rel =>
                refine ⟨k + 1, b', true, by omega, by go_num, rfl, ?_, ?_⟩
                · show _ = _
                  rw [HTD.out]
                  rw [HZ.out, bor_t]
                · show BR _ _ _ _ _
                  rw [HTB.out]
                  rw [HE.out]
                  exact br_keep hbl HNE.out HOA.out HBA.out
        by_cases k4 : xk = 4
        · subst k4
          by_cases hm : xl.length ≤ 4096
          · have hnl := numB_ten (n := xl.length) (by omega)
            have hnp := numB_pos xl.length
            have HE : Hid (putB (PutA.put ⟨4, xn, xs, xp, xc, xl⟩) = numB xl.length ++ xl.flatMap textB) := by show (if xl.length ≤ 4096 then numB xl.length ++ xl.flatMap textB else []) = _; rw [if_pos hm]
            have HZ : Hid (putBad (PutA.put ⟨4, xn, xs, xp, xc, xl⟩) = false) := by show ((false && _) || (true && decide (4096 < xl.length))) = false; rw [show decide (4096 < xl.length) = false from decide_eq_false (by omega)]; rfl
            have HI := Lib.hid (fun W => rnumber_c xl.length W (by omega))
            have i1 : decide ((4096 : Int) < (xl.length : Int)) = false := decide_eq_false (by omega)
            have i2 : (xl.length : Int) % 18446744073709551616 = (xl.length : Int) := by omega
            obtain ⟨y, hy⟩ : ∃ y, numB xl.length = y := ⟨_, rfl⟩
            rw [hy] at HI HE hnl hnp
            have HBK : Hid (Blk (wc.alloc (.cells #[.int .i64 4, .int .i64 xn, .string ⟨xs.toArray⟩, .slice xp xl.length xc] 43)) wc.heap.size 43 [.int .i64 4, .int .i64 xn, .string ⟨xs.toArray⟩, .slice xp xl.length xc]) := blk_new wc _ _ _ rfl
            have HLT : Hid (∀ k, (Value.slice p4 b'.length c4).ownBlock = some k → k < wc.heap.size) := fun k hk => (HOW.out.lt k hk).2
            obtain ⟨G, hG⟩ : ∃ G, wc.heap.size = G := ⟨_, rfl⟩
            have HGE := Lib.hid hG
            clear hy
            go_wp2_with fail
            refine (HI.out _).mono ?_
            rintro e w2 ⟨v2, rfl, hown2, hb2⟩
            obtain ⟨p2, c2, rfl, h8, hn2, _⟩ := own_arg hown2
            have H2 := Lib.hid h8
            have HO2 := Lib.hid (own_below HOA.out hb2)
            have HB2 := Lib.hid (bnext HBA.out hb2)
            have HK2 : Hid (Blk w2 G 43 [.int .i64 4, .int .i64 xn, .string ⟨xs.toArray⟩, .slice xp xl.length xc]) := by rw [← hG]; exact HBK.out.below hb2
            have HG2 : Hid (G < w2.heap.size) := HK2.out.lt
            rw [hG] at HLT
            clear hown2 hb2 h8 hn2
            go_wp2_with (at_builtin; refine wpList_append_in8d rfl (.tmp 73) (.tmp 78) rfl w.heap.size _ b'.length (byteCells b') rfl HO2.out p2 _ c2 _ rfl H2.out rfl hnp (by omega) HB2.out.size ?_; intro v3 w3 q1 q2 q3; have HQ := Lib.hid q1; have HB3 := Lib.hid (HB2.out.grown q2 HB2.out.size (fun k hk => (HO2.out.lt k hk).1)); have HK3 : Hid (Blk w3 G 43 [.int .i64 4, .int .i64 xn, .string ⟨xs.toArray⟩, .slice xp xl.length xc]) := (q2.block G HK2.out.lt (fun e => Nat.lt_irrefl _ (HLT.out G e.symm))).trans HK2.out; have HV3 : Hid (∀ k, v3.ownBlock = some k → k ≠ G) := (fun k hk e => by { subst e; rcases q3 k hk with h | h; exact Nat.lt_irrefl _ (HLT.out k h); exact Nat.not_lt.2 h HG2.out }); clear q1 q2 q3)
            go_loopg [4, 8] xl.length (fun g2 s4 s8 wx => ∃ (j : Nat) (bj : T), j + g2 = xl.length ∧ s8 = .int .i64 (j : Int) ∧ bj.length ≤ 140000 ∧ Hid (Near bj (t ++ (y ++ (xl.take j).flatMap textB))) ∧ Hid (wx.ownsRow w.heap.size 5 1 s4 bj.length (byteCells bj)) ∧ Hid (Below w.heap.size w wx) ∧ Hid (Blk wx G 43 [.int .i64 4, .int .i64 xn, .string ⟨xs.toArray⟩, .slice xp xl.length xc]) ∧ Hid (∀ k, s4.ownBlock = some k → k ≠ G))
            case atStart =>
              refine ⟨0, b' ++ y, by omega, rfl, by rw [List.length_append]; omega, ?_, ?_, HB3.out, HK3.out, HV3.out⟩
              · show Near _ _
                rw [List.take_zero, List.flatMap_nil, List.append_nil]
                exact near_app HNE.out (near_refl y)
              · show World.ownsRow _ _ _ _ _ _ _
                rw [byteCells_append, List.length_append]
                exact HQ.out
            case round =>
              clear HQ HB3 HK3 HV3 HK2 HG2 HB2 HO2 H2 HI HBK HLT
              obtain ⟨j, bj, hjg, rfl, hbj, HN, HO, HBJ, HK, HV⟩ := hrel
              obtain ⟨pj, cj, rfl, _, _, _⟩ := own_arg HO.out
              have d3 := HK.out.cell 3
              rcases gk with _ | g2
              · obtain rfl : j = xl.length := by omega
                have HN2 : Hid (Near bj (t ++ (y ++ xl.flatMap textB))) := by have h := HN.out; rwa [List.take_length] at h
                go_wp2_with fail
                go_roundg g
                case measure => omega
                case rel =>
                  refine ⟨k + 1, bj, bd, by omega, by go_num, rfl, ?_, ?_⟩
                  · show _ = _
                    rw [HTD.out]
                    rw [HZ.out, bor_f]
                  · show BR _ _ _ _ _
                    rw [HTB.out, HE.out]
                    exact ⟨hbj, HN2.out, HO.out, HBJ.out⟩
              · have hj : j < xl.length := by omega
                have hjI : (j : Int) < (xl.length : Int) := by omega
                by_cases hst : 65536 < bj.length
                · have i3 : ¬ ((bj.length : Int) ≤ 65536) := by omega
                  have HN2 : Hid (Near bj (t ++ (y ++ xl.flatMap textB))) := by
                    have h := near_stop (u := (xl.drop j).flatMap textB) HN.out hst
                    rw [List.append_assoc, List.append_assoc, ← List.flatMap_append, List.take_append_drop] at h
                    exact h
                  go_wp2_with fail
                  go_roundg g
                  case measure => omega
                  case rel =>
                    refine ⟨k + 1, bj, bd, by omega, by go_num, rfl, ?_, ?_⟩
                    · show _ = _
                      rw [HTD.out]
                      rw [HZ.out, bor_f]
                    · show BR _ _ _ _ _
                      rw [HTB.out, HE.out]
                      exact ⟨hbj, HN2.out, HO.out, HBJ.out⟩
                · have i3 : (bj.length : Int) ≤ 65536 := by omega
                  obtain ⟨bl, ol, hpe, e0⟩ := ins_cell (HGW.out.below HBJ.out).row j hj
                  dsimp only at hpe e0
                  subst hpe
                  have htx := HGW.out.texts _ (List.getElem_mem hj)
                  have HTK := Lib.hid (List.take_succ_eq_append_getElem hj)
                  obtain ⟨z, hz⟩ : ∃ z, xl[j] = z := ⟨_, rfl⟩
                  rw [hz] at e0 htx HTK
                  have hzl := textR_len z (by omega)
                  have HZN := Lib.hid (near_text z)
                  have hzp : 0 < (textR z).length := by unfold textR; rw [List.length_append]; have := numB_pos z.length; omega
                  have HTX := Lib.hid (rtext_c z wr htx)
                  obtain ⟨u, hu⟩ : ∃ u, textR z = u := ⟨_, rfl⟩
                  rw [hu] at hzl HZN hzp HTX
                  have HKL : Hid (G < wr.heap.size) := HK.out.lt
                  clear hz hu htx
                  go_wp2_with fail
                  refine HTX.out.mono ?_
                  rintro e w5 ⟨v5, rfl, hown5, hb5⟩
                  obtain ⟨p5, c5, rfl, h85, _, _⟩ := own_arg hown5
                  have H5 := Lib.hid h85
                  have HO5 := Lib.hid (own_below HO.out hb5)
                  have HB5 := Lib.hid (bnext HBJ.out hb5)
                  have HK5 := Lib.hid (HK.out.below hb5)
                  have HG5 : Hid (G < w5.heap.size) := HK5.out.lt
                  clear hown5 hb5 h85
                  go_wp2_with (at_builtin; refine wpList_append_in8d rfl (.tmp 92) (.tmp 98) rfl w.heap.size _ bj.length (byteCells bj) rfl HO5.out p5 _ c5 _ rfl H5.out rfl hzp (by omega) HB5.out.size ?_; intro v6 w6 q1 q2 q3; have HQ6 := Lib.hid q1; have HB6 := Lib.hid (HB5.out.grown q2 HB5.out.size (fun k hk => (HO5.out.lt k hk).1)); have HK6 : Hid (Blk w6 G 43 [.int .i64 4, .int .i64 xn, .string ⟨xs.toArray⟩, .slice (some ⟨bl, ol, none⟩) xl.length xc]) := (q2.block G HK5.out.lt (fun e => HV.out G e.symm rfl)).trans HK5.out; have HV6 : Hid (∀ k, v6.ownBlock = some k → k ≠ G) := (fun k hk e => by { subst e; rcases q3 k hk with h | h; exact HV.out k h rfl; exact Nat.not_lt.2 h HG5.out }); clear q1 q2 q3)
                  go_roundg g2
                  case measure => omega
                  case rel =>
                    refine ⟨j + 1, bj ++ u, by omega, by go_num, by rw [List.length_append]; omega, ?_, ?_, HB6.out, HK6.out, HV6.out⟩
                    · show Near _ _
                      have h := near_app HN.out HZN.out
                      rw [HTK.out, List.flatMap_append, List.flatMap_cons, List.flatMap_nil, List.append_nil, ← List.append_assoc y, ← List.append_assoc t]
                      exact h
                    · show World.ownsRow _ _ _ _ _ _ _
                      rw [byteCells_append, List.length_append]
                      exact HQ6.out
          · have HE : Hid (putB (PutA.put ⟨4, xn, xs, xp, xc, xl⟩) = []) := by show (if xl.length ≤ 4096 then _ else []) = _; rw [if_neg hm]
            have HZ : Hid (putBad (PutA.put ⟨4, xn, xs, xp, xc, xl⟩) = true) := by show ((false && _) || (true && decide (4096 < xl.length))) = true; rw [show decide (4096 < xl.length) = true from decide_eq_true (by omega)]; rfl
            have i1 : decide ((4096 : Int) < (xl.length : Int)) = true := decide_eq_true (by omega)
            go_wp2_with fail
            go_roundg g
            case measure => omega
            case rel =>
              refine ⟨k + 1, b', true, by omega, by go_num, rfl, ?_, ?_⟩
              · show _ = _
                rw [HTD.out]
                rw [HZ.out, bor_t]
              · show BR _ _ _ _ _
                rw [HTB.out]
                rw [HE.out]
                exact br_keep hbl HNE.out HOA.out HBA.out
        have HE : Hid (putB (PutA.put ⟨xk, xn, xs, xp, xc, xl⟩) = []) := by
          show putB ⟨xk, xn, xs, xl⟩ = _
          unfold putB
          dsimp only
          rw [if_neg k0, if_neg k1, if_neg k2, if_neg k3, if_neg k4]
        have HZ : Hid (putBad (PutA.put ⟨xk, xn, xs, xp, xc, xl⟩) = false) := by
          show putBad ⟨xk, xn, xs, xl⟩ = _
          unfold putBad
          dsimp only
          rw [decide_eq_false k3, decide_eq_false k4]; rfl
        have i0 : (xk == 0) = false := by rw [beq_eq_false_iff_ne]; exact k0
        have i1 : (xk == 1) = false := by rw [beq_eq_false_iff_ne]; exact k1
        have i2 : (xk == 2) = false := by rw [beq_eq_false_iff_ne]; exact k2
        have i3 : (xk == 3) = false := by rw [beq_eq_false_iff_ne]; exact k3
        have i4 : (xk == 4) = false := by rw [beq_eq_false_iff_ne]; exact k4
        clear k0 k1 k2 k3 k4
        go_wp2_with fail
        go_roundg g
        case measure => omega
        case rel =>
          refine ⟨k + 1, b', bd, by omega, by go_num, rfl, ?_, ?_⟩
          · show _ = _
            rw [HTD.out]
            rw [HZ.out, bor_f]
          · show BR _ _ _ _ _
            rw [HTB.out]
            rw [HE.out]
            exact br_keep hbl HNE.out HOA.out HBA.out
end Go.Proofs.YtpffebcaalbhjaaDoor.wir

namespace Go.Proofs.YtpffebcaalbhjaaDoor.wir
open Go.RowKit
open Go.Proofs.YtpffebcaalbhjaaDoor.oct Go.Proofs.YtpffebcaalbhjaaDoor.ref Go.Proofs.YtpffebcaalbhjaaDoor.rows Go.Proofs.YtpffebcaalbhjaaDoor.rowg Go.Proofs.YtpffebcaalbhjaaDoor.crc
open Go.Lib (byteCells)

/-- the frame of puts, or the error -/
def writeT (l : List Put) : Nat × T := if badB l then (3, []) else if 65536 < (bytesB l).length then (2, []) else (0, frameT (bytesB l))
/-- an answer of bytes and an error -/
def FrameA (w w' : World) (r : Nat × T) (e : Ending) : Prop := ∃ v, e = .returned (.tuple #[v, .int .i64 (r.1 : Nat)]) ∧ w'.ownsRow w.heap.size 5 1 v r.2.length (byteCells r.2) ∧ Below w.heap.size w w'
set_option maxRecDepth 100000 in
set_option maxHeartbeats 4000000 in
theorem rwrite_c (P : Option Addr) (C : Nat) (l : List PutA) (w : World) (hp : InP w P l) (hg : ∀ x ∈ l, GoodP w x) (hl : l.length ≤ 400) :
    Calls Tryd.prog 13 #[.slice P l.length C] w fun e w' => FrameA w w' (writeT (l.map PutA.put)) e := by
  have HC := Lib.hid (rbytes_c P C l w hp hg hl)
  have HW : Hid (writeT (l.map PutA.put) = if badB (l.map PutA.put) then (3, []) else if 65536 < (bytesB (l.map PutA.put)).length then (2, []) else (0, frameT (bytesB (l.map PutA.put)))) := rfl
  obtain ⟨bd, hbd⟩ : ∃ bd, badB (l.map PutA.put) = bd := ⟨_, rfl⟩
  obtain ⟨t, ht⟩ : ∃ t, bytesB (l.map PutA.put) = t := ⟨_, rfl⟩
  obtain ⟨r, hr⟩ : ∃ r, writeT (l.map PutA.put) = r := ⟨_, rfl⟩
  rw [hbd, ht] at HC HW
  rw [hr] at HW ⊢
  clear hp hg hl hbd ht hr
  go_enter Tryd.func13, Tryd.ntmps13
  go_wp2_with fail
  refine HC.out.mono ?_
  rintro e w1 ⟨b, v, rfl, hbl, hn, hown, hb1⟩
  have HB := Lib.hid hb1
  obtain ⟨p, c, rfl, h8, hnil, _⟩ := own_arg hown
  cases bd
  · by_cases hlong : 65536 < t.length
    · have HR : Hid (r = (2, [])) := by show _ = _; rw [HW.out, if_neg (by decide), if_pos hlong]
      have hbb := hn.2 hlong
      have i1 : (b.length : Int) > 65536 := by omega
      clear HC hown hb1 h8 hnil hn hlong hbb
      go_wp2_with fail
      go_ret2
      exact ⟨_, by rw [HR.out]; rfl, by rw [HR.out]; exact World.ownsRow_nil _ _ _ _, HB.out⟩
    · have hbt := hn.1 (by omega)
      subst hbt
      have HR : Hid (r = (0, frameT b)) := by show _ = _; rw [HW.out, if_neg (by decide), if_neg hlong]
      have i1 : ¬ ((b.length : Int) > 65536) := by omega
      have HF := Lib.hid (rframe_c p c b w1 h8 (by omega) hnil)
      clear HC hown hb1 h8 hnil hn hlong
      go_wp2_with fail
      refine HF.out.mono ?_
      rintro e w2 ⟨v2, rfl, hown2, hb2⟩
      go_wp2_with fail
      go_ret2
      exact ⟨v2, by rw [HR.out]; rfl, by rw [HR.out]; exact own_base hown2 HB.out.size, bnext HB.out hb2⟩
  · have HR : Hid (r = (3, [])) := by show _ = _; rw [HW.out, if_pos rfl]
    clear HC hown hb1 h8 hnil hn hbl
    go_wp2_with fail
    go_ret2
    exact ⟨_, by rw [HR.out]; rfl, by rw [HR.out]; exact World.ownsRow_nil _ _ _ _, HB.out⟩
end Go.Proofs.YtpffebcaalbhjaaDoor.wir

namespace Go.Proofs.YtpffebcaalbhjaaDoor.wir
open Go.RowKit
open Go.Proofs.YtpffebcaalbhjaaDoor.oct Go.Proofs.YtpffebcaalbhjaaDoor.ref Go.Proofs.YtpffebcaalbhjaaDoor.rows Go.Proofs.YtpffebcaalbhjaaDoor.rowg
open Go.Lib (byteCells)

/-- a reader: where its bytes lie, with what room; the bytes, the place, the error -/
structure RV where
  p : Option Addr
  c : Nat
  b : T
  a : Nat
  e : Nat
def RV.cells (x : RV) : List Value := [.slice x.p x.b.length x.c, .int .i64 (x.a : Int), .int .i64 (x.e : Int)]
def RV.val (x : RV) : Value := .agg x.cells.toArray
def RV.st (x : RV) : St := if x.e = 0 then .ok (x.b.drop x.a) else .bad x.e
structure RV.ok (w : World) (x : RV) : Prop where
  row : In8 w x.p x.b
  nil : x.p = none → x.c = 0
  room : x.b.length ≤ x.c
  place : x.a ≤ x.b.length
  size : x.b.length ≤ 140737488355328
  err : x.e ≤ 5
theorem RV.ok.below {w w' : World} {x : RV} (h : x.ok w) (hb : Below w.heap.size w w') : x.ok w' := ⟨h.row.below hb, h.nil, h.room, h.place, h.size, h.err⟩
set_option maxRecDepth 100000 in
set_option maxHeartbeats 4000000 in
theorem rend_c (x : RV) (w : World) (hx : x.ok w) : Calls Tryd.prog 22 #[x.val] w fun e w' => e = .returned (.int .i64 (endS x.st : Nat)) ∧ Below w.heap.size w w' := by
  have hpl := hx.place
  have HR : Hid (endS x.st = if x.e = 0 then (if x.a < x.b.length then 3 else 0) else x.e) := by
    show _ = _
    unfold RV.st
    by_cases h0 : x.e = 0
    · rw [if_pos h0, if_pos h0]
      show (if x.b.drop x.a = [] then 0 else 3) = _
      by_cases h1 : x.a < x.b.length
      · rw [if_pos h1, if_neg (fun h => by have := congrArg List.length h; rw [List.length_drop] at this; simp at this; omega)]
      · rw [if_neg h1, if_pos (List.drop_eq_nil_of_le (by omega))]
    · rw [if_neg h0, if_neg h0]; rfl
  obtain ⟨p, c, b, a, e0⟩ := x
  dsimp only at HR hpl
  have HB0 := Lib.hid ((Below.refl w.heap.size w).alloc (Nat.le_refl _) (.cells #[.slice p b.length c, .int .i64 (a : Int), .int .i64 (e0 : Int)] 38))
  unfold RV.val RV.cells
  dsimp only
  obtain ⟨r, hr⟩ : ∃ r, endS (RV.st ⟨p, c, b, a, e0⟩) = r := ⟨_, rfl⟩
  rw [hr] at HR ⊢
  clear hx hr
  by_cases h0 : e0 = 0
  · subst h0
    by_cases h1 : a < b.length
    · have HT : Hid (r = 3) := by show _ = _; rw [HR.out, if_pos rfl, if_pos h1]
      have i1 : (a : Int) < (b.length : Int) := by omega
      go_enter Tryd.func22, Tryd.ntmps22
      go_wp2_with fail
      go_ret
      exact ⟨by rw [HT.out]; rfl, HB0.out⟩
    · have HT : Hid (r = 0) := by show _ = _; rw [HR.out, if_pos rfl, if_neg h1]
      have i1 : ¬ ((a : Int) < (b.length : Int)) := by omega
      go_enter Tryd.func22, Tryd.ntmps22
      go_wp2_with fail
      go_ret
      exact ⟨by rw [HT.out]; rfl, HB0.out⟩
  · have HT : Hid (r = e0) := by show _ = _; rw [HR.out, if_neg h0]
    have i1 : ((e0 : Int) == 0) = false := by rw [beq_eq_false_iff_ne]; omega
    go_enter Tryd.func22, Tryd.ntmps22
    go_wp2_with fail
    go_ret
    exact ⟨by rw [HT.out]; rfl, HB0.out⟩
end Go.Proofs.YtpffebcaalbhjaaDoor.wir

namespace Go.Proofs.YtpffebcaalbhjaaDoor.wir
open Go.RowKit
open Go.Proofs.YtpffebcaalbhjaaDoor.oct Go.Proofs.YtpffebcaalbhjaaDoor.ref Go.Proofs.YtpffebcaalbhjaaDoor.rows Go.Proofs.YtpffebcaalbhjaaDoor.rowg
open Go.Lib (byteCells)

/-- how far a number is read: k digits are read, that are worth n -/
def NumI (t : T) (k n : Nat) : Prop := numR 0 t = ((numR k (t.drop k)).1, if (numR k (t.drop k)).1 = 0 then n + 128 ^ k * (numR k (t.drop k)).2.1 else 0, k + (numR k (t.drop k)).2.2)
theorem numR_zero : ∀ (t : T) (k : Nat), (numR k t).1 ≠ 0 → (numR k t).2.1 = 0
  | [], k, _ => rfl
  | d :: r, k, h => by
    rw [numR] at h ⊢
    split
    · rfl
    · rename_i h1
      rw [if_neg h1] at h
      split
      · rename_i h2; rw [if_pos h2] at h; exact absurd rfl h
      · rename_i h2
        rw [if_neg h2] at h
        dsimp only at h ⊢
        rw [if_neg h]
theorem numI_start (t : T) : NumI t 0 0 := by
  unfold NumI
  rw [List.drop_zero, Nat.pow_zero, Nat.one_mul, Nat.zero_add, Nat.zero_add]
  by_cases h : (numR 0 t).1 = 0
  · rw [if_pos h]
  · rw [if_neg h]
    exact Prod.ext rfl (Prod.ext (numR_zero t 0 h) rfl)
/-- a digit at a place -/
theorem drop_at {t : T} {k : Nat} (h : k < t.length) : t.drop k = t[k] :: t.drop (k + 1) := List.drop_eq_getElem_cons h
def BadD (k d : Nat) : Prop := (k = 9 ∧ 1 < d) ∨ (0 < k ∧ d = 0)
theorem numR_bad {k : Nat} {d : UInt8} (r : T) (h : BadD k d.toNat) : numR k (d :: r) = (3, 0, 1) := by
  have h' : (k = 9 ∧ 1 < d.toNat) ∨ (0 < k ∧ d.toNat = 0) := h
  rw [numR, if_pos h']
theorem numR_last {k : Nat} {d : UInt8} (r : T) (h : ¬ BadD k d.toNat) (hl : d.toNat < 128) : numR k (d :: r) = (0, d.toNat, 1) := by
  have h' : ¬ ((k = 9 ∧ 1 < d.toNat) ∨ (0 < k ∧ d.toNat = 0)) := h
  rw [numR, if_neg h', if_pos hl]
theorem numR_more {k : Nat} {d : UInt8} (r : T) (h : ¬ BadD k d.toNat) (hl : ¬ d.toNat < 128) : numR k (d :: r) = ((numR (k + 1) r).1, if (numR (k + 1) r).1 = 0 then d.toNat % 128 + 128 * (numR (k + 1) r).2.1 else 0, (numR (k + 1) r).2.2 + 1) := by
  have h' : ¬ ((k = 9 ∧ 1 < d.toNat) ∨ (0 < k ∧ d.toNat = 0)) := h
  rw [numR, if_neg h', if_neg hl]
theorem numI_end {t : T} {k n : Nat} (h : NumI t k n) (hk : t.length ≤ k) : (numR 0 t).1 = 4 := by
  rw [h, List.drop_eq_nil_of_le hk]; rfl
theorem numI_bad {t : T} {k n : Nat} (h : NumI t k n) (hk : k < t.length) (hd : BadD k t[k].toNat) : (numR 0 t).1 = 3 := by
  rw [h, drop_at hk, numR_bad _ hd]
theorem numI_last {t : T} {k n : Nat} (h : NumI t k n) (hk : k < t.length) (hd : ¬ BadD k t[k].toNat) (hl : t[k].toNat < 128) : numR 0 t = (0, n + 128 ^ k * t[k].toNat, k + 1) := by
  rw [h, drop_at hk, numR_last _ hd hl]; rfl
theorem numI_more {t : T} {k n : Nat} (h : NumI t k n) (hk : k < t.length) (hd : ¬ BadD k t[k].toNat) (hl : ¬ t[k].toNat < 128) : NumI t (k + 1) (n + 128 ^ k * (t[k].toNat % 128)) := by
  unfold NumI at h ⊢
  rw [h, drop_at hk, numR_more _ hd hl]
  dsimp only
  by_cases h0 : (numR (k + 1) (t.drop (k + 1))).1 = 0
  · rw [if_pos h0, if_pos h0, if_pos h0, Nat.pow_succ, Nat.mul_add]
    refine Prod.ext rfl (Prod.ext ?_ ?_)
    · dsimp only
      rw [Nat.mul_assoc]; omega
    · dsimp only; omega
  · rw [if_neg h0, if_neg h0]
    refine Prod.ext rfl (Prod.ext rfl ?_)
    dsimp only; omega
theorem results_tmprow {P : Program} {fn : Func} {p q : Tmp} {ty : TypeId} (h : fn.results = #[.tmp q, .cell p ty]) (tmps : Array Value) (w : World) (g : Nat) (t : TypeId) (X : List Value) (u : Value) {d : TypeDesc}
    (hp : tmps.getD p undef = .pointer (some ⟨g, 0, none⟩)) (hq : tmps.getD q undef = u) (hB : Blk w g t X) (hu : P.underlying ty = some d) (hd : (match d with | .struct _ | .array _ _ => true | _ => false) = true) (hi : (P.info? ty).map (·.size) = some X.length) :
    (results fn tmps).run P w = .ok (.tuple #[u, .agg X.toArray]) w := by
  have hp' : tmps[p]?.getD undef = .pointer (some ⟨g, 0, none⟩) := by simpa using hp
  have hq' : tmps[q]?.getD undef = u := by simpa using hq
  have hl := run_loadVar_row (P := P) w g t ty X.toArray (0, 0) d hB hu hd (by simpa using hi)
  simp [results, h, hp', hq', asAddr, hl]
theorem infoRd : (Tryd.prog.info? 38).map (·.size) = some 3 := by kernel_rfl
end Go.Proofs.YtpffebcaalbhjaaDoor.wir

namespace Go.Proofs.YtpffebcaalbhjaaDoor.wir
open Go.RowKit
open Go.Proofs.YtpffebcaalbhjaaDoor.oct Go.Proofs.YtpffebcaalbhjaaDoor.ref Go.Proofs.YtpffebcaalbhjaaDoor.rows Go.Proofs.YtpffebcaalbhjaaDoor.rowg
open Go.Lib (byteCells)

theorem num_end {t : T} {k n : Nat} (most : Nat) (h : NumI t k n) (hk : t.length ≤ k) : numM most t = (0, .bad 4) := by
  unfold numM; rw [numI_end h hk]; rfl
theorem num_bad {t : T} {k n : Nat} (most : Nat) (h : NumI t k n) (hk : k < t.length) (hd : BadD k t[k].toNat) : numM most t = (0, .bad 3) := by
  unfold numM; rw [numI_bad h hk hd]; rfl
theorem num_last {t : T} {k n : Nat} (most : Nat) (h : NumI t k n) (hk : k < t.length) (hd : ¬ BadD k t[k].toNat) (hl : t[k].toNat < 128) : numM most t = if most < n + 128 ^ k * t[k].toNat then (0, .bad 3) else (n + 128 ^ k * t[k].toNat, .ok (t.drop (k + 1))) := by
  unfold numM; rw [numI_last h hk hd hl]; rfl
/-- what number answers -/
def NumA (w w' : World) (x : RV) (r : Nat × St) (e : Ending) : Prop := ∃ a' e', e = .returned (.tuple #[.int .u64 (r.1 : Int), (RV.mk x.p x.c x.b a' e').val]) ∧ (RV.mk x.p x.c x.b a' e').ok w' ∧ (RV.mk x.p x.c x.b a' e').st = r.2 ∧ Below w.heap.size w w'
/-- a reader's cells -/
theorem rd_k (p : Option Addr) (n c : Nat) (a e : Int) : (Tryd.prog.info? 38).map (·.size) = some ([.slice p n c, .int .i64 a, .int .i64 e] : List Value).length ∧ ([.slice none 0 0, .int .i64 0, .int .i64 0] : List Value).length = ([.slice p n c, .int .i64 a, .int .i64 e] : List Value).length ∧ ∀ v ∈ ([.slice p n c, .int .i64 a, .int .i64 e] : List Value), v.oneCell' = true :=
  ⟨infoRd, rfl, fun v hv => by
    simp only [List.mem_cons, List.not_mem_nil, or_false] at hv
    rcases hv with rfl | rfl | rfl <;> rfl⟩
set_option maxRecDepth 100000 in
set_option maxHeartbeats 8000000 in
theorem rnum_c (x : RV) (most : Nat) (w : World) (hx : x.ok w) :
    Calls Tryd.prog 42 #[x.val, .int .u64 (most : Int)] w fun e w' => NumA w w' x (numS most x.st) e := by
  have HX := Lib.hid hx
  obtain ⟨p, c, b, a, e0⟩ := x
  have hA0 : Blk ((w.alloc (.cells #[.slice p b.length c, .int .i64 (a : Int), .int .i64 (e0 : Int)] 38)).alloc (.cells #[.slice none 0 0, .int .i64 0, .int .i64 0] 38)) w.heap.size 38 [.slice p b.length c, .int .i64 (a : Int), .int .i64 (e0 : Int)] := blk_old (blk_new w _ _ _ rfl) _
  have hA1 : Blk ((w.alloc (.cells #[.slice p b.length c, .int .i64 (a : Int), .int .i64 (e0 : Int)] 38)).alloc (.cells #[.slice none 0 0, .int .i64 0, .int .i64 0] 38)) (w.heap.size + 1) 38 [.slice none 0 0, .int .i64 0, .int .i64 0] := by
    have h := blk_new (w.alloc (.cells #[.slice p b.length c, .int .i64 (a : Int), .int .i64 (e0 : Int)] 38)) #[.slice none 0 0, .int .i64 0, .int .i64 0] 38 _ rfl
    rwa [show (w.alloc (.cells #[.slice p b.length c, .int .i64 (a : Int), .int .i64 (e0 : Int)] 38)).heap.size = w.heap.size + 1 by simp] at h
  have hAB := ((Below.refl w.heap.size w).alloc (Nat.le_refl _) (.cells #[.slice p b.length c, .int .i64 (a : Int), .int .i64 (e0 : Int)] 38)).alloc (by simp) (.cells #[.slice none 0 0, .int .i64 0, .int .i64 0] 38)
  have HA0 := Lib.hid hA0
  have HA1 := Lib.hid hA1
  have HAB := Lib.hid hAB
  clear hA0 hA1 hAB hx
  unfold RV.val RV.cells
  dsimp only
  by_cases h0 : e0 = 0
  · subst h0
    have hx1 := HX.out.place
    have hx2 := HX.out.size
    have hx3 := HX.out.room
    dsimp only at hx1 hx2 hx3
    have hx8 := HX.out.row
    dsimp only at hx8
    have HR : Hid (∀ n, numS most (RV.st ⟨p, c, b, a, 0⟩) = n ↔ numS most (.ok (b.drop a)) = n) := fun n => Iff.rfl
    obtain ⟨r, hr⟩ : ∃ r, numS most (RV.st ⟨p, c, b, a, 0⟩) = r := ⟨_, rfl⟩
    have HN := Lib.hid ((HR.out r).1 hr)
    rw [hr]
    clear hr HR
    go_enter Tryd.func42, Tryd.ntmps42
    go_wp2_with fail
    go_loopg [6, 7, 8] 10 (fun g s6 s7 s8 wx => ∃ (k n : Nat), k ≤ 9 ∧ g = 10 - k ∧ s8 = .int .i64 (k : Int) ∧ s6 = .int .u64 (n : Int) ∧ s7 = .int .u64 ((128 ^ k : Nat) : Int) ∧ n < 128 ^ k ∧ a + k ≤ b.length ∧ NumI (b.drop a) k n ∧ Blk wx w.heap.size 38 [.slice p b.length c, .int .i64 ((a + k : Nat) : Int), .int .i64 0] ∧ Blk wx (w.heap.size + 1) 38 [.slice none 0 0, .int .i64 0, .int .i64 0] ∧ Below w.heap.size w wx)
    case atStart => exact ⟨0, 0, by omega, rfl, rfl, rfl, rfl, by decide, by omega, numI_start _, HA0.out, HA1.out, HAB.out⟩
    case round =>
      obtain ⟨k, n, hk, hg, rfl, rfl, rfl, hn, hak, hI, hB0, hB1, hb⟩ := hrel
      clear HA0 HA1 HAB
      rw [Int.natCast_add] at hB0
      have c0 := hB0.cell 0
      have c1 := hB0.cell 1
      have c2 := hB0.cell 2
      have hy8 := hx8.below hb
      have HI := Lib.hid hI
      clear hI
      have f1 := hB0.frozen 1
      have f2 := hB0.frozen 2
      have hnt : (⟨w.heap.size, 2, none⟩ : Addr).block = w.heap.size := rfl
      by_cases he : a + k = b.length
      · have i1 : ((a + k : Nat) : Int) ≥ (b.length : Int) := by omega
        have HQ : Hid (r = (0, .bad 4)) := by show _ = _; rw [← HN.out]; exact num_end most HI.out (by rw [List.length_drop]; omega)
        go_wp2_with fail
        have Z0 : Blk (wr.setCell ⟨w.heap.size, 2, none⟩ (.int .i64 4)) w.heap.size 38 [.slice p b.length c, .int .i64 ((a : Int) + (k : Int)), .int .i64 4] := Blk.set hB0 2 _
        have Z1 : Blk (wr.setCell ⟨w.heap.size, 2, none⟩ (.int .i64 4)) (w.heap.size + 1) 38 [.slice none 0 0, .int .i64 0, .int .i64 0] := Blk.set_other hB1 (by omega) 2 _
        have ZB : Below w.heap.size w (wr.setCell ⟨w.heap.size, 2, none⟩ (.int .i64 4)) := hb.setCell (p := ⟨w.heap.size, 2, none⟩) (Nat.le_refl _) _
        obtain ⟨wz, hwz⟩ : ∃ wz, (wr.setCell ⟨w.heap.size, 2, none⟩ (.int .i64 4)) = wz := ⟨_, rfl⟩
        rw [hwz] at Z0 Z1 ZB ⊢
        clear hwz c0 c1 c2
        have d0 := Z0.cell 0
        have d1 := Z0.cell 1
        have d2 := Z0.cell 2
        go_still_tail 2, (by kernel_rfl)
        change wpList _ _ _ _ _ wz.drew
        have HA1' : Hid (Blk wz.drew (w.heap.size + 1) 38 [.slice none 0 0, .int .i64 0, .int .i64 0]) := Z1
        have HAB' : Hid (Below w.heap.size w wz.drew) := ZB.drew
        obtain ⟨wd, hwd⟩ : ∃ wd, wz.drew = wd := ⟨_, rfl⟩
        rw [hwd] at HA1' HAB' ⊢
        clear hwd d0 d1 d2 Z0 Z1 ZB
        have HK := Lib.hid (rd_k p b.length c ((a : Int) + (k : Int)) 4)
        go_wp2_with (first
          | (with_reducible refine wpList_store_blk rfl 38 _ _ rfl (w.heap.size + 1) [.slice p b.length c, .int .i64 ((a : Int) + (k : Int)), .int .i64 4] _ 38 HA1'.out rfl rfl HK.out.1 HK.out.2.1 HK.out.2.2 ?_; intro wf hR hW))
        refine bodyPost_ret (results_tmprow Tryd.results42 _ _ (w.heap.size + 1) 38 _ _ rfl rfl hR Tryd.underlying38 rfl infoRd) rfl ?_
        have hbf := hW.below _ _ HAB'.out (by omega)
        exact ⟨a + k, 4, by rw [HQ.out]; first | rfl | (show _ = _; simp [RV.val, RV.cells]), ⟨hx8.below hbf, HX.out.nil, hx3, hak, hx2, by show 4 ≤ 5; omega⟩, by rw [HQ.out]; rfl, hbf⟩
      · have hlt : a + k < b.length := by omega
        have i1 : ¬ (((a + k : Nat) : Int) ≥ (b.length : Int)) := by omega
        obtain ⟨bb, oo, rfl, hcell⟩ := hy8.at (by omega)
        have hkd : k < (b.drop a).length := by rw [List.length_drop]; omega
        have hgd : b.getD (a + k) 0 = (b.drop a)[k] := by rw [List.getElem_drop]; simp [List.getD, hlt]
        obtain ⟨d, hd⟩ : ∃ d, ((b.drop a)[k]).toNat = d := ⟨_, rfl⟩
        have cd := hcell (a + k) hlt
        rw [hgd, hd] at cd
        have hd8 : d < 256 := by rw [← hd]; exact UInt8.toNat_lt _
        clear hcell hgd
        have HBAD : Hid (BadD k d → r = (0, .bad 3)) := fun h => by rw [← HN.out]; exact num_bad most HI.out hkd (by rw [hd]; exact h)
        have HLAST : Hid (¬ BadD k d → d < 128 → r = if most < n + 128 ^ k * d then (0, .bad 3) else (n + 128 ^ k * d, .ok ((b.drop a).drop (k + 1)))) := fun h1 h2 => by rw [← HN.out]; have := num_last most HI.out hkd (by rw [hd]; exact h1) (by rw [hd]; exact h2); rw [hd] at this; exact this
        have HMORE : Hid (¬ BadD k d → ¬ d < 128 → NumI (b.drop a) (k + 1) (n + 128 ^ k * (d % 128))) := fun h1 h2 => by have := numI_more HI.out hkd (by rw [hd]; exact h1) (by rw [hd]; exact h2); rw [hd] at this; exact this
        clear HI hd
        obtain ⟨m, hm7⟩ : ∃ m, 128 ^ k = m := ⟨_, rfl⟩
        rw [hm7] at HLAST HMORE hn ⊢
        have hmk : m ≤ 128 ^ 9 := by rw [← hm7]; exact Nat.pow_le_pow_right (by decide) hk
        have HV7 : Hid (n + m * (d % 128) < 128 * m) := by
          show _ < _
          have h1 : m * (d % 128) ≤ m * 127 := Nat.mul_le_mul_left m (by omega)
          omega
        have HV9 : Hid (m ≤ 9223372036854775808) := hmk
        by_cases hmid : k < 9
        · have hm8 : m ≤ 128 ^ 8 := by rw [← hm7]; exact Nat.pow_le_pow_right (by decide) (by omega)
          have HV8 : Hid (n + m * (d % 128) < 18446744073709551616) := by
            show _ < _
            have h1 := HV7.out
            have h2 : m ≤ 72057594037927936 := hm8
            omega
          have hm8' : m ≤ 72057594037927936 := hm8
          clear hm8 hmk
          have i2 : ((k : Int) == 9) = false := by rw [beq_eq_false_iff_ne]; omega
          by_cases hk0 : k = 0
          · have i3 : ¬ ((k : Int) > 0) := by omega
            have hk1 : k < 1 := by omega
            clear hk0
            by_cases hdl : d < 128
            · have i5 : (d : Int) < 128 := by omega
              have hq : n + m * (d % 128) < 18446744073709551616 := HV8.out
              have e0 : (m : Int) * ((d : Int) % 128) = ((m * (d % 128) : Nat) : Int) := by simp
              have e1 : IntKind.u64.wrap ((n : Int) + IntKind.u64.wrap ((m : Int) * ((d : Int) % 128))) = ((n + m * (d % 128) : Nat) : Int) := by
                rw [e0, IntKind.wrap_u64, IntKind.wrap_u64]; omega
              clear e0
              have hdm : d % 128 = d := Nat.mod_eq_of_lt (by omega)
              have HL := Lib.hid (HLAST.out (by unfold BadD; omega) (by omega))
              rw [hdm] at e1
              by_cases hv : most < n + m * d
              · have i6 : IntKind.u64.wrap ((n : Int) + IntKind.u64.wrap ((m : Int) * ((d : Int) % 128))) > (most : Int) := by rw [e1]; omega
                have HQ : Hid (r = (0, .bad 3)) := by show _ = _; rw [HL.out, if_pos hv]
                go_wp2_with fail
                have Z0 : Blk ((wr.setCell ⟨w.heap.size, 1, none⟩ (.int .i64 ((a : Int) + (k : Int) + 1))).setCell ⟨w.heap.size, 2, none⟩ (.int .i64 3)) w.heap.size 38 [.slice (some ⟨bb, oo, none⟩) b.length c, .int .i64 ((a : Int) + (k : Int) + 1), .int .i64 3] := Blk.set (Blk.set hB0 1 _) 2 _
                have Z1 : Blk ((wr.setCell ⟨w.heap.size, 1, none⟩ (.int .i64 ((a : Int) + (k : Int) + 1))).setCell ⟨w.heap.size, 2, none⟩ (.int .i64 3)) (w.heap.size + 1) 38 [.slice none 0 0, .int .i64 0, .int .i64 0] := Blk.set_other (Blk.set_other hB1 (by omega) 1 _) (by omega) 2 _
                have ZB : Below w.heap.size w ((wr.setCell ⟨w.heap.size, 1, none⟩ (.int .i64 ((a : Int) + (k : Int) + 1))).setCell ⟨w.heap.size, 2, none⟩ (.int .i64 3)) := (hb.setCell (p := ⟨w.heap.size, 1, none⟩) (Nat.le_refl _) _).setCell (p := ⟨w.heap.size, 2, none⟩) (Nat.le_refl _) _
                obtain ⟨wz, hwz⟩ : ∃ wz, ((wr.setCell ⟨w.heap.size, 1, none⟩ (.int .i64 ((a : Int) + (k : Int) + 1))).setCell ⟨w.heap.size, 2, none⟩ (.int .i64 3)) = wz := ⟨_, rfl⟩
                rw [hwz] at Z0 Z1 ZB ⊢
                clear hwz c0 c1 c2
                have d0 := Z0.cell 0
                have d1 := Z0.cell 1
                have d2 := Z0.cell 2
                go_still_tail 2, (by kernel_rfl)
                change wpList _ _ _ _ _ wz.drew
                have HA1' : Hid (Blk wz.drew (w.heap.size + 1) 38 [.slice none 0 0, .int .i64 0, .int .i64 0]) := Z1
                have HAB' : Hid (Below w.heap.size w wz.drew) := ZB.drew
                obtain ⟨wd, hwd⟩ : ∃ wd, wz.drew = wd := ⟨_, rfl⟩
                rw [hwd] at HA1' HAB' ⊢
                clear hwd d0 d1 d2 Z0 Z1 ZB
                have HK := Lib.hid (rd_k (some ⟨bb, oo, none⟩) b.length c ((a : Int) + (k : Int) + 1) 3)
                go_wp2_with (first
                  | (with_reducible refine wpList_store_blk rfl 38 _ _ rfl (w.heap.size + 1) [.slice (some ⟨bb, oo, none⟩) b.length c, .int .i64 ((a : Int) + (k : Int) + 1), .int .i64 3] _ 38 HA1'.out rfl rfl HK.out.1 HK.out.2.1 HK.out.2.2 ?_; intro wf hR hW))
                refine bodyPost_ret (results_tmprow Tryd.results42 _ _ (w.heap.size + 1) 38 _ _ rfl rfl hR Tryd.underlying38 rfl infoRd) rfl ?_
                have hbf := hW.below _ _ HAB'.out (by omega)
                exact ⟨a + k + 1, 3, by rw [HQ.out]; rfl, ⟨hx8.below hbf, HX.out.nil, hx3, hlt, hx2, by show 3 ≤ 5; omega⟩, by rw [HQ.out]; rfl, hbf⟩
              · have i6 : ¬ (IntKind.u64.wrap ((n : Int) + IntKind.u64.wrap ((m : Int) * ((d : Int) % 128))) > (most : Int)) := by rw [e1]; omega
                have HQ : Hid (r = (n + m * d, .ok ((b.drop a).drop (k + 1)))) := by show _ = _; rw [HL.out, if_neg hv]
                go_wp2_with fail
                have Z0 : Blk (wr.setCell ⟨w.heap.size, 1, none⟩ (.int .i64 ((a : Int) + (k : Int) + 1))) w.heap.size 38 [.slice (some ⟨bb, oo, none⟩) b.length c, .int .i64 ((a : Int) + (k : Int) + 1), .int .i64 0] := Blk.set hB0 1 _
                have Z1 : Blk (wr.setCell ⟨w.heap.size, 1, none⟩ (.int .i64 ((a : Int) + (k : Int) + 1))) (w.heap.size + 1) 38 [.slice none 0 0, .int .i64 0, .int .i64 0] := Blk.set_other hB1 (by omega) 1 _
                have ZB : Below w.heap.size w (wr.setCell ⟨w.heap.size, 1, none⟩ (.int .i64 ((a : Int) + (k : Int) + 1))) := hb.setCell (p := ⟨w.heap.size, 1, none⟩) (Nat.le_refl _) _
                obtain ⟨wz, hwz⟩ : ∃ wz, (wr.setCell ⟨w.heap.size, 1, none⟩ (.int .i64 ((a : Int) + (k : Int) + 1))) = wz := ⟨_, rfl⟩
                rw [hwz] at Z0 Z1 ZB ⊢
                clear hwz c0 c1 c2
                have d0 := Z0.cell 0
                have d1 := Z0.cell 1
                have d2 := Z0.cell 2
                go_still_tail 3, (by kernel_rfl)
                change wpList _ _ _ _ _ wz.drew
                have HA1' : Hid (Blk wz.drew (w.heap.size + 1) 38 [.slice none 0 0, .int .i64 0, .int .i64 0]) := Z1
                have HAB' : Hid (Below w.heap.size w wz.drew) := ZB.drew
                obtain ⟨wd, hwd⟩ : ∃ wd, wz.drew = wd := ⟨_, rfl⟩
                rw [hwd] at HA1' HAB' ⊢
                clear hwd d0 d1 d2 Z0 Z1 ZB
                have HK := Lib.hid (rd_k (some ⟨bb, oo, none⟩) b.length c ((a : Int) + (k : Int) + 1) 0)
                go_wp2_with (first
                  | (with_reducible refine wpList_store_blk rfl 38 _ _ rfl (w.heap.size + 1) [.slice (some ⟨bb, oo, none⟩) b.length c, .int .i64 ((a : Int) + (k : Int) + 1), .int .i64 0] _ 38 HA1'.out rfl rfl HK.out.1 HK.out.2.1 HK.out.2.2 ?_; intro wf hR hW))
                refine bodyPost_ret (results_tmprow Tryd.results42 _ _ (w.heap.size + 1) 38 _ _ rfl rfl hR Tryd.underlying38 rfl infoRd) rfl ?_
                have hbf := hW.below _ _ HAB'.out (by omega)
                exact ⟨a + k + 1, 0, by rw [HQ.out]; rfl, ⟨hx8.below hbf, HX.out.nil, hx3, hlt, hx2, by show 0 ≤ 5; omega⟩, by rw [HQ.out]; show St.ok _ = _; rw [List.drop_drop, Nat.add_assoc], hbf⟩
            · have i5 : ¬ ((d : Int) < 128) := by omega
              have hq : n + m * (d % 128) < 18446744073709551616 := HV8.out
              have e0 : (m : Int) * ((d : Int) % 128) = ((m * (d % 128) : Nat) : Int) := by simp
              have e1 : IntKind.u64.wrap ((n : Int) + IntKind.u64.wrap ((m : Int) * ((d : Int) % 128))) = ((n + m * (d % 128) : Nat) : Int) := by
                rw [e0, IntKind.wrap_u64, IntKind.wrap_u64]; omega
              clear e0
              have hwm : IntKind.u64.wrap (128 * (m : Int)) = ((128 * m : Nat) : Int) := by rw [IntKind.wrap_u64]; omega
              have HM := Lib.hid (HMORE.out (by unfold BadD; omega) (by omega))
              have HPK : Hid (128 * m = 128 ^ (k + 1)) := by show _ = _; rw [← hm7, Nat.pow_succ, Nat.mul_comm]
              have hnk : n + m * (d % 128) < 128 ^ (k + 1) := by have := HV7.out; rw [← HPK.out]; exact this
              go_wp2_with fail
              go_roundg (10 - (k + 1))
              case measure => omega
              case rel => exact ⟨k + 1, n + m * (d % 128), by omega, by omega, rfl, (by first | rw [e1] | simp), (by rw [← HPK.out]; first | rfl | rw [hwm]), hnk, by omega, HM.out, Blk.set hB0 1 _, Blk.set_other hB1 (by omega) 1 _, hb.setCell (p := ⟨w.heap.size, 1, none⟩) (Nat.le_refl _) _⟩
          · have i3 : (k : Int) > 0 := by omega
            by_cases hd0 : d = 0
            · have i4 : ((d : Int) == 0) = true := by rw [beq_iff_eq]; omega
              have HQ : Hid (r = (0, .bad 3)) := HBAD.out (by unfold BadD; omega)
              go_wp2_with fail
              have Z0 : Blk ((wr.setCell ⟨w.heap.size, 1, none⟩ (.int .i64 ((a : Int) + (k : Int) + 1))).setCell ⟨w.heap.size, 2, none⟩ (.int .i64 3)) w.heap.size 38 [.slice (some ⟨bb, oo, none⟩) b.length c, .int .i64 ((a : Int) + (k : Int) + 1), .int .i64 3] := Blk.set (Blk.set hB0 1 _) 2 _
              have Z1 : Blk ((wr.setCell ⟨w.heap.size, 1, none⟩ (.int .i64 ((a : Int) + (k : Int) + 1))).setCell ⟨w.heap.size, 2, none⟩ (.int .i64 3)) (w.heap.size + 1) 38 [.slice none 0 0, .int .i64 0, .int .i64 0] := Blk.set_other (Blk.set_other hB1 (by omega) 1 _) (by omega) 2 _
              have ZB : Below w.heap.size w ((wr.setCell ⟨w.heap.size, 1, none⟩ (.int .i64 ((a : Int) + (k : Int) + 1))).setCell ⟨w.heap.size, 2, none⟩ (.int .i64 3)) := (hb.setCell (p := ⟨w.heap.size, 1, none⟩) (Nat.le_refl _) _).setCell (p := ⟨w.heap.size, 2, none⟩) (Nat.le_refl _) _
              obtain ⟨wz, hwz⟩ : ∃ wz, ((wr.setCell ⟨w.heap.size, 1, none⟩ (.int .i64 ((a : Int) + (k : Int) + 1))).setCell ⟨w.heap.size, 2, none⟩ (.int .i64 3)) = wz := ⟨_, rfl⟩
              rw [hwz] at Z0 Z1 ZB ⊢
              clear hwz c0 c1 c2
              have d0 := Z0.cell 0
              have d1 := Z0.cell 1
              have d2 := Z0.cell 2
              go_still_tail 2, (by kernel_rfl)
              change wpList _ _ _ _ _ wz.drew
              have HA1' : Hid (Blk wz.drew (w.heap.size + 1) 38 [.slice none 0 0, .int .i64 0, .int .i64 0]) := Z1
              have HAB' : Hid (Below w.heap.size w wz.drew) := ZB.drew
              obtain ⟨wd, hwd⟩ : ∃ wd, wz.drew = wd := ⟨_, rfl⟩
              rw [hwd] at HA1' HAB' ⊢
              clear hwd d0 d1 d2 Z0 Z1 ZB
              have HK := Lib.hid (rd_k (some ⟨bb, oo, none⟩) b.length c ((a : Int) + (k : Int) + 1) 3)
              go_wp2_with (first
                | (with_reducible refine wpList_store_blk rfl 38 _ _ rfl (w.heap.size + 1) [.slice (some ⟨bb, oo, none⟩) b.length c, .int .i64 ((a : Int) + (k : Int) + 1), .int .i64 3] _ 38 HA1'.out rfl rfl HK.out.1 HK.out.2.1 HK.out.2.2 ?_; intro wf hR hW))
              refine bodyPost_ret (results_tmprow Tryd.results42 _ _ (w.heap.size + 1) 38 _ _ rfl rfl hR Tryd.underlying38 rfl infoRd) rfl ?_
              have hbf := hW.below _ _ HAB'.out (by omega)
              exact ⟨a + k + 1, 3, by rw [HQ.out]; rfl, ⟨hx8.below hbf, HX.out.nil, hx3, hlt, hx2, by show 3 ≤ 5; omega⟩, by rw [HQ.out]; rfl, hbf⟩
            · have i4 : ((d : Int) == 0) = false := by rw [beq_eq_false_iff_ne]; omega
              by_cases hdl : d < 128
              · have i5 : (d : Int) < 128 := by omega
                have hq : n + m * (d % 128) < 18446744073709551616 := HV8.out
                have e0 : (m : Int) * ((d : Int) % 128) = ((m * (d % 128) : Nat) : Int) := by simp
                have e1 : IntKind.u64.wrap ((n : Int) + IntKind.u64.wrap ((m : Int) * ((d : Int) % 128))) = ((n + m * (d % 128) : Nat) : Int) := by
                  rw [e0, IntKind.wrap_u64, IntKind.wrap_u64]; omega
                clear e0
                have hdm : d % 128 = d := Nat.mod_eq_of_lt (by omega)
                have HL := Lib.hid (HLAST.out (by unfold BadD; omega) (by omega))
                rw [hdm] at e1
                by_cases hv : most < n + m * d
                · have i6 : IntKind.u64.wrap ((n : Int) + IntKind.u64.wrap ((m : Int) * ((d : Int) % 128))) > (most : Int) := by rw [e1]; omega
                  have HQ : Hid (r = (0, .bad 3)) := by show _ = _; rw [HL.out, if_pos hv]
                  go_wp2_with fail
                  have Z0 : Blk ((wr.setCell ⟨w.heap.size, 1, none⟩ (.int .i64 ((a : Int) + (k : Int) + 1))).setCell ⟨w.heap.size, 2, none⟩ (.int .i64 3)) w.heap.size 38 [.slice (some ⟨bb, oo, none⟩) b.length c, .int .i64 ((a : Int) + (k : Int) + 1), .int .i64 3] := Blk.set (Blk.set hB0 1 _) 2 _
                  have Z1 : Blk ((wr.setCell ⟨w.heap.size, 1, none⟩ (.int .i64 ((a : Int) + (k : Int) + 1))).setCell ⟨w.heap.size, 2, none⟩ (.int .i64 3)) (w.heap.size + 1) 38 [.slice none 0 0, .int .i64 0, .int .i64 0] := Blk.set_other (Blk.set_other hB1 (by omega) 1 _) (by omega) 2 _
                  have ZB : Below w.heap.size w ((wr.setCell ⟨w.heap.size, 1, none⟩ (.int .i64 ((a : Int) + (k : Int) + 1))).setCell ⟨w.heap.size, 2, none⟩ (.int .i64 3)) := (hb.setCell (p := ⟨w.heap.size, 1, none⟩) (Nat.le_refl _) _).setCell (p := ⟨w.heap.size, 2, none⟩) (Nat.le_refl _) _
                  obtain ⟨wz, hwz⟩ : ∃ wz, ((wr.setCell ⟨w.heap.size, 1, none⟩ (.int .i64 ((a : Int) + (k : Int) + 1))).setCell ⟨w.heap.size, 2, none⟩ (.int .i64 3)) = wz := ⟨_, rfl⟩
                  rw [hwz] at Z0 Z1 ZB ⊢
                  clear hwz c0 c1 c2
                  have d0 := Z0.cell 0
                  have d1 := Z0.cell 1
                  have d2 := Z0.cell 2
                  go_still_tail 2, (by kernel_rfl)
                  change wpList _ _ _ _ _ wz.drew
                  have HA1' : Hid (Blk wz.drew (w.heap.size + 1) 38 [.slice none 0 0, .int .i64 0, .int .i64 0]) := Z1
                  have HAB' : Hid (Below w.heap.size w wz.drew) := ZB.drew
                  obtain ⟨wd, hwd⟩ : ∃ wd, wz.drew = wd := ⟨_, rfl⟩
                  rw [hwd] at HA1' HAB' ⊢
                  clear hwd d0 d1 d2 Z0 Z1 ZB
                  have HK := Lib.hid (rd_k (some ⟨bb, oo, none⟩) b.length c ((a : Int) + (k : Int) + 1) 3)
                  go_wp2_with (first
                    | (with_reducible refine wpList_store_blk rfl 38 _ _ rfl (w.heap.size + 1) [.slice (some ⟨bb, oo, none⟩) b.length c, .int .i64 ((a : Int) + (k : Int) + 1), .int .i64 3] _ 38 HA1'.out rfl rfl HK.out.1 HK.out.2.1 HK.out.2.2 ?_; intro wf hR hW))
                  refine bodyPost_ret (results_tmprow Tryd.results42 _ _ (w.heap.size + 1) 38 _ _ rfl rfl hR Tryd.underlying38 rfl infoRd) rfl ?_
                  have hbf := hW.below _ _ HAB'.out (by omega)
                  exact ⟨a + k + 1, 3, by rw [HQ.out]; rfl, ⟨hx8.below hbf, HX.out.nil, hx3, hlt, hx2, by show 3 ≤ 5; omega⟩, by rw [HQ.out]; rfl, hbf⟩
                · have i6 : ¬ (IntKind.u64.wrap ((n : Int) + IntKind.u64.wrap ((m : Int) * ((d : Int) % 128))) > (most : Int)) := by rw [e1]; omega
                  have HQ : Hid (r = (n + m * d, .ok ((b.drop a).drop (k + 1)))) := by show _ = _; rw [HL.out, if_neg hv]
                  go_wp2_with fail
                  have Z0 : Blk (wr.setCell ⟨w.heap.size, 1, none⟩ (.int .i64 ((a : Int) + (k : Int) + 1))) w.heap.size 38 [.slice (some ⟨bb, oo, none⟩) b.length c, .int .i64 ((a : Int) + (k : Int) + 1), .int .i64 0] := Blk.set hB0 1 _
                  have Z1 : Blk (wr.setCell ⟨w.heap.size, 1, none⟩ (.int .i64 ((a : Int) + (k : Int) + 1))) (w.heap.size + 1) 38 [.slice none 0 0, .int .i64 0, .int .i64 0] := Blk.set_other hB1 (by omega) 1 _
                  have ZB : Below w.heap.size w (wr.setCell ⟨w.heap.size, 1, none⟩ (.int .i64 ((a : Int) + (k : Int) + 1))) := hb.setCell (p := ⟨w.heap.size, 1, none⟩) (Nat.le_refl _) _
                  obtain ⟨wz, hwz⟩ : ∃ wz, (wr.setCell ⟨w.heap.size, 1, none⟩ (.int .i64 ((a : Int) + (k : Int) + 1))) = wz := ⟨_, rfl⟩
                  rw [hwz] at Z0 Z1 ZB ⊢
                  clear hwz c0 c1 c2
                  have d0 := Z0.cell 0
                  have d1 := Z0.cell 1
                  have d2 := Z0.cell 2
                  go_still_tail 3, (by kernel_rfl)
                  change wpList _ _ _ _ _ wz.drew
                  have HA1' : Hid (Blk wz.drew (w.heap.size + 1) 38 [.slice none 0 0, .int .i64 0, .int .i64 0]) := Z1
                  have HAB' : Hid (Below w.heap.size w wz.drew) := ZB.drew
                  obtain ⟨wd, hwd⟩ : ∃ wd, wz.drew = wd := ⟨_, rfl⟩
                  rw [hwd] at HA1' HAB' ⊢
                  clear hwd d0 d1 d2 Z0 Z1 ZB
                  have HK := Lib.hid (rd_k (some ⟨bb, oo, none⟩) b.length c ((a : Int) + (k : Int) + 1) 0)
                  go_wp2_with (first
                    | (with_reducible refine wpList_store_blk rfl 38 _ _ rfl (w.heap.size + 1) [.slice (some ⟨bb, oo, none⟩) b.length c, .int .i64 ((a : Int) + (k : Int) + 1), .int .i64 0] _ 38 HA1'.out rfl rfl HK.out.1 HK.out.2.1 HK.out.2.2 ?_; intro wf hR hW))
                  refine bodyPost_ret (results_tmprow Tryd.results42 _ _ (w.heap.size + 1) 38 _ _ rfl rfl hR Tryd.underlying38 rfl infoRd) rfl ?_
                  have hbf := hW.below _ _ HAB'.out (by omega)
                  exact ⟨a + k + 1, 0, by rw [HQ.out]; rfl, ⟨hx8.below hbf, HX.out.nil, hx3, hlt, hx2, by show 0 ≤ 5; omega⟩, by rw [HQ.out]; show St.ok _ = _; rw [List.drop_drop, Nat.add_assoc], hbf⟩
              · have i5 : ¬ ((d : Int) < 128) := by omega
                have hq : n + m * (d % 128) < 18446744073709551616 := HV8.out
                have e0 : (m : Int) * ((d : Int) % 128) = ((m * (d % 128) : Nat) : Int) := by simp
                have e1 : IntKind.u64.wrap ((n : Int) + IntKind.u64.wrap ((m : Int) * ((d : Int) % 128))) = ((n + m * (d % 128) : Nat) : Int) := by
                  rw [e0, IntKind.wrap_u64, IntKind.wrap_u64]; omega
                clear e0
                have hwm : IntKind.u64.wrap (128 * (m : Int)) = ((128 * m : Nat) : Int) := by rw [IntKind.wrap_u64]; omega
                have HM := Lib.hid (HMORE.out (by unfold BadD; omega) (by omega))
                have HPK : Hid (128 * m = 128 ^ (k + 1)) := by show _ = _; rw [← hm7, Nat.pow_succ, Nat.mul_comm]
                have hnk : n + m * (d % 128) < 128 ^ (k + 1) := by have := HV7.out; rw [← HPK.out]; exact this
                go_wp2_with fail
                go_roundg (10 - (k + 1))
                case measure => omega
                case rel => exact ⟨k + 1, n + m * (d % 128), by omega, by omega, rfl, (by first | rw [e1] | simp), (by rw [← HPK.out]; first | rfl | rw [hwm]), hnk, by omega, HM.out, Blk.set hB0 1 _, Blk.set_other hB1 (by omega) 1 _, hb.setCell (p := ⟨w.heap.size, 1, none⟩) (Nat.le_refl _) _⟩
        · have i2 : ((k : Int) == 9) = true := by rw [beq_iff_eq]; omega
          by_cases hd1 : 1 < d
          · have i7 : (d : Int) > 1 := by omega
            have HQ : Hid (r = (0, .bad 3)) := HBAD.out (by unfold BadD; omega)
            go_wp2_with fail
            have Z0 : Blk ((wr.setCell ⟨w.heap.size, 1, none⟩ (.int .i64 ((a : Int) + (k : Int) + 1))).setCell ⟨w.heap.size, 2, none⟩ (.int .i64 3)) w.heap.size 38 [.slice (some ⟨bb, oo, none⟩) b.length c, .int .i64 ((a : Int) + (k : Int) + 1), .int .i64 3] := Blk.set (Blk.set hB0 1 _) 2 _
            have Z1 : Blk ((wr.setCell ⟨w.heap.size, 1, none⟩ (.int .i64 ((a : Int) + (k : Int) + 1))).setCell ⟨w.heap.size, 2, none⟩ (.int .i64 3)) (w.heap.size + 1) 38 [.slice none 0 0, .int .i64 0, .int .i64 0] := Blk.set_other (Blk.set_other hB1 (by omega) 1 _) (by omega) 2 _
            have ZB : Below w.heap.size w ((wr.setCell ⟨w.heap.size, 1, none⟩ (.int .i64 ((a : Int) + (k : Int) + 1))).setCell ⟨w.heap.size, 2, none⟩ (.int .i64 3)) := (hb.setCell (p := ⟨w.heap.size, 1, none⟩) (Nat.le_refl _) _).setCell (p := ⟨w.heap.size, 2, none⟩) (Nat.le_refl _) _
            obtain ⟨wz, hwz⟩ : ∃ wz, ((wr.setCell ⟨w.heap.size, 1, none⟩ (.int .i64 ((a : Int) + (k : Int) + 1))).setCell ⟨w.heap.size, 2, none⟩ (.int .i64 3)) = wz := ⟨_, rfl⟩
            rw [hwz] at Z0 Z1 ZB ⊢
            clear hwz c0 c1 c2
            have d0 := Z0.cell 0
            have d1 := Z0.cell 1
            have d2 := Z0.cell 2
            go_still_tail 2, (by kernel_rfl)
            change wpList _ _ _ _ _ wz.drew
            have HA1' : Hid (Blk wz.drew (w.heap.size + 1) 38 [.slice none 0 0, .int .i64 0, .int .i64 0]) := Z1
            have HAB' : Hid (Below w.heap.size w wz.drew) := ZB.drew
            obtain ⟨wd, hwd⟩ : ∃ wd, wz.drew = wd := ⟨_, rfl⟩
            rw [hwd] at HA1' HAB' ⊢
            clear hwd d0 d1 d2 Z0 Z1 ZB
            have HK := Lib.hid (rd_k (some ⟨bb, oo, none⟩) b.length c ((a : Int) + (k : Int) + 1) 3)
            go_wp2_with (first
              | (with_reducible refine wpList_store_blk rfl 38 _ _ rfl (w.heap.size + 1) [.slice (some ⟨bb, oo, none⟩) b.length c, .int .i64 ((a : Int) + (k : Int) + 1), .int .i64 3] _ 38 HA1'.out rfl rfl HK.out.1 HK.out.2.1 HK.out.2.2 ?_; intro wf hR hW))
            refine bodyPost_ret (results_tmprow Tryd.results42 _ _ (w.heap.size + 1) 38 _ _ rfl rfl hR Tryd.underlying38 rfl infoRd) rfl ?_
            have hbf := hW.below _ _ HAB'.out (by omega)
            exact ⟨a + k + 1, 3, by rw [HQ.out]; rfl, ⟨hx8.below hbf, HX.out.nil, hx3, hlt, hx2, by show 3 ≤ 5; omega⟩, by rw [HQ.out]; rfl, hbf⟩
          · have i7 : ¬ ((d : Int) > 1) := by omega
            have i3 : (k : Int) > 0 := by omega
            by_cases hd0 : d = 0
            · have i4 : ((d : Int) == 0) = true := by rw [beq_iff_eq]; omega
              have HQ : Hid (r = (0, .bad 3)) := HBAD.out (by unfold BadD; omega)
              go_wp2_with fail
              have Z0 : Blk ((wr.setCell ⟨w.heap.size, 1, none⟩ (.int .i64 ((a : Int) + (k : Int) + 1))).setCell ⟨w.heap.size, 2, none⟩ (.int .i64 3)) w.heap.size 38 [.slice (some ⟨bb, oo, none⟩) b.length c, .int .i64 ((a : Int) + (k : Int) + 1), .int .i64 3] := Blk.set (Blk.set hB0 1 _) 2 _
              have Z1 : Blk ((wr.setCell ⟨w.heap.size, 1, none⟩ (.int .i64 ((a : Int) + (k : Int) + 1))).setCell ⟨w.heap.size, 2, none⟩ (.int .i64 3)) (w.heap.size + 1) 38 [.slice none 0 0, .int .i64 0, .int .i64 0] := Blk.set_other (Blk.set_other hB1 (by omega) 1 _) (by omega) 2 _
              have ZB : Below w.heap.size w ((wr.setCell ⟨w.heap.size, 1, none⟩ (.int .i64 ((a : Int) + (k : Int) + 1))).setCell ⟨w.heap.size, 2, none⟩ (.int .i64 3)) := (hb.setCell (p := ⟨w.heap.size, 1, none⟩) (Nat.le_refl _) _).setCell (p := ⟨w.heap.size, 2, none⟩) (Nat.le_refl _) _
              obtain ⟨wz, hwz⟩ : ∃ wz, ((wr.setCell ⟨w.heap.size, 1, none⟩ (.int .i64 ((a : Int) + (k : Int) + 1))).setCell ⟨w.heap.size, 2, none⟩ (.int .i64 3)) = wz := ⟨_, rfl⟩
              rw [hwz] at Z0 Z1 ZB ⊢
              clear hwz c0 c1 c2
              have d0 := Z0.cell 0
              have d1 := Z0.cell 1
              have d2 := Z0.cell 2
              go_still_tail 2, (by kernel_rfl)
              change wpList _ _ _ _ _ wz.drew
              have HA1' : Hid (Blk wz.drew (w.heap.size + 1) 38 [.slice none 0 0, .int .i64 0, .int .i64 0]) := Z1
              have HAB' : Hid (Below w.heap.size w wz.drew) := ZB.drew
              obtain ⟨wd, hwd⟩ : ∃ wd, wz.drew = wd := ⟨_, rfl⟩
              rw [hwd] at HA1' HAB' ⊢
              clear hwd d0 d1 d2 Z0 Z1 ZB
              have HK := Lib.hid (rd_k (some ⟨bb, oo, none⟩) b.length c ((a : Int) + (k : Int) + 1) 3)
              go_wp2_with (first
                | (with_reducible refine wpList_store_blk rfl 38 _ _ rfl (w.heap.size + 1) [.slice (some ⟨bb, oo, none⟩) b.length c, .int .i64 ((a : Int) + (k : Int) + 1), .int .i64 3] _ 38 HA1'.out rfl rfl HK.out.1 HK.out.2.1 HK.out.2.2 ?_; intro wf hR hW))
              refine bodyPost_ret (results_tmprow Tryd.results42 _ _ (w.heap.size + 1) 38 _ _ rfl rfl hR Tryd.underlying38 rfl infoRd) rfl ?_
              have hbf := hW.below _ _ HAB'.out (by omega)
              exact ⟨a + k + 1, 3, by rw [HQ.out]; rfl, ⟨hx8.below hbf, HX.out.nil, hx3, hlt, hx2, by show 3 ≤ 5; omega⟩, by rw [HQ.out]; rfl, hbf⟩
            · have i4 : ((d : Int) == 0) = false := by rw [beq_eq_false_iff_ne]; omega
              have hde : d < 2 := by omega
              have i5 : (d : Int) < 128 := by omega
              have hq : n + m * (d % 128) < 18446744073709551616 := by have h1 := HV9.out; have h2 : m * (d % 128) ≤ m * 1 := Nat.mul_le_mul_left m (by omega); omega
              have e0 : (m : Int) * ((d : Int) % 128) = ((m * (d % 128) : Nat) : Int) := by simp
              have e1 : IntKind.u64.wrap ((n : Int) + IntKind.u64.wrap ((m : Int) * ((d : Int) % 128))) = ((n + m * (d % 128) : Nat) : Int) := by
                rw [e0, IntKind.wrap_u64, IntKind.wrap_u64]; omega
              clear e0
              have hdm : d % 128 = d := Nat.mod_eq_of_lt (by omega)
              have HL := Lib.hid (HLAST.out (by unfold BadD; omega) (by omega))
              rw [hdm] at e1
              by_cases hv : most < n + m * d
              · have i6 : IntKind.u64.wrap ((n : Int) + IntKind.u64.wrap ((m : Int) * ((d : Int) % 128))) > (most : Int) := by rw [e1]; omega
                have HQ : Hid (r = (0, .bad 3)) := by show _ = _; rw [HL.out, if_pos hv]
                go_wp2_with fail
                have Z0 : Blk ((wr.setCell ⟨w.heap.size, 1, none⟩ (.int .i64 ((a : Int) + (k : Int) + 1))).setCell ⟨w.heap.size, 2, none⟩ (.int .i64 3)) w.heap.size 38 [.slice (some ⟨bb, oo, none⟩) b.length c, .int .i64 ((a : Int) + (k : Int) + 1), .int .i64 3] := Blk.set (Blk.set hB0 1 _) 2 _
                have Z1 : Blk ((wr.setCell ⟨w.heap.size, 1, none⟩ (.int .i64 ((a : Int) + (k : Int) + 1))).setCell ⟨w.heap.size, 2, none⟩ (.int .i64 3)) (w.heap.size + 1) 38 [.slice none 0 0, .int .i64 0, .int .i64 0] := Blk.set_other (Blk.set_other hB1 (by omega) 1 _) (by omega) 2 _
                have ZB : Below w.heap.size w ((wr.setCell ⟨w.heap.size, 1, none⟩ (.int .i64 ((a : Int) + (k : Int) + 1))).setCell ⟨w.heap.size, 2, none⟩ (.int .i64 3)) := (hb.setCell (p := ⟨w.heap.size, 1, none⟩) (Nat.le_refl _) _).setCell (p := ⟨w.heap.size, 2, none⟩) (Nat.le_refl _) _
                obtain ⟨wz, hwz⟩ : ∃ wz, ((wr.setCell ⟨w.heap.size, 1, none⟩ (.int .i64 ((a : Int) + (k : Int) + 1))).setCell ⟨w.heap.size, 2, none⟩ (.int .i64 3)) = wz := ⟨_, rfl⟩
                rw [hwz] at Z0 Z1 ZB ⊢
                clear hwz c0 c1 c2
                have d0 := Z0.cell 0
                have d1 := Z0.cell 1
                have d2 := Z0.cell 2
                go_still_tail 2, (by kernel_rfl)
                change wpList _ _ _ _ _ wz.drew
                have HA1' : Hid (Blk wz.drew (w.heap.size + 1) 38 [.slice none 0 0, .int .i64 0, .int .i64 0]) := Z1
                have HAB' : Hid (Below w.heap.size w wz.drew) := ZB.drew
                obtain ⟨wd, hwd⟩ : ∃ wd, wz.drew = wd := ⟨_, rfl⟩
                rw [hwd] at HA1' HAB' ⊢
                clear hwd d0 d1 d2 Z0 Z1 ZB
                have HK := Lib.hid (rd_k (some ⟨bb, oo, none⟩) b.length c ((a : Int) + (k : Int) + 1) 3)
                go_wp2_with (first
                  | (with_reducible refine wpList_store_blk rfl 38 _ _ rfl (w.heap.size + 1) [.slice (some ⟨bb, oo, none⟩) b.length c, .int .i64 ((a : Int) + (k : Int) + 1), .int .i64 3] _ 38 HA1'.out rfl rfl HK.out.1 HK.out.2.1 HK.out.2.2 ?_; intro wf hR hW))
                refine bodyPost_ret (results_tmprow Tryd.results42 _ _ (w.heap.size + 1) 38 _ _ rfl rfl hR Tryd.underlying38 rfl infoRd) rfl ?_
                have hbf := hW.below _ _ HAB'.out (by omega)
                exact ⟨a + k + 1, 3, by rw [HQ.out]; rfl, ⟨hx8.below hbf, HX.out.nil, hx3, hlt, hx2, by show 3 ≤ 5; omega⟩, by rw [HQ.out]; rfl, hbf⟩
              · have i6 : ¬ (IntKind.u64.wrap ((n : Int) + IntKind.u64.wrap ((m : Int) * ((d : Int) % 128))) > (most : Int)) := by rw [e1]; omega
                have HQ : Hid (r = (n + m * d, .ok ((b.drop a).drop (k + 1)))) := by show _ = _; rw [HL.out, if_neg hv]
                go_wp2_with fail
                have Z0 : Blk (wr.setCell ⟨w.heap.size, 1, none⟩ (.int .i64 ((a : Int) + (k : Int) + 1))) w.heap.size 38 [.slice (some ⟨bb, oo, none⟩) b.length c, .int .i64 ((a : Int) + (k : Int) + 1), .int .i64 0] := Blk.set hB0 1 _
                have Z1 : Blk (wr.setCell ⟨w.heap.size, 1, none⟩ (.int .i64 ((a : Int) + (k : Int) + 1))) (w.heap.size + 1) 38 [.slice none 0 0, .int .i64 0, .int .i64 0] := Blk.set_other hB1 (by omega) 1 _
                have ZB : Below w.heap.size w (wr.setCell ⟨w.heap.size, 1, none⟩ (.int .i64 ((a : Int) + (k : Int) + 1))) := hb.setCell (p := ⟨w.heap.size, 1, none⟩) (Nat.le_refl _) _
                obtain ⟨wz, hwz⟩ : ∃ wz, (wr.setCell ⟨w.heap.size, 1, none⟩ (.int .i64 ((a : Int) + (k : Int) + 1))) = wz := ⟨_, rfl⟩
                rw [hwz] at Z0 Z1 ZB ⊢
                clear hwz c0 c1 c2
                have d0 := Z0.cell 0
                have d1 := Z0.cell 1
                have d2 := Z0.cell 2
                go_still_tail 3, (by kernel_rfl)
                change wpList _ _ _ _ _ wz.drew
                have HA1' : Hid (Blk wz.drew (w.heap.size + 1) 38 [.slice none 0 0, .int .i64 0, .int .i64 0]) := Z1
                have HAB' : Hid (Below w.heap.size w wz.drew) := ZB.drew
                obtain ⟨wd, hwd⟩ : ∃ wd, wz.drew = wd := ⟨_, rfl⟩
                rw [hwd] at HA1' HAB' ⊢
                clear hwd d0 d1 d2 Z0 Z1 ZB
                have HK := Lib.hid (rd_k (some ⟨bb, oo, none⟩) b.length c ((a : Int) + (k : Int) + 1) 0)
                go_wp2_with (first
                  | (with_reducible refine wpList_store_blk rfl 38 _ _ rfl (w.heap.size + 1) [.slice (some ⟨bb, oo, none⟩) b.length c, .int .i64 ((a : Int) + (k : Int) + 1), .int .i64 0] _ 38 HA1'.out rfl rfl HK.out.1 HK.out.2.1 HK.out.2.2 ?_; intro wf hR hW))
                refine bodyPost_ret (results_tmprow Tryd.results42 _ _ (w.heap.size + 1) 38 _ _ rfl rfl hR Tryd.underlying38 rfl infoRd) rfl ?_
                have hbf := hW.below _ _ HAB'.out (by omega)
                exact ⟨a + k + 1, 0, by rw [HQ.out]; rfl, ⟨hx8.below hbf, HX.out.nil, hx3, hlt, hx2, by show 0 ≤ 5; omega⟩, by rw [HQ.out]; show St.ok _ = _; rw [List.drop_drop, Nat.add_assoc], hbf⟩
  · have i1 : ((e0 : Int) == 0) = false := by rw [beq_eq_false_iff_ne]; omega
    have HN : Hid (numS most (RV.st ⟨p, c, b, a, e0⟩) = (0, .bad e0)) := by show _ = _; unfold RV.st; rw [if_neg h0]; rfl
    have HS : Hid (RV.st ⟨p, c, b, a, e0⟩ = .bad e0) := by show _ = _; unfold RV.st; rw [if_neg h0]
    obtain ⟨r, hr⟩ : ∃ r, numS most (RV.st ⟨p, c, b, a, e0⟩) = r := ⟨_, rfl⟩
    rw [hr] at HN ⊢
    clear hr
    go_enter Tryd.func42, Tryd.ntmps42
    go_wp2_with fail
    go_loopg [6, 7, 8] 10 (fun g s6 s7 s8 wx => wx = (w.alloc (.cells #[.slice p b.length c, .int .i64 (a : Int), .int .i64 (e0 : Int)] 38)).alloc (.cells #[.slice none 0 0, .int .i64 0, .int .i64 0] 38))
    case atStart => rfl
    case round =>
      obtain ⟨wo, hwo⟩ : ∃ wo, wo = (w.alloc (.cells #[.slice p b.length c, .int .i64 (a : Int), .int .i64 (e0 : Int)] 38)).alloc (.cells #[.slice none 0 0, .int .i64 0, .int .i64 0] 38) := ⟨_, rfl⟩
      rw [← hwo] at hrel HA0 HA1 HAB
      subst hrel
      clear hwo
      have c0 := HA0.out.cell 0
      have c1 := HA0.out.cell 1
      have c2 := HA0.out.cell 2
      go_wp2_with fail
      go_still_tail 2, (by kernel_rfl)
      change wpList _ _ _ _ _ wr.drew
      have HA0' : Hid (Blk wr.drew w.heap.size 38 [.slice p b.length c, .int .i64 (a : Int), .int .i64 (e0 : Int)]) := HA0.out
      have HA1' : Hid (Blk wr.drew (w.heap.size + 1) 38 [.slice none 0 0, .int .i64 0, .int .i64 0]) := HA1.out
      have HAB' := Lib.hid HAB.out.drew
      obtain ⟨wd, hwd⟩ : ∃ wd, wr.drew = wd := ⟨_, rfl⟩
      rw [hwd] at HA0' HA1' HAB' ⊢
      clear hwd c0 c1 c2 HA0 HA1 HAB
      have HK := Lib.hid (rd_k p b.length c a e0)
      go_wp2_with (first
        | (with_reducible refine wpList_load_blk rfl 38 _ rfl w.heap.size _ _ HA0'.out rfl _ Tryd.underlying38 rfl infoRd ?_)
        | (with_reducible refine wpList_store_blk rfl 38 _ _ rfl (w.heap.size + 1) [.slice p b.length c, .int .i64 (a : Int), .int .i64 (e0 : Int)] _ 38 HA1'.out rfl rfl HK.out.1 HK.out.2.1 HK.out.2.2 ?_; intro wf hR hW))
      refine bodyPost_ret (results_tmprow Tryd.results42 _ _ (w.heap.size + 1) 38 _ _ rfl rfl hR Tryd.underlying38 rfl infoRd) rfl ?_
      have hbf := hW.below _ _ HAB'.out (by omega)
      exact ⟨a, e0, by rw [HN.out]; rfl, RV.ok.below HX.out hbf, by rw [HN.out, HS.out], hbf⟩
end Go.Proofs.YtpffebcaalbhjaaDoor.wir

namespace Go.Proofs.YtpffebcaalbhjaaDoor.wir
open Go.RowKit
open Go.Proofs.YtpffebcaalbhjaaDoor.oct Go.Proofs.YtpffebcaalbhjaaDoor.ref Go.Proofs.YtpffebcaalbhjaaDoor.rows Go.Proofs.YtpffebcaalbhjaaDoor.rowg
open Go.Lib (byteCells)

theorem in8_wrote {w w1 : World} {g b o : Nat} {l : List UInt8} (h : In8 w (some ⟨b, o, none⟩) l) (k : Wrote w w1 g) (hb : b ≠ g) : In8 w1 (some ⟨b, o, none⟩) l := by
  intro hl
  obtain ⟨b2, o2, he, hc⟩ := h hl
  cases he
  refine ⟨b, o, rfl, fun i hi => ?_⟩
  rw [← hc i hi]
  simp only [World.cell?, k.other b hb]
theorem in8_sub {w : World} {b o : Nat} {l : List UInt8} (h : In8 w (some ⟨b, o, none⟩) l) (k m : Nat) : In8 w (some ⟨b, o + k, none⟩) ((l.drop k).take m) := by
  intro hl
  rw [List.length_take, List.length_drop] at hl
  obtain ⟨b2, o2, he, hc⟩ := h (by omega)
  cases he
  refine ⟨b, o + k, rfl, fun i hi => ?_⟩
  rw [List.length_take, List.length_drop] at hi
  rw [Nat.add_assoc, hc (k + i) (by omega)]
  simp [List.getD, show i < m by omega]
theorem numM_le (most : Nat) (t : T) : (numM most t).1 ≤ most := by
  unfold numM
  split
  · exact Nat.zero_le _
  · split
    · exact Nat.zero_le _
    · dsimp only; omega
theorem numS_le (most : Nat) : ∀ st : St, (numS most st).1 ≤ most
  | .ok t => numM_le most t
  | .bad _ => Nat.zero_le _
/-- what word answers -/
def WordA (w w' : World) (x : RV) (r : T × St) (e : Ending) : Prop := ∃ a' e', e = .returned (.tuple #[.string ⟨r.1.toArray⟩, (RV.mk x.p x.c x.b a' e').val]) ∧ (RV.mk x.p x.c x.b a' e').ok w' ∧ (RV.mk x.p x.c x.b a' e').st = r.2 ∧ Below w.heap.size w w'
set_option maxRecDepth 100000 in
set_option maxHeartbeats 8000000 in
theorem rword_c (x : RV) (w : World) (hx : x.ok w) :
    Calls Tryd.prog 43 #[x.val] w fun e w' => WordA w w' x (wordS x.st) e := by
  have HX := Lib.hid hx
  obtain ⟨r, hr⟩ : ∃ r, wordS x.st = r := ⟨_, rfl⟩
  have HR := Lib.hid hr
  rw [hr]
  clear hr hx
  have CN : Hid (∀ wx, Below w.heap.size w wx → Calls Tryd.prog 42 #[x.val, .int .u64 65536] wx fun e w' => NumA wx w' x (numS 65536 x.st) e) := fun wx hb => rnum_c x 65536 wx (HX.out.below hb)
  unfold RV.val RV.cells at CN ⊢
  go_enter Tryd.func43, Tryd.ntmps43
  go_wp2_with fail
  have hA0 : Blk ((w.alloc (.cells #[.slice x.p x.b.length x.c, .int .i64 (x.a : Int), .int .i64 (x.e : Int)] 38)).alloc (.cells #[.slice none 0 0, .int .i64 0, .int .i64 0] 38)) w.heap.size 38 [.slice x.p x.b.length x.c, .int .i64 (x.a : Int), .int .i64 (x.e : Int)] := blk_old (blk_new w _ _ _ rfl) _
  have hA1 : Blk ((w.alloc (.cells #[.slice x.p x.b.length x.c, .int .i64 (x.a : Int), .int .i64 (x.e : Int)] 38)).alloc (.cells #[.slice none 0 0, .int .i64 0, .int .i64 0] 38)) (w.heap.size + 1) 38 [.slice none 0 0, .int .i64 0, .int .i64 0] := by
    have h := blk_new (w.alloc (.cells #[.slice x.p x.b.length x.c, .int .i64 (x.a : Int), .int .i64 (x.e : Int)] 38)) #[.slice none 0 0, .int .i64 0, .int .i64 0] 38 _ rfl
    rwa [show (w.alloc (.cells #[.slice x.p x.b.length x.c, .int .i64 (x.a : Int), .int .i64 (x.e : Int)] 38)).heap.size = w.heap.size + 1 by simp] at h
  have hAB := ((Below.refl w.heap.size w).alloc (Nat.le_refl _) (.cells #[.slice x.p x.b.length x.c, .int .i64 (x.a : Int), .int .i64 (x.e : Int)] 38)).alloc (by simp) (.cells #[.slice none 0 0, .int .i64 0, .int .i64 0] 38)
  obtain ⟨wo, hwo⟩ : ∃ wo, (w.alloc (.cells #[.slice x.p x.b.length x.c, .int .i64 (x.a : Int), .int .i64 (x.e : Int)] 38)).alloc (.cells #[.slice none 0 0, .int .i64 0, .int .i64 0] 38) = wo := ⟨_, rfl⟩
  rw [hwo] at hA0 hA1 hAB ⊢
  clear hwo
  refine (CN.out wo hAB).mono ?_
  intro e1 w1 hA
  clear CN
  obtain ⟨p, c, b, a, e0⟩ := x
  have HLE := Lib.hid (numS_le 65536 (RV.st ⟨p, c, b, a, e0⟩))
  obtain ⟨q, hq⟩ : ∃ q, numS 65536 (RV.st ⟨p, c, b, a, e0⟩) = q := ⟨_, rfl⟩
  unfold wordS at HR
  rw [hq] at hA HLE HR
  have HBN : Hid (∀ t, q.2 = .ok t → 0 < b.length) := fun t ht => by
    rcases b with _ | ⟨y, b⟩
    · exfalso
      rw [← hq] at ht
      by_cases h0 : e0 = 0
      · unfold RV.st at ht; rw [if_pos h0] at ht; dsimp only at ht; rw [List.drop_nil] at ht; cases ht
      · unfold RV.st at ht; rw [if_neg h0] at ht; cases ht
    · simp
  have HBB : Hid (∀ bb oo, p = some ⟨bb, oo, none⟩ → 0 < b.length → bb ≠ w.heap.size) := fun bb oo h hl => by
    have h8 := HX.out.row
    dsimp only at h8
    rw [h] at h8
    have := h8.blt hl
    omega
  clear hq
  obtain ⟨n, sn⟩ := q
  unfold NumA RV.val RV.cells at hA
  dsimp only at hA HLE HR HBN
  obtain ⟨a1, e1, rfl, hok, hst, hb1⟩ := hA
  have hB0 := hA0.below hb1
  have hB1 := hA1.below hb1
  have hbw := bnext hAB hb1
  have hx1 := hok.place
  have hx2 := hok.size
  have hx3 := hok.room
  have hx8 := hok.row
  dsimp only at hx1 hx2 hx3 hx8
  have hle : n ≤ 65536 := HLE.out
  have HOK := Lib.hid hok
  have HST := Lib.hid hst
  clear hA0 hA1 hAB hb1 hok hst HLE
  by_cases h0 : e1 = 0
  · subst h0
    have hsn : sn = .ok (b.drop a1) := by
      have h := HST.out
      unfold RV.st at h
      exact h.symm
    have hbn := HBN.out _ hsn
    have HR2 : Hid (r = if (b.drop a1).length < n then ([], .bad 4) else ((b.drop a1).take n, .ok ((b.drop a1).drop n))) := by
      have h2 := HR.out
      rw [hsn] at h2
      exact h2.symm
    clear hsn
    rw [List.length_drop] at HR2
    obtain ⟨bb, oo, rfl, _⟩ := hx8.at hbn
    have hbb : bb ≠ w.heap.size := HBB.out _ _ rfl hbn
    by_cases h1 : b.length - a1 < n
    · have i2 : (n : Int) > (b.length : Int) - (a1 : Int) := by omega
      have HQ : Hid (r = ([], .bad 4)) := by show _ = _; rw [HR2.out, if_pos h1]
      have HK0 := Lib.hid (rd_k (some ⟨bb, oo, none⟩) b.length c (a1 : Int) 0)
      have HK1 : Hid (([.slice (some ⟨bb, oo, none⟩) b.length c, .int .i64 (a : Int), .int .i64 (e0 : Int)] : List Value).length = ([.slice (some ⟨bb, oo, none⟩) b.length c, .int .i64 (a1 : Int), .int .i64 0] : List Value).length) := rfl
      go_wp2_with (first
        | (with_reducible refine wpList_store_blk rfl 38 _ _ rfl w.heap.size [.slice (some ⟨bb, oo, none⟩) b.length c, .int .i64 (a1 : Int), .int .i64 0] _ 38 hB0 rfl rfl HK0.out.1 HK1.out HK0.out.2.2 ?_; intro wf hR hW; have d0 := hR.cell 0; have d1 := hR.cell 1; have d2 := hR.cell 2; have f1 := hR.frozen 1; have f2 := hR.frozen 2))
      have Z0 : Blk (wf.setCell ⟨w.heap.size, 2, none⟩ (.int .i64 4)) w.heap.size 38 [.slice (some ⟨bb, oo, none⟩) b.length c, .int .i64 (a1 : Int), .int .i64 4] := Blk.set hR 2 _
      have Z1 : Blk (wf.setCell ⟨w.heap.size, 2, none⟩ (.int .i64 4)) (w.heap.size + 1) 38 [.slice none 0 0, .int .i64 0, .int .i64 0] := Blk.set_other (hW.blk hB1 (by omega)) (by omega) 2 _
      have ZB : Below w.heap.size w (wf.setCell ⟨w.heap.size, 2, none⟩ (.int .i64 4)) := (hW.below _ _ hbw (Nat.le_refl _)).setCell (p := ⟨w.heap.size, 2, none⟩) (Nat.le_refl _) _
      obtain ⟨wz, hwz⟩ : ∃ wz, (wf.setCell ⟨w.heap.size, 2, none⟩ (.int .i64 4)) = wz := ⟨_, rfl⟩
      rw [hwz] at Z0 Z1 ZB ⊢
      clear hwz d0 d1 d2
      have d0 := Z0.cell 0
      have d1 := Z0.cell 1
      have d2 := Z0.cell 2
      go_still_tail 2, (by kernel_rfl)
      change wpList _ _ _ _ _ wz.drew
      have HA1' : Hid (Blk wz.drew (w.heap.size + 1) 38 [.slice none 0 0, .int .i64 0, .int .i64 0]) := Z1
      have HAB' : Hid (Below w.heap.size w wz.drew) := ZB.drew
      obtain ⟨wd, hwd⟩ : ∃ wd, wz.drew = wd := ⟨_, rfl⟩
      rw [hwd] at HA1' HAB' ⊢
      clear hwd d0 d1 d2 Z0 Z1 ZB
      have HK := Lib.hid (rd_k (some ⟨bb, oo, none⟩) b.length c (a1 : Int) 4)
      go_wp2_with (first
        | (with_reducible refine wpList_store_blk rfl 38 _ _ rfl (w.heap.size + 1) [.slice (some ⟨bb, oo, none⟩) b.length c, .int .i64 (a1 : Int), .int .i64 4] _ 38 HA1'.out rfl rfl HK.out.1 HK.out.2.1 HK.out.2.2 ?_; intro wf2 hR2 hW2))
      refine bodyPost_ret (results_tmprow Tryd.results43 _ _ (w.heap.size + 1) 38 _ _ rfl rfl hR2 Tryd.underlying38 rfl infoRd) rfl ?_
      have hbf := hW2.below _ _ HAB'.out (by omega)
      exact ⟨a1, 4, by rw [HQ.out]; rfl, ⟨HX.out.row.below hbf, HX.out.nil, hx3, hx1, hx2, by show 4 ≤ 5; omega⟩, by rw [HQ.out]; rfl, hbf⟩
    · have i2 : ¬ ((n : Int) > (b.length : Int) - (a1 : Int)) := by omega
      have HQ : Hid (r = ((b.drop a1).take n, .ok ((b.drop a1).drop n))) := by show _ = _; rw [HR2.out, if_neg h1]
      have hln : ((b.drop a1).take n).length = n := by rw [List.length_take, List.length_drop]; omega
      have HCV : Hid (∀ wf, Wrote w1 wf w.heap.size → (convert 24 9 (.slice (some ⟨bb, oo + a1, none⟩) n (c - a1))).run Tryd.prog wf = .ok (.string ⟨((b.drop a1).take n).toArray⟩) wf) := fun wf hW => by
        have h8 : In8 wf (some ⟨bb, oo + a1, none⟩) ((b.drop a1).take n) := in8_sub (in8_wrote hx8 hW hbb) a1 n
        have h := conv_in8 h8 (Or.inr ⟨_, _, rfl⟩) (c - a1)
        rw [hln] at h
        exact h
      have HCW : Hid (∀ wf : World, c = a1 → (convert 24 9 (.slice (some ⟨bb, oo, none⟩) n 0)).run Tryd.prog wf = .ok (.string ⟨((b.drop a1).take n).toArray⟩) wf) := fun wf hca => by
        have hn0 : n = 0 := by omega
        have h8 : In8 wf (some ⟨bb, oo, none⟩) [] := fun h => absurd h (by simp)
        have h := conv_in8 h8 (Or.inr ⟨_, _, rfl⟩) 0
        rw [hn0, List.take_zero]
        exact h
      have HK0 := Lib.hid (rd_k (some ⟨bb, oo, none⟩) b.length c (a1 : Int) 0)
      have HK1 : Hid (([.slice (some ⟨bb, oo, none⟩) b.length c, .int .i64 (a : Int), .int .i64 (e0 : Int)] : List Value).length = ([.slice (some ⟨bb, oo, none⟩) b.length c, .int .i64 (a1 : Int), .int .i64 0] : List Value).length) := rfl
      go_wp2_with (first
        | (with_reducible refine wpList_store_blk rfl 38 _ _ rfl w.heap.size [.slice (some ⟨bb, oo, none⟩) b.length c, .int .i64 (a1 : Int), .int .i64 0] _ 38 hB0 rfl rfl HK0.out.1 HK1.out HK0.out.2.2 ?_; intro wf hR hW; have d0 := hR.cell 0; have d1 := hR.cell 1; have d2 := hR.cell 2; have f1 := hR.frozen 1; have f2 := hR.frozen 2; have hcv := HCV.out wf hW; have hcw := HCW.out wf))
      · clear h hcw hcv
        have Z0 : Blk (wf.setCell ⟨w.heap.size, 1, none⟩ (.int .i64 ((a1 : Int) + (n : Int)))) w.heap.size 38 [.slice (some ⟨bb, oo, none⟩) b.length c, .int .i64 ((a1 : Int) + (n : Int)), .int .i64 0] := Blk.set hR 1 _
        have Z1 : Blk (wf.setCell ⟨w.heap.size, 1, none⟩ (.int .i64 ((a1 : Int) + (n : Int)))) (w.heap.size + 1) 38 [.slice none 0 0, .int .i64 0, .int .i64 0] := Blk.set_other (hW.blk hB1 (by omega)) (by omega) 1 _
        have ZB : Below w.heap.size w (wf.setCell ⟨w.heap.size, 1, none⟩ (.int .i64 ((a1 : Int) + (n : Int)))) := (hW.below _ _ hbw (Nat.le_refl _)).setCell (p := ⟨w.heap.size, 1, none⟩) (Nat.le_refl _) _
        obtain ⟨wz, hwz⟩ : ∃ wz, (wf.setCell ⟨w.heap.size, 1, none⟩ (.int .i64 ((a1 : Int) + (n : Int)))) = wz := ⟨_, rfl⟩
        rw [hwz] at Z0 Z1 ZB ⊢
        clear hwz d0 d1 d2
        have d0 := Z0.cell 0
        have d1 := Z0.cell 1
        have d2 := Z0.cell 2
        go_still_tail 3, (by kernel_rfl)
        change wpList _ _ _ _ _ wz.drew
        have HA1' : Hid (Blk wz.drew (w.heap.size + 1) 38 [.slice none 0 0, .int .i64 0, .int .i64 0]) := Z1
        have HAB' : Hid (Below w.heap.size w wz.drew) := ZB.drew
        obtain ⟨wd, hwd⟩ : ∃ wd, wz.drew = wd := ⟨_, rfl⟩
        rw [hwd] at HA1' HAB' ⊢
        clear hwd d0 d1 d2 Z0 Z1 ZB
        have HK := Lib.hid (rd_k (some ⟨bb, oo, none⟩) b.length c ((a1 : Int) + (n : Int)) 0)
        go_wp2_with (first
          | (with_reducible refine wpList_store_blk rfl 38 _ _ rfl (w.heap.size + 1) [.slice (some ⟨bb, oo, none⟩) b.length c, .int .i64 ((a1 : Int) + (n : Int)), .int .i64 0] _ 38 HA1'.out rfl rfl HK.out.1 HK.out.2.1 HK.out.2.2 ?_; intro wf2 hR2 hW2))
        refine bodyPost_ret (results_tmprow Tryd.results43 _ _ (w.heap.size + 1) 38 _ _ rfl rfl hR2 Tryd.underlying38 rfl infoRd) rfl ?_
        have hbf := hW2.below _ _ HAB'.out (by omega)
        exact ⟨a1 + n, 0, by rw [HQ.out]; rfl, ⟨HX.out.row.below hbf, HX.out.nil, hx3, by show a1 + n ≤ b.length; omega, hx2, by show 0 ≤ 5; omega⟩, by rw [HQ.out]; show St.ok _ = _; rw [List.drop_drop], hbf⟩
      · have Z0 : Blk (wf.setCell ⟨w.heap.size, 1, none⟩ (.int .i64 ((a1 : Int) + (n : Int)))) w.heap.size 38 [.slice (some ⟨bb, oo, none⟩) b.length c, .int .i64 ((a1 : Int) + (n : Int)), .int .i64 0] := Blk.set hR 1 _
        have Z1 : Blk (wf.setCell ⟨w.heap.size, 1, none⟩ (.int .i64 ((a1 : Int) + (n : Int)))) (w.heap.size + 1) 38 [.slice none 0 0, .int .i64 0, .int .i64 0] := Blk.set_other (hW.blk hB1 (by omega)) (by omega) 1 _
        have ZB : Below w.heap.size w (wf.setCell ⟨w.heap.size, 1, none⟩ (.int .i64 ((a1 : Int) + (n : Int)))) := (hW.below _ _ hbw (Nat.le_refl _)).setCell (p := ⟨w.heap.size, 1, none⟩) (Nat.le_refl _) _
        obtain ⟨wz, hwz⟩ : ∃ wz, (wf.setCell ⟨w.heap.size, 1, none⟩ (.int .i64 ((a1 : Int) + (n : Int)))) = wz := ⟨_, rfl⟩
        rw [hwz] at Z0 Z1 ZB ⊢
        clear hwz d0 d1 d2
        have d0 := Z0.cell 0
        have d1 := Z0.cell 1
        have d2 := Z0.cell 2
        go_still_tail 3, (by kernel_rfl)
        change wpList _ _ _ _ _ wz.drew
        have HA1' : Hid (Blk wz.drew (w.heap.size + 1) 38 [.slice none 0 0, .int .i64 0, .int .i64 0]) := Z1
        have HAB' : Hid (Below w.heap.size w wz.drew) := ZB.drew
        obtain ⟨wd, hwd⟩ : ∃ wd, wz.drew = wd := ⟨_, rfl⟩
        rw [hwd] at HA1' HAB' ⊢
        clear hwd d0 d1 d2 Z0 Z1 ZB
        have HK := Lib.hid (rd_k (some ⟨bb, oo, none⟩) b.length c ((a1 : Int) + (n : Int)) 0)
        go_wp2_with (first
          | (with_reducible refine wpList_store_blk rfl 38 _ _ rfl (w.heap.size + 1) [.slice (some ⟨bb, oo, none⟩) b.length c, .int .i64 ((a1 : Int) + (n : Int)), .int .i64 0] _ 38 HA1'.out rfl rfl HK.out.1 HK.out.2.1 HK.out.2.2 ?_; intro wf2 hR2 hW2))
        refine bodyPost_ret (results_tmprow Tryd.results43 _ _ (w.heap.size + 1) 38 _ _ rfl rfl hR2 Tryd.underlying38 rfl infoRd) rfl ?_
        have hbf := hW2.below _ _ HAB'.out (by omega)
        exact ⟨a1 + n, 0, by rw [HQ.out]; rfl, ⟨HX.out.row.below hbf, HX.out.nil, hx3, by show a1 + n ≤ b.length; omega, hx2, by show 0 ≤ 5; omega⟩, by rw [HQ.out]; show St.ok _ = _; rw [List.drop_drop], hbf⟩
  · have i1 : ((e1 : Int) == 0) = false := by rw [beq_eq_false_iff_ne]; omega
    have HQ : Hid (r = ([], .bad e1)) := by
      have h := HST.out
      unfold RV.st at h
      rw [if_neg h0] at h
      have h2 := HR.out
      rw [← h] at h2
      exact h2.symm
    have HK0 := Lib.hid (rd_k p b.length c (a1 : Int) (e1 : Int))
    have HK1 : Hid (([.slice p b.length c, .int .i64 (a : Int), .int .i64 (e0 : Int)] : List Value).length = ([.slice p b.length c, .int .i64 (a1 : Int), .int .i64 (e1 : Int)] : List Value).length) := rfl
    go_wp2_with (first
      | (with_reducible refine wpList_store_blk rfl 38 _ _ rfl w.heap.size [.slice p b.length c, .int .i64 (a1 : Int), .int .i64 (e1 : Int)] _ 38 hB0 rfl rfl HK0.out.1 HK1.out HK0.out.2.2 ?_; intro wf hR hW; have d0 := hR.cell 0; have d1 := hR.cell 1; have d2 := hR.cell 2; have f1 := hR.frozen 1; have f2 := hR.frozen 2))
    have Z0 : Blk (wf) w.heap.size 38 [.slice p b.length c, .int .i64 (a1 : Int), .int .i64 (e1 : Int)] := hR
    have Z1 : Blk (wf) (w.heap.size + 1) 38 [.slice none 0 0, .int .i64 0, .int .i64 0] := hW.blk hB1 (by omega)
    have ZB : Below w.heap.size w (wf) := hW.below _ _ hbw (Nat.le_refl _)
    obtain ⟨wz, hwz⟩ : ∃ wz, (wf) = wz := ⟨_, rfl⟩
    rw [hwz] at Z0 Z1 ZB ⊢
    clear hwz d0 d1 d2
    have d0 := Z0.cell 0
    have d1 := Z0.cell 1
    have d2 := Z0.cell 2
    go_still_tail 2, (by kernel_rfl)
    change wpList _ _ _ _ _ wz.drew
    have HA1' : Hid (Blk wz.drew (w.heap.size + 1) 38 [.slice none 0 0, .int .i64 0, .int .i64 0]) := Z1
    have HAB' : Hid (Below w.heap.size w wz.drew) := ZB.drew
    obtain ⟨wd, hwd⟩ : ∃ wd, wz.drew = wd := ⟨_, rfl⟩
    rw [hwd] at HA1' HAB' ⊢
    clear hwd d0 d1 d2 Z0 Z1 ZB
    have HK := Lib.hid (rd_k p b.length c (a1 : Int) (e1 : Int))
    go_wp2_with (first
      | (with_reducible refine wpList_store_blk rfl 38 _ _ rfl (w.heap.size + 1) [.slice p b.length c, .int .i64 (a1 : Int), .int .i64 (e1 : Int)] _ 38 HA1'.out rfl rfl HK.out.1 HK.out.2.1 HK.out.2.2 ?_; intro wf2 hR2 hW2))
    refine bodyPost_ret (results_tmprow Tryd.results43 _ _ (w.heap.size + 1) 38 _ _ rfl rfl hR2 Tryd.underlying38 rfl infoRd) rfl ?_
    have hbf := hW2.below _ _ HAB'.out (by omega)
    exact ⟨a1, e1, by rw [HQ.out]; rfl, ⟨HX.out.row.below hbf, HX.out.nil, hx3, hx1, hx2, HOK.out.err⟩, by rw [HQ.out]; unfold RV.st; rw [if_neg h0], hbf⟩
end Go.Proofs.YtpffebcaalbhjaaDoor.wir

namespace Go.Proofs.YtpffebcaalbhjaaDoor.wir
open Go.RowKit
open Go.Proofs.YtpffebcaalbhjaaDoor.oct Go.Proofs.YtpffebcaalbhjaaDoor.ref Go.Proofs.YtpffebcaalbhjaaDoor.rows Go.Proofs.YtpffebcaalbhjaaDoor.rowg
open Go.Lib (byteCells)

theorem results_rowrow {P : Program} {fn : Func} {p q : Tmp} {ty tz : TypeId} (h : fn.results = #[.cell p ty, .cell q tz]) (tmps : Array Value) (w : World) (g g2 : Nat) (t t2 : TypeId) (X X2 : List Value) {d d2 : TypeDesc}
    (hp : tmps.getD p undef = .pointer (some ⟨g, 0, none⟩)) (hq : tmps.getD q undef = .pointer (some ⟨g2, 0, none⟩)) (hB : Blk w g t X) (hB2 : Blk w g2 t2 X2)
    (hu : P.underlying ty = some d) (hd : (match d with | .struct _ | .array _ _ => true | _ => false) = true) (hi : (P.info? ty).map (·.size) = some X.length)
    (hu2 : P.underlying tz = some d2) (hd2 : (match d2 with | .struct _ | .array _ _ => true | _ => false) = true) (hi2 : (P.info? tz).map (·.size) = some X2.length) :
    (results fn tmps).run P w = .ok (.tuple #[.agg X.toArray, .agg X2.toArray]) w := by
  have hp' : tmps[p]?.getD undef = .pointer (some ⟨g, 0, none⟩) := by simpa using hp
  have hq' : tmps[q]?.getD undef = .pointer (some ⟨g2, 0, none⟩) := by simpa using hq
  have hl := run_loadVar_row (P := P) w g t ty X.toArray (0, 0) d hB hu hd (by simpa using hi)
  have hl2 := run_loadVar_row (P := P) w g2 t2 tz X2.toArray (0, 0) d2 hB2 hu2 hd2 (by simpa using hi2)
  simp [results, h, hp', hq', asAddr, hl, hl2]
theorem infoPut : (Tryd.prog.info? 43).map (·.size) = some 4 := by kernel_rfl
/-- a put's cells -/
theorem pt_k (k n : Int) (s : ByteArray) (p : Option Addr) (m c : Nat) : (Tryd.prog.info? 43).map (·.size) = some ([.int .i64 k, .int .i64 n, .string s, .slice p m c] : List Value).length ∧ ([.int .i64 0, .int .i64 0, .string ⟨#[]⟩, .slice none 0 0] : List Value).length = ([.int .i64 k, .int .i64 n, .string s, .slice p m c] : List Value).length ∧ ∀ v ∈ ([.int .i64 k, .int .i64 n, .string s, .slice p m c] : List Value), v.oneCell' = true :=
  ⟨infoPut, rfl, fun v hv => by
    simp only [List.mem_cons, List.not_mem_nil, or_false] at hv
    rcases hv with rfl | rfl | rfl | rfl <;> rfl⟩
theorem put4 {w : World} {g e : Nat} {a b c d a' b' c' d' : Value} (h : Blk w g e [a, b, c, d]) : Blk ((((w.setCell ⟨g, 0, none⟩ a').setCell ⟨g, 1, none⟩ b').setCell ⟨g, 2, none⟩ c').setCell ⟨g, 3, none⟩ d') g e [a', b', c', d'] := Blk.set (Blk.set (Blk.set (Blk.set h 0 _) 1 _) 2 _) 3 _
theorem put3 {w : World} {g e : Nat} {a b c a' b' c' : Value} (h : Blk w g e [a, b, c]) : Blk (((w.setCell ⟨g, 0, none⟩ a').setCell ⟨g, 1, none⟩ b').setCell ⟨g, 2, none⟩ c') g e [a', b', c'] := Blk.set (Blk.set (Blk.set h 0 _) 1 _) 2 _
theorem below4 {B g : Nat} {w0 w : World} {a b c d : Value} (h : Below B w0 w) (hg : B ≤ g) : Below B w0 ((((w.setCell ⟨g, 0, none⟩ a).setCell ⟨g, 1, none⟩ b).setCell ⟨g, 2, none⟩ c).setCell ⟨g, 3, none⟩ d) :=
  (((h.setCell (p := ⟨g, 0, none⟩) hg _).setCell (p := ⟨g, 1, none⟩) hg _).setCell (p := ⟨g, 2, none⟩) hg _).setCell (p := ⟨g, 3, none⟩) hg _
theorem below3 {B g : Nat} {w0 w : World} {a b c : Value} (h : Below B w0 w) (hg : B ≤ g) : Below B w0 ((((w.setCell ⟨g, 0, none⟩ a).setCell ⟨g, 1, none⟩ b).setCell ⟨g, 2, none⟩ c).drew) :=
  (((h.setCell (p := ⟨g, 0, none⟩) hg _).setCell (p := ⟨g, 1, none⟩) hg _).setCell (p := ⟨g, 2, none⟩) hg _).drew
theorem two_rows {w w0 : World} {B g h e e2 : Nat} {x0 x1 x2 x3 y0 y1 y2 : Value} (h1 : Blk w g e [x0, x1, x2, x3]) (h2 : Blk w h e2 [y0, y1, y2]) (hn : g ≠ h) (hb : Below B w0 w) (hg : B ≤ g) (hh : B ≤ h) (a b c d p q r : Value) :
    Blk ((((((((w.setCell ⟨g, 0, none⟩ a).setCell ⟨g, 1, none⟩ b).setCell ⟨g, 2, none⟩ c).setCell ⟨g, 3, none⟩ d).setCell ⟨h, 0, none⟩ p).setCell ⟨h, 1, none⟩ q).setCell ⟨h, 2, none⟩ r).drew) g e [a, b, c, d] ∧
    Blk ((((((((w.setCell ⟨g, 0, none⟩ a).setCell ⟨g, 1, none⟩ b).setCell ⟨g, 2, none⟩ c).setCell ⟨g, 3, none⟩ d).setCell ⟨h, 0, none⟩ p).setCell ⟨h, 1, none⟩ q).setCell ⟨h, 2, none⟩ r).drew) h e2 [p, q, r] ∧
    Below B w0 ((((((((w.setCell ⟨g, 0, none⟩ a).setCell ⟨g, 1, none⟩ b).setCell ⟨g, 2, none⟩ c).setCell ⟨g, 3, none⟩ d).setCell ⟨h, 0, none⟩ p).setCell ⟨h, 1, none⟩ q).setCell ⟨h, 2, none⟩ r).drew) := by
  have k1 := put4 (a' := a) (b' := b) (c' := c) (d' := d) h1
  have k2 := Blk.set_other (Blk.set_other (Blk.set_other (Blk.set_other h2 hn 0 a) hn 1 b) hn 2 c) hn 3 d
  have k3 := below4 (a := a) (b := b) (c := c) (d := d) hb hg
  obtain ⟨w4, hw4⟩ : ∃ w4, ((((w.setCell ⟨g, 0, none⟩ a).setCell ⟨g, 1, none⟩ b).setCell ⟨g, 2, none⟩ c).setCell ⟨g, 3, none⟩ d) = w4 := ⟨_, rfl⟩
  rw [hw4] at k1 k2 k3 ⊢
  have m1 := Blk.set_other (Blk.set_other (Blk.set_other k1 (fun h => hn h.symm) 0 p) (fun h => hn h.symm) 1 q) (fun h => hn h.symm) 2 r
  have m2 := put3 (a' := p) (b' := q) (c' := r) k2
  exact ⟨m1, m2, below3 k3 hh⟩
theorem ins_none (w : World) : InS w none [] := fun h => absurd h (by simp)
/-- what Read answers -/
def ReadA (w w' : World) (x : RV) (r : Put × St) (e : Ending) : Prop := ∃ (y : PutA) (a' e' : Nat), e = .returned (.tuple #[.agg (penc y).toArray, (RV.mk x.p x.c x.b a' e').val]) ∧ y.put = r.1 ∧ GoodP w' y ∧ (RV.mk x.p x.c x.b a' e').ok w' ∧ (RV.mk x.p x.c x.b a' e').st = r.2 ∧ Below w.heap.size w w' ∧ ∀ g o, y.p = some ⟨g, o, none⟩ → w.heap.size ≤ g
set_option maxRecDepth 100000 in
set_option maxHeartbeats 1500000 in
theorem rread0_c (x : RV) (w : World) (hx : x.ok w) :
    Calls Tryd.prog 19 #[x.val, .int .i64 0] w fun e w' => ReadA w w' x (readS 0 x.st) e := by
  have HX := Lib.hid hx
  obtain ⟨r, hr⟩ : ∃ r, readS 0 x.st = r := ⟨_, rfl⟩
  have HR0 := Lib.hid hr
  rw [hr]
  clear hr hx
  have CN : Hid (∀ wx, Below w.heap.size w wx → Calls Tryd.prog 42 #[x.val, .int .u64 18446744073709551615] wx fun e w' => NumA wx w' x (numS 18446744073709551615 x.st) e) := fun wx hb => rnum_c x _ wx (HX.out.below hb)
  unfold RV.val RV.cells at CN ⊢
  go_enter Tryd.func19, Tryd.ntmps19
  go_wp2_with fail
  have hA0 : Blk ((((w.alloc (.cells #[.slice x.p x.b.length x.c, .int .i64 (x.a : Int), .int .i64 (x.e : Int)] 38)).alloc (.cells #[.int .i64 0, .int .i64 0, .string ⟨#[]⟩, .slice none 0 0] 43)).alloc (.cells #[.slice none 0 0, .int .i64 0, .int .i64 0] 38)).alloc (.cells #[.int .i64 0, .int .i64 0, .string ⟨#[]⟩, .slice none 0 0] 43)) w.heap.size 38 [.slice x.p x.b.length x.c, .int .i64 (x.a : Int), .int .i64 (x.e : Int)] := blk_old (blk_old (blk_old (blk_new w _ _ _ rfl) _) _) _
  have hA1 : Blk ((((w.alloc (.cells #[.slice x.p x.b.length x.c, .int .i64 (x.a : Int), .int .i64 (x.e : Int)] 38)).alloc (.cells #[.int .i64 0, .int .i64 0, .string ⟨#[]⟩, .slice none 0 0] 43)).alloc (.cells #[.slice none 0 0, .int .i64 0, .int .i64 0] 38)).alloc (.cells #[.int .i64 0, .int .i64 0, .string ⟨#[]⟩, .slice none 0 0] 43)) (w.heap.size + 1) 43 [.int .i64 0, .int .i64 0, .string ⟨#[]⟩, .slice none 0 0] := blk_old (blk_old ((by have h := blk_new (w.alloc (.cells #[.slice x.p x.b.length x.c, .int .i64 (x.a : Int), .int .i64 (x.e : Int)] 38)) #[.int .i64 0, .int .i64 0, .string ⟨#[]⟩, .slice none 0 0] 43 _ rfl; rwa [show (w.alloc (.cells #[.slice x.p x.b.length x.c, .int .i64 (x.a : Int), .int .i64 (x.e : Int)] 38)).heap.size = (w.heap.size + 1) by simp] at h)) _) _
  have hA2 : Blk ((((w.alloc (.cells #[.slice x.p x.b.length x.c, .int .i64 (x.a : Int), .int .i64 (x.e : Int)] 38)).alloc (.cells #[.int .i64 0, .int .i64 0, .string ⟨#[]⟩, .slice none 0 0] 43)).alloc (.cells #[.slice none 0 0, .int .i64 0, .int .i64 0] 38)).alloc (.cells #[.int .i64 0, .int .i64 0, .string ⟨#[]⟩, .slice none 0 0] 43)) (w.heap.size + 1 + 1) 38 [.slice none 0 0, .int .i64 0, .int .i64 0] := blk_old ((by have h := blk_new ((w.alloc (.cells #[.slice x.p x.b.length x.c, .int .i64 (x.a : Int), .int .i64 (x.e : Int)] 38)).alloc (.cells #[.int .i64 0, .int .i64 0, .string ⟨#[]⟩, .slice none 0 0] 43)) #[.slice none 0 0, .int .i64 0, .int .i64 0] 38 _ rfl; rwa [show ((w.alloc (.cells #[.slice x.p x.b.length x.c, .int .i64 (x.a : Int), .int .i64 (x.e : Int)] 38)).alloc (.cells #[.int .i64 0, .int .i64 0, .string ⟨#[]⟩, .slice none 0 0] 43)).heap.size = (w.heap.size + 1 + 1) by simp] at h)) _
  have hA3 : Blk ((((w.alloc (.cells #[.slice x.p x.b.length x.c, .int .i64 (x.a : Int), .int .i64 (x.e : Int)] 38)).alloc (.cells #[.int .i64 0, .int .i64 0, .string ⟨#[]⟩, .slice none 0 0] 43)).alloc (.cells #[.slice none 0 0, .int .i64 0, .int .i64 0] 38)).alloc (.cells #[.int .i64 0, .int .i64 0, .string ⟨#[]⟩, .slice none 0 0] 43)) (w.heap.size + 1 + 1 + 1) 43 [.int .i64 0, .int .i64 0, .string ⟨#[]⟩, .slice none 0 0] := (by have h := blk_new (((w.alloc (.cells #[.slice x.p x.b.length x.c, .int .i64 (x.a : Int), .int .i64 (x.e : Int)] 38)).alloc (.cells #[.int .i64 0, .int .i64 0, .string ⟨#[]⟩, .slice none 0 0] 43)).alloc (.cells #[.slice none 0 0, .int .i64 0, .int .i64 0] 38)) #[.int .i64 0, .int .i64 0, .string ⟨#[]⟩, .slice none 0 0] 43 _ rfl; rwa [show (((w.alloc (.cells #[.slice x.p x.b.length x.c, .int .i64 (x.a : Int), .int .i64 (x.e : Int)] 38)).alloc (.cells #[.int .i64 0, .int .i64 0, .string ⟨#[]⟩, .slice none 0 0] 43)).alloc (.cells #[.slice none 0 0, .int .i64 0, .int .i64 0] 38)).heap.size = (w.heap.size + 1 + 1 + 1) by simp] at h)
  have hAB := ((((Below.refl w.heap.size w).alloc (by simp <;> omega) (.cells #[.slice x.p x.b.length x.c, .int .i64 (x.a : Int), .int .i64 (x.e : Int)] 38)).alloc (by simp <;> omega) (.cells #[.int .i64 0, .int .i64 0, .string ⟨#[]⟩, .slice none 0 0] 43)).alloc (by simp <;> omega) (.cells #[.slice none 0 0, .int .i64 0, .int .i64 0] 38)).alloc (by simp <;> omega) (.cells #[.int .i64 0, .int .i64 0, .string ⟨#[]⟩, .slice none 0 0] 43)
  obtain ⟨wo, hwo⟩ : ∃ wo, ((((w.alloc (.cells #[.slice x.p x.b.length x.c, .int .i64 (x.a : Int), .int .i64 (x.e : Int)] 38)).alloc (.cells #[.int .i64 0, .int .i64 0, .string ⟨#[]⟩, .slice none 0 0] 43)).alloc (.cells #[.slice none 0 0, .int .i64 0, .int .i64 0] 38)).alloc (.cells #[.int .i64 0, .int .i64 0, .string ⟨#[]⟩, .slice none 0 0] 43)) = wo := ⟨_, rfl⟩
  rw [hwo] at hA0 hA1 hA2 hA3 hAB ⊢
  clear hwo
  refine (CN.out wo hAB).mono ?_
  intro e1 w1 hA
  clear CN
  obtain ⟨p, c, b, a, e0⟩ := x
  obtain ⟨q, hq⟩ : ∃ q, numS 18446744073709551615 (RV.st ⟨p, c, b, a, e0⟩) = q := ⟨_, rfl⟩
  have HLE := Lib.hid (numS_le 18446744073709551615 (RV.st ⟨p, c, b, a, e0⟩))
  have HR : Hid (r = (⟨0, unzz q.1, [], []⟩, q.2)) := by show _ = _; rw [← HR0.out, ← hq]; rfl
  rw [hq] at hA HLE
  clear hq HR0
  obtain ⟨n, sn⟩ := q
  unfold NumA RV.val RV.cells at hA
  dsimp only at hA HLE HR
  obtain ⟨a1, e1, rfl, hok, hst, hb1⟩ := hA
  have B0 := hA0.below hb1
  have B1 := Lib.hid (hA1.below hb1)
  have B2 := Lib.hid (hA2.below hb1)
  have B3 := Lib.hid (hA3.below hb1)
  have hbw := bnext hAB hb1
  have hx1 := hok.place
  have hx2 := hok.size
  have hx3 := hok.room
  dsimp only at hx1 hx2 hx3
  have hle : n ≤ 18446744073709551615 := HLE.out
  have HOK := Lib.hid hok
  have HST := Lib.hid hst
  clear hA0 hA1 hA2 hA3 hAB hb1 hok hst HLE
  have HK0 := Lib.hid (rd_k p b.length c (a1 : Int) (e1 : Int))
  have HK1 : Hid (([.slice p b.length c, .int .i64 (a : Int), .int .i64 (e0 : Int)] : List Value).length = ([.slice p b.length c, .int .i64 (a1 : Int), .int .i64 (e1 : Int)] : List Value).length) := rfl
  by_cases hn2 : n % 2 = 1
  · have i1 : (((n : Int) % 2) == 1) = true := by rw [beq_iff_eq]; omega
    have HVAL : Hid (-((n : Int) / 2) - 1 = unzz n) := by show _ = _; unfold unzz; rw [if_pos hn2]; omega
    go_wp2_with (first
      | (with_reducible refine wpList_store_blk rfl 38 _ _ rfl w.heap.size [.slice p b.length c, .int .i64 (a1 : Int), .int .i64 (e1 : Int)] _ 38 B0 rfl rfl HK0.out.1 HK1.out HK0.out.2.2 ?_; intro wf hR hW; have b1 := hW.blk B1.out (by omega); have b2 := hW.blk B2.out (by omega); have b3 := hW.blk B3.out (by omega); have c0 := b3.cell 0; have c1 := b3.cell 1; have c2 := b3.cell 2; have c3 := b3.cell 3; have f1 := b3.frozen 1; have f2 := b3.frozen 2))
    have Z0 : Blk (wf.setCell ⟨(w.heap.size + 1 + 1 + 1), 1, none⟩ (.int .i64 (-((n : Int) / 2) - 1))) w.heap.size 38 [.slice p b.length c, .int .i64 (a1 : Int), .int .i64 (e1 : Int)] := Blk.set_other hR (by omega) 1 _
    have Z1 : Blk (wf.setCell ⟨(w.heap.size + 1 + 1 + 1), 1, none⟩ (.int .i64 (-((n : Int) / 2) - 1))) (w.heap.size + 1) 43 [.int .i64 0, .int .i64 0, .string ⟨#[]⟩, .slice none 0 0] := Blk.set_other b1 (by omega) 1 _
    have Z2 : Blk (wf.setCell ⟨(w.heap.size + 1 + 1 + 1), 1, none⟩ (.int .i64 (-((n : Int) / 2) - 1))) (w.heap.size + 1 + 1) 38 [.slice none 0 0, .int .i64 0, .int .i64 0] := Blk.set_other b2 (by omega) 1 _
    have Z3 : Blk (wf.setCell ⟨(w.heap.size + 1 + 1 + 1), 1, none⟩ (.int .i64 (-((n : Int) / 2) - 1))) (w.heap.size + 1 + 1 + 1) 43 [.int .i64 0, .int .i64 (-((n : Int) / 2) - 1), .string ⟨#[]⟩, .slice none 0 0] := Blk.set b3 1 _
    have ZB : Below w.heap.size w (wf.setCell ⟨(w.heap.size + 1 + 1 + 1), 1, none⟩ (.int .i64 (-((n : Int) / 2) - 1))) := (hW.below _ _ hbw (Nat.le_refl _)).setCell (p := ⟨(w.heap.size + 1 + 1 + 1), 1, none⟩) (Nat.le_add_right w.heap.size 3) _
    obtain ⟨wz, hwz⟩ : ∃ wz, wf.setCell ⟨(w.heap.size + 1 + 1 + 1), 1, none⟩ (.int .i64 (-((n : Int) / 2) - 1)) = wz := ⟨_, rfl⟩
    rw [hwz] at Z0 Z1 Z2 Z3 ZB ⊢
    clear hwz c0 c1 c2 c3
    have d0 := Z0.cell 0
    have d1 := Z0.cell 1
    have d2 := Z0.cell 2
    have c0 := Z3.cell 0
    have c1 := Z3.cell 1
    have c2 := Z3.cell 2
    have c3 := Z3.cell 3
    have y0 := Z1.cell 0
    have y1 := Z1.cell 1
    have y2 := Z1.cell 2
    have y3 := Z1.cell 3
    have z0 := Z2.cell 0
    have z1 := Z2.cell 1
    have z2 := Z2.cell 2
    have g0 := Z1.frozen 0
    have g1 := Z1.frozen 1
    have g2 := Z1.frozen 2
    have g3 := Z1.frozen 3
    have h0 := Z2.frozen 0
    have h1 := Z2.frozen 1
    have h2 := Z2.frozen 2
    go_region
    have D := two_rows Z1 Z2 (by omega) ZB (Nat.le_add_right w.heap.size 1) (Nat.le_add_right w.heap.size 2) (.int .i64 0) (.int .i64 (-((n : Int) / 2) - 1)) (.string ⟨#[]⟩) (.slice none 0 0) (.slice p b.length c) (.int .i64 (a1 : Int)) (.int .i64 (e1 : Int))
    obtain ⟨wd, hwd⟩ : ∃ wd, ((((((((wz.setCell ⟨(w.heap.size + 1), 0, none⟩ (.int .i64 0)).setCell ⟨(w.heap.size + 1), 1, none⟩ (.int .i64 (-((n : Int) / 2) - 1))).setCell ⟨(w.heap.size + 1), 2, none⟩ (.string ⟨#[]⟩)).setCell ⟨(w.heap.size + 1), 3, none⟩ (.slice none 0 0)).setCell ⟨(w.heap.size + 1 + 1), 0, none⟩ (.slice p b.length c)).setCell ⟨(w.heap.size + 1 + 1), 1, none⟩ (.int .i64 (a1 : Int))).setCell ⟨(w.heap.size + 1 + 1), 2, none⟩ (.int .i64 (e1 : Int))).drew) = wd := ⟨_, rfl⟩
    rw [hwd] at D ⊢
    obtain ⟨D1, D2, D3⟩ := D
    clear hwd Z0 Z1 Z2 Z3 ZB d0 d1 d2 c0 c1 c2 c3 y0 y1 y2 y3 z0 z1 z2 g0 g1 g2 g3 h0 h1 h2
    go_wp2_with fail
    refine bodyPost_ret (results_rowrow Tryd.results19 _ _ (w.heap.size + 1) (w.heap.size + 1 + 1) 43 38 _ _ rfl rfl D1 D2 Tryd.underlying43 rfl infoPut Tryd.underlying38 rfl infoRd) rfl ?_
    have hbf := D3
    exact ⟨⟨0, -((n : Int) / 2) - 1, [], none, 0, []⟩, a1, e1, rfl, by rw [HR.out]; show (⟨0, -((n : Int) / 2) - 1, [], []⟩ : Put) = _; rw [HVAL.out], ⟨⟨by show _ ≤ -((n : Int) / 2) - 1; omega, by show -((n : Int) / 2) - 1 ≤ _; omega⟩, by simp, ins_none _, fun _ => rfl, Nat.le_refl _, by simp, by simp⟩, ⟨HX.out.row.below hbf, HX.out.nil, hx3, hx1, hx2, HOK.out.err⟩, by rw [HR.out]; exact HST.out, hbf, fun _ _ h => absurd h (by simp)⟩
  · have i1 : (((n : Int) % 2) == 1) = false := by rw [beq_eq_false_iff_ne]; omega
    have HVAL : Hid ((n : Int) / 2 = unzz n) := by show _ = _; unfold unzz; rw [if_neg hn2]; omega
    go_wp2_with (first
      | (with_reducible refine wpList_store_blk rfl 38 _ _ rfl w.heap.size [.slice p b.length c, .int .i64 (a1 : Int), .int .i64 (e1 : Int)] _ 38 B0 rfl rfl HK0.out.1 HK1.out HK0.out.2.2 ?_; intro wf hR hW; have b1 := hW.blk B1.out (by omega); have b2 := hW.blk B2.out (by omega); have b3 := hW.blk B3.out (by omega); have c0 := b3.cell 0; have c1 := b3.cell 1; have c2 := b3.cell 2; have c3 := b3.cell 3; have f1 := b3.frozen 1; have f2 := b3.frozen 2))
    have Z0 : Blk (wf.setCell ⟨(w.heap.size + 1 + 1 + 1), 1, none⟩ (.int .i64 ((n : Int) / 2))) w.heap.size 38 [.slice p b.length c, .int .i64 (a1 : Int), .int .i64 (e1 : Int)] := Blk.set_other hR (by omega) 1 _
    have Z1 : Blk (wf.setCell ⟨(w.heap.size + 1 + 1 + 1), 1, none⟩ (.int .i64 ((n : Int) / 2))) (w.heap.size + 1) 43 [.int .i64 0, .int .i64 0, .string ⟨#[]⟩, .slice none 0 0] := Blk.set_other b1 (by omega) 1 _
    have Z2 : Blk (wf.setCell ⟨(w.heap.size + 1 + 1 + 1), 1, none⟩ (.int .i64 ((n : Int) / 2))) (w.heap.size + 1 + 1) 38 [.slice none 0 0, .int .i64 0, .int .i64 0] := Blk.set_other b2 (by omega) 1 _
    have Z3 : Blk (wf.setCell ⟨(w.heap.size + 1 + 1 + 1), 1, none⟩ (.int .i64 ((n : Int) / 2))) (w.heap.size + 1 + 1 + 1) 43 [.int .i64 0, .int .i64 ((n : Int) / 2), .string ⟨#[]⟩, .slice none 0 0] := Blk.set b3 1 _
    have ZB : Below w.heap.size w (wf.setCell ⟨(w.heap.size + 1 + 1 + 1), 1, none⟩ (.int .i64 ((n : Int) / 2))) := (hW.below _ _ hbw (Nat.le_refl _)).setCell (p := ⟨(w.heap.size + 1 + 1 + 1), 1, none⟩) (Nat.le_add_right w.heap.size 3) _
    obtain ⟨wz, hwz⟩ : ∃ wz, wf.setCell ⟨(w.heap.size + 1 + 1 + 1), 1, none⟩ (.int .i64 ((n : Int) / 2)) = wz := ⟨_, rfl⟩
    rw [hwz] at Z0 Z1 Z2 Z3 ZB ⊢
    clear hwz c0 c1 c2 c3
    have d0 := Z0.cell 0
    have d1 := Z0.cell 1
    have d2 := Z0.cell 2
    have c0 := Z3.cell 0
    have c1 := Z3.cell 1
    have c2 := Z3.cell 2
    have c3 := Z3.cell 3
    have y0 := Z1.cell 0
    have y1 := Z1.cell 1
    have y2 := Z1.cell 2
    have y3 := Z1.cell 3
    have z0 := Z2.cell 0
    have z1 := Z2.cell 1
    have z2 := Z2.cell 2
    have g0 := Z1.frozen 0
    have g1 := Z1.frozen 1
    have g2 := Z1.frozen 2
    have g3 := Z1.frozen 3
    have h0 := Z2.frozen 0
    have h1 := Z2.frozen 1
    have h2 := Z2.frozen 2
    go_region
    have D := two_rows Z1 Z2 (by omega) ZB (Nat.le_add_right w.heap.size 1) (Nat.le_add_right w.heap.size 2) (.int .i64 0) (.int .i64 ((n : Int) / 2)) (.string ⟨#[]⟩) (.slice none 0 0) (.slice p b.length c) (.int .i64 (a1 : Int)) (.int .i64 (e1 : Int))
    obtain ⟨wd, hwd⟩ : ∃ wd, ((((((((wz.setCell ⟨(w.heap.size + 1), 0, none⟩ (.int .i64 0)).setCell ⟨(w.heap.size + 1), 1, none⟩ (.int .i64 ((n : Int) / 2))).setCell ⟨(w.heap.size + 1), 2, none⟩ (.string ⟨#[]⟩)).setCell ⟨(w.heap.size + 1), 3, none⟩ (.slice none 0 0)).setCell ⟨(w.heap.size + 1 + 1), 0, none⟩ (.slice p b.length c)).setCell ⟨(w.heap.size + 1 + 1), 1, none⟩ (.int .i64 (a1 : Int))).setCell ⟨(w.heap.size + 1 + 1), 2, none⟩ (.int .i64 (e1 : Int))).drew) = wd := ⟨_, rfl⟩
    rw [hwd] at D ⊢
    obtain ⟨D1, D2, D3⟩ := D
    clear hwd Z0 Z1 Z2 Z3 ZB d0 d1 d2 c0 c1 c2 c3 y0 y1 y2 y3 z0 z1 z2 g0 g1 g2 g3 h0 h1 h2
    go_wp2_with fail
    refine bodyPost_ret (results_rowrow Tryd.results19 _ _ (w.heap.size + 1) (w.heap.size + 1 + 1) 43 38 _ _ rfl rfl D1 D2 Tryd.underlying43 rfl infoPut Tryd.underlying38 rfl infoRd) rfl ?_
    have hbf := D3
    exact ⟨⟨0, (n : Int) / 2, [], none, 0, []⟩, a1, e1, rfl, by rw [HR.out]; show (⟨0, (n : Int) / 2, [], []⟩ : Put) = _; rw [HVAL.out], ⟨⟨by show _ ≤ (n : Int) / 2; omega, by show (n : Int) / 2 ≤ _; omega⟩, by simp, ins_none _, fun _ => rfl, Nat.le_refl _, by simp, by simp⟩, ⟨HX.out.row.below hbf, HX.out.nil, hx3, hx1, hx2, HOK.out.err⟩, by rw [HR.out]; exact HST.out, hbf, fun _ _ h => absurd h (by simp)⟩
set_option maxRecDepth 100000 in
set_option maxHeartbeats 1500000 in
theorem rread2_c (x : RV) (w : World) (hx : x.ok w) :
    Calls Tryd.prog 19 #[x.val, .int .i64 2] w fun e w' => ReadA w w' x (readS 2 x.st) e := by
  have HX := Lib.hid hx
  obtain ⟨r, hr⟩ : ∃ r, readS 2 x.st = r := ⟨_, rfl⟩
  have HR0 := Lib.hid hr
  rw [hr]
  clear hr hx
  have CN : Hid (∀ wx, Below w.heap.size w wx → Calls Tryd.prog 42 #[x.val, .int .u64 1] wx fun e w' => NumA wx w' x (numS 1 x.st) e) := fun wx hb => rnum_c x _ wx (HX.out.below hb)
  unfold RV.val RV.cells at CN ⊢
  go_enter Tryd.func19, Tryd.ntmps19
  go_wp2_with fail
  have hA0 : Blk ((((w.alloc (.cells #[.slice x.p x.b.length x.c, .int .i64 (x.a : Int), .int .i64 (x.e : Int)] 38)).alloc (.cells #[.int .i64 0, .int .i64 0, .string ⟨#[]⟩, .slice none 0 0] 43)).alloc (.cells #[.slice none 0 0, .int .i64 0, .int .i64 0] 38)).alloc (.cells #[.int .i64 2, .int .i64 0, .string ⟨#[]⟩, .slice none 0 0] 43)) w.heap.size 38 [.slice x.p x.b.length x.c, .int .i64 (x.a : Int), .int .i64 (x.e : Int)] := blk_old (blk_old (blk_old (blk_new w _ _ _ rfl) _) _) _
  have hA1 : Blk ((((w.alloc (.cells #[.slice x.p x.b.length x.c, .int .i64 (x.a : Int), .int .i64 (x.e : Int)] 38)).alloc (.cells #[.int .i64 0, .int .i64 0, .string ⟨#[]⟩, .slice none 0 0] 43)).alloc (.cells #[.slice none 0 0, .int .i64 0, .int .i64 0] 38)).alloc (.cells #[.int .i64 2, .int .i64 0, .string ⟨#[]⟩, .slice none 0 0] 43)) (w.heap.size + 1) 43 [.int .i64 0, .int .i64 0, .string ⟨#[]⟩, .slice none 0 0] := blk_old (blk_old ((by have h := blk_new (w.alloc (.cells #[.slice x.p x.b.length x.c, .int .i64 (x.a : Int), .int .i64 (x.e : Int)] 38)) #[.int .i64 0, .int .i64 0, .string ⟨#[]⟩, .slice none 0 0] 43 _ rfl; rwa [show (w.alloc (.cells #[.slice x.p x.b.length x.c, .int .i64 (x.a : Int), .int .i64 (x.e : Int)] 38)).heap.size = (w.heap.size + 1) by simp] at h)) _) _
  have hA2 : Blk ((((w.alloc (.cells #[.slice x.p x.b.length x.c, .int .i64 (x.a : Int), .int .i64 (x.e : Int)] 38)).alloc (.cells #[.int .i64 0, .int .i64 0, .string ⟨#[]⟩, .slice none 0 0] 43)).alloc (.cells #[.slice none 0 0, .int .i64 0, .int .i64 0] 38)).alloc (.cells #[.int .i64 2, .int .i64 0, .string ⟨#[]⟩, .slice none 0 0] 43)) (w.heap.size + 1 + 1) 38 [.slice none 0 0, .int .i64 0, .int .i64 0] := blk_old ((by have h := blk_new ((w.alloc (.cells #[.slice x.p x.b.length x.c, .int .i64 (x.a : Int), .int .i64 (x.e : Int)] 38)).alloc (.cells #[.int .i64 0, .int .i64 0, .string ⟨#[]⟩, .slice none 0 0] 43)) #[.slice none 0 0, .int .i64 0, .int .i64 0] 38 _ rfl; rwa [show ((w.alloc (.cells #[.slice x.p x.b.length x.c, .int .i64 (x.a : Int), .int .i64 (x.e : Int)] 38)).alloc (.cells #[.int .i64 0, .int .i64 0, .string ⟨#[]⟩, .slice none 0 0] 43)).heap.size = (w.heap.size + 1 + 1) by simp] at h)) _
  have hA3 : Blk ((((w.alloc (.cells #[.slice x.p x.b.length x.c, .int .i64 (x.a : Int), .int .i64 (x.e : Int)] 38)).alloc (.cells #[.int .i64 0, .int .i64 0, .string ⟨#[]⟩, .slice none 0 0] 43)).alloc (.cells #[.slice none 0 0, .int .i64 0, .int .i64 0] 38)).alloc (.cells #[.int .i64 2, .int .i64 0, .string ⟨#[]⟩, .slice none 0 0] 43)) (w.heap.size + 1 + 1 + 1) 43 [.int .i64 2, .int .i64 0, .string ⟨#[]⟩, .slice none 0 0] := (by have h := blk_new (((w.alloc (.cells #[.slice x.p x.b.length x.c, .int .i64 (x.a : Int), .int .i64 (x.e : Int)] 38)).alloc (.cells #[.int .i64 0, .int .i64 0, .string ⟨#[]⟩, .slice none 0 0] 43)).alloc (.cells #[.slice none 0 0, .int .i64 0, .int .i64 0] 38)) #[.int .i64 2, .int .i64 0, .string ⟨#[]⟩, .slice none 0 0] 43 _ rfl; rwa [show (((w.alloc (.cells #[.slice x.p x.b.length x.c, .int .i64 (x.a : Int), .int .i64 (x.e : Int)] 38)).alloc (.cells #[.int .i64 0, .int .i64 0, .string ⟨#[]⟩, .slice none 0 0] 43)).alloc (.cells #[.slice none 0 0, .int .i64 0, .int .i64 0] 38)).heap.size = (w.heap.size + 1 + 1 + 1) by simp] at h)
  have hAB := ((((Below.refl w.heap.size w).alloc (by simp <;> omega) (.cells #[.slice x.p x.b.length x.c, .int .i64 (x.a : Int), .int .i64 (x.e : Int)] 38)).alloc (by simp <;> omega) (.cells #[.int .i64 0, .int .i64 0, .string ⟨#[]⟩, .slice none 0 0] 43)).alloc (by simp <;> omega) (.cells #[.slice none 0 0, .int .i64 0, .int .i64 0] 38)).alloc (by simp <;> omega) (.cells #[.int .i64 2, .int .i64 0, .string ⟨#[]⟩, .slice none 0 0] 43)
  obtain ⟨wo, hwo⟩ : ∃ wo, ((((w.alloc (.cells #[.slice x.p x.b.length x.c, .int .i64 (x.a : Int), .int .i64 (x.e : Int)] 38)).alloc (.cells #[.int .i64 0, .int .i64 0, .string ⟨#[]⟩, .slice none 0 0] 43)).alloc (.cells #[.slice none 0 0, .int .i64 0, .int .i64 0] 38)).alloc (.cells #[.int .i64 2, .int .i64 0, .string ⟨#[]⟩, .slice none 0 0] 43)) = wo := ⟨_, rfl⟩
  rw [hwo] at hA0 hA1 hA2 hA3 hAB ⊢
  clear hwo
  refine (CN.out wo hAB).mono ?_
  intro e1 w1 hA
  clear CN
  obtain ⟨p, c, b, a, e0⟩ := x
  obtain ⟨q, hq⟩ : ∃ q, numS 1 (RV.st ⟨p, c, b, a, e0⟩) = q := ⟨_, rfl⟩
  have HLE := Lib.hid (numS_le 1 (RV.st ⟨p, c, b, a, e0⟩))
  have HR : Hid (r = (⟨2, ((q.1 : Nat) : Int), [], []⟩, q.2)) := by show _ = _; rw [← HR0.out, ← hq]; rfl
  rw [hq] at hA HLE
  clear hq HR0
  obtain ⟨n, sn⟩ := q
  unfold NumA RV.val RV.cells at hA
  dsimp only at hA HLE HR
  obtain ⟨a1, e1, rfl, hok, hst, hb1⟩ := hA
  have B0 := hA0.below hb1
  have B1 := Lib.hid (hA1.below hb1)
  have B2 := Lib.hid (hA2.below hb1)
  have B3 := Lib.hid (hA3.below hb1)
  have hbw := bnext hAB hb1
  have hx1 := hok.place
  have hx2 := hok.size
  have hx3 := hok.room
  dsimp only at hx1 hx2 hx3
  have hle : n ≤ 1 := HLE.out
  have HOK := Lib.hid hok
  have HST := Lib.hid hst
  clear hA0 hA1 hA2 hA3 hAB hb1 hok hst HLE
  have HK0 := Lib.hid (rd_k p b.length c (a1 : Int) (e1 : Int))
  have HK1 : Hid (([.slice p b.length c, .int .i64 (a : Int), .int .i64 (e0 : Int)] : List Value).length = ([.slice p b.length c, .int .i64 (a1 : Int), .int .i64 (e1 : Int)] : List Value).length) := rfl
  · have hn0 : (0 : Int) ≤ (n : Int) := by omega
    go_wp2_with (first
      | (with_reducible refine wpList_store_blk rfl 38 _ _ rfl w.heap.size [.slice p b.length c, .int .i64 (a1 : Int), .int .i64 (e1 : Int)] _ 38 B0 rfl rfl HK0.out.1 HK1.out HK0.out.2.2 ?_; intro wf hR hW; have b1 := hW.blk B1.out (by omega); have b2 := hW.blk B2.out (by omega); have b3 := hW.blk B3.out (by omega); have c0 := b3.cell 0; have c1 := b3.cell 1; have c2 := b3.cell 2; have c3 := b3.cell 3; have f1 := b3.frozen 1; have f2 := b3.frozen 2))
    have Z0 : Blk (wf.setCell ⟨(w.heap.size + 1 + 1 + 1), 1, none⟩ (.int .i64 ((n : Int)))) w.heap.size 38 [.slice p b.length c, .int .i64 (a1 : Int), .int .i64 (e1 : Int)] := Blk.set_other hR (by omega) 1 _
    have Z1 : Blk (wf.setCell ⟨(w.heap.size + 1 + 1 + 1), 1, none⟩ (.int .i64 ((n : Int)))) (w.heap.size + 1) 43 [.int .i64 0, .int .i64 0, .string ⟨#[]⟩, .slice none 0 0] := Blk.set_other b1 (by omega) 1 _
    have Z2 : Blk (wf.setCell ⟨(w.heap.size + 1 + 1 + 1), 1, none⟩ (.int .i64 ((n : Int)))) (w.heap.size + 1 + 1) 38 [.slice none 0 0, .int .i64 0, .int .i64 0] := Blk.set_other b2 (by omega) 1 _
    have Z3 : Blk (wf.setCell ⟨(w.heap.size + 1 + 1 + 1), 1, none⟩ (.int .i64 ((n : Int)))) (w.heap.size + 1 + 1 + 1) 43 [.int .i64 2, .int .i64 ((n : Int)), .string ⟨#[]⟩, .slice none 0 0] := Blk.set b3 1 _
    have ZB : Below w.heap.size w (wf.setCell ⟨(w.heap.size + 1 + 1 + 1), 1, none⟩ (.int .i64 ((n : Int)))) := (hW.below _ _ hbw (Nat.le_refl _)).setCell (p := ⟨(w.heap.size + 1 + 1 + 1), 1, none⟩) (Nat.le_add_right w.heap.size 3) _
    obtain ⟨wz, hwz⟩ : ∃ wz, wf.setCell ⟨(w.heap.size + 1 + 1 + 1), 1, none⟩ (.int .i64 ((n : Int))) = wz := ⟨_, rfl⟩
    rw [hwz] at Z0 Z1 Z2 Z3 ZB ⊢
    clear hwz c0 c1 c2 c3
    have d0 := Z0.cell 0
    have d1 := Z0.cell 1
    have d2 := Z0.cell 2
    have c0 := Z3.cell 0
    have c1 := Z3.cell 1
    have c2 := Z3.cell 2
    have c3 := Z3.cell 3
    have y0 := Z1.cell 0
    have y1 := Z1.cell 1
    have y2 := Z1.cell 2
    have y3 := Z1.cell 3
    have z0 := Z2.cell 0
    have z1 := Z2.cell 1
    have z2 := Z2.cell 2
    have g0 := Z1.frozen 0
    have g1 := Z1.frozen 1
    have g2 := Z1.frozen 2
    have g3 := Z1.frozen 3
    have h0 := Z2.frozen 0
    have h1 := Z2.frozen 1
    have h2 := Z2.frozen 2
    go_region
    have D := two_rows Z1 Z2 (by omega) ZB (Nat.le_add_right w.heap.size 1) (Nat.le_add_right w.heap.size 2) (.int .i64 2) (.int .i64 ((n : Int))) (.string ⟨#[]⟩) (.slice none 0 0) (.slice p b.length c) (.int .i64 (a1 : Int)) (.int .i64 (e1 : Int))
    obtain ⟨wd, hwd⟩ : ∃ wd, ((((((((wz.setCell ⟨(w.heap.size + 1), 0, none⟩ (.int .i64 2)).setCell ⟨(w.heap.size + 1), 1, none⟩ (.int .i64 ((n : Int)))).setCell ⟨(w.heap.size + 1), 2, none⟩ (.string ⟨#[]⟩)).setCell ⟨(w.heap.size + 1), 3, none⟩ (.slice none 0 0)).setCell ⟨(w.heap.size + 1 + 1), 0, none⟩ (.slice p b.length c)).setCell ⟨(w.heap.size + 1 + 1), 1, none⟩ (.int .i64 (a1 : Int))).setCell ⟨(w.heap.size + 1 + 1), 2, none⟩ (.int .i64 (e1 : Int))).drew) = wd := ⟨_, rfl⟩
    rw [hwd] at D ⊢
    obtain ⟨D1, D2, D3⟩ := D
    clear hwd Z0 Z1 Z2 Z3 ZB d0 d1 d2 c0 c1 c2 c3 y0 y1 y2 y3 z0 z1 z2 g0 g1 g2 g3 h0 h1 h2
    go_wp2_with fail
    refine bodyPost_ret (results_rowrow Tryd.results19 _ _ (w.heap.size + 1) (w.heap.size + 1 + 1) 43 38 _ _ rfl rfl D1 D2 Tryd.underlying43 rfl infoPut Tryd.underlying38 rfl infoRd) rfl ?_
    have hbf := D3
    exact ⟨⟨2, (n : Int), [], none, 0, []⟩, a1, e1, rfl, by rw [HR.out] <;> rfl, ⟨⟨by show _ ≤ (n : Int); omega, by show (n : Int) ≤ _; omega⟩, by simp, ins_none _, fun _ => rfl, Nat.le_refl _, by simp, by simp⟩, ⟨HX.out.row.below hbf, HX.out.nil, hx3, hx1, hx2, HOK.out.err⟩, by rw [HR.out]; exact HST.out, hbf, fun _ _ h => absurd h (by simp)⟩
set_option maxRecDepth 100000 in
set_option maxHeartbeats 1500000 in
theorem rread3_c (x : RV) (w : World) (hx : x.ok w) :
    Calls Tryd.prog 19 #[x.val, .int .i64 3] w fun e w' => ReadA w w' x (readS 3 x.st) e := by
  have HX := Lib.hid hx
  obtain ⟨r, hr⟩ : ∃ r, readS 3 x.st = r := ⟨_, rfl⟩
  have HR0 := Lib.hid hr
  rw [hr]
  clear hr hx
  have CN : Hid (∀ wx, Below w.heap.size w wx → Calls Tryd.prog 42 #[x.val, .int .u64 4096] wx fun e w' => NumA wx w' x (numS 4096 x.st) e) := fun wx hb => rnum_c x _ wx (HX.out.below hb)
  unfold RV.val RV.cells at CN ⊢
  go_enter Tryd.func19, Tryd.ntmps19
  go_wp2_with fail
  have hA0 : Blk ((((w.alloc (.cells #[.slice x.p x.b.length x.c, .int .i64 (x.a : Int), .int .i64 (x.e : Int)] 38)).alloc (.cells #[.int .i64 0, .int .i64 0, .string ⟨#[]⟩, .slice none 0 0] 43)).alloc (.cells #[.slice none 0 0, .int .i64 0, .int .i64 0] 38)).alloc (.cells #[.int .i64 3, .int .i64 0, .string ⟨#[]⟩, .slice none 0 0] 43)) w.heap.size 38 [.slice x.p x.b.length x.c, .int .i64 (x.a : Int), .int .i64 (x.e : Int)] := blk_old (blk_old (blk_old (blk_new w _ _ _ rfl) _) _) _
  have hA1 : Blk ((((w.alloc (.cells #[.slice x.p x.b.length x.c, .int .i64 (x.a : Int), .int .i64 (x.e : Int)] 38)).alloc (.cells #[.int .i64 0, .int .i64 0, .string ⟨#[]⟩, .slice none 0 0] 43)).alloc (.cells #[.slice none 0 0, .int .i64 0, .int .i64 0] 38)).alloc (.cells #[.int .i64 3, .int .i64 0, .string ⟨#[]⟩, .slice none 0 0] 43)) (w.heap.size + 1) 43 [.int .i64 0, .int .i64 0, .string ⟨#[]⟩, .slice none 0 0] := blk_old (blk_old ((by have h := blk_new (w.alloc (.cells #[.slice x.p x.b.length x.c, .int .i64 (x.a : Int), .int .i64 (x.e : Int)] 38)) #[.int .i64 0, .int .i64 0, .string ⟨#[]⟩, .slice none 0 0] 43 _ rfl; rwa [show (w.alloc (.cells #[.slice x.p x.b.length x.c, .int .i64 (x.a : Int), .int .i64 (x.e : Int)] 38)).heap.size = (w.heap.size + 1) by simp] at h)) _) _
  have hA2 : Blk ((((w.alloc (.cells #[.slice x.p x.b.length x.c, .int .i64 (x.a : Int), .int .i64 (x.e : Int)] 38)).alloc (.cells #[.int .i64 0, .int .i64 0, .string ⟨#[]⟩, .slice none 0 0] 43)).alloc (.cells #[.slice none 0 0, .int .i64 0, .int .i64 0] 38)).alloc (.cells #[.int .i64 3, .int .i64 0, .string ⟨#[]⟩, .slice none 0 0] 43)) (w.heap.size + 1 + 1) 38 [.slice none 0 0, .int .i64 0, .int .i64 0] := blk_old ((by have h := blk_new ((w.alloc (.cells #[.slice x.p x.b.length x.c, .int .i64 (x.a : Int), .int .i64 (x.e : Int)] 38)).alloc (.cells #[.int .i64 0, .int .i64 0, .string ⟨#[]⟩, .slice none 0 0] 43)) #[.slice none 0 0, .int .i64 0, .int .i64 0] 38 _ rfl; rwa [show ((w.alloc (.cells #[.slice x.p x.b.length x.c, .int .i64 (x.a : Int), .int .i64 (x.e : Int)] 38)).alloc (.cells #[.int .i64 0, .int .i64 0, .string ⟨#[]⟩, .slice none 0 0] 43)).heap.size = (w.heap.size + 1 + 1) by simp] at h)) _
  have hA3 : Blk ((((w.alloc (.cells #[.slice x.p x.b.length x.c, .int .i64 (x.a : Int), .int .i64 (x.e : Int)] 38)).alloc (.cells #[.int .i64 0, .int .i64 0, .string ⟨#[]⟩, .slice none 0 0] 43)).alloc (.cells #[.slice none 0 0, .int .i64 0, .int .i64 0] 38)).alloc (.cells #[.int .i64 3, .int .i64 0, .string ⟨#[]⟩, .slice none 0 0] 43)) (w.heap.size + 1 + 1 + 1) 43 [.int .i64 3, .int .i64 0, .string ⟨#[]⟩, .slice none 0 0] := (by have h := blk_new (((w.alloc (.cells #[.slice x.p x.b.length x.c, .int .i64 (x.a : Int), .int .i64 (x.e : Int)] 38)).alloc (.cells #[.int .i64 0, .int .i64 0, .string ⟨#[]⟩, .slice none 0 0] 43)).alloc (.cells #[.slice none 0 0, .int .i64 0, .int .i64 0] 38)) #[.int .i64 3, .int .i64 0, .string ⟨#[]⟩, .slice none 0 0] 43 _ rfl; rwa [show (((w.alloc (.cells #[.slice x.p x.b.length x.c, .int .i64 (x.a : Int), .int .i64 (x.e : Int)] 38)).alloc (.cells #[.int .i64 0, .int .i64 0, .string ⟨#[]⟩, .slice none 0 0] 43)).alloc (.cells #[.slice none 0 0, .int .i64 0, .int .i64 0] 38)).heap.size = (w.heap.size + 1 + 1 + 1) by simp] at h)
  have hAB := ((((Below.refl w.heap.size w).alloc (by simp <;> omega) (.cells #[.slice x.p x.b.length x.c, .int .i64 (x.a : Int), .int .i64 (x.e : Int)] 38)).alloc (by simp <;> omega) (.cells #[.int .i64 0, .int .i64 0, .string ⟨#[]⟩, .slice none 0 0] 43)).alloc (by simp <;> omega) (.cells #[.slice none 0 0, .int .i64 0, .int .i64 0] 38)).alloc (by simp <;> omega) (.cells #[.int .i64 3, .int .i64 0, .string ⟨#[]⟩, .slice none 0 0] 43)
  obtain ⟨wo, hwo⟩ : ∃ wo, ((((w.alloc (.cells #[.slice x.p x.b.length x.c, .int .i64 (x.a : Int), .int .i64 (x.e : Int)] 38)).alloc (.cells #[.int .i64 0, .int .i64 0, .string ⟨#[]⟩, .slice none 0 0] 43)).alloc (.cells #[.slice none 0 0, .int .i64 0, .int .i64 0] 38)).alloc (.cells #[.int .i64 3, .int .i64 0, .string ⟨#[]⟩, .slice none 0 0] 43)) = wo := ⟨_, rfl⟩
  rw [hwo] at hA0 hA1 hA2 hA3 hAB ⊢
  clear hwo
  refine (CN.out wo hAB).mono ?_
  intro e1 w1 hA
  clear CN
  obtain ⟨p, c, b, a, e0⟩ := x
  obtain ⟨q, hq⟩ : ∃ q, numS 4096 (RV.st ⟨p, c, b, a, e0⟩) = q := ⟨_, rfl⟩
  have HLE := Lib.hid (numS_le 4096 (RV.st ⟨p, c, b, a, e0⟩))
  have HR : Hid (r = (⟨3, ((q.1 : Nat) : Int), [], []⟩, q.2)) := by show _ = _; rw [← HR0.out, ← hq]; rfl
  rw [hq] at hA HLE
  clear hq HR0
  obtain ⟨n, sn⟩ := q
  unfold NumA RV.val RV.cells at hA
  dsimp only at hA HLE HR
  obtain ⟨a1, e1, rfl, hok, hst, hb1⟩ := hA
  have B0 := hA0.below hb1
  have B1 := Lib.hid (hA1.below hb1)
  have B2 := Lib.hid (hA2.below hb1)
  have B3 := Lib.hid (hA3.below hb1)
  have hbw := bnext hAB hb1
  have hx1 := hok.place
  have hx2 := hok.size
  have hx3 := hok.room
  dsimp only at hx1 hx2 hx3
  have hle : n ≤ 4096 := HLE.out
  have HOK := Lib.hid hok
  have HST := Lib.hid hst
  clear hA0 hA1 hA2 hA3 hAB hb1 hok hst HLE
  have HK0 := Lib.hid (rd_k p b.length c (a1 : Int) (e1 : Int))
  have HK1 : Hid (([.slice p b.length c, .int .i64 (a : Int), .int .i64 (e0 : Int)] : List Value).length = ([.slice p b.length c, .int .i64 (a1 : Int), .int .i64 (e1 : Int)] : List Value).length) := rfl
  · have hn0 : (0 : Int) ≤ (n : Int) := by omega
    go_wp2_with (first
      | (with_reducible refine wpList_store_blk rfl 38 _ _ rfl w.heap.size [.slice p b.length c, .int .i64 (a1 : Int), .int .i64 (e1 : Int)] _ 38 B0 rfl rfl HK0.out.1 HK1.out HK0.out.2.2 ?_; intro wf hR hW; have b1 := hW.blk B1.out (by omega); have b2 := hW.blk B2.out (by omega); have b3 := hW.blk B3.out (by omega); have c0 := b3.cell 0; have c1 := b3.cell 1; have c2 := b3.cell 2; have c3 := b3.cell 3; have f1 := b3.frozen 1; have f2 := b3.frozen 2))
    have Z0 : Blk (wf.setCell ⟨(w.heap.size + 1 + 1 + 1), 1, none⟩ (.int .i64 ((n : Int)))) w.heap.size 38 [.slice p b.length c, .int .i64 (a1 : Int), .int .i64 (e1 : Int)] := Blk.set_other hR (by omega) 1 _
    have Z1 : Blk (wf.setCell ⟨(w.heap.size + 1 + 1 + 1), 1, none⟩ (.int .i64 ((n : Int)))) (w.heap.size + 1) 43 [.int .i64 0, .int .i64 0, .string ⟨#[]⟩, .slice none 0 0] := Blk.set_other b1 (by omega) 1 _
    have Z2 : Blk (wf.setCell ⟨(w.heap.size + 1 + 1 + 1), 1, none⟩ (.int .i64 ((n : Int)))) (w.heap.size + 1 + 1) 38 [.slice none 0 0, .int .i64 0, .int .i64 0] := Blk.set_other b2 (by omega) 1 _
    have Z3 : Blk (wf.setCell ⟨(w.heap.size + 1 + 1 + 1), 1, none⟩ (.int .i64 ((n : Int)))) (w.heap.size + 1 + 1 + 1) 43 [.int .i64 3, .int .i64 ((n : Int)), .string ⟨#[]⟩, .slice none 0 0] := Blk.set b3 1 _
    have ZB : Below w.heap.size w (wf.setCell ⟨(w.heap.size + 1 + 1 + 1), 1, none⟩ (.int .i64 ((n : Int)))) := (hW.below _ _ hbw (Nat.le_refl _)).setCell (p := ⟨(w.heap.size + 1 + 1 + 1), 1, none⟩) (Nat.le_add_right w.heap.size 3) _
    obtain ⟨wz, hwz⟩ : ∃ wz, wf.setCell ⟨(w.heap.size + 1 + 1 + 1), 1, none⟩ (.int .i64 ((n : Int))) = wz := ⟨_, rfl⟩
    rw [hwz] at Z0 Z1 Z2 Z3 ZB ⊢
    clear hwz c0 c1 c2 c3
    have d0 := Z0.cell 0
    have d1 := Z0.cell 1
    have d2 := Z0.cell 2
    have c0 := Z3.cell 0
    have c1 := Z3.cell 1
    have c2 := Z3.cell 2
    have c3 := Z3.cell 3
    have y0 := Z1.cell 0
    have y1 := Z1.cell 1
    have y2 := Z1.cell 2
    have y3 := Z1.cell 3
    have z0 := Z2.cell 0
    have z1 := Z2.cell 1
    have z2 := Z2.cell 2
    have g0 := Z1.frozen 0
    have g1 := Z1.frozen 1
    have g2 := Z1.frozen 2
    have g3 := Z1.frozen 3
    have h0 := Z2.frozen 0
    have h1 := Z2.frozen 1
    have h2 := Z2.frozen 2
    go_region
    have D := two_rows Z1 Z2 (by omega) ZB (Nat.le_add_right w.heap.size 1) (Nat.le_add_right w.heap.size 2) (.int .i64 3) (.int .i64 ((n : Int))) (.string ⟨#[]⟩) (.slice none 0 0) (.slice p b.length c) (.int .i64 (a1 : Int)) (.int .i64 (e1 : Int))
    obtain ⟨wd, hwd⟩ : ∃ wd, ((((((((wz.setCell ⟨(w.heap.size + 1), 0, none⟩ (.int .i64 3)).setCell ⟨(w.heap.size + 1), 1, none⟩ (.int .i64 ((n : Int)))).setCell ⟨(w.heap.size + 1), 2, none⟩ (.string ⟨#[]⟩)).setCell ⟨(w.heap.size + 1), 3, none⟩ (.slice none 0 0)).setCell ⟨(w.heap.size + 1 + 1), 0, none⟩ (.slice p b.length c)).setCell ⟨(w.heap.size + 1 + 1), 1, none⟩ (.int .i64 (a1 : Int))).setCell ⟨(w.heap.size + 1 + 1), 2, none⟩ (.int .i64 (e1 : Int))).drew) = wd := ⟨_, rfl⟩
    rw [hwd] at D ⊢
    obtain ⟨D1, D2, D3⟩ := D
    clear hwd Z0 Z1 Z2 Z3 ZB d0 d1 d2 c0 c1 c2 c3 y0 y1 y2 y3 z0 z1 z2 g0 g1 g2 g3 h0 h1 h2
    go_wp2_with fail
    refine bodyPost_ret (results_rowrow Tryd.results19 _ _ (w.heap.size + 1) (w.heap.size + 1 + 1) 43 38 _ _ rfl rfl D1 D2 Tryd.underlying43 rfl infoPut Tryd.underlying38 rfl infoRd) rfl ?_
    have hbf := D3
    exact ⟨⟨3, (n : Int), [], none, 0, []⟩, a1, e1, rfl, by rw [HR.out] <;> rfl, ⟨⟨by show _ ≤ (n : Int); omega, by show (n : Int) ≤ _; omega⟩, by simp, ins_none _, fun _ => rfl, Nat.le_refl _, by simp, by simp⟩, ⟨HX.out.row.below hbf, HX.out.nil, hx3, hx1, hx2, HOK.out.err⟩, by rw [HR.out]; exact HST.out, hbf, fun _ _ h => absurd h (by simp)⟩
end Go.Proofs.YtpffebcaalbhjaaDoor.wir

namespace Go.Proofs.YtpffebcaalbhjaaDoor.wir
open Go.RowKit
open Go.Proofs.YtpffebcaalbhjaaDoor.oct Go.Proofs.YtpffebcaalbhjaaDoor.ref Go.Proofs.YtpffebcaalbhjaaDoor.rows Go.Proofs.YtpffebcaalbhjaaDoor.rowg
open Go.Lib (byteCells)

theorem wordS_len (st : St) : (wordS st).1.length ≤ 65536 := by
  have h := numS_le 65536 st
  unfold wordS
  obtain ⟨q, hq⟩ : ∃ q, numS 65536 st = q := ⟨_, rfl⟩
  rw [hq] at h ⊢
  obtain ⟨n, s⟩ := q
  cases s with
  | ok t =>
    dsimp only at h ⊢
    split
    · simp
    · rw [List.length_take]; omega
  | bad e => simp
set_option maxRecDepth 100000 in
set_option maxHeartbeats 1500000 in
theorem rread1_c (x : RV) (w : World) (hx : x.ok w) :
    Calls Tryd.prog 19 #[x.val, .int .i64 1] w fun e w' => ReadA w w' x (readS 1 x.st) e := by
  have HX := Lib.hid hx
  obtain ⟨r, hr⟩ : ∃ r, readS 1 x.st = r := ⟨_, rfl⟩
  have HR0 := Lib.hid hr
  rw [hr]
  clear hr hx
  have CN : Hid (∀ wx, Below w.heap.size w wx → Calls Tryd.prog 43 #[x.val] wx fun e w' => WordA wx w' x (wordS x.st) e) := fun wx hb => rword_c x wx (HX.out.below hb)
  unfold RV.val RV.cells at CN ⊢
  go_enter Tryd.func19, Tryd.ntmps19
  go_wp2_with fail
  have hA0 : Blk ((((w.alloc (.cells #[.slice x.p x.b.length x.c, .int .i64 (x.a : Int), .int .i64 (x.e : Int)] 38)).alloc (.cells #[.int .i64 0, .int .i64 0, .string ⟨#[]⟩, .slice none 0 0] 43)).alloc (.cells #[.slice none 0 0, .int .i64 0, .int .i64 0] 38)).alloc (.cells #[.int .i64 1, .int .i64 0, .string ⟨#[]⟩, .slice none 0 0] 43)) w.heap.size 38 [.slice x.p x.b.length x.c, .int .i64 (x.a : Int), .int .i64 (x.e : Int)] := blk_old (blk_old (blk_old (blk_new w _ _ _ rfl) _) _) _
  have hA1 : Blk ((((w.alloc (.cells #[.slice x.p x.b.length x.c, .int .i64 (x.a : Int), .int .i64 (x.e : Int)] 38)).alloc (.cells #[.int .i64 0, .int .i64 0, .string ⟨#[]⟩, .slice none 0 0] 43)).alloc (.cells #[.slice none 0 0, .int .i64 0, .int .i64 0] 38)).alloc (.cells #[.int .i64 1, .int .i64 0, .string ⟨#[]⟩, .slice none 0 0] 43)) (w.heap.size + 1) 43 [.int .i64 0, .int .i64 0, .string ⟨#[]⟩, .slice none 0 0] := blk_old (blk_old ((by have h := blk_new (w.alloc (.cells #[.slice x.p x.b.length x.c, .int .i64 (x.a : Int), .int .i64 (x.e : Int)] 38)) #[.int .i64 0, .int .i64 0, .string ⟨#[]⟩, .slice none 0 0] 43 _ rfl; rwa [show (w.alloc (.cells #[.slice x.p x.b.length x.c, .int .i64 (x.a : Int), .int .i64 (x.e : Int)] 38)).heap.size = (w.heap.size + 1) by simp] at h)) _) _
  have hA2 : Blk ((((w.alloc (.cells #[.slice x.p x.b.length x.c, .int .i64 (x.a : Int), .int .i64 (x.e : Int)] 38)).alloc (.cells #[.int .i64 0, .int .i64 0, .string ⟨#[]⟩, .slice none 0 0] 43)).alloc (.cells #[.slice none 0 0, .int .i64 0, .int .i64 0] 38)).alloc (.cells #[.int .i64 1, .int .i64 0, .string ⟨#[]⟩, .slice none 0 0] 43)) (w.heap.size + 1 + 1) 38 [.slice none 0 0, .int .i64 0, .int .i64 0] := blk_old ((by have h := blk_new ((w.alloc (.cells #[.slice x.p x.b.length x.c, .int .i64 (x.a : Int), .int .i64 (x.e : Int)] 38)).alloc (.cells #[.int .i64 0, .int .i64 0, .string ⟨#[]⟩, .slice none 0 0] 43)) #[.slice none 0 0, .int .i64 0, .int .i64 0] 38 _ rfl; rwa [show ((w.alloc (.cells #[.slice x.p x.b.length x.c, .int .i64 (x.a : Int), .int .i64 (x.e : Int)] 38)).alloc (.cells #[.int .i64 0, .int .i64 0, .string ⟨#[]⟩, .slice none 0 0] 43)).heap.size = (w.heap.size + 1 + 1) by simp] at h)) _
  have hA3 : Blk ((((w.alloc (.cells #[.slice x.p x.b.length x.c, .int .i64 (x.a : Int), .int .i64 (x.e : Int)] 38)).alloc (.cells #[.int .i64 0, .int .i64 0, .string ⟨#[]⟩, .slice none 0 0] 43)).alloc (.cells #[.slice none 0 0, .int .i64 0, .int .i64 0] 38)).alloc (.cells #[.int .i64 1, .int .i64 0, .string ⟨#[]⟩, .slice none 0 0] 43)) (w.heap.size + 1 + 1 + 1) 43 [.int .i64 1, .int .i64 0, .string ⟨#[]⟩, .slice none 0 0] := (by have h := blk_new (((w.alloc (.cells #[.slice x.p x.b.length x.c, .int .i64 (x.a : Int), .int .i64 (x.e : Int)] 38)).alloc (.cells #[.int .i64 0, .int .i64 0, .string ⟨#[]⟩, .slice none 0 0] 43)).alloc (.cells #[.slice none 0 0, .int .i64 0, .int .i64 0] 38)) #[.int .i64 1, .int .i64 0, .string ⟨#[]⟩, .slice none 0 0] 43 _ rfl; rwa [show (((w.alloc (.cells #[.slice x.p x.b.length x.c, .int .i64 (x.a : Int), .int .i64 (x.e : Int)] 38)).alloc (.cells #[.int .i64 0, .int .i64 0, .string ⟨#[]⟩, .slice none 0 0] 43)).alloc (.cells #[.slice none 0 0, .int .i64 0, .int .i64 0] 38)).heap.size = (w.heap.size + 1 + 1 + 1) by simp] at h)
  have hAB := ((((Below.refl w.heap.size w).alloc (by simp <;> omega) (.cells #[.slice x.p x.b.length x.c, .int .i64 (x.a : Int), .int .i64 (x.e : Int)] 38)).alloc (by simp <;> omega) (.cells #[.int .i64 0, .int .i64 0, .string ⟨#[]⟩, .slice none 0 0] 43)).alloc (by simp <;> omega) (.cells #[.slice none 0 0, .int .i64 0, .int .i64 0] 38)).alloc (by simp <;> omega) (.cells #[.int .i64 1, .int .i64 0, .string ⟨#[]⟩, .slice none 0 0] 43)
  obtain ⟨wo, hwo⟩ : ∃ wo, ((((w.alloc (.cells #[.slice x.p x.b.length x.c, .int .i64 (x.a : Int), .int .i64 (x.e : Int)] 38)).alloc (.cells #[.int .i64 0, .int .i64 0, .string ⟨#[]⟩, .slice none 0 0] 43)).alloc (.cells #[.slice none 0 0, .int .i64 0, .int .i64 0] 38)).alloc (.cells #[.int .i64 1, .int .i64 0, .string ⟨#[]⟩, .slice none 0 0] 43)) = wo := ⟨_, rfl⟩
  rw [hwo] at hA0 hA1 hA2 hA3 hAB ⊢
  clear hwo
  refine (CN.out wo hAB).mono ?_
  intro e1 w1 hA
  clear CN
  obtain ⟨p, c, b, a, e0⟩ := x
  obtain ⟨q, hq⟩ : ∃ q, wordS (RV.st ⟨p, c, b, a, e0⟩) = q := ⟨_, rfl⟩
  have HLE := Lib.hid (wordS_len (RV.st ⟨p, c, b, a, e0⟩))
  have HR : Hid (r = (⟨1, 0, q.1, []⟩, q.2)) := by show _ = _; rw [← HR0.out, ← hq]; rfl
  rw [hq] at hA HLE
  clear hq HR0
  obtain ⟨n, sn⟩ := q
  unfold WordA RV.val RV.cells at hA
  dsimp only at hA HLE HR
  obtain ⟨a1, e1, rfl, hok, hst, hb1⟩ := hA
  have B0 := hA0.below hb1
  have B1 := Lib.hid (hA1.below hb1)
  have B2 := Lib.hid (hA2.below hb1)
  have B3 := Lib.hid (hA3.below hb1)
  have hbw := bnext hAB hb1
  have hx1 := hok.place
  have hx2 := hok.size
  have hx3 := hok.room
  dsimp only at hx1 hx2 hx3
  have hle : n.length ≤ 65536 := HLE.out
  have HOK := Lib.hid hok
  have HST := Lib.hid hst
  clear hA0 hA1 hA2 hA3 hAB hb1 hok hst HLE
  have HK0 := Lib.hid (rd_k p b.length c (a1 : Int) (e1 : Int))
  have HK1 : Hid (([.slice p b.length c, .int .i64 (a : Int), .int .i64 (e0 : Int)] : List Value).length = ([.slice p b.length c, .int .i64 (a1 : Int), .int .i64 (e1 : Int)] : List Value).length) := rfl
  have S0 : Hid (Blk (w1.setCell ⟨(w.heap.size + 1 + 1 + 1), 2, none⟩ (.string ⟨n.toArray⟩)) w.heap.size 38 [.slice p b.length c, .int .i64 (a : Int), .int .i64 (e0 : Int)]) := Blk.set_other B0 (by omega) 2 _
  have S1 : Hid (Blk (w1.setCell ⟨(w.heap.size + 1 + 1 + 1), 2, none⟩ (.string ⟨n.toArray⟩)) (w.heap.size + 1) 43 [.int .i64 0, .int .i64 0, .string ⟨#[]⟩, .slice none 0 0]) := Blk.set_other B1.out (by omega) 2 _
  have S2 : Hid (Blk (w1.setCell ⟨(w.heap.size + 1 + 1 + 1), 2, none⟩ (.string ⟨n.toArray⟩)) (w.heap.size + 1 + 1) 38 [.slice none 0 0, .int .i64 0, .int .i64 0]) := Blk.set_other B2.out (by omega) 2 _
  have S3 : Hid (Blk (w1.setCell ⟨(w.heap.size + 1 + 1 + 1), 2, none⟩ (.string ⟨n.toArray⟩)) (w.heap.size + 1 + 1 + 1) 43 [.int .i64 1, .int .i64 0, .string ⟨n.toArray⟩, .slice none 0 0]) := Blk.set B3.out 2 _
  have SB : Below w.heap.size w (w1.setCell ⟨(w.heap.size + 1 + 1 + 1), 2, none⟩ (.string ⟨n.toArray⟩)) := hbw.setCell (p := ⟨(w.heap.size + 1 + 1 + 1), 2, none⟩) (Nat.le_add_right w.heap.size 3) _
  have q2 := B3.out.cell 2
  have q3 := B3.out.frozen 2
  go_wp2_with (first
    | (with_reducible refine wpList_store_blk rfl 38 _ _ rfl w.heap.size [.slice p b.length c, .int .i64 (a1 : Int), .int .i64 (e1 : Int)] _ 38 S0.out rfl rfl HK0.out.1 HK1.out HK0.out.2.2 ?_; intro wf hR hW; have b1 := hW.blk S1.out (by omega); have b2 := hW.blk S2.out (by omega); have b3 := hW.blk S3.out (by omega); have c0 := b3.cell 0; have c1 := b3.cell 1; have c2 := b3.cell 2; have c3 := b3.cell 3; have f1 := b3.frozen 1; have f2 := b3.frozen 2))
  have Z0 : Blk wf w.heap.size 38 [.slice p b.length c, .int .i64 (a1 : Int), .int .i64 (e1 : Int)] := hR
  have Z1 := b1
  have Z2 := b2
  have Z3 := b3
  have ZB : Below w.heap.size w wf := hW.below _ _ SB (Nat.le_refl _)
  obtain ⟨wz, hwz⟩ : ∃ wz, wf = wz := ⟨_, rfl⟩
  rw [hwz] at Z0 Z1 Z2 Z3 ZB ⊢
  clear hR hW b1 b2 b3 f1 f2 c0 c1 c2 c3
  have d0 := Z0.cell 0
  have d1 := Z0.cell 1
  have d2 := Z0.cell 2
  have c0 := Z3.cell 0
  have c1 := Z3.cell 1
  have c2 := Z3.cell 2
  have c3 := Z3.cell 3
  have y0 := Z1.cell 0
  have y1 := Z1.cell 1
  have y2 := Z1.cell 2
  have y3 := Z1.cell 3
  have z0 := Z2.cell 0
  have z1 := Z2.cell 1
  have z2 := Z2.cell 2
  have g0 := Z1.frozen 0
  have g1 := Z1.frozen 1
  have g2 := Z1.frozen 2
  have g3 := Z1.frozen 3
  have h0 := Z2.frozen 0
  have h1 := Z2.frozen 1
  have h2 := Z2.frozen 2
  go_region
  all_goals
    have D := two_rows Z1 Z2 (by omega) ZB (Nat.le_add_right w.heap.size 1) (Nat.le_add_right w.heap.size 2) (.int .i64 1) (.int .i64 (0)) (.string ⟨n.toArray⟩) (.slice none 0 0) (.slice p b.length c) (.int .i64 (a1 : Int)) (.int .i64 (e1 : Int))
    obtain ⟨wd, hwd⟩ : ∃ wd, ((((((((wz.setCell ⟨(w.heap.size + 1), 0, none⟩ (.int .i64 1)).setCell ⟨(w.heap.size + 1), 1, none⟩ (.int .i64 (0))).setCell ⟨(w.heap.size + 1), 2, none⟩ (.string ⟨n.toArray⟩)).setCell ⟨(w.heap.size + 1), 3, none⟩ (.slice none 0 0)).setCell ⟨(w.heap.size + 1 + 1), 0, none⟩ (.slice p b.length c)).setCell ⟨(w.heap.size + 1 + 1), 1, none⟩ (.int .i64 (a1 : Int))).setCell ⟨(w.heap.size + 1 + 1), 2, none⟩ (.int .i64 (e1 : Int))).drew) = wd := ⟨_, rfl⟩
    rw [hwd] at D ⊢
    obtain ⟨D1, D2, D3⟩ := D
    clear hwd Z0 Z1 Z2 Z3 ZB d0 d1 d2 c0 c1 c2 c3 y0 y1 y2 y3 z0 z1 z2 g0 g1 g2 g3 h0 h1 h2
    try go_wp2_with fail
    refine bodyPost_ret (results_rowrow Tryd.results19 _ _ (w.heap.size + 1) (w.heap.size + 1 + 1) 43 38 _ _ rfl rfl D1 D2 Tryd.underlying43 rfl infoPut Tryd.underlying38 rfl infoRd) rfl ?_
    have hbf := D3
    exact ⟨⟨1, 0, n, none, 0, []⟩, a1, e1, rfl, by rw [HR.out] <;> rfl, ⟨⟨(by show (-9223372036854775808 : Int) ≤ 0; omega), (by show (0 : Int) ≤ 9223372036854775807; omega)⟩, (by show n.length ≤ _; omega), ins_none _, fun _ => rfl, Nat.le_refl _, by simp, by simp⟩, ⟨HX.out.row.below hbf, HX.out.nil, hx3, hx1, hx2, HOK.out.err⟩, by rw [HR.out]; exact HST.out, hbf, fun _ _ h => absurd h (by simp)⟩
end Go.Proofs.YtpffebcaalbhjaaDoor.wir

namespace Go.Proofs.YtpffebcaalbhjaaDoor.wir
open Go.RowKit
open Go.Proofs.YtpffebcaalbhjaaDoor.oct Go.Proofs.YtpffebcaalbhjaaDoor.ref Go.Proofs.YtpffebcaalbhjaaDoor.rows Go.Proofs.YtpffebcaalbhjaaDoor.rowg
open Go.Lib (byteCells)

set_option maxRecDepth 100000 in
set_option maxHeartbeats 1500000 in
theorem rreadx_c (x : RV) (k : Int) (w : World) (hx : x.ok w) (h0 : k ≠ 0) (h1 : k ≠ 1) (h2 : k ≠ 2) (h3 : k ≠ 3) (h4 : k ≠ 4) :
    Calls Tryd.prog 19 #[x.val, .int .i64 k] w fun e w' => ReadA w w' x (readS k x.st) e := by
  have HX := Lib.hid hx
  have HR : Hid (readS k x.st = (none0 k, x.st)) := by show _ = _; unfold readS; rw [if_neg h0, if_neg h1, if_neg h2, if_neg h3, if_neg h4]
  obtain ⟨r, hr⟩ : ∃ r, readS k x.st = r := ⟨_, rfl⟩
  rw [hr] at HR ⊢
  clear hr
  have i0 : (k == 0) = false := by rw [beq_eq_false_iff_ne]; exact h0
  have i1 : (k == 1) = false := by rw [beq_eq_false_iff_ne]; exact h1
  have i2 : (k == 2) = false := by rw [beq_eq_false_iff_ne]; exact h2
  have i3 : (k == 3) = false := by rw [beq_eq_false_iff_ne]; exact h3
  have i4 : (k == 4) = false := by rw [beq_eq_false_iff_ne]; exact h4
  clear hx h0 h1 h2 h3 h4
  unfold RV.val RV.cells
  go_enter Tryd.func19, Tryd.ntmps19
  go_wp2_with fail
  have hA0 : Blk ((((w.alloc (.cells #[.slice x.p x.b.length x.c, .int .i64 (x.a : Int), .int .i64 (x.e : Int)] 38)).alloc (.cells #[.int .i64 0, .int .i64 0, .string ⟨#[]⟩, .slice none 0 0] 43)).alloc (.cells #[.slice none 0 0, .int .i64 0, .int .i64 0] 38)).alloc (.cells #[.int .i64 k, .int .i64 0, .string ⟨#[]⟩, .slice none 0 0] 43)) w.heap.size 38 [.slice x.p x.b.length x.c, .int .i64 (x.a : Int), .int .i64 (x.e : Int)] := blk_old (blk_old (blk_old (blk_new w _ _ _ rfl) _) _) _
  have hA1 : Blk ((((w.alloc (.cells #[.slice x.p x.b.length x.c, .int .i64 (x.a : Int), .int .i64 (x.e : Int)] 38)).alloc (.cells #[.int .i64 0, .int .i64 0, .string ⟨#[]⟩, .slice none 0 0] 43)).alloc (.cells #[.slice none 0 0, .int .i64 0, .int .i64 0] 38)).alloc (.cells #[.int .i64 k, .int .i64 0, .string ⟨#[]⟩, .slice none 0 0] 43)) (w.heap.size + 1) 43 [.int .i64 0, .int .i64 0, .string ⟨#[]⟩, .slice none 0 0] := blk_old (blk_old ((by have h := blk_new (w.alloc (.cells #[.slice x.p x.b.length x.c, .int .i64 (x.a : Int), .int .i64 (x.e : Int)] 38)) #[.int .i64 0, .int .i64 0, .string ⟨#[]⟩, .slice none 0 0] 43 _ rfl; rwa [show (w.alloc (.cells #[.slice x.p x.b.length x.c, .int .i64 (x.a : Int), .int .i64 (x.e : Int)] 38)).heap.size = (w.heap.size + 1) by simp] at h)) _) _
  have hA2 : Blk ((((w.alloc (.cells #[.slice x.p x.b.length x.c, .int .i64 (x.a : Int), .int .i64 (x.e : Int)] 38)).alloc (.cells #[.int .i64 0, .int .i64 0, .string ⟨#[]⟩, .slice none 0 0] 43)).alloc (.cells #[.slice none 0 0, .int .i64 0, .int .i64 0] 38)).alloc (.cells #[.int .i64 k, .int .i64 0, .string ⟨#[]⟩, .slice none 0 0] 43)) (w.heap.size + 1 + 1) 38 [.slice none 0 0, .int .i64 0, .int .i64 0] := blk_old ((by have h := blk_new ((w.alloc (.cells #[.slice x.p x.b.length x.c, .int .i64 (x.a : Int), .int .i64 (x.e : Int)] 38)).alloc (.cells #[.int .i64 0, .int .i64 0, .string ⟨#[]⟩, .slice none 0 0] 43)) #[.slice none 0 0, .int .i64 0, .int .i64 0] 38 _ rfl; rwa [show ((w.alloc (.cells #[.slice x.p x.b.length x.c, .int .i64 (x.a : Int), .int .i64 (x.e : Int)] 38)).alloc (.cells #[.int .i64 0, .int .i64 0, .string ⟨#[]⟩, .slice none 0 0] 43)).heap.size = (w.heap.size + 1 + 1) by simp] at h)) _
  have hA3 : Blk ((((w.alloc (.cells #[.slice x.p x.b.length x.c, .int .i64 (x.a : Int), .int .i64 (x.e : Int)] 38)).alloc (.cells #[.int .i64 0, .int .i64 0, .string ⟨#[]⟩, .slice none 0 0] 43)).alloc (.cells #[.slice none 0 0, .int .i64 0, .int .i64 0] 38)).alloc (.cells #[.int .i64 k, .int .i64 0, .string ⟨#[]⟩, .slice none 0 0] 43)) (w.heap.size + 1 + 1 + 1) 43 [.int .i64 k, .int .i64 0, .string ⟨#[]⟩, .slice none 0 0] := (by have h := blk_new (((w.alloc (.cells #[.slice x.p x.b.length x.c, .int .i64 (x.a : Int), .int .i64 (x.e : Int)] 38)).alloc (.cells #[.int .i64 0, .int .i64 0, .string ⟨#[]⟩, .slice none 0 0] 43)).alloc (.cells #[.slice none 0 0, .int .i64 0, .int .i64 0] 38)) #[.int .i64 k, .int .i64 0, .string ⟨#[]⟩, .slice none 0 0] 43 _ rfl; rwa [show (((w.alloc (.cells #[.slice x.p x.b.length x.c, .int .i64 (x.a : Int), .int .i64 (x.e : Int)] 38)).alloc (.cells #[.int .i64 0, .int .i64 0, .string ⟨#[]⟩, .slice none 0 0] 43)).alloc (.cells #[.slice none 0 0, .int .i64 0, .int .i64 0] 38)).heap.size = (w.heap.size + 1 + 1 + 1) by simp] at h)
  have hAB := ((((Below.refl w.heap.size w).alloc (by simp <;> omega) (.cells #[.slice x.p x.b.length x.c, .int .i64 (x.a : Int), .int .i64 (x.e : Int)] 38)).alloc (by simp <;> omega) (.cells #[.int .i64 0, .int .i64 0, .string ⟨#[]⟩, .slice none 0 0] 43)).alloc (by simp <;> omega) (.cells #[.slice none 0 0, .int .i64 0, .int .i64 0] 38)).alloc (by simp <;> omega) (.cells #[.int .i64 k, .int .i64 0, .string ⟨#[]⟩, .slice none 0 0] 43)
  obtain ⟨wo, hwo⟩ : ∃ wo, ((((w.alloc (.cells #[.slice x.p x.b.length x.c, .int .i64 (x.a : Int), .int .i64 (x.e : Int)] 38)).alloc (.cells #[.int .i64 0, .int .i64 0, .string ⟨#[]⟩, .slice none 0 0] 43)).alloc (.cells #[.slice none 0 0, .int .i64 0, .int .i64 0] 38)).alloc (.cells #[.int .i64 k, .int .i64 0, .string ⟨#[]⟩, .slice none 0 0] 43)) = wo := ⟨_, rfl⟩
  rw [hwo] at hA0 hA1 hA2 hA3 hAB ⊢
  clear hwo
  obtain ⟨p, c, b, a1, e1⟩ := x
  dsimp only at hA0 ⊢
  have Z0 := hA0
  have Z1 := hA1
  have Z2 := hA2
  have Z3 := hA3
  have ZB := hAB
  obtain ⟨wz, hwz⟩ : ∃ wz, wo = wz := ⟨_, rfl⟩
  rw [hwz] at Z0 Z1 Z2 Z3 ZB ⊢
  clear hwz hA0 hA1 hA2 hA3 hAB
  have d0 := Z0.cell 0
  have d1 := Z0.cell 1
  have d2 := Z0.cell 2
  have c0 := Z3.cell 0
  have c1 := Z3.cell 1
  have c2 := Z3.cell 2
  have c3 := Z3.cell 3
  have y0 := Z1.cell 0
  have y1 := Z1.cell 1
  have y2 := Z1.cell 2
  have y3 := Z1.cell 3
  have z0 := Z2.cell 0
  have z1 := Z2.cell 1
  have z2 := Z2.cell 2
  have g0 := Z1.frozen 0
  have g1 := Z1.frozen 1
  have g2 := Z1.frozen 2
  have g3 := Z1.frozen 3
  have h0 := Z2.frozen 0
  have h1 := Z2.frozen 1
  have h2 := Z2.frozen 2
  go_region
  all_goals
    have D := two_rows Z1 Z2 (by omega) ZB (Nat.le_add_right w.heap.size 1) (Nat.le_add_right w.heap.size 2) (.int .i64 k) (.int .i64 (0)) (.string ⟨#[]⟩) (.slice none 0 0) (.slice p b.length c) (.int .i64 (a1 : Int)) (.int .i64 (e1 : Int))
    obtain ⟨wd, hwd⟩ : ∃ wd, ((((((((wz.setCell ⟨(w.heap.size + 1), 0, none⟩ (.int .i64 k)).setCell ⟨(w.heap.size + 1), 1, none⟩ (.int .i64 (0))).setCell ⟨(w.heap.size + 1), 2, none⟩ (.string ⟨#[]⟩)).setCell ⟨(w.heap.size + 1), 3, none⟩ (.slice none 0 0)).setCell ⟨(w.heap.size + 1 + 1), 0, none⟩ (.slice p b.length c)).setCell ⟨(w.heap.size + 1 + 1), 1, none⟩ (.int .i64 (a1 : Int))).setCell ⟨(w.heap.size + 1 + 1), 2, none⟩ (.int .i64 (e1 : Int))).drew) = wd := ⟨_, rfl⟩
    rw [hwd] at D ⊢
    obtain ⟨D1, D2, D3⟩ := D
    clear hwd Z0 Z1 Z2 Z3 ZB d0 d1 d2 c0 c1 c2 c3 y0 y1 y2 y3 z0 z1 z2 g0 g1 g2 g3 h0 h1 h2
    try go_wp2_with fail
    refine bodyPost_ret (results_rowrow Tryd.results19 _ _ (w.heap.size + 1) (w.heap.size + 1 + 1) 43 38 _ _ rfl rfl D1 D2 Tryd.underlying43 rfl infoPut Tryd.underlying38 rfl infoRd) rfl ?_
    have hbf := D3
    exact ⟨⟨k, 0, [], none, 0, []⟩, a1, e1, rfl, by rw [HR.out] <;> rfl, ⟨⟨(by show (-9223372036854775808 : Int) ≤ 0; omega), (by show (0 : Int) ≤ 9223372036854775807; omega)⟩, by simp, ins_none _, fun _ => rfl, Nat.le_refl _, by simp, by simp⟩, ⟨HX.out.row.below hbf, HX.out.nil, HX.out.room, HX.out.place, HX.out.size, HX.out.err⟩, by rw [HR.out], hbf, fun _ _ h => absurd h (by simp)⟩
end Go.Proofs.YtpffebcaalbhjaaDoor.wir

namespace Go.Proofs.YtpffebcaalbhjaaDoor.wir
open Go.RowKit
open Go.Proofs.YtpffebcaalbhjaaDoor.oct Go.Proofs.YtpffebcaalbhjaaDoor.ref Go.Proofs.YtpffebcaalbhjaaDoor.rows Go.Proofs.YtpffebcaalbhjaaDoor.rowg Go.Proofs.YtpffebcaalbhjaaDoor.crc
open Go.Lib (byteCells)

theorem results_rowtmpW {P : Program} {fn : Func} {p q : Tmp} {ty : TypeId} (h : fn.results = #[.cell p ty, .tmp q]) (tmps : Array Value) (w : World) (g : Nat) (t : TypeId) (X : List Value) (u : Value) {d : TypeDesc}
    (hp : tmps.getD p undef = .pointer (some ⟨g, 0, none⟩)) (hq : tmps.getD q undef = u) (hB : Blk w g t X) (hu : P.underlying ty = some d) (hd : (match d with | .struct _ | .array _ _ => true | _ => false) = true) (hi : (P.info? ty).map (·.size) = some X.length) :
    (results fn tmps).run P w = .ok (.tuple #[.agg X.toArray, u]) w := by
  have hp' : tmps[p]?.getD undef = .pointer (some ⟨g, 0, none⟩) := by simpa using hp
  have hq' : tmps[q]?.getD undef = u := by simpa using hq
  have hl := run_loadVar_row (P := P) w g t ty X.toArray (0, 0) d hB hu hd (by simpa using hi)
  simp [results, h, hp', hq', asAddr, hl]
theorem in8_off {w : World} {b o : Nat} {l : T} (h : In8 w (some ⟨b, o, none⟩) l) (k : Nat) : In8 w (some ⟨b, o + k, none⟩) (l.drop k) := by
  have h2 := in8_sub h k (l.drop k).length
  rwa [List.take_length] at h2
/-- is it a right frame -/
def openE (l : T) : Nat :=
  if l.length < 8 then 4 else if 65536 < saidT l then 2 else if l.length - 8 < saidT l then 4 else if saidT l < l.length - 8 then 3 else if saidT (l.drop 4) ≠ more 0 (l.drop 8) then 5 else 0
/-- what Open answers -/
def OpenA (w w' : World) (p : Option Addr) (l : T) (e : Ending) : Prop := ∃ x : RV, e = .returned (.tuple #[x.val, .int .i64 (openE l : Nat)]) ∧ x.ok w' ∧ x.b = (if openE l = 0 then l.drop 8 else []) ∧ x.a = 0 ∧ x.e = 0 ∧ (∀ w0, In8 w0 p l → In8 w0 x.p x.b) ∧ Below w.heap.size w w'
set_option maxRecDepth 100000 in
set_option maxHeartbeats 1500000 in
theorem ropen_c (p : Option Addr) (cp : Nat) (l : T) (w : World) (hp : In8 w p l) (hn : p = none → cp = 0) (hc : l.length ≤ cp) (hl : l.length ≤ 140737488355328) :
    Calls Tryd.prog 17 #[.slice p l.length cp] w fun e w' => OpenA w w' p l e := by
  have HP := Lib.hid hp
  have HS := Lib.hid (fun w p c l hp h4 => rsaid_c p c l w hp h4)
  have HC := Lib.hid (fun w p c l hp hl => rsum_c p c l w hp hl)
  clear hp
  by_cases h8 : l.length < 8
  · have HE : Hid (openE l = 4) := by show _ = _; unfold openE; rw [if_pos h8]
    have i1 : (l.length : Int) < 8 := by omega
    go_enter Tryd.func17, Tryd.ntmps17
    go_wp2_with fail
    refine bodyPost_ret (results_rowtmpW Tryd.results17 _ _ w.heap.size 38 [.slice none 0 0, .int .i64 0, .int .i64 0] _ rfl rfl (blk_new w _ _ _ rfl) Tryd.underlying38 rfl infoRd) rfl ?_
    exact ⟨⟨none, 0, [], 0, 0⟩, by rw [HE.out]; rfl, ⟨fun h => absurd h (by simp), fun _ => rfl, Nat.le_refl _, Nat.le_refl _, by simp, by simp⟩, by rw [HE.out]; rfl, rfl, rfl, (fun _ _ h => absurd h (by simp)), (Below.refl _ _).alloc (Nat.le_refl _) _⟩
  · have i1 : ¬ ((l.length : Int) < 8) := by omega
    obtain ⟨bb, oo, rfl, _⟩ := HP.out.at (by omega)
    have HP' : Hid (In8 (w.alloc (.cells #[.slice none 0 0, .int .i64 0, .int .i64 0] 38)) (some ⟨bb, oo, none⟩) l) := HP.out.below ((Below.refl _ _).alloc (Nat.le_refl _) _)
    have HL : Hid (saidT l < 4294967296) := said_lt l 4
    obtain ⟨m, hm⟩ : ∃ m, saidT l = m := ⟨_, rfl⟩
    have hml : m < 4294967296 := by rw [← hm]; exact HL.out
    have HO : Hid (openE l = if 65536 < m then 2 else if l.length - 8 < m then 4 else if m < l.length - 8 then 3 else if saidT (l.drop 4) ≠ more 0 (l.drop 8) then 5 else 0) := by show _ = _; unfold openE; rw [if_neg h8, hm]
    have HS0 := Lib.hid (rsaid_c _ cp l _ HP'.out (by omega))
    rw [hm] at HS0
    clear hm HL HS
    by_cases h1 : 65536 < m
    · have i2 : (m : Int) > 65536 := by omega
      have HE : Hid (openE l = 2) := by show _ = _; rw [HO.out, if_pos h1]
      go_enter Tryd.func17, Tryd.ntmps17
      go_wp2_with (go_at_call 35; refine HS0.out.mono ?_; rintro e w' ⟨rfl, rfl⟩)
      all_goals
        refine bodyPost_ret (results_rowtmpW Tryd.results17 _ _ w.heap.size 38 [.slice none 0 0, .int .i64 0, .int .i64 0] _ rfl rfl (blk_new w _ _ _ rfl) Tryd.underlying38 rfl infoRd) rfl ?_
        exact ⟨⟨none, 0, [], 0, 0⟩, by rw [HE.out]; rfl, ⟨fun h => absurd h (by simp), fun _ => rfl, Nat.le_refl _, Nat.le_refl _, by simp, by simp⟩, by rw [HE.out]; rfl, rfl, rfl, (fun _ _ h => absurd h (by simp)), (Below.refl _ _).alloc (Nat.le_refl _) _⟩
    · have i2 : ¬ ((m : Int) > 65536) := by omega
      by_cases h2 : l.length - 8 < m
      · have i3 : (l.length : Int) - 8 < (m : Int) := by omega
        have HE : Hid (openE l = 4) := by show _ = _; rw [HO.out, if_neg h1, if_pos h2]
        go_enter Tryd.func17, Tryd.ntmps17
        go_wp2_with (go_at_call 35; refine HS0.out.mono ?_; rintro e w' ⟨rfl, rfl⟩)
        all_goals
          refine bodyPost_ret (results_rowtmpW Tryd.results17 _ _ w.heap.size 38 [.slice none 0 0, .int .i64 0, .int .i64 0] _ rfl rfl (blk_new w _ _ _ rfl) Tryd.underlying38 rfl infoRd) rfl ?_
          exact ⟨⟨none, 0, [], 0, 0⟩, by rw [HE.out]; rfl, ⟨fun h => absurd h (by simp), fun _ => rfl, Nat.le_refl _, Nat.le_refl _, by simp, by simp⟩, by rw [HE.out]; rfl, rfl, rfl, (fun _ _ h => absurd h (by simp)), (Below.refl _ _).alloc (Nat.le_refl _) _⟩
      · have i3 : ¬ ((l.length : Int) - 8 < (m : Int)) := by omega
        by_cases h3 : m < l.length - 8
        · have i4 : (l.length : Int) - 8 > (m : Int) := by omega
          have HE : Hid (openE l = 3) := by show _ = _; rw [HO.out, if_neg h1, if_neg h2, if_pos h3]
          go_enter Tryd.func17, Tryd.ntmps17
          go_wp2_with (go_at_call 35; refine HS0.out.mono ?_; rintro e w' ⟨rfl, rfl⟩)
          all_goals
            refine bodyPost_ret (results_rowtmpW Tryd.results17 _ _ w.heap.size 38 [.slice none 0 0, .int .i64 0, .int .i64 0] _ rfl rfl (blk_new w _ _ _ rfl) Tryd.underlying38 rfl infoRd) rfl ?_
            exact ⟨⟨none, 0, [], 0, 0⟩, by rw [HE.out]; rfl, ⟨fun h => absurd h (by simp), fun _ => rfl, Nat.le_refl _, Nat.le_refl _, by simp, by simp⟩, by rw [HE.out]; rfl, rfl, rfl, (fun _ _ h => absurd h (by simp)), (Below.refl _ _).alloc (Nat.le_refl _) _⟩
        · have i4 : ¬ ((l.length : Int) - 8 > (m : Int)) := by omega
          have HE0 : Hid (openE l = if saidT (l.drop 4) ≠ more 0 (l.drop 8) then 5 else 0) := by show _ = _; rw [HO.out, if_neg h1, if_neg h2, if_neg h3]
          have HS4 := Lib.hid (rsaid_c _ (cp - 4) (l.drop 4) _ (in8_off HP'.out 4) (by rw [List.length_drop]; omega))
          have HC8 := Lib.hid (rsum_c _ (cp - 8) (l.drop 8) _ (in8_off HP'.out 8) (by rw [List.length_drop]; omega))
          have HC9 : Hid (cp = 8 → Calls Tryd.prog 36 #[.slice (some ⟨bb, oo, none⟩) (l.length - 8) 0] (w.alloc (.cells #[.slice none 0 0, .int .i64 0, .int .i64 0] 38)) fun e w' => e = .returned (.int .u32 (more 0 (l.drop 8) : Nat)) ∧ (w.alloc (.cells #[.slice none 0 0, .int .i64 0, .int .i64 0] 38)) = w') := fun hcp => by
            have hd : l.drop 8 = [] := List.drop_eq_nil_of_le (by omega)
            have h := rsum_c (some ⟨bb, oo, none⟩) 0 (l.drop 8) (w.alloc (.cells #[.slice none 0 0, .int .i64 0, .int .i64 0] 38)) (by rw [hd]; exact fun h => absurd h (by simp)) (by rw [hd]; simp)
            rwa [List.length_drop] at h
          rw [List.length_drop] at HS4 HC8
          have HU : Hid (saidT (l.drop 4) < 4294967296) := said_lt (l.drop 4) 4
          obtain ⟨u, hu⟩ : ∃ u, saidT (l.drop 4) = u := ⟨_, rfl⟩
          have HV : Hid (more 0 (l.drop 8) < 4294967296) := more_lt (by decide) (l.drop 8)
          obtain ⟨v, hv⟩ : ∃ v, more 0 (l.drop 8) = v := ⟨_, rfl⟩
          rw [hu] at HS4 HU HE0
          rw [hv] at HC8 HC9 HV HE0
          have hu4 : u < 4294967296 := HU.out
          have hv4 : v < 4294967296 := HV.out
          clear hu hv HU HV
          have HIB : Hid (In8 (w.alloc (.cells #[.slice none 0 0, .int .i64 0, .int .i64 0] 38)) (some ⟨bb, oo + 8, none⟩) (l.drop 8)) := in8_off HP'.out 8
          by_cases h5 : u = v
          · have i5 : ((u : Int) == (v : Int)) = true := by rw [beq_iff_eq]; omega
            have HE : Hid (openE l = 0) := by show _ = _; rw [HE0.out, if_neg (by omega)]
            clear h5
            go_enter Tryd.func17, Tryd.ntmps17
            go_wp2_with (first
              | (go_at_call 35; with_reducible refine HS0.out.mono ?_; rintro e w' ⟨rfl, rfl⟩)
              | (go_at_call 35; with_reducible refine HS4.out.mono ?_; rintro e w' ⟨rfl, rfl⟩)
              | (go_at_call 36; with_reducible refine HC8.out.mono ?_; rintro e w' ⟨rfl, rfl⟩)
              | (go_at_call 36; with_reducible refine (HC9.out (by assumption)).mono ?_; rintro e w' ⟨rfl, rfl⟩))
            · have hd8 : l.drop 8 = [] := List.drop_eq_nil_of_le (by omega)
              refine bodyPost_ret (results_rowtmpW Tryd.results17 _ _ w.heap.size 38 [.slice (some ⟨bb, oo, none⟩) (l.length - 8) 0, .int .i64 0, .int .i64 0] _ rfl rfl (blk_new w _ _ _ rfl) Tryd.underlying38 rfl infoRd) rfl ?_
              exact ⟨⟨some ⟨bb, oo, none⟩, 0, l.drop 8, 0, 0⟩, by rw [HE.out]; unfold RV.val RV.cells; dsimp only; rw [List.length_drop]; rfl, ⟨(by rw [hd8]; exact fun h => absurd h (by simp)), (fun h => by cases h), (by rw [hd8]; exact Nat.le_refl _), Nat.zero_le _, (by rw [List.length_drop]; omega), (by show 0 ≤ 5; omega)⟩, by rw [HE.out]; rfl, rfl, rfl, (fun _ _ => (by rw [hd8]; exact fun h => absurd h (by simp))), (Below.refl _ _).alloc (Nat.le_refl _) _⟩
            · refine bodyPost_ret (results_rowtmpW Tryd.results17 _ _ w.heap.size 38 [.slice (some ⟨bb, oo + 8, none⟩) (l.length - 8) (cp - 8), .int .i64 0, .int .i64 0] _ rfl rfl (blk_new w _ _ _ rfl) Tryd.underlying38 rfl infoRd) rfl ?_
              exact ⟨⟨some ⟨bb, oo + 8, none⟩, cp - 8, l.drop 8, 0, 0⟩, by rw [HE.out]; unfold RV.val RV.cells; dsimp only; rw [List.length_drop]; rfl, ⟨(in8_off HP.out 8).below ((Below.refl _ _).alloc (Nat.le_refl _) _), (fun h => by cases h), (by rw [List.length_drop]; show l.length - 8 ≤ cp - 8; omega), Nat.zero_le _, (by rw [List.length_drop]; omega), (by show 0 ≤ 5; omega)⟩, by rw [HE.out]; rfl, rfl, rfl, (fun _ h => in8_off h 8), (Below.refl _ _).alloc (Nat.le_refl _) _⟩
          · have i5 : ((u : Int) == (v : Int)) = false := by rw [beq_eq_false_iff_ne]; omega
            have HE : Hid (openE l = 5) := by show _ = _; rw [HE0.out, if_pos h5]
            go_enter Tryd.func17, Tryd.ntmps17
            go_wp2_with (first
              | (go_at_call 35; with_reducible refine HS0.out.mono ?_; rintro e w' ⟨rfl, rfl⟩)
              | (go_at_call 35; with_reducible refine HS4.out.mono ?_; rintro e w' ⟨rfl, rfl⟩)
              | (go_at_call 36; with_reducible refine HC8.out.mono ?_; rintro e w' ⟨rfl, rfl⟩)
              | (go_at_call 36; with_reducible refine (HC9.out (by assumption)).mono ?_; rintro e w' ⟨rfl, rfl⟩))
            all_goals
              refine bodyPost_ret (results_rowtmpW Tryd.results17 _ _ w.heap.size 38 [.slice none 0 0, .int .i64 0, .int .i64 0] _ rfl rfl (blk_new w _ _ _ rfl) Tryd.underlying38 rfl infoRd) rfl ?_
              exact ⟨⟨none, 0, [], 0, 0⟩, by rw [HE.out]; rfl, ⟨fun h => absurd h (by simp), fun _ => rfl, Nat.le_refl _, Nat.le_refl _, by simp, by simp⟩, by rw [HE.out]; rfl, rfl, rfl, (fun _ _ h => absurd h (by simp)), (Below.refl _ _).alloc (Nat.le_refl _) _⟩
end Go.Proofs.YtpffebcaalbhjaaDoor.wir
