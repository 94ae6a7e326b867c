/- strings.IndexRune at two ASCII signs (44, 125) for runes from 128 on, strings.IndexAny at these for whatever bytes: the first of the two signs. Texts shorter than 4294967281 bytes. -/
import Derived.Test.YtbgnoobgnpebdaaDoorJdv5
import Derived.Test.YtbgnoobgnpebdaaDoorShNum
import Derived.Laws.RangeAny
import Derived.Shelf.Small.Utf8
import Derived.BigRegion
import Derived.RegionTactic
import Derived.ChangeAlike
import Derived.Outline
namespace Go.Proofs.YtbgnoobgnpebdaaDoor.jdv
open Go.RowKit
open Go.Proofs.YtbgnoobgnpebdaaDoor.oct Go.Proofs.YtbgnoobgnpebdaaDoor.ref Go.Proofs.YtbgnoobgnpebdaaDoor.rows Go.Proofs.YtbgnoobgnpebdaaDoor.rowg Go.Proofs.YtbgnoobgnpebdaaDoor.jsn
open Go.Lib (byteCells hasPrefix trimPrefix)

abbrev cb : ByteArray := ⟨#[44, 125]⟩
set_option maxHeartbeats 2000000 in
set_option maxRecDepth 100000 in
theorem valid_c (r : Int) (w : World) : Calls Tryd.prog 84 #[.int .i32 r] w fun e w' => e = .returned (.bool (Lib.validRune r)) ∧ w = w' :=
  (Any.utf8_ValidRune { sh.lays152 with } r w).mono fun _ _ ⟨h1, h2⟩ => ⟨h1, h2.symm⟩
set_option maxHeartbeats 2000000 in
set_option maxRecDepth 100000 in
theorem ir_inv (r : Int) (w : World) (h1 : 128 ≤ r) (h2 : (r == 65533) = false) (h3 : Lib.validRune r = false) :
    Calls Tryd.prog 75 #[.string cb, .int .i32 r] w fun e w' => e = .returned (.int .i64 (-1)) ∧ Below w.heap.size w w' := by
  have HV := Lib.hid (valid_c r w)
  rw [h3] at HV
  have i1 : (0 : Int) ≤ r := by omega
  have i2 : ¬ r < 128 := by omega
  clear h3
  go_enter Tryd.func75, Tryd.ntmps75
  go_wp2_with (go_at_call 84; refine HV.out.mono ?_; rintro e w1 ⟨rfl, rfl⟩)
  go_ret
  exact ⟨rfl, Below.refl _ _⟩
theorem ib_empty (s : ByteArray) (c : Int) (w : World) (hs : s.size = 0) : Calls Tryd.prog 83 #[.string s, .int .u8 c] w fun e w' => e = .returned (.int .i64 (-1)) ∧ w' = w := by
  refine (sh.indexByte s c w).mono ?_
  rintro e w' ⟨rfl, rfl⟩
  have : s.data.toList = [] := List.length_eq_zero_iff.1 (by rw [← Lib.size_eq]; exact hs)
  rw [this]
  exact ⟨rfl, rfl⟩
theorem encode_high (r : Int) (h1 : 128 ≤ r) (h3 : Lib.validRune r = true) : (∃ x y : UInt8, Utf8.encode r = ⟨#[x, y]⟩ ∧ 128 ≤ y.toNat) ∨ (3 ≤ (Utf8.encode r).size ∧ (Utf8.encode r).size ≤ 4) := by
  have hv : Utf8.valid r = true := by
    unfold Lib.validRune at h3
    unfold Utf8.valid
    have := of_decide_eq_true h3
    simp only [Bool.or_eq_true, Bool.and_eq_true, decide_eq_true_iff]
    omega
  unfold Utf8.encode
  simp only [hv, if_true]
  rw [if_neg (by omega)]
  by_cases h4 : r.toNat < 0x800
  · rw [if_pos h4]
    refine Or.inl ⟨_, _, rfl, ?_⟩
    rw [UInt8.toNat_ofNat']
    omega
  · rw [if_neg h4]
    by_cases h5 : r.toNat < 0x10000
    · rw [if_pos h5]; exact Or.inr ⟨show 3 ≤ 3 from Nat.le_refl _, show 3 ≤ 4 by decide⟩
    · rw [if_neg h5]; exact Or.inr ⟨show 3 ≤ 4 by decide, show 4 ≤ 4 from Nat.le_refl _⟩
set_option maxHeartbeats 4000000 in
set_option maxRecDepth 100000 in
theorem ir_more (r : Int) (w : World) (h1 : 128 ≤ r) (h2 : (r == 65533) = false) (h3 : Lib.validRune r = true) (hs : 3 ≤ (Utf8.encode r).size ∧ (Utf8.encode r).size ≤ 4) :
    Calls Tryd.prog 75 #[.string cb, .int .i32 r] w fun e w' => e = .returned (.int .i64 (-1)) ∧ Below w.heap.size w w' := by
  have HV := Lib.hid (valid_c r w)
  rw [h3] at HV
  have i1 : (0 : Int) ≤ r := by omega
  have i2 : ¬ r < 128 := by omega
  obtain ⟨hs1, hs2⟩ := hs
  obtain ⟨S, hS⟩ : ∃ S, Utf8.encode r = S := ⟨_, rfl⟩
  rw [hS] at hs1 hs2
  have hcv : ∀ w, (convert 21 9 (.int .i32 r)).run Tryd.prog w = .ok (.string S) w := by
    intro w
    rw [run_convert_int_string w _ _ _ _ (by kernel_rfl) Tryd.underlying9, hS]
  have j1 : (2 : Int) ≤ (S.size : Int) - 1 := by omega
  have j2 : (S.size : Int) - 1 ≤ 3 := by omega
  have j3 : ¬ ((S.size : Int) - 1 < 2) := by omega
  clear h3 hS
  go_enter Tryd.func75, Tryd.ntmps75
  go_wp2_with (go_at_call 84; refine HV.out.mono ?_; rintro e w1 ⟨rfl, rfl⟩)
  go_step3
  go_wp2_with fail
  refine wp_loop_rounds 1 ?_
  rw [rounds_succ]
  go_wp2_with fail
  try rw [Exit.noGoto_ret]
  go_ret
  exact ⟨rfl, Below.refl _ _⟩
set_option maxHeartbeats 4000000 in
set_option maxRecDepth 100000 in
theorem ir_two (r : Int) (x y : UInt8) (w : World) (h1 : 128 ≤ r) (h2 : (r == 65533) = false) (h3 : Lib.validRune r = true) (hS : Utf8.encode r = ⟨#[x, y]⟩) (hy : 128 ≤ y.toNat) :
    Calls Tryd.prog 75 #[.string cb, .int .i32 r] w fun e w' => e = .returned (.int .i64 (-1)) ∧ Below w.heap.size w w' := by
  have HV := Lib.hid (valid_c r w)
  rw [h3] at HV
  have i1 : (0 : Int) ≤ r := by omega
  have i2 : ¬ r < 128 := by omega
  have hcv : ∀ w, (convert 21 9 (.int .i32 r)).run Tryd.prog w = .ok (.string ⟨#[x, y]⟩) w := by
    intro w
    rw [run_convert_int_string w _ _ _ _ (by kernel_rfl) Tryd.underlying9, hS]
  obtain ⟨S, hSS⟩ : ∃ S : ByteArray, (⟨#[x, y]⟩ : ByteArray) = S := ⟨_, rfl⟩
  have j0 : S.size = 2 := by rw [← hSS]; rfl
  have j1 : (S.size : Int) = 2 := by omega
  have j2 : S[1]'(by omega) = y := by subst hSS; rfl
  rw [hSS] at hcv
  clear h3 hS hSS
  have k1 : (cb[1]'(by decide)).toNat = 125 := rfl
  have k2 : ((125 : Int) == (y.toNat : Int)) = false := by rw [beq_eq_false_iff_ne]; omega
  have k3 : ((125 : Int) != (y.toNat : Int)) = true := by rw [bne, k2]; rfl
  go_enter Tryd.func75, Tryd.ntmps75
  go_wp2_with (go_at_call 84; refine HV.out.mono ?_; rintro e w1 ⟨rfl, rfl⟩)
  go_step3
  go_wp2_with fail
  refine wp_loop_rounds 1 ?_
  rw [rounds_succ]
  go_wp2_with fail
  go_step3
  go_wp2_with fail
  go_quiet (fail)
  obtain ⟨w2, hw2⟩ : ∃ w2, w.drewN nq = w2 := ⟨_, rfl⟩
  have HB : Hid (Below w.heap.size w w2) := by rw [← hw2]; exact below_drewN (Below.refl _ _) _
  rw [hw2]
  clear hw2
  go_wp2_with fail
  go_quiet ((go_at_call 83; exact Calls.quiet_of_same (ib_empty _ _ _ rfl)))
  go_wp2_with fail
  rw [Exit.noGoto_ret]
  go_wp2_with fail
  try simp only [Exit.inBlock, Exit.then]
  try rw [Exit.noGoto_ret]
  go_ret
  exact ⟨rfl, below_drewN HB.out _⟩
set_option maxHeartbeats 4000000 in
set_option maxRecDepth 100000 in
theorem ir_err (w : World) :
    Calls Tryd.prog 75 #[.string cb, .int .i32 65533] w fun e w' => e = .returned (.int .i64 (-1)) ∧ Below w.heap.size w w' := by
  have k0 : (cb[0]'(by decide)).toNat = 44 := rfl
  have k1 : (cb[1]'(by decide)).toNat = 125 := rfl
  go_enter Tryd.func75, Tryd.ntmps75
  go_wp2_with fail
  go_loopg [5, 6] 2 (fun g _ _ wx => ∃ i : Nat, i + g = 2 ∧ wx = w.iter cb i)
  case atStart => exact ⟨0, by omega, rfl⟩
  case round =>
    obtain ⟨i, hig, rfl⟩ := hrel
    rcases gk with _ | g
    · obtain rfl : i = 2 := by omega
      have hnx := run_next_end (P := Tryd.prog) w cb 2
      have hnx2 := fun ty => hnx ty (by decide)
      clear hnx
      go_wp2_with fail
      go_ret
      exact ⟨rfl, (Below.refl _ w).alloc (Nat.le_refl _) _⟩
    · have hi : i = 0 ∨ i = 1 := by omega
      rcases hi with rfl | rfl
      · have hnx := fun ty => run_next_ascii (P := Tryd.prog) w cb 0 ty (by decide) (by decide)
        go_wp2_with fail
        go_roundg g
        case measure => omega
        case rel => exact ⟨1, by omega, rfl⟩
      · have hnx := fun ty => run_next_ascii (P := Tryd.prog) w cb 1 ty (by decide) (by decide)
        go_wp2_with fail
        go_roundg g
        case measure => omega
        case rel => exact ⟨2, by omega, rfl⟩
/-- a rune from 128 on stands not among the two signs -/
theorem ir_high (r : Nat) (w : World) (h1 : 128 ≤ r) :
    Calls Tryd.prog 75 #[.string cb, .int .i32 r] w fun e w' => e = .returned (.int .i64 (-1)) ∧ Below w.heap.size w w' := by
  by_cases h2 : r = 65533
  · subst h2; exact ir_err w
  · have h2' : ((r : Int) == 65533) = false := by rw [beq_eq_false_iff_ne]; omega
    cases h3 : Lib.validRune (r : Int) with
    | false => exact ir_inv r w (by omega) h2' h3
    | true =>
      rcases encode_high r (by omega) h3 with ⟨x, y, hS, hy⟩ | hs
      · exact ir_two r x y w (by omega) h2' h3 hS hy
      · exact ir_more r w (by omega) h2' h3 hs
theorem ir_low (c : UInt8) (w : World) (h1 : c.toNat < 128) :
    Calls Tryd.prog 75 #[.string cb, .int .i32 (c.toNat : Int)] w fun e w' => e = .returned (.int .i64 (Lib.indexByte [44, 125] c)) ∧ Below w.heap.size w w' := by
  refine (sh.indexRune_ascii cb (c.toNat : Int) w (by omega) (by omega)).mono ?_
  rintro e w' ⟨rfl, rfl⟩
  refine ⟨?_, Below.refl _ _⟩
  simp
/-- the bytes of a rune from 128 on are from 128 on -/
theorem decode_span (s : ByteArray) (pos : Nat) (h : pos < s.size) (ha : 128 ≤ (s[pos]'h).toNat) : pos + (Utf8.decode s pos).2 ≤ s.size ∧ ∀ j, pos ≤ j → j < pos + (Utf8.decode s pos).2 → 128 ≤ (s.get! j).toNat := by
  have hn : ¬ (s[pos]'h).toNat < 128 := by omega
  have g0 : 128 ≤ (s.get! pos).toNat := by
    have := get_at s pos h
    rw [Nat.add_zero] at this
    rw [this]; exact ha
  simp only [Utf8.decode, get_at s pos h, hn, if_false]
  have one : pos + 1 ≤ s.size ∧ ∀ j, pos ≤ j → j < pos + 1 → 128 ≤ (s.get! j).toNat := ⟨by omega, fun j h1 h2 => (show j = pos by omega) ▸ g0⟩
  split
  · rename_i hc
    simp only [Bool.and_eq_true, beq_iff_eq, decide_eq_true_iff] at hc
    split
    · refine ⟨by omega, fun j h1 h2 => ?_⟩
      have : j = pos ∨ j = pos + 1 := by omega
      rcases this with rfl | rfl
      · exact g0
      · omega
    · exact one
  · split
    · rename_i hc
      simp only [Bool.and_eq_true, beq_iff_eq, decide_eq_true_iff] at hc
      split
      · refine ⟨by omega, fun j h1 h2 => ?_⟩
        have : j = pos ∨ j = pos + 1 ∨ j = pos + 2 := by omega
        rcases this with rfl | rfl | rfl
        · exact g0
        · omega
        · omega
      · exact one
    · split
      · rename_i hc
        simp only [Bool.and_eq_true, beq_iff_eq, decide_eq_true_iff] at hc
        split
        · refine ⟨by omega, fun j h1 h2 => ?_⟩
          have : j = pos ∨ j = pos + 1 ∨ j = pos + 2 ∨ j = pos + 3 := by omega
          rcases this with rfl | rfl | rfl | rfl
          · exact g0
          · omega
          · omega
          · omega
        · exact one
      · exact one
theorem get_getElem (s : ByteArray) (j : Nat) (x : UInt8) (h : s.data.toList[j]? = some x) : s.get! j = x := by
  have hj : j < s.size := by
    rw [Lib.size_eq]
    exact (List.getElem?_eq_some_iff.1 h).1
  have h1 := get_at s j hj
  rw [Nat.add_zero] at h1
  have h2 := Lib.data_getElem? s j hj
  rw [h] at h2
  rw [h1]
  exact (Option.some.inj h2).symm
theorem cb_mem (x : UInt8) : ([44, 125] : List UInt8).contains x = decide (0 ≤ Lib.indexByte [44, 125] x) := by
  rw [Lib.contains_iff_indexByte]
theorem cb_high (x : UInt8) (h : 128 ≤ x.toNat) : ([44, 125] : List UInt8).contains x = false := by
  rw [Bool.eq_false_iff]
  intro h1
  simp only [List.contains_eq_mem, List.mem_cons, List.not_mem_nil, or_false, decide_eq_true_iff] at h1
  rcases h1 with rfl | rfl <;> simp at h
set_option maxHeartbeats 4000000 in
set_option maxRecDepth 100000 in
theorem indexAny_short (s : ByteArray) (w : World) (h8 : s.size ≤ 8) :
    Calls Tryd.prog 66 #[.string s, .string cb] w fun e w' => e = .returned (.int .i64 (Lib.indexAny s.data.toList [44, 125])) ∧ Below w.heap.size w w' := by
  have h8z : decide ((8 : Int) < (s.size : Int)) = false := decide_eq_false (by omega)
  have HU : Calls Tryd.prog 76 #[.int .i64 s.size] w fun e w' => e = .returned (.bool false) ∧ w = w' :=
    (sh.useAscii (s.size : Int) w).mono fun _ _ ⟨h1, h2⟩ => ⟨by rw [h1, h8z], h2.symm⟩
  have HU' := Lib.hid HU
  clear HU h8z
  go_enter Tryd.func66, Tryd.ntmps66
  go_wp2_with (go_at_call 76; refine HU'.out.mono ?_; rintro e w' ⟨rfl, rfl⟩)
  go_loopg [9, 10] s.size (fun g _ _ wx => ∃ i : Nat, i + g = s.size ∧ Hid (wx.heap[w.heap.size]? = some (.stringIter s i)) ∧ Hid (Below w.heap.size w wx) ∧ w.heap.size < wx.heap.size ∧ Hid (Lib.NoAny s.data.toList [44, 125] i))
  case atStart => exact ⟨0, by omega, World.iter_heap _ _ _, (Below.refl _ w).alloc (Nat.le_refl _) _, by simp [World.iter], Lib.NoAny.zero _ _⟩
  case round =>
    obtain ⟨i, hig, HK, HB, hsz, HN⟩ := hrel
    rcases gk with _ | g
    · obtain rfl : i = s.size := by omega
      have hnx := fun ty => Lib.run_next_end_at (P := Tryd.prog) wr w.heap.size s s.size ty HK.out (by omega)
      have HV : Hid (Lib.indexAny s.data.toList [44, 125] = -1) := Lib.indexAny_none (by rw [← Lib.size_eq]; exact HN.out)
      go_wp2_with fail
      go_ret
      exact ⟨by rw [HV.out]; rfl, HB.out⟩
    · have hi : i < s.size := by omega
      have hnx := fun ty => Lib.run_next_any_at (P := Tryd.prog) wr w.heap.size s i ty HK.out hi
      have HB2 := Lib.hid (Lib.below_iterAt HB.out (Nat.le_refl _) s (i + (Utf8.decode s i).2))
      have HK2 := Lib.hid (Lib.iterAt_heap wr w.heap.size s i (i + (Utf8.decode s i).2) HK.out)
      have hsz2 : w.heap.size < (wr.iterAt w.heap.size s (i + (Utf8.decode s i).2)).heap.size := by rw [Lib.iterAt_size]; exact hsz
      obtain ⟨x, hx⟩ : ∃ x : UInt8, s[i]'hi = x := ⟨_, rfl⟩
      have HX : Hid (s.data.toList[i]? = some x) := by show _ = _; rw [← hx]; exact Lib.data_getElem? s i hi
      by_cases hc : x.toNat < 128
      · rw [decode_ascii s i hi (by rw [hx]; exact hc)] at hnx HB2 HK2 hsz2
        rw [hx] at hnx
        dsimp only at hnx HB2 HK2 hsz2
        obtain ⟨w2, hw2⟩ : ∃ w2, wr.iterAt w.heap.size s (i + 1) = w2 := ⟨_, rfl⟩
        rw [hw2] at HB2 HK2 hsz2
        have HI := Lib.hid (ir_low x w2 hc)
        have hcm := cb_mem x
        obtain ⟨v, hv⟩ : ∃ v, Lib.indexByte [44, 125] x = v := ⟨_, rfl⟩
        rw [hv] at HI hcm
        by_cases h0 : (0 : Int) ≤ v
        · have HV : Hid (Lib.indexAny s.data.toList [44, 125] = i) := Lib.indexAny_hit HN.out HX.out (by rw [hcm]; exact decide_eq_true h0)
          clear hcm hx hv
          go_wp2_with fail
          refine HI.out.mono ?_
          rintro e w3 ⟨rfl, hb3⟩
          have HB3 := Lib.hid (HB2.out.trans (hb3.mono (by omega)))
          clear hb3
          go_wp2_with fail
          go_ret
          exact ⟨by rw [HV.out]; rfl, HB3.out⟩
        · have HN2 := Lib.hid (HN.out.succ HX.out (by rw [hcm]; exact decide_eq_false h0))
          clear hcm hx hv
          go_wp2_with fail
          refine HI.out.mono ?_
          rintro e w3 ⟨rfl, hb3⟩
          have HB3 := Lib.hid (HB2.out.trans (hb3.mono (by omega)))
          have HK3 : Hid (w3.heap[w.heap.size]? = some (.stringIter s (i + 1))) := (hb3.block _ hsz2).trans HK2.out
          have hs3 := hb3.size
          clear hb3
          go_wp2_with fail
          go_roundg g
          case measure => omega
          case rel => exact ⟨i + 1, by omega, HK3, HB3, by omega, HN2⟩
      · have hc' : 128 ≤ (s[i]'hi).toNat := by rw [hx]; omega
        obtain ⟨s1, s2⟩ := decode_span s i hi hc'
        obtain ⟨d1, d2⟩ := decode_high s i hi hc'
        have HN2 : Hid (Lib.NoAny s.data.toList [44, 125] (i + (Utf8.decode s i).2)) := by
          intro j y hj hy
          by_cases h : j < i
          · exact HN.out j y h hy
          · refine cb_high y ?_
            rw [← get_getElem s j y hy]
            exact s2 j (by omega) hj
        obtain ⟨R, hR⟩ : ∃ R, (Utf8.decode s i).1 = R := ⟨_, rfl⟩
        obtain ⟨n, hn⟩ : ∃ n, (Utf8.decode s i).2 = n := ⟨_, rfl⟩
        rw [hR, hn] at hnx
        rw [hn] at HB2 HK2 hsz2 s1 d2 HN2
        rw [hR] at d1
        obtain ⟨w2, hw2⟩ : ∃ w2, wr.iterAt w.heap.size s (i + n) = w2 := ⟨_, rfl⟩
        rw [hw2] at HB2 HK2 hsz2
        have HI := Lib.hid (ir_high R w2 d1)
        clear s2 hx hR hn
        go_wp2_with fail
        refine HI.out.mono ?_
        rintro e w3 ⟨rfl, hb3⟩
        have HB3 := Lib.hid (HB2.out.trans (hb3.mono (by omega)))
        have HK3 : Hid (w3.heap[w.heap.size]? = some (.stringIter s (i + n))) := (hb3.block _ hsz2).trans HK2.out
        have hs3 := hb3.size
        clear hb3
        go_wp2_with fail
        go_roundg (s.size - (i + n))
        case measure => omega
        case rel => exact ⟨i + n, by omega, HK3, HB3, by omega, HN2⟩
/-- the first of the two signs, in whatever bytes -/
theorem indexAny_c (l : List UInt8) (w : World) (hl : l.length < 4294967281) :
    Calls Tryd.prog 66 #[.string ⟨l.toArray⟩, .string ⟨#[44, 125]⟩] w fun e w' => e = .returned (.int .i64 (ixP l)) ∧ Below w.heap.size w w' := by
  by_cases h8 : l.length ≤ 8
  · exact indexAny_short ⟨l.toArray⟩ w (by rw [size_mk]; exact h8)
  · refine (sh.indexAny_long ⟨l.toArray⟩ cb w (by decide) (by rw [size_mk]; omega) (by rw [size_mk]; exact hl) (by decide) ?_).mono ?_
    · intro j b hb
      match j, hb with
      | 0, hb => cases hb; decide
      | 1, hb => cases hb; decide
      | j + 2, hb => simp at hb
    · rintro e w' ⟨rfl, rfl⟩
      exact ⟨rfl, ((Below.refl _ w).alloc (Nat.le_refl _) _).alloc (by simp) _⟩
end Go.Proofs.YtbgnoobgnpebdaaDoor.jdv
