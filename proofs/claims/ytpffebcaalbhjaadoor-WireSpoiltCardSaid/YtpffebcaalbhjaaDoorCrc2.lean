/- The contracts of crc.step, crc.More, crc.Sum, of the reference's shift, More, Sum, and of the fixed question: each answers the plain sum. Condition: the table of sixteen sums holds what the program's text lays. -/
import Derived.Test.YtpffebcaalbhjaaDoorCrc1
import Derived.Lib.SlBytesConst
namespace Go.Proofs.YtpffebcaalbhjaaDoor.crc
open Go.RowKit
open Go.Proofs.YtpffebcaalbhjaaDoor.oct
open Go.Lib (byteCells)

/-- the array of sixteen sums, as the text lays it -/
def Tab (w : World) : Prop := ∀ i, i < 16 → w.cell? ⟨0, i, none⟩ = some (.int .u32 ((tab.getD i 0 : Nat) : Int))
theorem Tab.below {w w' : World} (h : Tab w) (hb : Below w.heap.size w w') : Tab w' := fun i hi =>
  (hb.cell (p := ⟨0, i, none⟩) (cell_lt (h i hi))).trans (h i hi)

theorem wraps_u32 (n : Int) (h₀ : 0 ≤ n) (h₁ : n < 2 ^ 32) : IntKind.u32.wrap n = n := by rw [IntKind.wrap_u32]; omega
theorem xor_u32 (a b : Nat) (ha : a < 2 ^ 32) (hb : b < 2 ^ 32) : bits .xor .u32 (a : Int) (b : Int) = ((a ^^^ b : Nat) : Int) := xor_nat .u32 32 (by decide) wraps_u32 a b ha hb

theorem step_val (n : Nat) (hn : n < 4294967296) : bits .xor .u32 ((n : Int) / 16) ((tab[n % 16]?.getD 0 : Nat) : Int) = (shN 4 n : Nat) := by
  have h := xor_u32 (n / 16) (tab.getD (n % 16) 0) (by omega) (tab_lt _ (Nat.mod_lt _ (by decide)))
  rw [step_eq] at h
  rw [← h, Int.natCast_ediv]
  simp [List.getD]

set_option maxHeartbeats 400000 in
theorem step_c (n : Nat) (hn : n < 4294967296) (w : World) (ht : Tab w) :
    Calls Tryd.prog 63 #[.int .u32 n] w fun e w' => e = .returned (.int .u32 (shN 4 n : Nat)) ∧ w = w' := by
  have hc := ht (n % 16) (Nat.mod_lt _ (by decide))
  have HS := Lib.hid (step_val n hn)
  clear ht
  go_enter Tryd.func63, Tryd.ntmps63
  go_wp2
  go_ret
  exact ⟨ret_int HS.out, rfl⟩

theorem step_x (n : Nat) (x : Int) (hx : x = n) (hn : n < 4294967296) (w : World) (ht : Tab w) :
    Calls Tryd.prog 63 #[.int .u32 x] w fun e w' => e = .returned (.int .u32 (shN 4 n : Nat)) ∧ w = w' := by
  subst hx; exact step_c n hn w ht

theorem run_take {l : List UInt8} {c k : Nat} (h : k < l.length) : shN 4 (shN 4 (run c (l.take k) ^^^ l[k].toNat)) = run c (l.take (k + 1)) := by
  rw [List.take_succ_eq_append_getElem h, run_snoc, shN_add]; rfl
theorem flip_val (s : Nat) (hs : s < 4294967296) : bits .xor .u32 IntKind.u32.max (s : Int) = (flip s : Nat) := by
  rw [show IntKind.u32.max = ((full : Nat) : Int) from by decide]
  exact xor_u32 full s full_lt hs
theorem take_val (c : Nat) (b : UInt8) (hc : c < 4294967296) : bits .xor .u32 (c : Int) ((b.toNat : Int) % 4294967296) = ((c ^^^ b.toNat : Nat) : Int) := by
  have := b.toNat_lt
  rw [show ((b.toNat : Int) % 4294967296) = ((b.toNat : Nat) : Int) from by omega]
  exact xor_u32 c b.toNat hc (by omega)
theorem int_val {k : IntKind} {a b : Int} (h : a = b) : Value.int k a = .int k b := by rw [h]

set_option maxHeartbeats 1000000 in
theorem more_c (s : Nat) (p : Option Addr) (cp : Nat) (l : List UInt8) (w : World) (hs : s < 4294967296) (hp : In8 w p l) (ht : Tab w) (hl : l.length ≤ 9223372036854775807) :
    Calls Tryd.prog 55 #[.int .u32 s, .slice p l.length cp] w fun e w' => e = .returned (.int .u32 (more s l : Nat)) ∧ w = w' := by
  have HT := Lib.hid ht
  have HV := Lib.hid (flip_val s hs)
  clear ht
  go_enter Tryd.func55, Tryd.ntmps55
  go_wp2_with fail
  go_loop [0, 11] (fun c i => ∃ k : Nat, k ≤ l.length ∧ i = .int .i64 k ∧ c = .int .u32 (run (flip s) (l.take k) : Nat)) (fun _ i => l.length - (intOf i).toNat)
  case atStart => exact ⟨0, by omega, rfl, int_val HV.out⟩
  case round =>
    obtain ⟨k, hk, rfl, rfl⟩ := hrel
    have hr : run (flip s) (l.take k) < 4294967296 := run_lt (l.take k) (flip_lt hs)
    by_cases hlt : k < l.length
    · obtain ⟨bp, op, rfl, cp'⟩ := hp.at (by omega)
      have c1 := cp' k hlt
      have HX := Lib.hid (take_val _ l[k] hr)
      have hx : run (flip s) (l.take k) ^^^ l[k].toNat < 4294967296 := Nat.xor_lt_two_pow (n := 32) hr (byte32 _)
      have HR := Lib.hid (run_take (c := flip s) hlt)
      clear hr cp' hp
      have H1 := Lib.hid (step_x _ _ HX.out hx w HT.out)
      have H2 := Lib.hid (step_c _ (shN_lt 4 hx) w HT.out)
      rw [HR.out] at H2
      clear HX HR
      go_wp2_with fail
      refine H1.out.mono ?_
      rintro e w' ⟨rfl, rfl⟩
      go_wp2_with fail
      refine H2.out.mono ?_
      rintro e w' ⟨rfl, rfl⟩
      go_wp2_with fail
      go_round
      case rel => exact ⟨k + 1, by omega, by go_num, rfl⟩
      case measure => simp [intOf]; omega
    · have hkl : k = l.length := by omega
      have HZ : Hid (bits .xor .u32 IntKind.u32.max ((run (flip s) (l.take k) : Nat) : Int) = (more s l : Nat)) := by
        have h := flip_val _ hr
        have e : l.take k = l := List.take_of_length_le (by omega)
        rw [e] at h ⊢
        exact h
      clear hr hkl
      go_wp2_with fail
      go_ret
      exact ⟨ret_int HZ.out, rfl⟩

set_option maxHeartbeats 400000 in
theorem sum_c (p : Option Addr) (cp : Nat) (l : List UInt8) (w : World) (hp : In8 w p l) (ht : Tab w) (hl : l.length ≤ 9223372036854775807) :
    Calls Tryd.prog 33 #[.slice p l.length cp] w fun e w' => e = .returned (.int .u32 (more 0 l : Nat)) ∧ w = w' := by
  have HM := Lib.hid (more_c 0 p cp l w (by decide) hp ht hl)
  clear hp ht
  go_enter Tryd.func33, Tryd.ntmps33
  go_wp2_with (go_at_call 55; refine HM.out.mono ?_; rintro e w' ⟨rfl, rfl⟩)
  go_ret
  exact ⟨rfl, rfl⟩

theorem sumN_c (p : Option Addr) (cp N : Nat) (l : List UInt8) (w : World) (hN : l.length = N) (hp : In8 w p l) (ht : Tab w) (hl : N ≤ 9223372036854775807) :
    Calls Tryd.prog 33 #[.slice p N cp] w fun e w' => e = .returned (.int .u32 (more 0 l : Nat)) ∧ w = w' := by
  subst hN; exact sum_c p cp l w hp ht hl

theorem more_0 (p : Option Addr) (cp : Nat) (l : List UInt8) (w : World) (hp : In8 w p l) (ht : Tab w) (hl : l.length ≤ 9223372036854775807) :
    Calls Tryd.prog 55 #[.int .u32 0, .slice p l.length cp] w fun e w' => e = .returned (.int .u32 (more 0 l : Nat)) ∧ w = w' := by
  have h := more_c 0 p cp l w (by decide) hp ht hl
  rwa [show ((0 : Nat) : Int) = 0 from rfl] at h

theorem shift_val1 (n : Nat) (hn : n < 4294967296) (h : n % 2 = 1) : bits .xor .u32 ((n : Int) / 2) 2197175160 = (sh n : Nat) := by
  have e := xor_u32 (n / 2) poly (by omega) (by decide)
  have e2 : sh n = n / 2 ^^^ poly := by unfold sh; rw [if_pos h]
  rw [e2, ← e, Int.natCast_ediv]; rfl
theorem shift_val0 (n : Nat) (h : ¬ n % 2 = 1) : (n : Int) / 2 = (sh n : Nat) := by
  unfold sh; rw [if_neg h, Nat.xor_zero, Int.natCast_ediv]; rfl

set_option maxHeartbeats 400000 in
theorem shift_c (n : Nat) (hn : n < 4294967296) (w : World) :
    Calls Tryd.prog 64 #[.int .u32 n] w fun e w' => e = .returned (.int .u32 (sh n : Nat)) ∧ w = w' := by
  by_cases h : n % 2 = 1
  · have hb : ((n : Int) % 2 == 1) = true := by simp; omega
    have HS := Lib.hid (shift_val1 n hn h)
    clear h
    go_enter Tryd.func64, Tryd.ntmps64
    go_wp2
    go_ret
    exact ⟨ret_int HS.out, rfl⟩
  · have hb : ((n : Int) % 2 == 1) = false := by simp; omega
    have HS := Lib.hid (shift_val0 n h)
    clear h
    go_enter Tryd.func64, Tryd.ntmps64
    go_wp2
    go_ret
    exact ⟨ret_int HS.out, rfl⟩

theorem run_take8 {l : List UInt8} {c k : Nat} (h : k < l.length) : shN 8 (run c (l.take k) ^^^ l[k].toNat) = run c (l.take (k + 1)) := by
  rw [List.take_succ_eq_append_getElem h, run_snoc]; rfl
theorem shN_snoc (n c : Nat) : sh (shN n c) = shN (n + 1) c := by rw [show sh (shN n c) = shN 1 (shN n c) from rfl, shN_add]

set_option maxHeartbeats 1000000 in
theorem rmore_c (s : Nat) (p : Option Addr) (cp : Nat) (l : List UInt8) (w : World) (hs : s < 4294967296) (hp : In8 w p l) (hl : l.length ≤ 9223372036854775807) :
    Calls Tryd.prog 56 #[.int .u32 s, .slice p l.length cp] w fun e w' => e = .returned (.int .u32 (more s l : Nat)) ∧ w = w' := by
  have HV := Lib.hid (flip_sub hs)
  go_enter Tryd.func56, Tryd.ntmps56
  go_wp2_with fail
  go_loop [5, 6] (fun c i => ∃ k : Nat, k ≤ l.length ∧ i = .int .i64 k ∧ c = .int .u32 (run (flip s) (l.take k) : Nat)) (fun _ i => l.length - (intOf i).toNat)
  case atStart => exact ⟨0, by omega, rfl, int_val (by show _ = ((flip s : Nat) : Int); have := HV.out; omega)⟩
  case round =>
    obtain ⟨k, hk, rfl, rfl⟩ := hrel
    have hr : run (flip s) (l.take k) < 4294967296 := run_lt (l.take k) (flip_lt hs)
    by_cases hlt : k < l.length
    · obtain ⟨bp, op, rfl, cp'⟩ := hp.at (by omega)
      have c1 := cp' k hlt
      have HX := Lib.hid (take_val _ l[k] hr)
      have hx : run (flip s) (l.take k) ^^^ l[k].toNat < 4294967296 := Nat.xor_lt_two_pow (n := 32) hr (byte32 _)
      have HR := Lib.hid (run_take8 (c := flip s) hlt)
      clear hr cp' hp
      go_wp2_with fail
      go_loop [5, 7] (fun c i => ∃ j : Nat, j ≤ 8 ∧ i = .int .i64 j ∧ c = .int .u32 (shN j (run (flip s) (l.take k) ^^^ l[k].toNat) : Nat)) (fun _ i => 8 - (intOf i).toNat)
      case atStart => exact ⟨0, by omega, rfl, int_val HX.out⟩
      case round =>
        obtain ⟨j, hj, rfl, rfl⟩ := hrel
        have hy := shN_lt j hx
        by_cases hj8 : j < 8
        · go_wp2_with (go_at_call 64; refine (shift_c _ hy _).mono ?_; rintro e w' ⟨rfl, rfl⟩)
          go_round
          case rel => exact ⟨j + 1, by omega, by go_num, int_val (by rw [shN_snoc])⟩
          case measure => simp [intOf]; omega
        · obtain rfl : j = 8 := by omega
          rw [HR.out]
          go_wp2_with fail
          go_round
          case rel => exact ⟨k + 1, by omega, by go_num, rfl⟩
          case measure => simp [intOf]; omega
    · have hkl : k = l.length := by omega
      have HZ : Hid ((4294967295 : Int) - ((run (flip s) (l.take k) : Nat) : Int) = (more s l : Nat)) := by
        have h := flip_sub hr
        have e : l.take k = l := List.take_of_length_le (by omega)
        rw [e] at h hr ⊢
        have h2 : more s l = 4294967295 - run (flip s) l := h
        show _ = _
        omega
      clear hkl
      go_wp2_with fail
      go_ret
      exact ⟨ret_int HZ.out, rfl⟩

set_option maxHeartbeats 400000 in
theorem rsum_c (p : Option Addr) (cp : Nat) (l : List UInt8) (w : World) (hp : In8 w p l) (hl : l.length ≤ 9223372036854775807) :
    Calls Tryd.prog 36 #[.slice p l.length cp] w fun e w' => e = .returned (.int .u32 (more 0 l : Nat)) ∧ w = w' := by
  have HM := Lib.hid (rmore_c 0 p cp l w (by decide) hp hl)
  clear hp
  go_enter Tryd.func36, Tryd.ntmps36
  go_wp2_with (go_at_call 56; refine HM.out.mono ?_; rintro e w' ⟨rfl, rfl⟩)
  go_ret
  exact ⟨rfl, rfl⟩

theorem known1 : more 0 [49, 50, 51, 52, 53, 54, 55, 56, 57] = 3808858755 := by decide +kernel
theorem known2 : more 0 [0] = 1383945041 := by decide +kernel

theorem in8_mark (w : World) (cs : Array Value) (fr : Nat × Nat) (l : List UInt8) (h : cs = (byteCells l).toArray) : In8 (w.alloc (.cells cs 5 fr)) (some ⟨w.heap.size, 0, none⟩) l := by
  intro _
  refine ⟨w.heap.size, 0, rfl, fun i hi => ?_⟩
  rw [Nat.zero_add, World.cell?_alloc_mark w cs 5 fr i, h]
  simp [byteCells, List.getD, List.getElem?_eq_getElem hi]
theorem k1 (w : World) (ht : Tab w) (fr : Nat × Nat) : Calls Tryd.prog 33 #[.slice (some ⟨w.heap.size, 0, none⟩) 9 9] (w.alloc (.cells #[.int .u8 49, .int .u8 50, .int .u8 51, .int .u8 52, .int .u8 53, .int .u8 54, .int .u8 55, .int .u8 56, .int .u8 57] 5 fr)) fun e w' =>
    e = .returned (.int .u32 3808858755) ∧ w.alloc (.cells #[.int .u8 49, .int .u8 50, .int .u8 51, .int .u8 52, .int .u8 53, .int .u8 54, .int .u8 55, .int .u8 56, .int .u8 57] 5 fr) = w' := by
  have h := sum_c (some ⟨w.heap.size, 0, none⟩) 9 [49, 50, 51, 52, 53, 54, 55, 56, 57] _ (in8_mark w #[.int .u8 49, .int .u8 50, .int .u8 51, .int .u8 52, .int .u8 53, .int .u8 54, .int .u8 55, .int .u8 56, .int .u8 57] fr [49, 50, 51, 52, 53, 54, 55, 56, 57] rfl) (ht.below ((Below.refl _ _).alloc (Nat.le_refl _) _)) (by decide)
  rwa [known1] at h
theorem k2 (w : World) (g : Nat) (hg : g = w.heap.size) (ht : Tab w) : Calls Tryd.prog 33 #[.slice (some ⟨g, 0, none⟩) 1 1] (w.alloc (.cells #[.int .u8 0] 5)) fun e w' =>
    e = .returned (.int .u32 1383945041) ∧ w.alloc (.cells #[.int .u8 0] 5) = w' := by
  subst hg
  have h := sum_c (some ⟨w.heap.size, 0, none⟩) 1 [0] _ (in8_new w #[.int .u8 0] [0] rfl) (ht.below ((Below.refl _ _).alloc (Nat.le_refl _) _)) (by decide)
  rwa [known2] at h

end Go.Proofs.YtpffebcaalbhjaaDoor.crc
