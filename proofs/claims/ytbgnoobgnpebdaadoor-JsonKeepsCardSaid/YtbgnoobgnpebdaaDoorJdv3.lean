/- The frame of the developers' reader (one block may turn: RK), and the contracts of its steps took, take, next, four, giveUp. No condition beside the block's. -/
import Derived.Test.YtbgnoobgnpebdaaDoorJdv2
import Derived.Test.YtbgnoobgnpebdaaDoorShJsn
namespace Go.Proofs.YtbgnoobgnpebdaaDoor.jdv
open Go.RowKit
open Go.Proofs.YtbgnoobgnpebdaaDoor.oct Go.Proofs.YtbgnoobgnpebdaaDoor.ref Go.Proofs.YtbgnoobgnpebdaaDoor.rows Go.Proofs.YtbgnoobgnpebdaaDoor.rowg Go.Proofs.YtbgnoobgnpebdaaDoor.jsn
open Go.Lib (byteCells hasPrefix trimPrefix)

/-- but for block b all that was there stands -/
structure RK (b : Nat) (w w' : World) : Prop where
  os : w'.os = w.os
  tape : w'.tape = w.tape
  output : w'.output = w.output
  size : w.heap.size ≤ w'.heap.size
  block : ∀ k, k < w.heap.size → k ≠ b → w'.heap[k]? = w.heap[k]?
theorem RK.refl (b : Nat) (w : World) : RK b w w := ⟨rfl, rfl, rfl, Nat.le_refl _, fun _ _ _ => rfl⟩
theorem RK.trans {b : Nat} {u v w : World} (h : RK b u v) (k : RK b v w) : RK b u w :=
  ⟨k.os.trans h.os, k.tape.trans h.tape, k.output.trans h.output, Nat.le_trans h.size k.size, fun i hi hb => (k.block i (Nat.lt_of_lt_of_le hi h.size) hb).trans (h.block i hi hb)⟩
theorem RK.of_below {b : Nat} {u v : World} (h : Below u.heap.size u v) : RK b u v := ⟨h.os, h.tape, h.output, h.size, fun k hk _ => h.block k hk⟩
theorem RK.set (b : Nat) (w : World) (v : Value) : RK b w (w.setCell ⟨b, 0, none⟩ v) := ⟨rfl, rfl, rfl, by simp [World.setCell], fun k _ hb => Below.heap_setCell _ _ _ _ hb⟩
theorem RK.drewN {b : Nat} {u v : World} (h : RK b u v) (n : Nat) : RK b u (v.drewN n) := h.trans ⟨rfl, rfl, rfl, Nat.le_refl _, fun _ _ _ => rfl⟩
theorem RK.blk {b g e : Nat} {u v : World} {X : List Value} (h : RK b u v) (hg : Blk u g e X) (hb : g ≠ b) : Blk v g e X := (h.block g hg.lt hb).trans hg
theorem RK.below {b B : Nat} {u v : World} (h : RK b u v) (hB : B ≤ u.heap.size) (hb : B ≤ b) : Below B u v := ⟨h.os, h.tape, h.output, h.size, fun k hk => h.block k (by omega) (by omega)⟩
/-- block b is the reader; this is what is left -/
def Rd (w : World) (b : Nat) (l : List UInt8) : Prop := Blk w b 60 [.string ⟨l.toArray⟩]
theorem Rd.cell {w : World} {b : Nat} {l : List UInt8} (h : Rd w b l) : w.cell? ⟨b, 0, none⟩ = some (.string ⟨l.toArray⟩) := Blk.cell h 0
theorem Rd.fr {w : World} {b : Nat} {l : List UInt8} (h : Rd w b l) : w.frozen? ⟨b, 0, none⟩ = false := Blk.frozen h 0
theorem Rd.set {w : World} {b : Nat} {l : List UInt8} (h : Rd w b l) (m : List UInt8) : Rd (w.setCell ⟨b, 0, none⟩ (.string ⟨m.toArray⟩)) b m := Blk.set h 0 _
theorem Rd.below {w w' : World} {b : Nat} {l : List UInt8} (h : Rd w b l) (hb : Below w.heap.size w w') : Rd w' b l := Blk.below h hb
theorem Rd.drewN {w : World} {b : Nat} {l : List UInt8} (h : Rd w b l) (n : Nat) : Rd (w.drewN n) b l := Blk.drewN h n
theorem Rd.lt {w : World} {b : Nat} {l : List UInt8} (h : Rd w b l) : b < w.heap.size := Blk.lt h
/-- the panic of a reader that gives up -/
def GU : Ending := .panicked [{ v := .iface 23 (.int .i64 3), recovered := false }]

theorem giveUp_c (w : World) : Calls Tryd.prog 42 #[] w fun e w' => e = .panicked [{ v := .iface 23 (.int .i64 3), recovered := false }] ∧ w = w' := by
  go_enter Tryd.func42, Tryd.ntmps42
  go_wp2
  exact ⟨rfl, rfl, rfl⟩

theorem mk_toList (l : List UInt8) : (⟨l.toArray⟩ : ByteArray).data.toList = l := by simp
set_option maxHeartbeats 1000000 in
theorem took_c (b : Nat) (l p : List UInt8) (w : World) (hr : Rd w b l) :
    Calls Tryd.prog 52 #[.pointer (some ⟨b, 0, none⟩), .string ⟨p.toArray⟩] w fun e w' => e = .returned (.bool (hasPrefix l p)) ∧ w' = w.setCell ⟨b, 0, none⟩ (.string ⟨(trimPrefix l p).toArray⟩) := by
  have c0 := hr.cell
  have f0 := hr.fr
  have HC := fun w => sh.cutPrefix ⟨l.toArray⟩ ⟨p.toArray⟩ w
  simp only at HC
  have HC' := Lib.hid HC
  clear HC hr
  go_enter Tryd.func52, Tryd.ntmps52
  go_wp2_with (go_at_call 56; refine (HC'.out _).mono ?_; rintro e w1 ⟨rfl, rfl⟩)
  go_ret
  exact ⟨rfl, rfl⟩
theorem took_yes (b : Nat) (l p : List UInt8) (w : World) (hr : Rd w b l) (h : hasPrefix l p = true) :
    Calls Tryd.prog 52 #[.pointer (some ⟨b, 0, none⟩), .string ⟨p.toArray⟩] w fun e w' => e = .returned (.bool true) ∧ RK b w w' ∧ Rd w' b (l.drop p.length) :=
  (took_c b l p w hr).mono fun e w' ⟨he, hw⟩ => ⟨by rw [he, h], by rw [hw]; exact RK.set _ _ _, by rw [hw, trimPrefix, if_pos h]; exact hr.set _⟩
theorem took_no (b : Nat) (l p : List UInt8) (w : World) (hr : Rd w b l) (h : hasPrefix l p = false) :
    Calls Tryd.prog 52 #[.pointer (some ⟨b, 0, none⟩), .string ⟨p.toArray⟩] w fun e w' => e = .returned (.bool false) ∧ RK b w w' ∧ Rd w' b l :=
  (took_c b l p w hr).mono fun e w' ⟨he, hw⟩ => ⟨by rw [he, h], by rw [hw]; exact RK.set _ _ _, by rw [hw, trimPrefix, if_neg (by rw [h]; decide)]; exact hr.set _⟩
set_option maxHeartbeats 1000000 in
theorem take_yes (b : Nat) (l p : List UInt8) (w : World) (hr : Rd w b l) (h : hasPrefix l p = true) :
    Calls Tryd.prog 40 #[.pointer (some ⟨b, 0, none⟩), .string ⟨p.toArray⟩] w fun e w' => e = .returned (.tuple #[]) ∧ RK b w w' ∧ Rd w' b (l.drop p.length) := by
  have HC := Lib.hid (took_yes b l p w hr h)
  clear hr h
  go_enter Tryd.func40, Tryd.ntmps40
  go_wp2_with (go_at_call 52; refine HC.out.mono ?_; rintro e w1 ⟨rfl, h1⟩)
  first | go_end0 | refine bodyPost_ret (results_none rfl _ _ _) rfl ?_
  exact ⟨rfl, h1⟩
set_option maxHeartbeats 1000000 in
theorem take_no (b : Nat) (l p : List UInt8) (w : World) (hr : Rd w b l) (h : hasPrefix l p = false) :
    Calls Tryd.prog 40 #[.pointer (some ⟨b, 0, none⟩), .string ⟨p.toArray⟩] w fun e w' => e = .panicked [{ v := .iface 23 (.int .i64 3), recovered := false }] ∧ RK b w w' := by
  have HC := Lib.hid (took_no b l p w hr h)
  clear hr h
  go_enter Tryd.func40, Tryd.ntmps40
  go_wp2_with (first | (go_at_call 52; refine HC.out.mono ?_; rintro e w1 ⟨rfl, h1⟩) | (go_at_call 42; refine (giveUp_c _).mono ?_; rintro e w2 ⟨rfl, rfl⟩))
  exact ⟨rfl, rfl, h1.1⟩
theorem mk_size (l : List UInt8) : (⟨l.toArray⟩ : ByteArray).size = l.length := size_mk l
theorem mk_extract (l : List UInt8) (n : Nat) : (⟨l.toArray⟩ : ByteArray).extract n l.length = ⟨(l.drop n).toArray⟩ := by
  rw [Lib.extract_eq, mk_toList, List.take_of_length_le (by rw [List.length_drop]; omega)]
theorem mk_take (l : List UInt8) (n : Nat) : (⟨l.toArray⟩ : ByteArray).extract 0 n = ⟨(l.take n).toArray⟩ := by
  rw [Lib.extract_eq, mk_toList, List.drop_zero, Nat.sub_zero]
theorem mk_empty (l : List UInt8) : (⟨l.toArray⟩ : ByteArray).toList = l := by rw [Lib.toList_data]
set_option maxHeartbeats 1000000 in
/-- the next sign -/
theorem next_some (b : Nat) (c : UInt8) (r : List UInt8) (w : World) (hr : Rd w b (c :: r)) (hl : r.length ≤ 140737488351232) :
    Calls Tryd.prog 74 #[.pointer (some ⟨b, 0, none⟩)] w fun e w' => e = .returned (.int .u8 (c.toNat : Int)) ∧ RK b w w' ∧ Rd w' b r := by
  have c0 := hr.cell
  have f0 := hr.fr
  have hS : (⟨(c :: r).toArray⟩ : ByteArray).size = r.length + 1 := by rw [size_mk]; rfl
  have hx : (⟨(c :: r).toArray⟩ : ByteArray)[0]'(by omega) = c := rfl
  have HD : Hid ((⟨(c :: r).toArray⟩ : ByteArray).extract 1 (⟨(c :: r).toArray⟩ : ByteArray).size = ⟨r.toArray⟩) := by
    show _ = _
    rw [mk_size, mk_extract]
    rfl
  have HL : (⟨(c :: r).toArray⟩ : ByteArray).toList.isEmpty = false := by rw [mk_empty]; rfl
  have HR := Lib.hid hr
  clear hr
  obtain ⟨S, hSS⟩ : ∃ S, (⟨(c :: r).toArray⟩ : ByteArray) = S := ⟨_, rfl⟩
  have HS1 : 1 ≤ S.size := by rw [← hSS, hS]; omega
  have HS2 : (S.size : Int) ≤ 140737488351233 := by rw [← hSS, hS]; omega
  have hx' : S[0]'(by omega) = c := by subst hSS; exact hx
  rw [hSS] at c0 HD HL
  clear hS hx
  go_enter Tryd.func74, Tryd.ntmps74
  go_wp2
  go_ret
  refine ⟨rfl, RK.set _ _ _, ?_⟩
  rw [HD.out]
  exact HR.out.set r
set_option maxHeartbeats 1000000 in
theorem next_none (b : Nat) (w : World) (hr : Rd w b []) :
    Calls Tryd.prog 74 #[.pointer (some ⟨b, 0, none⟩)] w fun e w' => e = .panicked [{ v := .iface 23 (.int .i64 3), recovered := false }] ∧ RK b w w' := by
  have c0 := hr.cell
  have f0 := hr.fr
  clear hr
  go_enter Tryd.func74, Tryd.ntmps74
  go_wp2_with (go_at_call 42; refine (giveUp_c _).mono ?_; rintro e w2 ⟨rfl, rfl⟩)
  exact ⟨rfl, rfl, RK.refl _ _⟩
theorem hexIx : ∀ n : Nat, n < 256 → Lib.indexByte [48, 49, 50, 51, 52, 53, 54, 55, 56, 57, 97, 98, 99, 100, 101, 102] (UInt8.ofNat n) = if worth (UInt8.ofNat n) < 16 then (worth (UInt8.ofNat n) : Int) else -1 := by decide +kernel
theorem hexIx' (c : UInt8) : Lib.indexByte [48, 49, 50, 51, 52, 53, 54, 55, 56, 57, 97, 98, 99, 100, 101, 102] c = if worth c < 16 then (worth c : Int) else -1 := by
  have := hexIx c.toNat c.toNat_lt
  rwa [UInt8.ofNat_toNat] at this
theorem hex_c (c : UInt8) (w : World) : Calls Tryd.prog 83 #[.string ⟨#[48, 49, 50, 51, 52, 53, 54, 55, 56, 57, 97, 98, 99, 100, 101, 102]⟩, .int .u8 (c.toNat : Int)] w fun e w' => e = .returned (.int .i64 (if worth c < 16 then (worth c : Int) else -1)) ∧ w' = w := by
  refine (sh.indexByte _ _ w).mono ?_
  rintro e w' ⟨rfl, rfl⟩
  refine ⟨?_, rfl⟩
  rw [← hexIx']
  simp
set_option maxHeartbeats 1000000 in
/-- four bits: the worth of the next sign -/
theorem four_some (b : Nat) (c : UInt8) (r : List UInt8) (w : World) (hr : Rd w b (c :: r)) (hl : r.length ≤ 140737488351232) (hw : worth c < 16) :
    Calls Tryd.prog 73 #[.pointer (some ⟨b, 0, none⟩)] w fun e w' => e = .returned (.int .u8 (worth c : Int)) ∧ RK b w w' ∧ Rd w' b r := by
  have HN := Lib.hid (next_some b c r w hr hl)
  have hx := fun w => hex_c c w
  simp only [if_pos hw] at hx
  have HX := Lib.hid hx
  have h0 : (0 : Int) ≤ (worth c : Int) := by omega
  have h1 : (worth c : Int) < 16 := by omega
  clear hr hx hw
  obtain ⟨n, hn⟩ : ∃ n, worth c = n := ⟨_, rfl⟩
  rw [hn] at h0 h1 HX ⊢
  have hcv : IntKind.u8.wrap (n : Int) = (n : Int) := by rw [IntKind.wrap_u8]; omega
  clear hn
  go_enter Tryd.func73, Tryd.ntmps73
  go_wp2_with (first | (go_at_call 74; refine HN.out.mono ?_; rintro e w1 ⟨rfl, hk⟩) | (go_at_call 83; refine (HX.out _).mono ?_; rintro e w2 ⟨rfl, rfl⟩))
  go_ret
  exact ⟨rfl, hk⟩
set_option maxHeartbeats 1000000 in
theorem four_bad (b : Nat) (c : UInt8) (r : List UInt8) (w : World) (hr : Rd w b (c :: r)) (hl : r.length ≤ 140737488351232) (hw : ¬ worth c < 16) :
    Calls Tryd.prog 73 #[.pointer (some ⟨b, 0, none⟩)] w fun e w' => e = .panicked [{ v := .iface 23 (.int .i64 3), recovered := false }] ∧ RK b w w' := by
  have HN := Lib.hid (next_some b c r w hr hl)
  have hx := fun w => hex_c c w
  simp only [if_neg hw] at hx
  have HX := Lib.hid hx
  clear hr hx hw
  go_enter Tryd.func73, Tryd.ntmps73
  go_wp2_with (first | (go_at_call 74; refine HN.out.mono ?_; rintro e w1 ⟨rfl, hk⟩) | (go_at_call 83; refine (HX.out _).mono ?_; rintro e w2 ⟨rfl, rfl⟩) | (go_at_call 42; refine (giveUp_c _).mono ?_; rintro e w2 ⟨rfl, rfl⟩))
  exact ⟨rfl, rfl, hk.1⟩
set_option maxHeartbeats 1000000 in
theorem four_none (b : Nat) (w : World) (hr : Rd w b []) :
    Calls Tryd.prog 73 #[.pointer (some ⟨b, 0, none⟩)] w fun e w' => e = .panicked [{ v := .iface 23 (.int .i64 3), recovered := false }] ∧ RK b w w' := by
  have HN := Lib.hid (next_none b w hr)
  clear hr
  go_enter Tryd.func73, Tryd.ntmps73
  go_wp2_with (go_at_call 74; refine HN.out.mono ?_; rintro e w1 ⟨rfl, hk⟩)
  exact ⟨rfl, rfl, hk⟩
/-- as the plain reader says -/
theorem four_yes (b : Nat) (l r : List UInt8) (n : Nat) (w : World) (hr : Rd w b l) (hl : l.length ≤ 140737488351232) (h : fourP l = some (n, r)) :
    Calls Tryd.prog 73 #[.pointer (some ⟨b, 0, none⟩)] w fun e w' => e = .returned (.int .u8 (n : Int)) ∧ RK b w w' ∧ Rd w' b r := by
  obtain ⟨x, rfl, rfl, hn⟩ := fourP_some h
  exact four_some b x r w hr (by simp at hl; omega) hn
theorem four_no (b : Nat) (l : List UInt8) (w : World) (hr : Rd w b l) (hl : l.length ≤ 140737488351232) (h : fourP l = none) :
    Calls Tryd.prog 73 #[.pointer (some ⟨b, 0, none⟩)] w fun e w' => e = .panicked [{ v := .iface 23 (.int .i64 3), recovered := false }] ∧ RK b w w' := by
  cases l with
  | nil => exact four_none b w hr
  | cons c r =>
    refine four_bad b c r w hr (by simp at hl; omega) (fun hw => ?_)
    rw [fourP_cons, if_pos hw] at h
    cases h
end Go.Proofs.YtbgnoobgnpebdaaDoor.jdv
