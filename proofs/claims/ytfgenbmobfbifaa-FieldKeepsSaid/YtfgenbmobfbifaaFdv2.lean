/- The contracts of the developers' worth and first: what a sign by sixteen says, the byte that a text begins with, unquoted. No condition. -/
import Derived.Test.YtfgenbmobfbifaaFdv1
namespace Go.Proofs.Ytfgenbmobfbifaa.fdv
open Go.RowKit
open Go.Proofs.Ytfgenbmobfbifaa.oct Go.Proofs.Ytfgenbmobfbifaa.ref Go.Proofs.Ytfgenbmobfbifaa.fld
open Go.Lib (byteCells)

def hexL : List UInt8 := [48, 49, 50, 51, 52, 53, 54, 55, 56, 57, 65, 66, 67, 68, 69, 70]
def wI (c : UInt8) : Int := if worth c < 16 then (worth c : Int) else -1
theorem hex_low (c : UInt8) : 97 ≤ c.toNat ∧ c.toNat ≤ 102 → Lib.indexByte hexL (((c.toNat : Int) - 32).toNat.toUInt8) = wI c := by
  revert c
  exact fun c => all_bytes (p := fun c => 97 ≤ c.toNat ∧ c.toNat ≤ 102 → Lib.indexByte hexL (((c.toNat : Int) - 32).toNat.toUInt8) = wI c) (by decide +kernel) c
theorem hex_else (c : UInt8) : ¬ (97 ≤ c.toNat ∧ c.toNat ≤ 102) → Lib.indexByte hexL c = wI c := by
  revert c
  exact fun c => all_bytes (p := fun c => ¬ (97 ≤ c.toNat ∧ c.toNat ≤ 102) → Lib.indexByte hexL c = wI c) (by decide +kernel) c
set_option maxHeartbeats 1000000 in
theorem dworth_c (c : UInt8) (w : World) : Calls Try.prog 42 #[.int .u8 (c.toNat : Int)] w fun e w' => e = .returned (.int .i64 (wI c)) ∧ w = w' := by
  have hc := c.toNat_lt
  by_cases h : 97 ≤ c.toNat ∧ c.toNat ≤ 102
  · have HI : Hid (∀ w, Calls Try.prog 39 #[.string ⟨hexL.toArray⟩, .int .u8 ((c.toNat : Int) - 32)] w fun e w' => e = .returned (.int .i64 (wI c)) ∧ w' = w) := fun w => by
      have := sh.indexByte ⟨hexL.toArray⟩ ((c.toNat : Int) - 32) w
      rw [show (⟨hexL.toArray⟩ : ByteArray).data.toList = hexL from rfl, hex_low c h] at this
      exact this
    obtain ⟨h1, h2⟩ := h
    obtain ⟨n, hn⟩ : ∃ n, c.toNat = n := ⟨_, rfl⟩
    rw [hn] at h1 h2 hc HI ⊢
    clear hn
    have i1 : (97 : Int) ≤ (n : Int) := by omega
    have i2 : (n : Int) ≤ 102 := by omega
    go_enter Try.func42, Try.ntmps42
    go_wp2_with (go_at_call 39; refine (HI.out _).mono ?_; rintro e w' ⟨rfl, rfl⟩)
    go_ret
    exact ⟨rfl, rfl⟩
  · have HI : Hid (∀ w, Calls Try.prog 39 #[.string ⟨hexL.toArray⟩, .int .u8 (c.toNat : Int)] w fun e w' => e = .returned (.int .i64 (wI c)) ∧ w' = w) := fun w => by
      have := sh.indexByte ⟨hexL.toArray⟩ (c.toNat : Int) w
      rw [show (⟨hexL.toArray⟩ : ByteArray).data.toList = hexL from rfl, show (c.toNat : Int).toNat.toUInt8 = c by simp, hex_else c h] at this
      exact this
    obtain ⟨n, hn⟩ : ∃ n, c.toNat = n := ⟨_, rfl⟩
    rw [hn] at h hc HI ⊢
    clear hn
    by_cases h1 : 97 ≤ n
    · have i1 : (97 : Int) ≤ (n : Int) := by omega
      have i2 : ¬ ((n : Int) ≤ 102) := by omega
      go_enter Try.func42, Try.ntmps42
      go_wp2_with (go_at_call 39; refine (HI.out _).mono ?_; rintro e w' ⟨rfl, rfl⟩)
      go_ret
      exact ⟨rfl, rfl⟩
    · have i1 : ¬ ((97 : Int) ≤ (n : Int)) := by omega
      go_enter Try.func42, Try.ntmps42
      go_wp2_with (go_at_call 39; refine (HI.out _).mono ?_; rintro e w' ⟨rfl, rfl⟩)
      go_ret
      exact ⟨rfl, rfl⟩

/-- what two signs by sixteen say -/
def fstP : List UInt8 → Option (UInt8 × Nat)
  | a :: b :: _ => if worth a < 16 ∧ worth b < 16 then some (UInt8.ofNat (16 * worth a + worth b), 3) else none
  | _ => none
/-- the byte that a text begins with, and how many signs say it -/
def fst : List UInt8 → Option (UInt8 × Nat)
  | [] => none
  | c :: r => if c.toNat < 33 ∨ 126 < c.toNat then none else if c = 43 then some (32, 1) else if c = 37 then fstP r else some (c, 1)
theorem fst_cons (c : UInt8) (r : List UInt8) : fst (c :: r) = if c.toNat < 33 ∨ 126 < c.toNat then none else if c = 43 then some (32, 1) else if c = 37 then fstP r else some (c, 1) := rfl
theorem fstP_two (a b : UInt8) (r : List UInt8) : fstP (a :: b :: r) = if worth a < 16 ∧ worth b < 16 then some (UInt8.ofNat (16 * worth a + worth b), 3) else none := rfl
theorem fstP_short (r : List UInt8) (h : r.length < 2) : fstP r = none := by
  match r, h with
  | [], _ => rfl
  | [_], _ => rfl
theorem unq_fst (c : UInt8) (r : List UInt8) : unq (c :: r) = match fst (c :: r) with | none => none | some x => (unq ((c :: r).drop x.2)).map (x.1 :: ·) := by
  by_cases h1 : c.toNat < 33 ∨ 126 < c.toNat
  · rw [unq_bad h1, fst_cons, if_pos h1]
  · by_cases h3 : c = 37
    · subst h3
      rw [fst_cons, if_neg h1, if_neg (by decide), if_pos rfl]
      match r with
      | [] => rw [unq_pct_end (by decide)]; rfl
      | [x] => rw [unq_pct_end (by simp)]; rfl
      | a :: b :: r' =>
        by_cases h4 : worth a < 16 ∧ worth b < 16
        · rw [unq_pct h4.1 h4.2, fstP_two, if_pos h4]; rfl
        · rw [unq_pct_bad h4, fstP_two, if_neg h4]
    · rw [unq_else h1 h3, fst_cons, if_neg h1]
      by_cases h2 : c = 43
      · rw [if_pos h2, if_pos h2]; rfl
      · rw [if_neg h2, if_neg h2, if_neg h3]; rfl
theorem fst_len (l : List UInt8) (x : UInt8 × Nat) (h : fst l = some x) : 1 ≤ x.2 ∧ x.2 ≤ l.length ∧ x.2 ≤ 3 := by
  match l, h with
  | c :: r, h =>
    rw [fst_cons] at h
    by_cases h1 : c.toNat < 33 ∨ 126 < c.toNat
    · rw [if_pos h1] at h; cases h
    · rw [if_neg h1] at h
      by_cases h2 : c = 43
      · rw [if_pos h2] at h; cases h; exact ⟨by simp, by simp, by simp⟩
      · rw [if_neg h2] at h
        by_cases h3 : c = 37
        · rw [if_pos h3] at h
          match r, h with
          | a :: b :: r', h =>
            rw [fstP_two] at h
            by_cases h4 : worth a < 16 ∧ worth b < 16
            · rw [if_pos h4] at h; cases h; exact ⟨by simp, by simp, by simp⟩
            · rw [if_neg h4] at h; cases h
        · rw [if_neg h3] at h; cases h; exact ⟨by simp, by simp, by simp⟩
theorem or_hex : ∀ x : Fin 16, ∀ y : Fin 16, bits BinOp.or IntKind.i64 ((x.val : Int) * 16) (y.val : Int) % 256 = ((UInt8.ofNat (16 * x.val + y.val)).toNat : Int) := by decide +kernel
def fstV : Option (UInt8 × Nat) → Value
  | none => .tuple #[.int .u8 0, .int .i64 0]
  | some x => .tuple #[.int .u8 (x.1.toNat : Int), .int .i64 (x.2 : Int)]
theorem dworth_q (c : UInt8) (m : Int) (hm : m = (c.toNat : Int)) (w : World) : Calls Try.prog 42 #[.int .u8 m] w fun e w' => e = .returned (.int .i64 (wI c)) ∧ w' = w := by
  subst hm; exact (dworth_c c w).mono fun e w' ⟨a, b⟩ => ⟨a, b.symm⟩
set_option maxRecDepth 100000 in
set_option maxHeartbeats 2000000 in
theorem first_c (s : ByteArray) (w : World) (hs : s.size ≤ 140737488351232) (h0 : 0 < s.size) : Calls Try.prog 31 #[.string s] w fun e w' => e = .returned (fstV (fst s.data.toList)) ∧ ∃ n, w' = w.drewN n := by
  have hsl : s.data.toList.length = s.size := by rw [Array.length_toList]; rfl
  obtain ⟨c, hc⟩ : ∃ c, s[0] = c := ⟨_, rfl⟩
  have hd := drop_text s 0 h0
  rw [hc] at hd
  simp only [List.drop_zero, Nat.zero_add] at hd
  have hcl := c.toNat_lt
  have hcc : (s[0].toNat : Int) = (c.toNat : Int) := by rw [hc]
  by_cases hbad : c.toNat < 33 ∨ 126 < c.toNat
  · have HR : Hid (fst s.data.toList = none) := by show _ = _; rw [hd, fst_cons, if_pos hbad]
    clear hd hsl hc
    by_cases h : c.toNat < 33
    · have i1 : (c.toNat : Int) < 33 := by omega
      go_enter Try.func31, Try.ntmps31
      go_wp2_with fail
      go_ret2
      exact ⟨by rw [HR.out]; rfl, 0, rfl⟩
    · have i1 : ¬ ((c.toNat : Int) < 33) := by omega
      have i2 : (c.toNat : Int) > 126 := by omega
      go_enter Try.func31, Try.ntmps31
      go_wp2_with fail
      go_ret2
      exact ⟨by rw [HR.out]; rfl, 0, rfl⟩
  · have i1 : ¬ ((c.toNat : Int) < 33) := by omega
    have i2 : ¬ ((c.toNat : Int) > 126) := by omega
    by_cases h43 : c = 43
    · have HR : Hid (fst s.data.toList = some (32, 1)) := by show _ = _; rw [hd, fst_cons, if_neg hbad, if_pos h43]
      have hb43 : ((c.toNat : Int) == 43) = true := by rw [h43]; rfl
      clear hd hsl hc hbad h43
      go_enter Try.func31, Try.ntmps31
      go_wp2_with fail
      go_ret2
      exact ⟨by rw [HR.out]; rfl, 0, rfl⟩
    · have hb43 : ((c.toNat : Int) == 43) = false := ne_byte h43
      by_cases h37 : c = 37
      · have hb37 : ((c.toNat : Int) != 37) = false := by rw [h37]; rfl
        by_cases hend : s.size < 3
        · have HR : Hid (fst s.data.toList = none) := by
            show _ = _
            rw [hd, fst_cons, if_neg hbad, if_neg h43, if_pos h37, fstP_short _ (by rw [List.length_drop, hsl]; omega)]
          have hE : (s.size : Int) < 3 := by omega
          clear hd hsl hc hbad h43 h37
          go_enter Try.func31, Try.ntmps31
          go_wp2_with fail
          go_ret2
          exact ⟨by rw [HR.out]; rfl, 0, rfl⟩
        · have hE : ¬ ((s.size : Int) < 3) := by omega
          have hk1 : 1 < s.size := Nat.lt_of_lt_of_le (by decide) (Nat.le_of_not_lt hend)
          have hk2 : 2 < s.size := Nat.lt_of_lt_of_le (by decide) (Nat.le_of_not_lt hend)
          have hd1 := drop_text s 1 hk1
          have hd2 := drop_text s 2 hk2
          obtain ⟨a, ha⟩ : ∃ a, s[1] = a := ⟨_, rfl⟩
          obtain ⟨b, hb⟩ : ∃ b, s[2] = b := ⟨_, rfl⟩
          rw [ha] at hd1
          rw [hb] at hd2
          have haa : (s[1].toNat : Int) = (a.toNat : Int) := by rw [ha]
          have hbb : (s[2].toNat : Int) = (b.toNat : Int) := by rw [hb]
          have HF : Hid (fst s.data.toList = if worth a < 16 ∧ worth b < 16 then some (UInt8.ofNat (16 * worth a + worth b), 3) else none) := by
            show _ = _
            rw [hd, hd1, hd2, fst_cons, if_neg hbad, if_neg h43, if_pos h37, fstP_two]
          have HWA := Lib.hid (fun w => dworth_q a (a.toNat : Int) rfl w)
          have HWB := Lib.hid (fun w => dworth_q b (b.toNat : Int) rfl w)
          have m6 : (1 : Int) < (s.size : Int) := by omega
          have m7 : (2 : Int) < (s.size : Int) := by omega
          clear hd hd1 hd2 hsl hc hbad h43 h37 ha hb
          unfold wI at HWA HWB
          by_cases hxa : worth a < 16
          · rw [if_pos hxa] at HWA
            by_cases hxb : worth b < 16
            · rw [if_pos hxb] at HWB
              rw [if_pos ⟨hxa, hxb⟩] at HF
              obtain ⟨x, hx⟩ : ∃ x, worth a = x := ⟨_, rfl⟩
              obtain ⟨y, hy⟩ : ∃ y, worth b = y := ⟨_, rfl⟩
              rw [hx] at HWA HF hxa
              rw [hy] at HWB HF hxb
              clear hx hy
              go_enter Try.func31, Try.ntmps31
              go_wp2_with fail
              go_quiet ((first | (go_at_call_of 42 (Value.int .u8 (a.toNat : Int)); exact Calls.quiet_of_same (HWA.out _)) | (go_at_call 42; exact Calls.quiet_of_same (HWB.out _))))
              go_wp2_with fail
              go_ret2
              exact ⟨by rw [HF.out]; exact congrArg (fun z => Ending.returned (.tuple #[.int .u8 z, .int .i64 3])) (or_hex ⟨x, hxa⟩ ⟨y, hxb⟩), _, rfl⟩
            · rw [if_neg hxb] at HWB
              rw [if_neg (fun h => hxb h.2)] at HF
              obtain ⟨x, hx⟩ : ∃ x, worth a = x := ⟨_, rfl⟩
              rw [hx] at HWA hxa
              clear hx
              go_enter Try.func31, Try.ntmps31
              go_wp2_with fail
              go_quiet ((first | (go_at_call_of 42 (Value.int .u8 (a.toNat : Int)); exact Calls.quiet_of_same (HWA.out _)) | (go_at_call 42; exact Calls.quiet_of_same (HWB.out _))))
              go_wp2_with fail
              go_ret2
              exact ⟨by rw [HF.out]; rfl, _, rfl⟩
          · rw [if_neg hxa] at HWA
            rw [if_neg (fun h => hxa h.1)] at HF
            obtain ⟨y, hy⟩ : ∃ y, (if worth b < 16 then (worth b : Int) else -1) = y := ⟨_, rfl⟩
            rw [hy] at HWB
            clear hy
            go_enter Try.func31, Try.ntmps31
            go_wp2_with fail
            go_quiet ((first | (go_at_call_of 42 (Value.int .u8 (a.toNat : Int)); exact Calls.quiet_of_same (HWA.out _)) | (go_at_call 42; exact Calls.quiet_of_same (HWB.out _))))
            go_wp2_with fail
            go_ret2
            exact ⟨by rw [HF.out]; rfl, _, rfl⟩
      · have HR : Hid (fst s.data.toList = some (c, 1)) := by show _ = _; rw [hd, fst_cons, if_neg hbad, if_neg h43, if_neg h37]
        have hb37 : ((c.toNat : Int) != 37) = true := by have := ne_byte h37; simp only [bne]; rw [show (37 : Int) = (((37 : UInt8).toNat : Nat) : Int) from rfl, this]; rfl
        clear hd hsl hc hbad h43 h37
        go_enter Try.func31, Try.ntmps31
        go_wp2_with fail
        go_ret2
        exact ⟨by rw [HR.out]; rfl, 0, rfl⟩
end Go.Proofs.Ytfgenbmobfbifaa.fdv
