/- The contract of the developers' writeString: a builder gets a string in form. Texts together with what is there of at most 2^46 bytes by six. -/
import Derived.Test.YtbgnoobgnpebdaaDoorJdvC
namespace Go.Proofs.YtbgnoobgnpebdaaDoor.jdv
open Go.RowKit
open Go.Proofs.YtbgnoobgnpebdaaDoor.oct Go.Proofs.YtbgnoobgnpebdaaDoor.ref Go.Proofs.YtbgnoobgnpebdaaDoor.rows Go.Proofs.YtbgnoobgnpebdaaDoor.rowg Go.Proofs.YtbgnoobgnpebdaaDoor.jsn
open Go.Lib (byteCells hasPrefix trimPrefix)

theorem strB_take (l : List UInt8) (k : Nat) (h : k < l.length) : strB (l.take (k + 1)) = strB (l.take k) ++ sB l[k] := by
  rw [List.take_succ_eq_append_getElem h, strB_append]
  simp [strB]
theorem strB_take_len (l : List UInt8) (k : Nat) : (strB (l.take k)).length ≤ 6 * k := by
  have h := (strB_len (l.take k)).2
  have := List.length_take_le k l
  omega
abbrev hexB : ByteArray := ⟨#[48, 49, 50, 51, 52, 53, 54, 55, 56, 57, 97, 98, 99, 100, 101, 102]⟩
theorem hexB_at : ∀ n : Nat, (h : n < 16) → (hexB[n]'h) = sg n := by decide
theorem and15 : ∀ n : Nat, n < 256 → bits .and .u8 ((n : Nat) : Int) 15 = ((n % 16 : Nat) : Int) := by decide +kernel
set_option maxRecDepth 100000 in
set_option maxHeartbeats 8000000 in
theorem writeString_c (B b : Nat) (pre l : List UInt8) (w : World) (h : IsB B b pre w) (hBw : B ≤ w.heap.size) (hlen : pre.length + 6 * l.length + 2 ≤ 140737488355328) :
    Calls Tryd.prog 35 #[.pointer (some ⟨b, 0, none⟩), .string ⟨l.toArray⟩] w fun e w' => e = .returned (.tuple #[]) ∧ IsB B b (pre ++ strT l) w' ∧ BK B b w w' := by
  have H0 := Lib.hid (isB_writeS B b pre [34] w h (by simp; omega) hBw)
  have hsz : (⟨l.toArray⟩ : ByteArray).size = l.length := size_mk l
  have hget : ∀ (k : Nat) (hk : k < l.length), (⟨l.toArray⟩ : ByteArray)[k]'(by rw [hsz]; exact hk) = l[k] := fun k hk => rfl
  obtain ⟨S, hS⟩ : ∃ S, (⟨l.toArray⟩ : ByteArray) = S := ⟨_, rfl⟩
  have HG : Hid (∀ (k : Nat) (hk : k < l.length), ∃ hk' : k < S.size, S[k]'hk' = l[k]) := by
    show ∀ _, _
    subst hS
    exact fun k hk => ⟨by rw [hsz]; exact hk, hget k hk⟩
  rw [hS] at hsz ⊢
  obtain ⟨n, hn⟩ : ∃ n, l.length = n := ⟨_, rfl⟩
  have HN := Lib.hid hn
  rw [hn] at hsz hlen
  have hszI : (S.size : Int) = (n : Int) := by omega
  have HSZ := Lib.hid hsz
  clear h hget hS hsz hn
  go_enter Tryd.func35, Tryd.ntmps35
  go_wp2_with fail
  refine H0.out.mono ?_
  rintro e w1 ⟨rfl, hb1, hk1⟩
  have HB1 := Lib.hid hb1
  have HK1 := Lib.hid hk1
  have hs1 := hk1.size
  clear hb1 hk1 H0
  go_wp2_with fail
  go_loopg [10] n (fun g s10 wx => ∃ k : Nat, k + g = n ∧ s10 = .int .i64 k ∧ Hid (IsB B b (pre ++ 34 :: strB (l.take k)) wx) ∧ Hid (BK B b w wx))
  case atStart => exact ⟨0, by omega, rfl, (by show IsB _ _ _ _; simpa [strB] using HB1.out), HK1.out⟩
  case round =>
    obtain ⟨k, hkg, rfl, HB, HK⟩ := hrel
    have hsw := HK.out.size
    have hXL := strB_take_len l k
    rcases gk with _ | g
    · obtain rfl : k = n := by omega
      have H2 := Lib.hid (isB_writeS B b _ [34] wr HB.out (by simp; omega) (by omega))
      have HE : Hid (pre ++ 34 :: strB (l.take k) ++ [34] = pre ++ strT l) := by show _ = _; rw [List.take_of_length_le (by rw [HN.out]; exact Nat.le_refl _)]; simp [strT]
      clear HB
      go_wp2_with fail
      refine H2.out.mono ?_
      rintro e w3 ⟨rfl, hb3, hk3⟩
      have HB3 := Lib.hid hb3
      clear hb3
      go_wp2_with fail
      go_end0
      exact ⟨rfl, by rw [← HE.out]; exact HB3.out, HK.out.trans hk3⟩
    · have hkl : k < l.length := by rw [HN.out]; omega
      have hkn : (k : Int) < (n : Int) := by omega
      obtain ⟨hks, hc⟩ := HG.out k hkl
      have hst := strB_take l k hkl
      obtain ⟨c, hcc⟩ : ∃ c, l[k] = c := ⟨_, rfl⟩
      rw [hcc] at hc hst
      have HST : Hid (pre ++ 34 :: strB (l.take (k + 1)) = (pre ++ 34 :: strB (l.take k)) ++ sB c) := by show _ = _; rw [hst]; simp
      have HP := Lib.hid (fun w => plain_c c w)
      have HM := Lib.hid (fun w => marked_c c w)
      obtain ⟨X, hX⟩ : ∃ X, pre ++ 34 :: strB (l.take k) = X := ⟨_, rfl⟩
      have hxl : X.length ≤ pre.length + 1 + 6 * k := by rw [← hX, List.length_append, List.length_cons]; omega
      rw [hX] at HB HST
      clear hst hcc hX hXL
      have hcl := c.toNat_lt
      cases hp : plainC c with
      | false =>
        have HSB : Hid (sB c = [92, 117, 48, 48] ++ [sg (c.toNat / 16)] ++ [sg (c.toNat % 16)]) := by
          show _ = _
          unfold sB
          rw [if_pos (Classical.not_not.1 (fun h => by rw [(plainC_iff c).2 h] at hp; cases hp))]
          rfl
        rw [hp] at HP
        have H2 := Lib.hid (isB_writeS B b X [92, 117, 48, 48] wr HB.out (by simp; omega) (by omega))
        clear HB hp
        go_wp2_with (go_at_call 46; refine (HP.out _).mono ?_; rintro e w2 ⟨rfl, rfl⟩)
        refine H2.out.mono ?_
        rintro e w3 ⟨rfl, hb3, hk3⟩
        have hs3 := hk3.size
        have HK3 := Lib.hid (HK.out.trans hk3)
        have H3 := Lib.hid (isB_write B b _ (sg (c.toNat / 16)) w3 hb3 (by simp; omega) (by omega))
        clear hb3 hk3 H2
        have hA := and15 c.toNat hcl
        obtain ⟨hi, hhi⟩ : ∃ hi, c.toNat / 16 = hi := ⟨_, rfl⟩
        obtain ⟨lo, hlo⟩ : ∃ lo, c.toNat % 16 = lo := ⟨_, rfl⟩
        have b1 : hi < 16 := by omega
        have b2 : lo < 16 := by omega
        have hD : ((c.toNat : Nat) : Int) / 16 = (hi : Int) := by omega
        have hh := hexB_at hi b1
        have hl2 := hexB_at lo b2
        rw [hlo] at hA HSB
        rw [hhi] at H3 HSB
        go_wp2_with fail
        refine H3.out.mono ?_
        rintro e w4 ⟨rfl, hb4, hk4⟩
        have hs4 := hk4.size
        have HK4 := Lib.hid (HK3.out.trans hk4)
        have H4 := Lib.hid (isB_write B b _ (sg lo) w4 hb4 (by simp; omega) (by omega))
        clear hb4 hk4 H3
        go_wp2_with fail
        refine H4.out.mono ?_
        rintro e w5 ⟨rfl, hb5, hk5⟩
        have HN5 := Lib.hid hb5
        have HK5 := Lib.hid (HK4.out.trans hk5)
        clear hb5 hk5 H4 hh hl2 hA hD
        have HST2 : Hid (pre ++ 34 :: strB (l.take (k + 1)) = X ++ [92, 117, 48, 48] ++ [sg hi] ++ [sg lo]) := by show _ = _; rw [HST.out, HSB.out]; simp
        go_wp2_with fail
        go_roundg g
        case measure => omega
        case rel => exact ⟨k + 1, by omega, by go_num, by rw [HST2.out]; exact HN5.out, HK5.out⟩
      | true =>
        rw [hp] at HP
        have hpp := (plainC_iff c).1 hp
        cases hm : markC c with
        | true =>
          have HSB : Hid (sB c = [92] ++ [c]) := by
            show _ = _
            unfold sB
            rw [if_neg hpp, if_pos ((markC_iff c).1 hm)]
            rfl
          rw [hm] at HM
          have H2 := Lib.hid (isB_writeS B b X [92] wr HB.out (by simp; omega) (by omega))
          clear HB hp hm hpp
          go_wp2_with (first | (go_at_call 46; refine (HP.out _).mono ?_; rintro e w2 ⟨rfl, rfl⟩) | (go_at_call 48; refine (HM.out _).mono ?_; rintro e w2 ⟨rfl, rfl⟩))
          refine H2.out.mono ?_
          rintro e w3 ⟨rfl, hb3, hk3⟩
          have hs3 := hk3.size
          have HK3 := Lib.hid (HK.out.trans hk3)
          have H3 := Lib.hid (isB_write B b _ c w3 hb3 (by simp; omega) (by omega))
          clear hb3 hk3 H2
          go_wp2_with fail
          refine H3.out.mono ?_
          rintro e w4 ⟨rfl, hb4, hk4⟩
          have HN4 := Lib.hid hb4
          have HK4 := Lib.hid (HK3.out.trans hk4)
          clear hb4 hk4 H3
          have HST2 : Hid (pre ++ 34 :: strB (l.take (k + 1)) = X ++ [92] ++ [c]) := by show _ = _; rw [HST.out, HSB.out]; simp
          go_wp2_with fail
          go_roundg g
          case measure => omega
          case rel => exact ⟨k + 1, by omega, by go_num, by rw [HST2.out]; exact HN4.out, HK4.out⟩
        | false =>
          have HSB : Hid (sB c = [c]) := by
            show _ = _
            unfold sB
            rw [if_neg hpp, if_neg (fun h => by rw [(markC_iff c).2 h] at hm; cases hm)]
          rw [hm] at HM
          have H3 := Lib.hid (isB_write B b X c wr HB.out (by omega) (by omega))
          clear HB hp hm hpp
          go_wp2_with (first | (go_at_call 46; refine (HP.out _).mono ?_; rintro e w2 ⟨rfl, rfl⟩) | (go_at_call 48; refine (HM.out _).mono ?_; rintro e w2 ⟨rfl, rfl⟩))
          refine H3.out.mono ?_
          rintro e w4 ⟨rfl, hb4, hk4⟩
          have HN4 := Lib.hid hb4
          have HK4 := Lib.hid (HK.out.trans hk4)
          clear hb4 hk4 H3
          have HST2 : Hid (pre ++ 34 :: strB (l.take (k + 1)) = X ++ [c]) := by show _ = _; rw [HST.out, HSB.out]
          go_wp2_with fail
          go_roundg g
          case measure => omega
          case rel => exact ⟨k + 1, by omega, by go_num, by rw [HST2.out]; exact HN4.out, HK4.out⟩
end Go.Proofs.YtbgnoobgnpebdaaDoor.jdv
