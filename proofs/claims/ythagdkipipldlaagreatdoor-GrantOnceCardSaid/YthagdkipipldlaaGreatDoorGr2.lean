/- The developers' isId, areShort, isFrom0, isEdge, when, filled, namedBy. No condition beyond what slices and texts are. -/
import Derived.Test.YthagdkipipldlaaGreatDoorGrM
import Derived.Test.YthagdkipipldlaaGreatDoorShIdx
import Derived.WalkSmall
import Derived.Deep.LoopGhost
namespace Go.Proofs.YthagdkipipldlaaGreatDoor.gra
open Go.RowKit
open Go.Proofs.YthagdkipipldlaaGreatDoor.oct Go.Proofs.YthagdkipipldlaaGreatDoor.ref Go.Proofs.YthagdkipipldlaaGreatDoor.rows Go.Proofs.YthagdkipipldlaaGreatDoor.rowg Go.Proofs.YthagdkipipldlaaGreatDoor.mpt Go.Proofs.YthagdkipipldlaaGreatDoor.trn Go.Proofs.YthagdkipipldlaaGreatDoor.krd
open Go.Proofs.YthagdkipipldlaaGreatDoor.scp (tx senc senc_len senc_one InS ins_below ins_cell lt Lst lval lenc GoodL FitS)

theorem mk_sz (l : T) : (⟨l.toArray⟩ : ByteArray).size = l.length := List.size_toArray
theorem mk_empty (l : T) : (⟨l.toArray⟩ : ByteArray).toList = l := by rw [Lib.toList_data]
def webL : T := [65, 66, 67, 68, 69, 70, 71, 72, 73, 74, 75, 76, 77, 78, 79, 80, 81, 82, 83, 84, 85, 86, 87, 88, 89, 90, 97, 98, 99, 100, 101, 102, 103, 104, 105, 106, 107, 108, 109, 110, 111, 112, 113, 114, 115, 116, 117, 118, 119, 120, 121, 122, 48, 49, 50, 51, 52, 53, 54, 55, 56, 57, 45, 95]
theorem all_bytes {p : UInt8 → Prop} (h : ∀ n : Fin 256, p n.val.toUInt8) (c : UInt8) : p c := by
  have := h ⟨c.toNat, c.toNat_lt⟩
  rwa [show (⟨c.toNat, c.toNat_lt⟩ : Fin 256).val.toUInt8 = c by simp] at this
theorem web_ix (c : UInt8) : if webC c = true then ¬ Lib.indexByte webL c < 0 else Lib.indexByte webL c < 0 :=
  all_bytes (p := fun c => if webC c = true then ¬ Lib.indexByte webL c < 0 else Lib.indexByte webL c < 0) (by decide +kernel) c
theorem webIx_c (c : UInt8) (w : World) : Calls Tryz.prog 76 #[.string ⟨webL.toArray⟩, .int .u8 (c.toNat : Int)] w fun e w' => e = .returned (.int .i64 (Lib.indexByte webL c)) ∧ w' = w := by
  have := sh.indexByte ⟨webL.toArray⟩ (c.toNat : Int) w
  rw [show (⟨webL.toArray⟩ : ByteArray).data.toList = webL from rfl, show (c.toNat : Int).toNat.toUInt8 = c by simp] at this
  exact this
theorem web_step (s : ByteArray) (k : Nat) (hk : k < s.size) (h : (s.data.toList.take k).all webC = true) :
    (webC s[k] = true → (s.data.toList.take (k + 1)).all webC = true) ∧ (webC s[k] = false → s.data.toList.all webC = false) := by
  have hl : k < s.data.toList.length := by rw [Array.length_toList]; exact hk
  have he : s.data.toList[k] = s[k] := by rw [Array.getElem_toList]; rfl
  constructor
  · intro hw
    rw [List.take_succ_eq_append_getElem hl, List.all_append, h, he]
    simp [hw]
  · intro hw
    rw [Bool.eq_false_iff]
    intro ha
    have := List.all_eq_true.1 ha _ (List.getElem_mem hl)
    rw [he, hw] at this
    cases this
set_option maxRecDepth 100000 in
set_option maxHeartbeats 4000000 in
theorem isId_b (s : ByteArray) (w : World) :
    Calls Tryz.prog 48 #[.string s] w fun e w' => e = .returned (.bool (idB s.data.toList)) ∧ w = w' := by
  have HSL : Hid (s.data.toList.length = s.size) := by show _ = _; rw [Array.length_toList]; rfl
  have HI : Hid (idB s.data.toList = (decide (0 < s.size) && decide (s.size ≤ 32) && s.data.toList.all webC)) := by show _ = _; rw [← HSL.out]; rfl
  by_cases h0 : s.size = 0
  · have hz : s = ⟨#[]⟩ := by
      have : s.data = #[] := Array.eq_empty_of_size_eq_zero h0
      cases s; simp at this; rw [this]
    have HR : Hid (idB s.data.toList = false) := by show _ = _; rw [HI.out, h0]; rfl
    rw [HR.out]
    clear HI HSL h0 HR
    subst hz
    go_enter Tryz.func48, Tryz.ntmps48
    go_wp2_with fail
    go_ret
    exact ⟨rfl, rfl⟩
  have hne : s.toList.isEmpty = false := by
    rw [Lib.toList_data, ← Bool.not_eq_true, List.isEmpty_iff]
    intro e
    have := HSL.out
    rw [e] at this
    exact h0 this.symm
  by_cases h1 : 32 < s.size
  · have hg : (s.size : Int) > 32 := by omega
    have HR : Hid (idB s.data.toList = false) := by show _ = _; rw [HI.out, decide_eq_false (show ¬ s.size ≤ 32 by omega)]; simp
    rw [HR.out]
    clear HI HSL h1 HR
    go_enter Tryz.func48, Tryz.ntmps48
    go_wp2_with fail
    go_ret
    exact ⟨rfl, rfl⟩
  have hg : ¬ (s.size : Int) > 32 := by omega
  have HI2 : Hid (idB s.data.toList = s.data.toList.all webC) := by show _ = _; rw [HI.out, decide_eq_true (show 0 < s.size by omega), decide_eq_true (show s.size ≤ 32 by omega)]; rfl
  rw [HI2.out]
  clear HI HI2 h1
  go_enter Tryz.func48, Tryz.ntmps48
  go_wp2_with fail
  go_loopg [3, 13] s.size (fun g _ s6 wx => ∃ k : Nat, k + g = s.size ∧ s6 = .int .i64 k ∧ Hid ((s.data.toList.take k).all webC = true) ∧ wx = w)
  case atStart => exact ⟨0, by omega, rfl, rfl, rfl⟩
  case round =>
    obtain ⟨k, hkg, rfl, HN, rfl⟩ := hrel
    rcases gk with _ | g
    · obtain rfl : k = s.size := by omega
      have HR : Hid (s.data.toList.all webC = true) := by
        have h := HN.out
        rw [List.take_of_length_le (by rw [HSL.out]; exact Nat.le_refl _)] at h
        exact h
      go_wp2_with fail
      go_ret
      exact ⟨ret_bool HR.out.symm, rfl⟩
    · have hk : k < s.size := by omega
      have hkI : (k : Int) < (s.size : Int) := by omega
      obtain ⟨h1, h2⟩ := web_step s k hk HN.out
      obtain ⟨c, hc⟩ : ∃ c, s[k] = c := ⟨_, rfl⟩
      have hix := web_ix c
      have hcc : (s[k].toNat : Int) = (c.toNat : Int) := by rw [hc]
      rw [hc] at h1 h2
      have H1 := Lib.hid h1
      have H2 := Lib.hid h2
      have HC := Lib.hid (webIx_c c wr)
      clear h1 h2 hc
      obtain ⟨ix, hixe⟩ : ∃ ix, Lib.indexByte webL c = ix := ⟨_, rfl⟩
      rw [hixe] at HC hix
      clear hixe
      unfold webL at HC
      cases hok : webC c
      · have hneg : ix < 0 := by rw [hok] at hix; simpa using hix
        clear hix
        have HR := Lib.hid (H2.out hok)
        clear H1 H2 hok
        go_wp2_with (go_at_call 76; refine HC.out.mono ?_; rintro e w' ⟨rfl, rfl⟩)
        go_ret
        exact ⟨ret_bool HR.out.symm, rfl⟩
      · have hneg : ¬ ix < 0 := by rw [hok] at hix; simpa using hix
        clear hix
        have HR := Lib.hid (H1.out hok)
        clear H1 H2 hok
        go_wp2_with (go_at_call 76; refine HC.out.mono ?_; rintro e w' ⟨rfl, rfl⟩)
        go_roundg g
        case measure => omega
        case rel => exact ⟨k + 1, by omega, by go_num, HR, rfl⟩
theorem isId_c (s : T) (w : World) : Calls Tryz.prog 48 #[.string ⟨s.toArray⟩] w fun e w' => e = .returned (.bool (idB s)) ∧ w = w' := isId_b ⟨s.toArray⟩ w
theorem shorts_step (l : List T) (k : Nat) (hk : k < l.length) (h : (l.take k).all shortB = true) :
    (shortB l[k] = true → (l.take (k + 1)).all shortB = true) ∧ (shortB l[k] = false → l.all shortB = false) := by
  constructor
  · intro hw
    rw [List.take_succ_eq_append_getElem hk, List.all_append, h]
    simp [hw]
  · intro hw
    rw [Bool.eq_false_iff]
    intro ha
    have := List.all_eq_true.1 ha _ (List.getElem_mem hk)
    rw [hw] at this
    cases this
set_option maxRecDepth 100000 in
set_option maxHeartbeats 4000000 in
theorem areShort_c (P : Option Addr) (C : Nat) (l : List T) (w : World) (hp : InS w P l) (hl : l.length ≤ 140737488355328) :
    Calls Tryz.prog 54 #[.slice P l.length C] w fun e w' => e = .returned (.bool (l.all shortB)) ∧ w = w' := by
  have HP := Lib.hid hp
  obtain ⟨n, hn⟩ : ∃ n, l.length = n := ⟨_, rfl⟩
  rw [hn] at hl ⊢
  have HN := Lib.hid hn
  clear hp hn
  go_enter Tryz.func54, Tryz.ntmps54
  go_wp2_with fail
  go_loopg [4, 7] n (fun g _ s7 wx => ∃ k : Nat, k + g = n ∧ s7 = .int .i64 k ∧ Hid ((l.take k).all shortB = true) ∧ wx = w)
  case atStart => exact ⟨0, by omega, rfl, rfl, rfl⟩
  case round =>
    obtain ⟨k, hkg, rfl, HS, rfl⟩ := hrel
    rcases gk with _ | g
    · obtain rfl : k = n := by omega
      have HR : Hid (l.all shortB = true) := by
        have h := HS.out
        rw [List.take_of_length_le (by rw [HN.out]; exact Nat.le_refl _)] at h
        exact h
      go_wp2_with fail
      go_ret
      exact ⟨ret_bool HR.out.symm, rfl⟩
    · have hk : k < l.length := by rw [HN.out]; omega
      have hkI : (k : Int) < (n : Int) := by omega
      obtain ⟨b, o, rfl, c0⟩ := ins_cell HP.out k hk
      obtain ⟨h1, h2⟩ := shorts_step l k hk HS.out
      obtain ⟨x, hx⟩ : ∃ x, l[k] = x := ⟨_, rfl⟩
      rw [hx] at c0 h1 h2
      have hsz := mk_sz x
      obtain ⟨S, hS⟩ : ∃ S, (⟨x.toArray⟩ : ByteArray) = S := ⟨_, rfl⟩
      rw [hS] at c0 hsz
      clear hx hS hk
      by_cases hs : x.length ≤ 128
      · have HR := Lib.hid (h1 (by unfold shortB; exact decide_eq_true hs))
        have hgt : ¬ (S.size : Int) > 128 := by omega
        clear h1 h2 hs hsz
        go_wp2_with fail
        go_roundg g
        case measure => omega
        case rel => exact ⟨k + 1, by omega, by go_num, HR, rfl⟩
      · have HR := Lib.hid (h2 (by unfold shortB; exact decide_eq_false hs))
        have hgt : (S.size : Int) > 128 := by omega
        clear h1 h2 hs hsz
        go_wp2_with fail
        go_ret
        exact ⟨ret_bool HR.out.symm, rfl⟩
theorem from0_c (n m : Int) (w : World) : Calls Tryz.prog 78 #[.int .i64 n, .int .i64 m] w fun e w' => e = .returned (.bool (inB n 0 m)) ∧ w = w' := by
  unfold inB
  by_cases h0 : (0 : Int) ≤ n
  · rw [decide_eq_true h0]
    by_cases h1 : n ≤ m
    · rw [decide_eq_true h1]
      go_enter Tryz.func78, Tryz.ntmps78
      go_wp2_with fail
      go_ret
      exact ⟨rfl, rfl⟩
    · rw [decide_eq_false h1]
      go_enter Tryz.func78, Tryz.ntmps78
      go_wp2_with fail
      go_ret
      exact ⟨rfl, rfl⟩
  · rw [decide_eq_false h0]
    go_enter Tryz.func78, Tryz.ntmps78
    go_wp2_with fail
    go_ret
    exact ⟨rfl, rfl⟩
theorem isEdge_c (n : Int) (w : World) : Calls Tryz.prog 79 #[.int .i64 n] w fun e w' => e = .returned (.bool (inB n 0 31)) ∧ w = w' := by
  have HF := Lib.hid (from0_c n 31 w)
  go_enter Tryz.func79, Tryz.ntmps79
  go_wp2_with fail
  refine HF.out.mono ?_
  rintro e w1 ⟨rfl, rfl⟩
  go_wp2_with fail
  go_ret
  exact ⟨rfl, rfl⟩
def whenI (b : Bool) (n : Int) : Int := if b then n else 0
theorem when_c (b : Bool) (n : Int) (w : World) : Calls Tryz.prog 75 #[.bool b, .int .u64 n] w fun e w' => e = .returned (.int .u64 (whenI b n)) ∧ w' = w := by
  cases b with
  | true =>
    show Calls _ _ _ _ fun e w' => e = .returned (.int .u64 n) ∧ _
    go_enter Tryz.func75, Tryz.ntmps75
    go_wp2_with fail
    go_ret
    exact ⟨rfl, rfl⟩
  | false =>
    show Calls _ _ _ _ fun e w' => e = .returned (.int .u64 0) ∧ _
    go_enter Tryz.func75, Tryz.ntmps75
    go_wp2_with fail
    go_ret
    exact ⟨rfl, rfl⟩
def namedI (k : Int) : Int × Bool := if k = 1 then (252, true) else if k = 2 then (804, true) else if k = 3 then (21, true) else if k = 4 then (20, true) else if k = 5 then (7, true) else if k = 6 then (1027, true) else if k = 7 then (0, true) else (0, false)
end Go.Proofs.YthagdkipipldlaaGreatDoor.gra
