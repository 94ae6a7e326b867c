/- The contract of the reference's Print. Lists of up to 4194304 texts. -/
import Derived.Test.YtcklbbbplbboaaaDoorScp5
namespace Go.Proofs.YtcklbbbplbboaaaDoor.scp
open Go.RowKit
open Go.Proofs.YtcklbbbplbboaaaDoor.oct Go.Proofs.YtcklbbbplbboaaaDoor.ref Go.Proofs.YtcklbbbplbboaaaDoor.rows Go.Proofs.YtcklbbbplbboaaaDoor.rowg

theorem joinP_snoc : ∀ (l : List T) (x : T), joinP (l ++ [x]) = if l = [] then x else joinP l ++ 32 :: x
  | [], x => rfl
  | [y], x => rfl
  | y :: z :: r, x => by
    have := joinP_snoc (z :: r) x
    rw [if_neg (by simp)] at this
    rw [if_neg (by simp), List.cons_append, List.cons_append, joinP, ← List.cons_append, this, joinP]
    simp
theorem joinP_le (n : Nat) : ∀ (l : List T), (∀ x ∈ l, x.length ≤ n) → (joinP l).length ≤ l.length * (n + 1)
  | [], _ => by simp [joinP]
  | [x], h => by have := h x (by simp); simp [joinP]; omega
  | x :: y :: r, h => by
    have ih := joinP_le n (y :: r) (fun z hz => h z (by simp [hz]))
    have hx := h x (by simp)
    rw [joinP, List.length_append, List.length_cons, show (x :: y :: r).length = (y :: r).length + 1 from rfl, Nat.succ_mul]
    omega
set_option maxRecDepth 100000 in
set_option maxHeartbeats 4000000 in
theorem rprint_c (P : Option Addr) (C : Nat) (l : List T) (w : World) (hp : InS w P l) (hl : l.length ≤ 4194304) :
    Calls Tryd.prog 18 #[.slice P l.length C] w fun e w' => e = .returned (tx (printP l)) ∧ Below w.heap.size w w' := by
  have HS := Lib.hid (rset_c P C l w hp hl)
  have HB : Hid (∀ k, (joinP ((setP l).take k)).length ≤ 4194304 * 65) := fun k => by
    have h1 := joinP_le 64 ((setP l).take k) (fun x hx => (word_len ((setP_mem l x).1 (List.mem_of_mem_take hx)).2).2)
    have h2 := setP_len l
    have h3 : ((setP l).take k).length ≤ 4194304 := by rw [List.length_take]; omega
    exact Nat.le_trans h1 (Nat.mul_le_mul_right 65 h3)
  have HW : Hid (∀ x ∈ setP l, x.length ≤ 64) := fun x hx => (word_len ((setP_mem l x).1 hx).2).2
  have hsl : (setP l).length ≤ 4194304 := by have := setP_len l; omega
  clear hp
  have HPR : Hid (printP l = joinP (setP l)) := rfl
  obtain ⟨S, hS⟩ : ∃ S, setP l = S := ⟨_, rfl⟩
  rw [hS] at HS HB HW HPR hsl
  clear hS
  rw [HPR.out]
  unfold tx
  go_enter Tryd.func18, Tryd.ntmps18
  go_wp2_with fail
  refine HS.out.mono ?_
  rintro e w2 ⟨v, rfl, hown, hb2⟩
  obtain ⟨p, c, rfl, hc, hn, hin⟩ := own_g senc_len (by decide) hown
  have HIN := Lib.hid hin
  have HB2 := Lib.hid hb2
  clear hown hin hb2 HS
  go_wp2_with fail
  go_loopg [3, 5] S.length (fun g s3 s5 wx => ∃ k : Nat, k + g = S.length ∧ s5 = .int .i64 k ∧ s3 = .string ⟨(joinP (S.take k)).toArray⟩ ∧ wx = w2)
  case atStart => exact ⟨0, by omega, rfl, rfl, rfl⟩
  case round =>
    obtain ⟨k, hkg, rfl, rfl, rfl⟩ := hrel
    rcases gk with _ | g
    · obtain rfl : k = S.length := by omega
      rw [List.take_length]
      go_wp2_with fail
      go_ret
      exact ⟨rfl, HB2.out⟩
    · have hk : k < S.length := by omega
      have hkI : (k : Int) < (S.length : Int) := by omega
      obtain ⟨b, o, rfl, c0⟩ := ins_cell HIN.out k hk
      have HT := Lib.hid (joinP_snoc (S.take k) S[k])
      rw [← List.take_succ_eq_append_getElem hk] at HT
      have hJ := HB.out k
      have hx := HW.out S[k] (List.getElem_mem hk)
      obtain ⟨x, hxe⟩ : ∃ x, S[k] = x := ⟨_, rfl⟩
      rw [hxe] at c0 HT hx
      have HE : Hid (S.take k = [] ↔ k = 0) := by
        show _ ↔ _
        rw [List.take_eq_nil_iff]
        constructor
        · rintro (h | h)
          · exact h
          · rw [h] at hk; simp at hk
        · exact Or.inl
      obtain ⟨J, hJe⟩ : ∃ J, joinP (S.take k) = J := ⟨_, rfl⟩
      rw [hJe] at hJ HT ⊢
      have HJe := Lib.hid hJe
      clear hJe hxe
      have hs1 : ((⟨J.toArray⟩ : ByteArray)).size = J.length := size_mk J
      have hs2 : ((⟨x.toArray⟩ : ByteArray)).size = x.length := size_mk x
      by_cases h0 : k = 0
      · have HN : Hid (joinP (S.take (k + 1)) = J ++ x) := by
          show _ = _
          rw [HT.out, if_pos (HE.out.2 h0), ← HJe.out, HE.out.2 h0]; rfl
        have i0 : ¬ ((k : Int) > 0) := by omega
        clear h0 HT HE
        go_wp2_with fail
        go_roundg g
        case measure => omega
        case rel => exact ⟨k + 1, by omega, by go_num, by rw [HN.out]; exact congrArg Value.string (ba_append J x), rfl⟩
      · have HN : Hid (joinP (S.take (k + 1)) = (J ++ [32]) ++ x) := by
          show _ = _
          rw [HT.out, if_neg (fun h => h0 (HE.out.1 h))]; simp
        have i0 : (k : Int) > 0 := by omega
        clear h0 HT HE
        go_wp2_with fail
        go_roundg g
        case measure => omega
        case rel => exact ⟨k + 1, by omega, by go_num, by rw [HN.out]; exact congrArg Value.string ((congrArg (· ++ _) (ba_append J [32])).trans (ba_append (J ++ [32]) x)), rfl⟩
end Go.Proofs.YtcklbbbplbboaaaDoor.scp
