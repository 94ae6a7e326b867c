/- The contract of the reference's Same. The rows' cells are given. -/
import Derived.Test.YtggcdlhgmikemaaMem
namespace Go.Proofs.Ytggcdlhgmikemaa.oct
open Go.RowKit
open Go.Lib (byteCells)

set_option maxHeartbeats 400000 in
theorem rsame_c (p q : Option Addr) (cp cq : Nat) (l m : List UInt8) (w : World) (hp : In8 w p l) (hq : In8 w q m) (hl : l.length ≤ 9223372036854775807) :
    Calls Try.prog 19 #[.slice p l.length cp, .slice q m.length cq] w fun e w' => e = .returned (.bool (decide (l = m))) ∧ ∃ n, w' = w.drewN n := by
  by_cases hlen : l.length = m.length
  · have hb : ((l.length : Int) != (m.length : Int)) = false := by simp [hlen]
    have HL := Lib.hid hlen
    clear hlen
    go_enter Try.func19, Try.ntmps19
    go_wp2
    go_loopw [5] (fun i wr => (∃ k : Nat, k ≤ l.length ∧ i = .int .i64 k ∧ Hid (l.take k = m.take k)) ∧ ∃ n, wr = w.drewN n) (fun i _ => l.length - (intOf i).toNat)
    case atStart => exact ⟨⟨0, by omega, rfl, rfl⟩, 0, rfl⟩
    case round =>
      obtain ⟨⟨k, hk, rfl, HX⟩, nd, rfl⟩ := hrel
      by_cases hlt : k < l.length
      · obtain ⟨bp, op, rfl, cp'⟩ := hp.at (by omega)
        obtain ⟨bq, oq, rfl, cq'⟩ := hq.at (by rw [← HL.out]; omega)
        have c1 := cp' k hlt
        have c2 := cq' k (by rw [← HL.out]; omega)
        have hm2 : k < m.length := by rw [← HL.out]; omega
        clear cp' cq' hp hq
        by_cases he : l[k] = m[k]
        · have hb2 : (((l[k]).toNat : Int) != ((m[k]).toNat : Int)) = false := by simp [he]
          have HE := Lib.hid he
          clear he
          go_wp2
          go_quiet (fail)
          go_wp2
          go_roundw
          case rel => exact ⟨⟨k + 1, by omega, by go_num, (take_eq_succ hlt hm2).2 ⟨HX.out, HE.out⟩⟩, _, rfl⟩
          case measure => simp [intOf]; omega
        · have hb2 : (((l[k]).toNat : Int) != ((m[k]).toNat : Int)) = true := by
            simp only [bne_iff_ne, ne_eq]
            intro h
            exact he (UInt8.toNat_inj.1 (by omega))
          have HE := Lib.hid he
          clear he
          go_wp2
          go_quiet (fail)
          go_wp2
          go_ret
          exact ⟨ret_bool (decide_eq_false fun h => HE.out (by subst h; rfl)).symm, _, World.drewN_drewN _ _ _⟩
      · have hkl : k = l.length := by omega
        have HF : Hid (l = m) := by
          have h1 := HX.out
          rw [hkl, List.take_length, HL.out, List.take_length] at h1
          exact h1
        clear hkl
        go_wp2
        go_ret
        exact ⟨ret_bool (decide_eq_true HF.out).symm, _, rfl⟩
  · have hb : ((l.length : Int) != (m.length : Int)) = true := by simp; omega
    go_enter Try.func19, Try.ntmps19
    go_wp2
    go_ret
    exact ⟨ret_bool (decide_eq_false fun h => hlen (by rw [h])).symm, 0, rfl⟩
end Go.Proofs.Ytggcdlhgmikemaa.oct
