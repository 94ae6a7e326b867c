/- The law SealMakes: which tokens are right, and the text of each. St; the secret within the reach. -/
import Derived.Test.YtjadginnaogjoaaDoorSeF
namespace Go.Proofs.YtjadginnaogjoaaDoor.sea
open Go.RowKit
open Go.Proofs.YtjadginnaogjoaaDoor.oct Go.Proofs.YtjadginnaogjoaaDoor.ref Go.Proofs.YtjadginnaogjoaaDoor.rows Go.Proofs.YtjadginnaogjoaaDoor.trn
open Go.Proofs.YtjadginnaogjoaaDoor.sha (Rm)
open Go.Lib (byteCells)

set_option maxRecDepth 100000 in
set_option maxHeartbeats 8000000 in
theorem law_makes (p : Option Addr) (cp : Nat) (key : T) (t : Tk) (w : World) (ht : St w) (hp : In8 w p key) (hk : key.length ≤ 140737488354000) (hn : Rm p cp key.length) (hfl : t.f.length ≤ 9223372036854775806) :
    Calls Tryd.prog 3 #[.slice p key.length cp, tok t] w fun e w' => e = .returned (.bool true) ∧ Below w.heap.size w w' := by
  obtain ⟨w0, hw0⟩ : ∃ w0, w.alloc (.cells #[.int .i64 t.k, txt t.f, .int .i64 t.n] 24) = w0 := ⟨_, rfl⟩
  have hK0 : Blk w0 w.heap.size 24 [.int .i64 t.k, txt t.f, .int .i64 t.n] := by rw [← hw0]; exact blk_new w _ _ _ rfl
  have hb0 : Below w.heap.size w w0 := by rw [← hw0]; exact (Below.refl _ w).alloc (Nat.le_refl _) _
  have HT := Lib.hid ht
  have HP := Lib.hid hp
  have HM1 := Lib.hid (fun w h h2 => make_c p cp key t w h h2 hk hn)
  have HM2 := Lib.hid (fun w h2 => rmake_c p cp key t w h2 hk hn hfl)
  have HR1 := Lib.hid (fun w h => right_c t w h)
  have HR2 := Lib.hid (fun w => rright_c t w hfl)
  have HK0 := Lib.hid hK0
  have HB0 := Lib.hid hb0
  obtain ⟨c0, c1, c2⟩ := blk3 hK0
  obtain ⟨M, hM⟩ : ∃ M, mkS key t = M := ⟨_, rfl⟩
  obtain ⟨E, hE⟩ : ∃ E, mkE t = E := ⟨_, rfl⟩
  obtain ⟨D, hD⟩ : ∃ D, decide (Rt t) = D := ⟨_, rfl⟩
  rw [hM, hE] at HM1 HM2
  rw [hD] at HR1 HR2
  clear hK0 hb0 ht hp hM hE hD hk hn hfl
  cases t with
  | mk k f n =>
    unfold tok at *
    unfold txt at *
    dsimp only at HM1 HM2 HR1 HR2 hw0 c0 c1 c2 ⊢
    obtain ⟨S, hS⟩ : ∃ S, (⟨f.toArray⟩ : ByteArray) = S := ⟨_, rfl⟩
    simp only [hS] at HM1 HM2 HR1 HR2 hw0 c0 c1 c2 HK0 ⊢
    clear hS
    go_enter Tryd.func3, Tryd.ntmps3
    go_wp2_with fail
    refine (HM1.out _ (HT.out.below HB0.out) (HP.out.below HB0.out)).mono ?_
    rintro e w1 ⟨rfl, hb1⟩
    clear c0 c1 c2 hw0
    have HB1 := Lib.hid (bnext HB0.out hb1)
    have HK1 := Lib.hid (HK0.out.below hb1)
    obtain ⟨c0, c1, c2⟩ := blk3 HK1.out
    clear hb1 HB0 HK0
    go_wp2_with fail
    refine (HM2.out _ (HP.out.below HB1.out)).mono ?_
    rintro e w2 ⟨rfl, hb1⟩
    clear c0 c1 c2
    have HB2 := Lib.hid (bnext HB1.out hb1)
    have hK2 := HK1.out.below hb1
    have e0 : ∀ y : After w2, y.v.cell? ⟨w.heap.size, 0, none⟩ = some (.int .i64 k) := fun y => (hK2.below y.below).cell 0
    have e1 : ∀ y : After w2, y.v.cell? ⟨w.heap.size, 1, none⟩ = some (.string S) := fun y => (hK2.below y.below).cell 1
    have e2 : ∀ y : After w2, y.v.cell? ⟨w.heap.size, 2, none⟩ = some (.int .i64 n) := fun y => (hK2.below y.below).cell 2
    have CK : Hid (∀ y : After w2, Calls Tryd.prog 10 #[] y.v fun e w'' => e = .returned (.bool true) ∧ ∃ z : After w2, w'' = z.v) := Lib.hid fun y => after_of y (known16_c y.v ((HT.out.below HB2.out).below y.below))
    have C1 : Hid (∀ y : After w2, Calls Tryd.prog 11 #[.agg #[.int .i64 k, .string S, .int .i64 n]] y.v fun e w'' => e = .returned (.bool D) ∧ ∃ z : After w2, w'' = z.v) := Lib.hid fun y => after_of y (HR1.out y.v ((HT.out.below HB2.out).below y.below))
    have C2 : Hid (∀ y : After w2, Calls Tryd.prog 12 #[.agg #[.int .i64 k, .string S, .int .i64 n]] y.v fun e w'' => e = .returned (.bool D) ∧ ∃ z : After w2, w'' = z.v) := Lib.hid fun y => after_of y (HR2.out y.v)
    clear hb1 hK2 HB1 HK1 HM1 HM2 HR1 HR2
    go_wp2_with fail
    refine wp_region_after (by kernel_rfl) (by kernel_rfl) ?_
    repeat (go_big_quiet_step (first
      | (rename_i y; go_at_call 10; with_reducible exact CK.out y)
      | (rename_i y; go_at_call 11; with_reducible exact C1.out y)
      | (rename_i y; go_at_call 12; with_reducible exact C2.out y)))
    refine wpQuiet_nil ?_
    rintro ⟨wq, hq⟩
    dsimp only
    have HQ := Lib.hid (bnext HB2.out hq)
    clear hq e0 e1 e2
    go_wp2_with fail
    go_ret
    exact ⟨ret_bool (by simp), HQ.out⟩
end Go.Proofs.YtjadginnaogjoaaDoor.sea
