/- The developers' deedOf and Do (written by tools/gen_grh.py). No condition beyond what slices and texts are. -/
import Derived.Test.YthagdkipipldlaaGreatDoorGro
import Derived.Laws.EntriesVeiled
namespace Go.Proofs.YthagdkipipldlaaGreatDoor.gra
open Go.RowKit
open Go.Proofs.YthagdkipipldlaaGreatDoor.oct Go.Proofs.YthagdkipipldlaaGreatDoor.ref Go.Proofs.YthagdkipipldlaaGreatDoor.rows Go.Proofs.YthagdkipipldlaaGreatDoor.rowg Go.Proofs.YthagdkipipldlaaGreatDoor.mpt Go.Proofs.YthagdkipipldlaaGreatDoor.trn Go.Proofs.YthagdkipipldlaaGreatDoor.krd
open Go.Proofs.YthagdkipipldlaaGreatDoor.sha (Tabs)
open Go.Proofs.YthagdkipipldlaaGreatDoor.scp (tx senc senc_len senc_one InS ins_below ins_cell ins_one lt Lst lval lenc GoodL FitS RowA own_good infoStr clone_c key_txt skeyed withinP)

/-- a deed behind the command's box -/
theorem doA_wrap {w w3 w4 : World} {R : Nat → Prop} {g room : Nat} {r : List FT × AT} {e : Ending} (hlt : ∀ k, R k → k < w.heap.size) (hb : Below w.heap.size w w3) (hl : w.heap.size + 1 < w3.heap.size) (h : DoA w3 w4 R g room r e) :
    ∃ p q, e = .returned (ansv r.2 p q) ∧ w3.heap.size ≤ w4.heap.size ∧ (∀ v0 v1 v2 v3 v4 v5 v6 v7, DoA w ((((((((w4.setCell ⟨w.heap.size + 1, 0, none⟩ v0).setCell ⟨w.heap.size + 1, 1, none⟩ v1).setCell ⟨w.heap.size + 1, 2, none⟩ v2).setCell ⟨w.heap.size + 1, 3, none⟩ v3).setCell ⟨w.heap.size + 1, 4, none⟩ v4).setCell ⟨w.heap.size + 1, 5, none⟩ v5).setCell ⟨w.heap.size + 1, 6, none⟩ v6).setCell ⟨w.heap.size + 1, 7, none⟩ v7) R g room r (.returned (ansv r.2 p q))) ∧ ∀ b, b < w3.heap.size → w.heap.size ≤ b → w4.heap[b]? = w3.heap[b]? := by
  obtain ⟨R', p, q, rfl, ho, hn, hB, hT, hG⟩ := h
  have hbig : ∀ k, R' k → R k ∨ w3.heap.size ≤ k := hG
  refine ⟨p, q, rfl, hT.size, fun v0 v1 v2 v3 v4 v5 v6 v7 => ?_, fun b h1 h2 => hT.block b h1 fun h3 => by have := hlt b h3; omega⟩
  have t8 : Turn (fun k => k = w.heap.size + 1) w4 ((((((((w4.setCell ⟨w.heap.size + 1, 0, none⟩ v0).setCell ⟨w.heap.size + 1, 1, none⟩ v1).setCell ⟨w.heap.size + 1, 2, none⟩ v2).setCell ⟨w.heap.size + 1, 3, none⟩ v3).setCell ⟨w.heap.size + 1, 4, none⟩ v4).setCell ⟨w.heap.size + 1, 5, none⟩ v5).setCell ⟨w.heap.size + 1, 6, none⟩ v6).setCell ⟨w.heap.size + 1, 7, none⟩ v7) := set8_turn
  refine ⟨R', p, q, rfl, own_baseR (own_turn ho t8 fun b hb2 e2 => by have := (ho.lt b hb2).1; omega) hb.size, hn, hB.turn t8 (fun k hk e2 => by
    rcases hbig k hk with h1 | h1
    · have := hlt k h1; omega
    · omega), ?_, fun k hk => (hbig k hk).imp_right fun h1 => Nat.le_trans hb.size h1⟩
  have e0 : Turn (fun k => R k ∨ w.heap.size ≤ k) w w3 := Turn.of_below hb
  have e1 : Turn (fun k => R k ∨ w.heap.size ≤ k) w3 w4 := hT.mono fun k _ hk => Or.inl hk
  have e3 : Turn (fun k => R k ∨ w.heap.size ≤ k) w4 ((((((((w4.setCell ⟨w.heap.size + 1, 0, none⟩ v0).setCell ⟨w.heap.size + 1, 1, none⟩ v1).setCell ⟨w.heap.size + 1, 2, none⟩ v2).setCell ⟨w.heap.size + 1, 3, none⟩ v3).setCell ⟨w.heap.size + 1, 4, none⟩ v4).setCell ⟨w.heap.size + 1, 5, none⟩ v5).setCell ⟨w.heap.size + 1, 6, none⟩ v6).setCell ⟨w.heap.size + 1, 7, none⟩ v7) := t8.mono fun k _ hk => Or.inr (by omega)
  exact ((e0.next e1).next e3).mono fun k hk h1 => h1.elim id fun h2 => by omega
set_option maxRecDepth 100000 in
theorem deedOf1_c (g : Nat) (w : World) : Calls Tryz.prog 60 #[dptr g, .int .i64 1] w fun e w' => e = .returned (.func (.func 88) #[dptr g] #[]) ∧ w' = w := by
  go_enter Tryz.func60, Tryz.ntmps60
  go_wp2_with fail
  go_ret
  exact ⟨rfl, rfl⟩
set_option maxRecDepth 100000 in
theorem deedOf2_c (g : Nat) (w : World) : Calls Tryz.prog 60 #[dptr g, .int .i64 2] w fun e w' => e = .returned (.func (.func 89) #[dptr g] #[]) ∧ w' = w := by
  go_enter Tryz.func60, Tryz.ntmps60
  go_wp2_with fail
  go_ret
  exact ⟨rfl, rfl⟩
set_option maxRecDepth 100000 in
theorem deedOf3_c (g : Nat) (w : World) : Calls Tryz.prog 60 #[dptr g, .int .i64 3] w fun e w' => e = .returned (.func (.func 90) #[dptr g] #[]) ∧ w' = w := by
  go_enter Tryz.func60, Tryz.ntmps60
  go_wp2_with fail
  go_ret
  exact ⟨rfl, rfl⟩
set_option maxRecDepth 100000 in
theorem deedOf4_c (g : Nat) (w : World) : Calls Tryz.prog 60 #[dptr g, .int .i64 4] w fun e w' => e = .returned (.func (.func 91) #[dptr g] #[]) ∧ w' = w := by
  go_enter Tryz.func60, Tryz.ntmps60
  go_wp2_with fail
  go_ret
  exact ⟨rfl, rfl⟩
set_option maxRecDepth 100000 in
theorem deedOf5_c (g : Nat) (w : World) : Calls Tryz.prog 60 #[dptr g, .int .i64 5] w fun e w' => e = .returned (.func (.func 92) #[dptr g] #[]) ∧ w' = w := by
  go_enter Tryz.func60, Tryz.ntmps60
  go_wp2_with fail
  go_ret
  exact ⟨rfl, rfl⟩
set_option maxRecDepth 100000 in
theorem deedOf6_c (g : Nat) (w : World) : Calls Tryz.prog 60 #[dptr g, .int .i64 6] w fun e w' => e = .returned (.func (.func 93) #[dptr g] #[]) ∧ w' = w := by
  go_enter Tryz.func60, Tryz.ntmps60
  go_wp2_with fail
  go_ret
  exact ⟨rfl, rfl⟩
set_option maxRecDepth 100000 in
theorem deedOf7_c (g : Nat) (w : World) : Calls Tryz.prog 60 #[dptr g, .int .i64 7] w fun e w' => e = .returned (.func (.func 94) #[dptr g] #[]) ∧ w' = w := by
  go_enter Tryz.func60, Tryz.ntmps60
  go_wp2_with fail
  go_ret
  exact ⟨rfl, rfl⟩
end Go.Proofs.YthagdkipipldlaaGreatDoor.gra
