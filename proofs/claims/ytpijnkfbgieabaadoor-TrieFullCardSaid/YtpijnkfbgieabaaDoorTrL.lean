/- The developers' cloned, top, Count. Lengths of a pair. -/
import Derived.Test.YtpijnkfbgieabaaDoorTrK
import Derived.Test.YtpijnkfbgieabaaDoorClnS
namespace Go.Proofs.YtpijnkfbgieabaaDoor.tri
open Go.RowKit
open Go.Proofs.YtpijnkfbgieabaaDoor.oct Go.Proofs.YtpijnkfbgieabaaDoor.ref Go.Proofs.YtpijnkfbgieabaaDoor.rows Go.Proofs.YtpijnkfbgieabaaDoor.rowg Go.Proofs.YtpijnkfbgieabaaDoor.trn Go.Proofs.YtpijnkfbgieabaaDoor.qut
open Go.Proofs.YtpijnkfbgieabaaDoor.sha (digest digest_len dval Tabs step_store_blk)
open Go.Lib (byteCells)

set_option maxRecDepth 100000 in
set_option maxHeartbeats 8000000 in
theorem cloned_c (x : Pr) (w : World) (hf : Fit x) : Calls Tryd.prog 56 #[.agg #[.string ⟨x.n.toArray⟩, .string ⟨x.v.toArray⟩]] w fun e w' => e = .returned (.agg #[.string ⟨x.n.toArray⟩, .string ⟨x.v.toArray⟩]) ∧ Below w.heap.size w w' := by
  have hn := size_txt x.n
  have hv := size_txt x.v
  obtain ⟨sn, hsn⟩ : ∃ sn, (⟨x.n.toArray⟩ : ByteArray) = sn := ⟨_, rfl⟩
  obtain ⟨sv, hsv⟩ : ∃ sv, (⟨x.v.toArray⟩ : ByteArray) = sv := ⟨_, rfl⟩
  rw [hsn] at hn ⊢
  rw [hsv] at hv ⊢
  have hb1 := (Below.refl w.heap.size w).alloc (Nat.le_refl _) (.cells #[.string sn, .string sv] 44)
  have hB1 := blk_new w #[.string sn, .string sv] 44 [.string sn, .string sv] rfl
  have hs1 : (w.alloc (.cells #[.string sn, .string sv] 44)).heap.size = w.heap.size + 1 := by simp
  obtain ⟨w1, hw1⟩ : ∃ w1, w.alloc (.cells #[.string sn, .string sv] 44) = w1 := ⟨_, rfl⟩
  rw [hw1] at hb1 hB1 hs1
  have hb2 := hb1.alloc hb1.size (.cells #[.string ⟨#[]⟩, .string ⟨#[]⟩] 44)
  have hB2 := blk_new w1 #[.string ⟨#[]⟩, .string ⟨#[]⟩] 44 [.string ⟨#[]⟩, .string ⟨#[]⟩] rfl
  replace hB1 := blk_old hB1 (.cells #[.string ⟨#[]⟩, .string ⟨#[]⟩] 44)
  rw [hs1] at hB2
  obtain ⟨w2, hw2⟩ : ∃ w2, w1.alloc (.cells #[.string ⟨#[]⟩, .string ⟨#[]⟩] 44) = w2 := ⟨_, rfl⟩
  rw [hw2] at hb2 hB2 hB1
  have c0 : ∀ y : After w2, y.v.cell? ⟨w.heap.size, 0, none⟩ = some (.string sn) := fun y => (hB1.below y.below).cell 0
  have c1 : ∀ y : After w2, y.v.cell? ⟨w.heap.size, 1, none⟩ = some (.string sv) := fun y => (hB1.below y.below).cell 1
  have C0 := Lib.hid (fun y : After w2 => after_of y (Go.Proofs.YtpijnkfbgieabaaDoor.cln.sclone_c sn y.v (by have := hf.1; omega)))
  have C1 := Lib.hid (fun y : After w2 => after_of y (Go.Proofs.YtpijnkfbgieabaaDoor.cln.sclone_c sv y.v (by have := hf.2; omega)))
  have HB := Lib.hid hb2
  have HB2 := Lib.hid hB2
  clear hn hv hsn hsv hb1 hB1 hb2 hB2 hf
  go_enter Tryd.func56, Tryd.ntmps56
  go_upto_region 1 with fail
  clear hw1 hw2 hs1
  refine wp_region_tail 6 (by kernel_rfl) (by kernel_rfl) ?_
  simp only [List.take_succ_cons, List.take_zero, List.drop_succ_cons, List.drop_zero]
  repeat (go_big_quiet_step (first
    | (rename_i y; go_at_call 47; with_reducible exact C0.out y)
    | (rename_i y; go_at_call 47; with_reducible exact C1.out y)))
  refine wpQuiet_nil ?_
  rintro ⟨w7, hb7⟩
  dsimp only
  have HB7 := Lib.hid (bnext HB.out hb7)
  have HG7 := Lib.hid (HB2.out.below hb7)
  have a0 : w7.cell? ⟨w.heap.size + 1, 0, none⟩ = some (.string ⟨#[]⟩) := HG7.out.cell 0
  have a1 : w7.cell? ⟨w.heap.size + 1, 1, none⟩ = some (.string ⟨#[]⟩) := HG7.out.cell 1
  have f0 := HG7.out.frozen 0
  have f1 := HG7.out.frozen 1
  clear hb7 c0 c1 C0 C1
  go_wp2_with fail
  have q1 := set_two (a2 := .string sn) (b2 := .string sv) HG7.out
  have q3 := (HB7.out.setCell (p := ⟨w.heap.size + 1, 0, none⟩) (Nat.le_succ _) (.string sn)).setCell (p := ⟨w.heap.size + 1, 1, none⟩) (Nat.le_succ _) (.string sv)
  exact bodyPost_ret (v := .agg #[.string sn, .string sv]) (results_blk Tryd.results56 _ _ (w.heap.size + 1) 44 [.string sn, .string sv] _ rfl q1 Tryd.underlying44 rfl infoPz) rfl ⟨rfl, q3⟩
/-- a trie in memory -/
structure Tri (w : World) (F : Nat → Prop) (g : Nat) (l : List Pr) : Prop where
  nd : ∃ p, Blk w g 90 [nptr p] ∧ Nd w F 64 0 p l
  srt : Srt l
  fit : ∀ x ∈ l, Fit x
  ok : ∀ x ∈ l, okKey x.n = true
  len : l.length ≤ 4096
  apart : ¬ F g
theorem Tri.turn {S F : Nat → Prop} {w w' : World} {g : Nat} {l : List Pr} (h : Tri w F g l) (ht : Turn S w w') (hd : ∀ k, F k → ¬ S k) (hg : ¬ S g) : Tri w' F g l := by
  obtain ⟨p, h1, h2⟩ := h.nd
  exact ⟨⟨p, blk_turn h1 ht hg, h2.turn ht hd fun _ h => h⟩, h.srt, h.fit, h.ok, h.len, h.apart⟩
theorem Tri.below {F : Nat → Prop} {w w' : World} {g : Nat} {l : List Pr} (h : Tri w F g l) (hb : Below w.heap.size w w') : Tri w' F g l := h.turn (S := fun _ => False) (Turn.of_below hb) (fun _ _ => id) id
theorem top_c {w : World} {g : Nat} {v : Value} (c0 : w.cell? ⟨g, 0, none⟩ = some v) : Calls Tryd.prog 40 #[.pointer (some ⟨g, 0, none⟩)] w fun e w' => e = .returned v ∧ w = w' := by
  go_enter Tryd.func40, Tryd.ntmps40
  go_wp2_with fail
  go_ret
  exact ⟨rfl, rfl⟩
theorem count_c {w : World} {F : Nat → Prop} {g : Nat} {l : List Pr} (h : Tri w F g l) : Calls Tryd.prog 18 #[.pointer (some ⟨g, 0, none⟩)] w fun e w' => e = .returned (.int .i64 (l.length : Nat)) ∧ w = w' := by
  obtain ⟨p, h1, h2⟩ := h.nd
  have HT := Lib.hid (top_c (h1.cell 0))
  have HC := Lib.hid (total_c h2)
  obtain ⟨P, hP⟩ : ∃ P, nptr p = P := ⟨_, rfl⟩
  rw [hP] at HT HC
  clear h h1 h2 hP
  go_enter Tryd.func18, Tryd.ntmps18
  go_wp2_with fail
  refine HT.out.mono ?_
  rintro e w' ⟨rfl, rfl⟩
  go_wp2_with fail
  refine HC.out.mono ?_
  rintro e w' ⟨rfl, rfl⟩
  go_wp2_with fail
  go_ret
  exact ⟨rfl, rfl⟩
end Go.Proofs.YtpijnkfbgieabaaDoor.tri
