/- With of a ring, and of none. Condition: package variables (RT). -/
import Derived.Test.YtkababeeikhifaaDoorRiB
namespace Go.Proofs.YtkababeeikhifaaDoor.rng
open Go.RowKit
open Go.Proofs.YtkababeeikhifaaDoor.oct Go.Proofs.YtkababeeikhifaaDoor.ref Go.Proofs.YtkababeeikhifaaDoor.rows Go.Proofs.YtkababeeikhifaaDoor.rowg Go.Proofs.YtkababeeikhifaaDoor.trn
open Go.Proofs.YtkababeeikhifaaDoor.scp (tx senc senc_len InS ins_below ins_cell)

theorem with_nil (w : World) (name : T) : Calls Tryd.prog 21 #[.pointer none, tx name] w fun e w' => e = .returned (.tuple #[.pointer none, .int .i64 12]) ∧ w = w' := by
  unfold tx
  go_enter Tryd.func21, Tryd.ntmps21
  go_wp2_with fail
  go_ret2
  exact ⟨rfl, rfl⟩
/-- what New answers -/
def NewR (w : World) (n : Int) (ms : List T) (e : Ending) (w' : World) : Prop := (rightB n ms = false ∧ e = .returned (.tuple #[.pointer none, .int .i64 1]) ∧ Below w.heap.size w w') ∨ (rightB n ms = true ∧ ∃ (g np : Nat), n = (np : Int) ∧ e = .returned (.tuple #[.pointer (some ⟨g, 0, none⟩), .int .i64 0]) ∧ Rg w' (fun k => w.heap.size ≤ k ∧ k < w'.heap.size) g np ms ∧ Below w.heap.size w w')
theorem rightB_iff (n : Int) (ms : List T) : rightB n ms = true ↔ 1 ≤ n ∧ n ≤ 64 ∧ Good ms := by
  unfold rightB
  rw [Bool.and_eq_true, Bool.and_eq_true, decide_eq_true_iff, decide_eq_true_iff, goodB_iff, and_assoc]
theorem new_c (n : Int) (P : Option Addr) (C m : Nat) (ms : List T) (w : World) (hp : InS w P ms) (hm : ms.length = m) (hl : m ≤ 140737488355328) (hC : m ≤ C) (ht : RT w) :
    Calls Tryd.prog 9 #[.int .i64 n, .slice P m C] w (NewR w n ms) := by
  subst hm
  cases h : rightB n ms with
  | false => exact (new_any n P C ms w hp hl hC h).mono fun _ _ hh => Or.inl ⟨h, hh.1, hh.2⟩
  | true =>
    obtain ⟨h1, h2, h3⟩ := (rightB_iff n ms).1 h
    obtain ⟨np, rfl⟩ : ∃ np : Nat, n = (np : Int) := ⟨n.toNat, by omega⟩
    exact (new_yes np P C ms w hp hC h3 (by omega) (by omega) ht).mono fun _ _ ⟨g, e1, e2, e3⟩ => Or.inr ⟨h, g, np, rfl, e1, e2, e3⟩
theorem NewR.back {w W : World} {n : Int} {ms : List T} {e : Ending} {w' : World} (h : NewR W n ms e w') (hb : Below w.heap.size w W) : NewR w n ms e w' := by
  rcases h with ⟨h1, h2, h3⟩ | ⟨h1, g, np, h2, h3, h4, h5⟩
  · exact Or.inl ⟨h1, h2, bnext hb h3⟩
  · exact Or.inr ⟨h1, g, np, h2, h3, h4.mono fun k hk => ⟨Nat.le_trans hb.size hk.1, hk.2⟩, bnext hb h5⟩
theorem src_txt (w : World) (x : T) (g : Nat) (hg : g = w.heap.size) : ∀ j u, (cells senc [x])[j]? = some u → (w.alloc (.cells #[.string ⟨x.toArray⟩] 9)).cell? ((⟨g, 0, none⟩ : Addr).add j) = some u := by
  intro j u hj
  exact new_cellsG w g 9 hg [.string ⟨x.toArray⟩] j u (by simpa [cells, senc, tx] using hj)
/-- the two results of New, whichever -/
theorem newR_vals {w : World} {n : Int} {ms : List T} {e : Ending} {w' : World} (h : NewR w n ms e w') : ∃ (p : Option Addr) (c : Int), e = .returned (.tuple #[.pointer p, .int .i64 c]) := by
  rcases h with ⟨_, h, _⟩ | ⟨_, g, np, _, h, _⟩
  · exact ⟨_, _, h⟩
  · exact ⟨_, _, h⟩
set_option maxRecDepth 100000 in
set_option maxHeartbeats 16000000 in
theorem with_c {w : World} {F : Nat → Prop} {g np : Nat} {ms : List T} (h : Rg w F g np ms) (hT : RT w) (name : T) :
    Calls Tryd.prog 21 #[.pointer (some ⟨g, 0, none⟩), tx name] w (NewR w (np : Int) (ms ++ [name])) := by
  have HNM : Hid (∀ W, Below w.heap.size w W → Calls Tryd.prog 13 #[.pointer (some ⟨g, 0, none⟩)] W fun e w' => ∃ v, e = .returned v ∧ w'.ownsRow w.heap.size 9 1 v ms.length (cells senc ms) ∧ Below W.heap.size W w') := Lib.hid fun W hW => (names_c (h.below hW)).mono fun _ _ ⟨v, e1, e2, e3⟩ => ⟨v, e1, cln.own_base e2 hW.size, e3⟩
  have HNEW : Hid (∀ W P C, InS W P (ms ++ [name]) → ms.length + 1 ≤ C → Below w.heap.size w W → Calls Tryd.prog 9 #[.int .i64 (np : Int), .slice P (ms.length + 1) C] W (NewR w (np : Int) (ms ++ [name]))) := Lib.hid fun W P C h1 h2 h3 => (new_c (np : Int) P C (ms.length + 1) (ms ++ [name]) W h1 (by simp) (by have := h.good.1.hi; omega) h2 (hT.below h3)).mono fun _ _ hh => hh.back h3
  have h8 := h.good.1.hi
  obtain ⟨vn, vp, hR⟩ := h
  have c0 : w.cell? ⟨g, 0, none⟩ = some (.int .i64 (np : Int)) := hR.blk.cell 0
  have hgl := hR.blk.lt
  have HCX : Hid (∀ W, Below w.heap.size w W → W.cell? ⟨g, 0, none⟩ = some (.int .i64 (np : Int))) := Lib.hid fun W hW => (hW.cell (p := ⟨g, 0, none⟩) hgl).trans c0
  have HIN : Hid (∀ (W : World) (g2 cap : Nat), W.ownsRow w.heap.size 9 1 (.slice (some ⟨g2, 0, none⟩) (ms.length + 1) cap) (ms.length + 1) (cells senc ms ++ cells senc [name]) → InS W (some ⟨g2, 0, none⟩) (ms ++ [name]) ∧ ms.length + 1 ≤ cap) := Lib.hid fun W g2 cap hw => by
    rw [← cells_append] at hw
    obtain ⟨b, c, e, hc, hin⟩ := own_in senc_len (by decide) (by simp) (by omega) hw
    injection e with e1 e2 e3
    injection e1 with e1
    injection e1 with e1
    subst e1
    subst e3
    exact ⟨hin, hc⟩
  obtain ⟨L, hL⟩ : ∃ L, ms.length = L := ⟨_, rfl⟩
  rw [hL] at HNM HNEW h8 HIN
  obtain ⟨j0, hj, hy0, hy1, hy2⟩ := info_parts infoStr
  have hgq1 : g ≠ w.heap.size := Nat.ne_of_lt hgl
  have hgq2 : w.heap.size ≠ g := Nat.ne_of_gt hgl
  have HGL := Lib.hid hgl
  have HB0 : Hid (Below w.heap.size w w) := Lib.hid (Below.refl _ _)
  have HAP : Hid (∀ (W1 W2 : World) (v : Value), Below w.heap.size w W1 → (∀ k, v.ownBlock = some k → w.heap.size ≤ k) → W1.grownBy W2 v.ownBlock → Below w.heap.size w W2) := Lib.hid fun W1 W2 v h1 h2 h3 => h1.grown h3 h1.size h2
  unfold tx
  clear hR hL hT
  go_enter Tryd.func21, Tryd.ntmps21
  go_wp2_with fail
  go_region_law (first
    | (refine step_append_lies _ rfl (.tmp 13) (.tmp 15) 22 rfl w.heap.size 9 j0 (.string ⟨#[]⟩) 1 16 Tryd.underlying22 hj hy0 hy1 hy2 rfl (by decide) _ _ _ rfl (HNR.out.alloc _) ⟨wN.heap.size, 0, none⟩ 1 1 (cells senc [name]) rfl rfl (src_txt wN name _ rfl) (fun u hu => by obtain ⟨y, hy⟩ := cells_mem hu; exact senc_one y u hy) (by decide) (by unfold maxLen; omega) (by omega) (by have := HBN.out.size; simp; omega) _ rfl ?_; intro g2 cap wA how hgr hg2 _; have HIA := Lib.hid (HIN.out wA g2 cap how); have HBA := Lib.hid (HAP.out _ wA (.slice pv L cv) (HBN.out.alloc HBN.out.size _) (fun k hk => (HNR.out.lt k hk).1) hgr); have cA := HCX.out wA HBA.out; clear how hgr hg2)
    | (refine step_append_lies _ rfl (.tmp 13) (.tmp 15) 22 rfl w.heap.size 9 j0 (.string ⟨#[]⟩) 1 16 Tryd.underlying22 hj hy0 hy1 hy2 rfl (by decide) _ _ _ rfl HNR.out ⟨w.heap.size, 0, none⟩ 1 1 (cells senc [name]) rfl rfl HSC.out (fun u hu => by obtain ⟨y, hy⟩ := cells_mem hu; exact senc_one y u hy) (by decide) (by unfold maxLen; omega) (by omega) (by have := HBN.out.size; omega) _ rfl ?_; intro g2 cap wA how hgr hg2 _; have HIA := Lib.hid (HIN.out wA g2 cap how); have HBA := Lib.hid (HAP.out _ wA (.slice pv L cv) HBN.out (fun k hk => (HNR.out.lt k hk).1) hgr); have cA := HCX.out wA HBA.out; clear how hgr hg2)
    | (go_simp; go_at_call 13; (with_reducible refine (HNM.out w.drew HB0.out.drew).mono ?_); rintro e wN ⟨v, rfl, hn, hb⟩; obtain ⟨pv, cv, rfl⟩ := cln.own_slice hn; have HNR := Lib.hid hn; have HBN := Lib.hid (HB0.out.drew.trans (hb.mono HB0.out.size)); have cN := HCX.out wN HBN.out; have hgn : g < wN.heap.size := Nat.lt_of_lt_of_le HGL.out HBN.out.size; have hgn1 : g ≠ wN.heap.size := Nat.ne_of_lt hgn; have hgn2 : wN.heap.size ≠ g := Nat.ne_of_gt hgn; clear hn hb)
    | (go_simp; go_at_call 13; (with_reducible refine (HNM.out _ (HB0.out.alloc (Nat.le_refl _) _).drew).mono ?_); rintro e wN ⟨v, rfl, hn, hb⟩; obtain ⟨pv, cv, rfl⟩ := cln.own_slice hn; have HNR := Lib.hid hn; have HBN := Lib.hid ((HB0.out.alloc (Nat.le_refl _) (.cells #[.string ⟨name.toArray⟩] 9)).drew.trans (hb.mono (by simp))); have HSC : Hid (∀ j u, (cells senc [name])[j]? = some u → wN.cell? ((⟨w.heap.size, 0, none⟩ : Addr).add j) = some u) := Lib.hid (fun j u hu => by rw [add_none]; have h3 := src_txt w name w.heap.size rfl j u hu; rw [add_none] at h3; exact (hb.cell (p := ⟨w.heap.size, 0 + j, none⟩) (by simp)).trans h3); have cN := HCX.out wN HBN.out; have hgn : g < wN.heap.size := Nat.lt_of_lt_of_le HGL.out HBN.out.size; have hgn1 : g ≠ wN.heap.size := Nat.ne_of_lt hgn; have hgn2 : wN.heap.size ≠ g := Nat.ne_of_gt hgn; clear hn hb)
    | (go_simp; go_at_call 9; (with_reducible refine (HNEW.out _ _ _ HIA.out.1 HIA.out.2 HBA.out).mono ?_); rintro e wZ hz; obtain ⟨pz, cz, rfl⟩ := newR_vals hz; have HZ := Lib.hid hz; clear hz))
  all_goals
    go_wp2_with fail
    go_ret2
    exact HZ.out
end Go.Proofs.YtkababeeikhifaaDoor.rng
