/- The contracts of sha.All, sha.Sum, keyed, sha.Mac. Condition: the two tables hold what the program's text lays. -/
import Derived.Test.YtohmhcglmaifpaaDoorDev8
namespace Go.Proofs.YtohmhcglmaifpaaDoor.sha
open Go.RowKit
open Go.Proofs.YtohmhcglmaifpaaDoor.oct Go.Proofs.YtohmhcglmaifpaaDoor.ref Go.Proofs.YtohmhcglmaifpaaDoor.rows
open Go.Lib (byteCells)

theorem part_block {w : World} {x : Part} {g : Nat} (h : x.lies w) (hg : w.heap.size ≤ g) : 0 < x.l.length → ∀ a, x.p = some a → a.block ≠ g := fun hl => in8_block h.1 hg hl

set_option maxHeartbeats 2000000 in
theorem all_c (P : Option Addr) (C : Nat) (ps : List Part) (w : World) (ht : Tabs w) (hp : InP w P ps) (hn : ps.length ≤ 200) (hl : (joined ps).length ≤ 140737488354500) :
    Calls Tryd.prog 22 #[.slice P ps.length C] w fun e w' => e = .returned (dval (digest (joined ps))) ∧ Below w.heap.size w w' := by
  have HP := Lib.hid hp
  have HT := Lib.hid ht
  have hE : Blk (w.alloc (.cells (byteCells (brow 32 fun _ => 0)).toArray 26)) w.heap.size 26 (byteCells (brow 32 fun _ => 0)) := blk_new w _ _ _ rfl
  have hb0 := (Below.refl w.heap.size w).alloc (Nat.le_refl _) (.cells (byteCells (brow 32 fun _ => 0)).toArray 26)
  have HE := Lib.hid hE
  have HB0 := Lib.hid hb0
  clear hp ht hE hb0
  go_enter Tryd.func22, Tryd.ntmps22
  go_wp2_with fail
  refine (hnew_c (w.alloc (.cells (byteCells (brow 32 fun _ => 0)).toArray 26)) (HT.out.below HB0.out)).mono ?_
  rintro e w1 ⟨g, rfl, hg, hh1, hb1⟩
  have hg0 : w.heap.size + 1 ≤ g := by simpa using hg
  have hE1 := HE.out.below hb1
  have hbw1 := bnext HB0.out hb1
  clear hg hb1
  go_wp2_with fail
  go_loopg [9] ps.length (fun k s9 wy => ∃ i : Nat, i + k = ps.length ∧ s9 = .int .i64 i ∧ Holds wy g (joined (ps.take i)) ∧ Blk wy w.heap.size 26 (byteCells (brow 32 fun _ => 0)) ∧ Below w.heap.size w wy)
  case atStart => exact ⟨0, by omega, rfl, by simpa [joined] using hh1, hE1, hbw1⟩
  case round =>
    clear hh1 hE1 hbw1
    obtain ⟨i, hik, rfl, hh, hE, hbx⟩ := hrel
    rcases gk with _ | k
    · obtain rfl : i = ps.length := by omega
      have e : ps.take ps.length = ps := List.take_length
      rw [e] at hh
      have HH := Lib.hid hh
      have HEE := Lib.hid hE
      have HBX := Lib.hid hbx
      clear e hh hE hbx
      go_wp2_with fail
      refine (hsum_c g (joined ps) wr (HT.out.below HBX.out) HH.out hl).mono ?_
      rintro e w2 ⟨rfl, hb2⟩
      have hE2 := Lib.hid (HEE.out.below hb2)
      have hbw2 := bnext HBX.out hb2
      have hDl : (byteCells (digest (joined ps))).length = 32 := by rw [byteCells_len, digest_len]
      have hD1 := bytes_one (digest (joined ps))
      have hDi : Hid ((Tryd.prog.info? 26).map (·.size) = some (byteCells (digest (joined ps))).length) := by show _ = _; rw [hDl]; exact infoDS
      have hOl : (byteCells (brow 32 fun _ => 0)).length = (byteCells (digest (joined ps))).length := by rw [bcells_len, hDl]
      unfold dval
      obtain ⟨D, hDe⟩ : ∃ D, byteCells (digest (joined ps)) = D := ⟨_, rfl⟩
      rw [hDe] at hD1 hDi hOl ⊢
      have HDE := Lib.hid hDe
      generalize byteCells (brow 32 fun _ => 0) = O at hE2 hOl
      clear hDe hDl hb2
      go_wp2_with (with_reducible refine wpList_store_blk rfl 26 (.tmp 2) (.tmp 18) rfl w.heap.size D O 26 hE2.out rfl rfl hDi.out hOl hD1 ?_; intro wf hR hW)
      refine bodyPost_ret (v := .agg D.toArray) (results_blk Tryd.results22 _ _ w.heap.size 26 D _ rfl hR Tryd.underlying26 rfl hDi.out) rfl ⟨by unfold dval; rw [HDE.out], hW.below _ _ hbw2 (Nat.le_refl _)⟩
    · have hi : i < ps.length := by omega
      have hq := HP.out.below hbx
      obtain ⟨bb, oo, rfl, hc⟩ := hq.1 (by omega)
      have c1 := hc i hi
      have hx := hq.2 _ (List.getElem_mem hi)
      have hx0 := HP.out.2 _ (List.getElem_mem hi)
      have hle := joined_take_le ps (i + 1)
      have hj := joined_take hi
      rw [hj, List.length_append] at hle
      have HJ := Lib.hid hj
      obtain ⟨x, hxe⟩ : ∃ x, ps[i] = x := ⟨_, rfl⟩
      rw [hxe] at c1 hx hx0 hle HJ
      obtain ⟨q, cq, l⟩ := x
      simp only [Part.val] at c1
      simp only at hle
      have HC := Lib.hid (hwrite_c g (joined (ps.take i)) q cq l wr (HT.out.below hbx) hh hx.1 (part_block hx0 (by omega)) hx.2 (by omega))
      have HEE := Lib.hid hE
      have HBX := Lib.hid hbx
      clear hq hc hxe hx hx0 hj hh hE hbx
      go_wp2_with fail
      refine HC.out.mono ?_
      rintro e w2 ⟨⟨v2, rfl⟩, hh2, hg2⟩
      have hE2 : Blk w2 w.heap.size 26 (byteCells (brow 32 fun _ => 0)) := (hg2.block _ HEE.out.lt (fun e => by injection e with e; omega)).trans HEE.out
      have hbw2 := grown_below HBX.out hg2 (by omega) HBX.out.size
      rw [← HJ.out] at hh2
      clear hg2
      go_wp2_with fail
      go_roundg k
      case measure => omega
      case rel => exact ⟨i + 1, by omega, by go_num, hh2, hE2, hbw2⟩

theorem part_one {w : World} {p : Option Addr} {cp : Nat} {l : List UInt8} (h : In8 w p l) (hn : Rm p cp l.length) (g : Nat) (hg : w.cell? ⟨g, 0, none⟩ = some (.slice p l.length cp)) : InP w (some ⟨g, 0, none⟩) [⟨p, cp, l⟩] := by
  refine ⟨fun _ => ⟨g, 0, rfl, fun i hi => ?_⟩, ?_⟩
  · obtain rfl : i = 0 := by simp at hi; omega
    exact hg
  · intro x hx
    simp only [List.mem_cons, List.not_mem_nil, or_false] at hx
    subst hx
    exact ⟨h, hn⟩

set_option maxHeartbeats 1000000 in
theorem sum_top (p : Option Addr) (cp : Nat) (l : List UInt8) (w : World) (ht : Tabs w) (hp : In8 w p l) (hl : l.length ≤ 140737488354500) (hr : Rm p cp l.length) :
    Calls Tryd.prog 13 #[.slice p l.length cp] w fun e w' => e = .returned (dval (digest l)) ∧ Below w.heap.size w w' := by
  have hE : Blk (w.alloc (.cells (byteCells (brow 32 fun _ => 0)).toArray 26)) w.heap.size 26 (byteCells (brow 32 fun _ => 0)) := blk_new w _ _ _ rfl
  have hb0 := (Below.refl w.heap.size w).alloc (Nat.le_refl _) (.cells (byteCells (brow 32 fun _ => 0)).toArray 26)
  have hb1 := hb0.alloc hb0.size (.cells #[.slice p l.length cp] 22)
  have hE1 := blk_old hE (.cells #[.slice p l.length cp] 22)
  have hP := part_one (hp.below hb1) hr (w.heap.size + 1) (by rw [World.cell?_alloc_at _ _ _ _ (by simp)]; rfl)
  have hC := all_c (some ⟨w.heap.size + 1, 0, none⟩) 1 [⟨p, cp, l⟩] _ (ht.below hb1) hP (by simp) (by rw [joined_one]; exact hl)
  rw [joined_one] at hC
  have HC := Lib.hid hC
  have HE := Lib.hid hE1
  have HB := Lib.hid hb1
  have hDl : (byteCells (digest l)).length = 32 := by rw [byteCells_len, digest_len]
  have hD1 := bytes_one (digest l)
  have hDi : Hid ((Tryd.prog.info? 26).map (·.size) = some (byteCells (digest l)).length) := by show _ = _; rw [hDl]; exact infoDS
  have hOl : Hid ((byteCells (brow 32 fun _ => 0)).length = (byteCells (digest l)).length) := by show _ = _; rw [bcells_len, hDl]
  obtain ⟨D, hDe⟩ : ∃ D, byteCells (digest l) = D := ⟨_, rfl⟩
  have HV : Hid (dval (digest l) = .agg D.toArray) := by show _ = _; unfold dval; rw [hDe]
  rw [hDe] at hD1 hDi hOl
  clear ht hp hE hb0 hb1 hE1 hP hC hDl hDe
  go_enter Tryd.func13, Tryd.ntmps13
  go_wp2_with fail
  refine HC.out.mono ?_
  rintro e w2 ⟨rfl, hb2⟩
  have hE2 := Lib.hid (HE.out.below hb2)
  have hbw2 := bnext HB.out hb2
  rw [HV.out]
  clear hb2
  go_wp2_with (with_reducible refine wpList_store_blk rfl 26 (.tmp 2) (.tmp 5) rfl w.heap.size D (byteCells (brow 32 fun _ => 0)) 26 hE2.out rfl rfl hDi.out hOl.out hD1 ?_; intro wf hR hW)
  refine bodyPost_ret (v := .agg D.toArray) (results_blk Tryd.results13 _ _ w.heap.size 26 D _ rfl hR Tryd.underlying26 rfl hDi.out) rfl ⟨by rw [HV.out], hW.below _ _ hbw2 (Nat.le_refl _)⟩
end Go.Proofs.YtohmhcglmaifpaaDoor.sha
