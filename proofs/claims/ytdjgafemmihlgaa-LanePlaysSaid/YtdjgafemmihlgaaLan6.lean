/- The developers' Heal, Shut, Join. -/
import Derived.Test.YtdjgafemmihlgaaLan5
namespace Go.Proofs.Ytdjgafemmihlgaa.lan
open Go.RowKit
open Go.Proofs.Ytdjgafemmihlgaa.oct Go.Proofs.Ytdjgafemmihlgaa.ref Go.Proofs.Ytdjgafemmihlgaa.rows Go.Proofs.Ytdjgafemmihlgaa.rowg Go.Proofs.Ytdjgafemmihlgaa.trn
open Go.Lib (byteCells)

theorem LA.hold {w w' : World} {R : Nat → Prop} {g : Nat} {s s2 : LS} {m : Nat} (h : LA w R g s) (hm : w.cell? ⟨g, 2, none⟩ = some (.map (some m))) (ht : Turn (fun k => k = m) w w') (hn : s2.n = s.n) (hp : s2.ps = s.ps) (cnt : Nat) (D : DataW Unit) (how : w'.ownsMap Try.prog 71 unitElem m cnt D) (hc : cnt ≤ s2.cn) (hs : IsShut D s2.sh) : LA w' R g s2 := by
  obtain ⟨v, qs, m2, cnt2, D2, h1, h2, _⟩ := h
  have e : m2 = m := by
    have := (h1.blk.cell 2).symm.trans hm
    simpa using this
  subst e
  have hb : ∀ k e X, Blk w k e X → k ≠ m2 := by
    intro k e X hB he
    subst he
    obtain ⟨es, clock, hh, _⟩ := h1.map
    rw [show w.heap[k]? = _ from hB] at hh
    injection hh with hh
    cases hh
  have hrow : ∀ {e z n : Nat} {v : Value} {xs : List Value}, w.ownsRow 0 e z v n xs → w'.ownsRow 0 e z v n xs := by
    intro e z n v xs ho
    refine own_turn ho ht ?_
    intro k hk he
    rcases ho.2 with ⟨h3, _⟩ | ⟨gg, cap, cur, h3, _, hg, _⟩
    · rw [h3] at hk; cases hk
    · rw [h3] at hk
      injection hk with hk
      obtain ⟨es, clock, hh, _⟩ := h1.map
      have hk2 : gg = m2 := hk.trans he
      rw [hk2, hh] at hg
      injection hg with hg
      cases hg
  rw [← hp] at h2
  refine ⟨v, qs, m2, cnt, D, ⟨h1.mem, fun k hk => Nat.lt_of_lt_of_le (h1.lt k hk) ht.size, ?_, ⟨hrow h1.way.own, h1.way.foot, fun x hx => ⟨hrow (h1.way.each x hx).own, (h1.way.each x hx).foot⟩⟩, h1.apart, how, h1.mmem⟩, h2, hc, hs⟩
  rw [hn]
  exact blk_turn h1.blk ht (hb _ _ _ h1.blk)
/-- what holds of a map that is emptied -/
theorem clear_run {W : World} {m cnt : Nat} {D : DataW Unit} (hm : W.ownsMap Try.prog 71 unitElem m cnt D) : ∃ W', (∀ ty, (Builtin.clear_ #[60] ty #[.map (some m)]).run Try.prog W = .ok (.tuple #[]) W') ∧ W'.ownsMap Try.prog 71 unitElem m 0 (DataW.map [] : DataW Unit) ∧ W.mapTurned W' m := by
  obtain ⟨es, clock, hb, F, hs, rfl⟩ := hm
  refine ⟨ChangeMaps.setBlock W m (.map #[] clock), fun ty => ?_, ⟨#[], clock, ChangeMaps.heap_setBlock_same hb _, ⟨by simp, MapKept.stamped_empty _, by simp⟩, Nat.le_refl _, rfl⟩, ⟨es, clock, #[], clock, hb, rfl⟩⟩
  simp [Builtin.clear_, run_underlying Try.underlying60, MapKept.run_getObj_map hb, MapKept.run_setObj_map _ hb, Result.andThen, ChangeMaps.setBlock]
set_option maxHeartbeats 1000000 in
theorem heal_c {w : World} {R : Nat → Prop} {g : Nat} {s : LS} (h : LA w R g s) :
    Calls Try.prog 18 #[ptr g] w fun e w' => e = .returned (.tuple #[]) ∧ To w w' R g (healP s) := by
  obtain ⟨m, cnt, D, c2, hm, hs, hc, _, _⟩ := h.shut
  obtain ⟨w2, hrun, how, hmt⟩ := clear_run hm
  have HT : Hid (To w w2 R g (healP s)) := by
    refine ⟨R, h.hold c2 (Turn.map hmt rfl) rfl rfl 0 _ how (Nat.zero_le _) isShut_nil, ?_, Grown.refl R w⟩
    obtain ⟨v, qs, m2, cnt2, D2, h1, _⟩ := h
    have e : m2 = m := by
      have := (h1.blk.cell 2).symm.trans c2
      simpa using this
    exact Turn.map hmt (e ▸ h1.mmem)
  clear hm hs hc how hmt h
  go_enter Try.func18, Try.ntmps18
  go_wp2_with fail
  go_end0
  exact ⟨rfl, HT.out⟩
/-- what Shut comes to in memory -/
theorem LA.linked {w w2 w3 : World} {R : Nat → Prop} {g : Nat} {s : LS} {m cnt : Nat} {D : DataW Unit} {x y : Nat} {v : Bool} (h : LA w R g s) (c2 : w.cell? ⟨g, 2, none⟩ = some (.map (some m))) (hb : Below w.heap.size w w2) (hmt : w2.mapTurned w3 m) (hne : x ≠ y) (hx : x < s.n) (hy : y < s.n)
    (how : w3.ownsMap Try.prog 71 unitElem m cnt D) (hc : cnt ≤ s.cn + 1) (hs : IsShut D (linkS s.sh x y v)) : To w w3 R g (linkP s x y v).2 := by
  have hE : (linkP s x y v).2 = { s with sh := linkS s.sh x y v, cn := s.cn + 1 } := by
    unfold linkP
    rw [if_neg]
    · rfl
    · rw [inN_iff.2 ⟨by omega, by omega⟩, inN_iff.2 ⟨by omega, by omega⟩]
      rintro (h4 | h4 | h4)
      · cases h4
      · cases h4
      · omega
  rw [hE]
  obtain ⟨_, _, _, _, _, _, _, _, hglt⟩ := h.shut
  have hmR : R m := by
    obtain ⟨v, qs, m2, cnt2, D2, h1, _⟩ := h
    have e : m2 = m := by
      have := (h1.blk.cell 2).symm.trans c2
      simpa using this
    exact e ▸ h1.mmem
  have h2 := h.below hb
  refine ⟨R, h2.hold ((hb.cell (p := ⟨g, 2, none⟩) hglt).trans c2) (Turn.map hmt rfl) rfl rfl cnt D how hc hs, ?_, Grown.refl R w⟩
  exact (Turn.of_below hb).next (Turn.map hmt hmR)
theorem linkP_off {s : LS} {a b : Int} {v : Bool} (h : offP s a b = 6) : linkP s a b v = (6, s) := by
  unfold offP at h
  unfold linkP
  split at h
  · rename_i h2; rw [if_pos h2]
  · cases h
theorem linkP_on {s : LS} {a b : Int} {v : Bool} (h : offP s a b = 0) : (linkP s a b v).1 = 0 ∧ inN s.n a = true ∧ inN s.n b = true ∧ a ≠ b := by
  unfold offP at h
  unfold linkP
  split at h
  · cases h
  · rename_i h2
    rw [if_neg h2]
    refine ⟨rfl, ?_, ?_, fun e => h2 (Or.inr (Or.inr e))⟩
    · cases hh : inN s.n a with | true => rfl | false => exact absurd (Or.inl hh) h2
    · cases hh : inN s.n b with | true => rfl | false => exact absurd (Or.inr (Or.inl hh)) h2
theorem offP_cases (s : LS) (a b : Int) : offP s a b = 6 ∨ offP s a b = 0 := by unfold offP; split; exact Or.inl rfl; exact Or.inr rfl
set_option maxRecDepth 100000 in
set_option maxHeartbeats 4000000 in
theorem shut_c {w : World} {R : Nat → Prop} {g : Nat} {s : LS} (h : LA w R g s) (hw : Wf s) (hcn : s.cn < 1000000) (a b : Int) (ha : I64 a) (hb : I64 b) :
    Calls Try.prog 11 #[ptr g, .int .i64 a, .int .i64 b] w fun e w' => e = .returned (err (linkP s a b true).1) ∧ To w w' R g (linkP s a b true).2 := by
  have HU := Lib.hid (unlinked_c h hw a b ha hb)
  have HH := Lib.hid h
  have b1 := hw.hi
  have hlt := h.lt
  clear h hw
  rcases offP_cases s a b with h0 | h0
  · rw [linkP_off h0]
    rw [h0] at HU
    clear h0 hlt
    go_enter Try.func11, Try.ntmps11
    go_wp2_with fail
    refine HU.out.mono ?_
    rintro e w1 ⟨rfl, rfl⟩
    go_wp2_with fail
    go_ret
    exact ⟨rfl, To.refl HH.out⟩
  · obtain ⟨hE, h1, h2, hne⟩ := linkP_on (v := true) h0
    rw [h0] at HU
    rw [hE]
    have hA := inN_iff.1 h1
    have hB := inN_iff.1 h2
    obtain ⟨x, rfl⟩ : ∃ x : Nat, a = x := ⟨a.toNat, by omega⟩
    obtain ⟨y, rfl⟩ : ∃ y : Nat, b = y := ⟨b.toNat, by omega⟩
    obtain ⟨m, cnt, D, c2, hm, hs, hc, hmlt, hglt⟩ := HH.out.shut
    have hD := hm.isMap
    have HS : Hid (IsShut (D.put (lk x y) (.agg [])) (linkS s.sh x y true)) := isShut_put hD hs (by omega) (by omega)
    have hkey := keyLk (a := x) (b := y) (by omega) (by omega)
    have HST : Hid (∀ w2, Below w.heap.size w w2 → ∃ w3, (Instr.mapUpdate 60 (.map (some m)) (lkv x y) (.agg #[])).run Try.prog w2 = .ok () w3 ∧ To w w3 R g (linkP s x y true).2) := by
      intro w2 hb2
      obtain ⟨w3, hrun, how, hmt⟩ := (map_turn (S := fun _ => False) hm (Turn.of_below hb2) id).store linkKeyed Try.underlying60 (by unfold maxLen; omega) hkey unitElem_mk
      exact ⟨w3, hrun, HH.out.linked c2 hb2 hmt (by omega) (by omega) (by omega) how (by omega) HS.out⟩
    have HC := Lib.hid (fun W : World => between_c W x y)
    obtain ⟨L, hL⟩ : ∃ L, lkv x y = L := ⟨_, rfl⟩
    rw [hL] at HST
    have HC2 : Hid (∀ W : World, Calls Try.prog 39 #[.int .i64 (x : Nat), .int .i64 (y : Nat)] W fun e w' => e = .returned L ∧ Below W.heap.size W w') := fun W => by rw [← hL]; exact HC.out W
    have hg0 : g ≠ w.heap.size := Nat.ne_of_lt hglt
    have hg1 : w.heap.size ≠ g := Nat.ne_of_gt hglt
    clear hkey hs hm HC hL h1 h2 h0 hA hB ha hb b1 hlt hD hc hne hE
    go_enter Try.func11, Try.ntmps11
    go_wp2_with fail
    refine HU.out.mono ?_
    rintro e w1 ⟨rfl, rfl⟩
    go_wp2_with fail
    go_region_with (go_at_call 39; refine (HC2.out _).mono ?_; rintro e w2 ⟨rfl, hb2⟩; have hbw : Below w.heap.size w w2 := bnext ((Below.refl w.heap.size w).drew) hb2; have c2' := (hbw.cell (p := ⟨g, 2, none⟩) hglt).trans c2; obtain ⟨w3, hst, hto⟩ := HST.out w2 hbw; have HTO := Lib.hid hto; clear hb2 hbw hto)
    all_goals
      go_wp2_with fail
      go_ret
      exact ⟨rfl, HTO.out⟩
set_option maxRecDepth 100000 in
set_option maxHeartbeats 4000000 in
theorem join_c {w : World} {R : Nat → Prop} {g : Nat} {s : LS} (h : LA w R g s) (hw : Wf s) (a b : Int) (ha : I64 a) (hb : I64 b) :
    Calls Try.prog 27 #[ptr g, .int .i64 a, .int .i64 b] w fun e w' => e = .returned (err (linkP s a b false).1) ∧ To w w' R g (linkP s a b false).2 := by
  have HU := Lib.hid (unlinked_c h hw a b ha hb)
  have HH := Lib.hid h
  have b1 := hw.hi
  have hlt := h.lt
  clear h hw
  rcases offP_cases s a b with h0 | h0
  · rw [linkP_off h0]
    rw [h0] at HU
    clear h0 hlt
    go_enter Try.func27, Try.ntmps27
    go_wp2_with fail
    refine HU.out.mono ?_
    rintro e w1 ⟨rfl, rfl⟩
    go_wp2_with fail
    go_ret
    exact ⟨rfl, To.refl HH.out⟩
  · obtain ⟨hE, h1, h2, hne⟩ := linkP_on (v := false) h0
    rw [h0] at HU
    rw [hE]
    have hA := inN_iff.1 h1
    have hB := inN_iff.1 h2
    obtain ⟨x, rfl⟩ : ∃ x : Nat, a = x := ⟨a.toNat, by omega⟩
    obtain ⟨y, rfl⟩ : ∃ y : Nat, b = y := ⟨b.toNat, by omega⟩
    obtain ⟨m, cnt, D, c2, hm, hs, hc, hmlt, hglt⟩ := HH.out.shut
    have HS : Hid (IsShut (D.del (lk x y)) (linkS s.sh x y false)) := isShut_del hs (by omega) (by omega)
    have hkey := keyLk (a := x) (b := y) (by omega) (by omega)
    have HST : Hid (∀ w2, Below w.heap.size w w2 → ∃ w3, (∀ ty, (Builtin.delete_ #[60, 71] ty #[.map (some m), lkv x y]).run Try.prog w2 = .ok (.tuple #[]) w3) ∧ To w w3 R g (linkP s x y false).2) := by
      intro w2 hb2
      have hm2 := map_turn (S := fun _ => False) hm (Turn.of_below hb2) id
      obtain ⟨w3, hrun, how, hmt⟩ := hm2.drop linkKeyed Try.underlying60 hkey 0
      exact ⟨w3, fun _ => hrun, HH.out.linked c2 hb2 hmt (by omega) (by omega) (by omega) how (by omega) HS.out⟩
    have HC := Lib.hid (fun W : World => between_c W x y)
    obtain ⟨L, hL⟩ : ∃ L, lkv x y = L := ⟨_, rfl⟩
    rw [hL] at HST
    have HC2 : Hid (∀ W : World, Calls Try.prog 39 #[.int .i64 (x : Nat), .int .i64 (y : Nat)] W fun e w' => e = .returned L ∧ Below W.heap.size W w') := fun W => by rw [← hL]; exact HC.out W
    have hg0 : g ≠ w.heap.size := Nat.ne_of_lt hglt
    have hg1 : w.heap.size ≠ g := Nat.ne_of_gt hglt
    clear hkey hs hm HC hL h1 h2 h0 hA hB ha hb b1 hlt hc hne hE
    go_enter Try.func27, Try.ntmps27
    go_wp2_with fail
    refine HU.out.mono ?_
    rintro e w1 ⟨rfl, rfl⟩
    go_wp2_with fail
    go_region_with (go_at_call 39; refine (HC2.out _).mono ?_; rintro e w2 ⟨rfl, hb2⟩; have hbw : Below w.heap.size w w2 := bnext ((Below.refl w.heap.size w).drew) hb2; have c2' := (hbw.cell (p := ⟨g, 2, none⟩) hglt).trans c2; obtain ⟨w3, hst, hto⟩ := HST.out w2 hbw; have HTO := Lib.hid hto; clear hb2 hbw hto)
    all_goals
      go_wp2_with fail
      go_ret
      exact ⟨rfl, HTO.out⟩
end Go.Proofs.Ytdjgafemmihlgaa.lan
