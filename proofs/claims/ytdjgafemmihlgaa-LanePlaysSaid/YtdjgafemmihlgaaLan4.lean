/- The developers' New, Open, comes, Next, Heal, Shut, Join. -/
import Derived.Test.YtdjgafemmihlgaaLan3
import Derived.Deep.RegionWith
namespace Go.Proofs.Ytdjgafemmihlgaa.lan
open Go.RowKit
open Go.Proofs.Ytdjgafemmihlgaa.oct Go.Proofs.Ytdjgafemmihlgaa.ref Go.Proofs.Ytdjgafemmihlgaa.rows Go.Proofs.Ytdjgafemmihlgaa.rowg Go.Proofs.Ytdjgafemmihlgaa.trn
open Go.Lib (byteCells)

/-- a lane that is new -/
def NewL (w w' : World) (n : Nat) (e : Ending) : Prop := ∃ g R, e = .returned (.tuple #[ptr g, err 0]) ∧ LA w' R g (newP n) ∧ Below w.heap.size w w' ∧ ∀ k, R k → w.heap.size ≤ k
theorem newl_mk (w : World) (n : Nat) : NewL w ((w.alloc (.map #[] 0)).alloc (.cells #[.int .i64 (n : Nat), .slice none 0 0, .map (some w.heap.size)] 62)) n (.returned (.tuple #[.pointer (some ⟨w.heap.size + 1, 0, none⟩), .int .i64 0])) := by
  have hsz : (w.alloc (.map #[] 0)).heap.size = w.heap.size + 1 := by simp
  refine ⟨w.heap.size + 1, fun k => k = w.heap.size ∨ k = w.heap.size + 1, rfl, ⟨.slice none 0 0, [], w.heap.size, 0, .map [], ⟨Or.inr rfl, ?_, ?_, ⟨?_, ?_, ?_⟩, List.Pairwise.nil, ?_, Or.inl rfl⟩, rfl, Nat.le_refl _, isShut_nil⟩, ?_, ?_⟩
  · intro k hk
    simp
    omega
  · have h := blk_new (w.alloc (.map #[] 0)) #[.int .i64 (n : Nat), .slice none 0 0, .map (some w.heap.size)] 62 [.int .i64 (n : Nat), .slice none 0 0, .map (some w.heap.size)] rfl
    rw [hsz] at h
    exact h
  · exact ⟨rfl, Or.inl ⟨rfl, rfl⟩⟩
  · intro b hb
    cases hb
  · intro x hx
    cases hx
  · exact (World.ownsMap_made w _ _ _).alloc _
  · exact ((Below.refl _ _).alloc (Nat.le_refl _) _).alloc (by simp) _
  · intro k hk
    omega
set_option maxHeartbeats 1000000 in
theorem new_c (w : World) (n : Nat) (h1 : 1 ≤ n) (h2 : n ≤ 32) :
    Calls Try.prog 7 #[.int .i64 (n : Nat)] w fun e w' => NewL w w' n e := by
  have hmm := @run_makeMap Try.prog
  have i1 : (1 : Int) ≤ n := by omega
  have i2 : (n : Int) ≤ 32 := by omega
  go_enter Try.func7, Try.ntmps7
  go_wp2_with fail
  go_ret2
  exact newl_mk w n
theorem new_no (w : World) (n : Int) (hn : I64 n) (h : ¬ (1 ≤ n ∧ n ≤ 32)) :
    Calls Try.prog 7 #[.int .i64 n] w fun e w' => e = .returned (.tuple #[.pointer none, err 1]) ∧ w = w' := by
  have a1 := hn.1
  have a2 := hn.2
  by_cases h1 : n < 1
  · go_enter Try.func7, Try.ntmps7
    go_wp2_with fail
    go_ret2
    exact ⟨rfl, rfl⟩
  · have h2 : n > 32 := by omega
    go_enter Try.func7, Try.ntmps7
    go_wp2_with fail
    go_ret2
    exact ⟨rfl, rfl⟩
theorem LA.shut {w : World} {R : Nat → Prop} {g : Nat} {s : LS} (h : LA w R g s) : ∃ m cnt D, w.cell? ⟨g, 2, none⟩ = some (.map (some m)) ∧ w.ownsMap Try.prog 71 unitElem m cnt D ∧ IsShut D s.sh ∧ cnt ≤ s.cn ∧ m < w.heap.size ∧ g < w.heap.size := by
  obtain ⟨v, qs, m, cnt, D, h1, h2, h3, h4⟩ := h
  exact ⟨m, cnt, D, h1.blk.cell 2, h1.map, h4, h3, h1.map.lt, h1.blk.lt⟩
theorem look_run {W : World} {m cnt : Nat} {D : DataW Unit} {L : Value} {kl : Lit} (hm : W.ownsMap Try.prog 71 unitElem m cnt D) (hk : keyOf Try.prog 71 L = some kl) :
    (Instr.lookup 60 (.map (some m)) L true).run Try.prog W = .ok (.tuple #[.agg #[], .bool (Maps.has D kl)]) W := by
  obtain ⟨v, ps, h1, h2⟩ := hm.look_ok (t := 60) (e := 69) linkKeyed Try.underlying60 (z := .agg #[]) (by kernel_rfl) (zd := .agg []) (zp := []) unitElem_mk hk
  obtain ⟨rfl, _⟩ := unitElem_inv h2
  exact h1
theorem zero0 (w : World) : (zeroValue 69).run Try.prog w = .ok (.agg #[]) w := by kernel_rfl
set_option maxRecDepth 100000 in
set_option maxHeartbeats 4000000 in
theorem open_c {w : World} {R : Nat → Prop} {g : Nat} {s : LS} (h : LA w R g s) (hw : Wf s) (a b : Int) (ha : I64 a) (hb : I64 b) :
    Calls Try.prog 13 #[ptr g, .int .i64 a, .int .i64 b] w fun e w' => e = .returned (.bool (openP s a b)) ∧ Below w.heap.size w w' := by
  have HA := Lib.hid (isnode_c h hw a ha)
  have HB := Lib.hid (isnode_c h hw b hb)
  have HH := Lib.hid h
  have b1 := hw.hi
  unfold openP
  clear h hw
  cases h1 : inN s.n a with
  | false =>
    rw [h1] at HA
    clear h1 ha hb b1 HH
    go_enter Try.func13, Try.ntmps13
    go_wp2_with fail
    refine HA.out.mono ?_
    rintro e w1 ⟨rfl, rfl⟩
    go_wp2_with fail
    go_ret
    exact ⟨rfl, Below.refl _ _⟩
  | true =>
    rw [h1] at HA
    cases h2 : inN s.n b with
    | false =>
      rw [h2] at HB
      clear h1 h2 ha hb b1 HH
      go_enter Try.func13, Try.ntmps13
      go_wp2_with fail
      refine HA.out.mono ?_
      rintro e w1 ⟨rfl, rfl⟩
      go_wp2_with fail
      refine HB.out.mono ?_
      rintro e w1 ⟨rfl, rfl⟩
      go_wp2_with fail
      go_ret
      exact ⟨rfl, Below.refl _ _⟩
    | true =>
      rw [h2] at HB
      have hA := inN_iff.1 h1
      have hB := inN_iff.1 h2
      obtain ⟨x, rfl⟩ : ∃ x : Nat, a = x := ⟨a.toNat, by omega⟩
      obtain ⟨y, rfl⟩ : ∃ y : Nat, b = y := ⟨b.toNat, by omega⟩
      have hx : x < 32 := by omega
      have hy : y < 32 := by omega
      obtain ⟨m, cnt, D, c2, hm, hs, _, hmlt, hglt⟩ := HH.out.shut
      have hxy := hs x y hx hy
      have hkey := keyLk (a := x) (b := y) (by omega) (by omega)
      have HK := Lib.hid hkey
      have HD : Hid (Maps.has D (lk x y) = s.sh (x : Int).toNat (y : Int).toNat) := hxy
      have HC := Lib.hid (fun W : World => between_c W x y)
      have HM := Lib.hid hm
      rw [show (true && true && !s.sh (x : Int).toNat (y : Int).toNat) = !Maps.has D (lk x y) by rw [HD.out]; rfl]
      obtain ⟨hv, hhv⟩ : ∃ hv, Maps.has D (lk x y) = hv := ⟨_, rfl⟩
      have HHV := Lib.hid hhv
      rw [hhv]
      obtain ⟨L, hL⟩ : ∃ L, lkv x y = L := ⟨_, rfl⟩
      rw [hL] at HK
      have HC2 : Hid (∀ W : World, Calls Try.prog 39 #[.int .i64 (x : Nat), .int .i64 (y : Nat)] W fun e w' => e = .returned L ∧ Below W.heap.size W w') := fun W => by rw [← hL]; exact HC.out W
      clear hkey hxy hs hm HC hL hhv h1 h2 HH HD hA hB ha hb b1
      go_enter Try.func13, Try.ntmps13
      go_wp2_with fail
      refine HA.out.mono ?_
      rintro e w1 ⟨rfl, rfl⟩
      go_wp2_with fail
      refine HB.out.mono ?_
      rintro e w1 ⟨rfl, rfl⟩
      go_wp2_with fail
      have hg0 : g ≠ w.heap.size := Nat.ne_of_lt hglt
      have hg1 : w.heap.size ≠ g := Nat.ne_of_gt hglt
      go_region_with (go_at_call 39; refine (HC2.out _).mono ?_; rintro e w2 ⟨rfl, hb2⟩; have hbw : Below w.heap.size w w2 := bnext (by first | exact (Below.refl w.heap.size w).drew | exact ((Below.refl w.heap.size w).alloc (Nat.le_refl _) _).drew) hb2; have HB2 := Lib.hid hbw; have hg2 : g < w2.heap.size := Nat.lt_of_lt_of_le hglt hbw.size; have hg3 : g ≠ w2.heap.size := Nat.ne_of_lt hg2; have hg4 : w2.heap.size ≠ g := Nat.ne_of_gt hg2; have c2' := (hbw.cell (p := ⟨g, 2, none⟩) hglt).trans c2; have hm2 := map_turn (S := fun _ => False) HM.out (Turn.of_below hbw) id; have hl := look_run hm2 HK.out; have hl2 := look_run (hm2.alloc (.cells #[] 69)) HK.out; rw [HHV.out] at hl hl2; clear hm2 hbw; clear hb2)
      all_goals
        go_wp2_with fail
        go_ret
        first | exact ⟨rfl, HB2.out⟩ | exact ⟨rfl, HB2.out.alloc HB2.out.size _⟩
theorem open_nil (w : World) (a b : Int) : Calls Try.prog 13 #[.pointer none, .int .i64 a, .int .i64 b] w fun e w' => e = .returned (.bool false) ∧ w = w' := by
  go_enter Try.func13, Try.ntmps13
  go_wp2_with fail
  go_ret
  exact ⟨rfl, rfl⟩
theorem heal_nil (w : World) : Calls Try.prog 18 #[.pointer none] w fun e w' => e = .returned (.tuple #[]) ∧ w = w' := by
  go_enter Try.func18, Try.ntmps18
  go_wp2_with fail
  go_end0
  exact ⟨rfl, rfl⟩
theorem shut_nil (w : World) (a b : Int) : Calls Try.prog 11 #[.pointer none, .int .i64 a, .int .i64 b] w fun e w' => e = .returned (err 12) ∧ w = w' := by
  have HU := Lib.hid (unlinked_nil w a b)
  go_enter Try.func11, Try.ntmps11
  go_wp2_with fail
  refine HU.out.mono ?_
  rintro e w1 ⟨rfl, rfl⟩
  go_wp2_with fail
  go_ret
  exact ⟨rfl, rfl⟩
theorem join_nil (w : World) (a b : Int) : Calls Try.prog 27 #[.pointer none, .int .i64 a, .int .i64 b] w fun e w' => e = .returned (err 12) ∧ w = w' := by
  have HU := Lib.hid (unlinked_nil w a b)
  go_enter Try.func27, Try.ntmps27
  go_wp2_with fail
  refine HU.out.mono ?_
  rintro e w1 ⟨rfl, rfl⟩
  go_wp2_with fail
  go_ret
  exact ⟨rfl, rfl⟩
end Go.Proofs.Ytdjgafemmihlgaa.lan
