/- The reference's place, Used, Get. -/
import Derived.Test.YtggcdlhgmikemaaPlt3
namespace Go.Proofs.Ytggcdlhgmikemaa.plt
open Go.RowKit
open Go.Proofs.Ytggcdlhgmikemaa.oct Go.Proofs.Ytggcdlhgmikemaa.ref Go.Proofs.Ytggcdlhgmikemaa.rows Go.Proofs.Ytggcdlhgmikemaa.rowg Go.Proofs.Ytggcdlhgmikemaa.trn
open Go.Lib (byteCells)

set_option maxRecDepth 100000 in
set_option maxHeartbeats 4000000 in
theorem rplace_c {R : Nat → Prop} {w : World} {g c room : Nat} {P : Option Addr} {fs : List FA} {arm down : Bool} {k : Int} (h : RM w R g P c fs room arm k down) (hl : fs.length ≤ 9223372036854775807) (n : T) :
    Calls Try.prog 45 #[.pointer (some ⟨g, 0, none⟩), .string ⟨n.toArray⟩] w fun e w' => (∃ r : Int, e = .returned (.int .i64 r) ∧ ((r = -1 ∧ ∀ x ∈ fs, x.n ≠ n) ∨ ∃ (i : Nat) (hi : i < fs.length), r = (i : Int) ∧ (fs[i]).n = n)) ∧ w = w' := by
  have c0 : w.cell? ⟨g, 0, none⟩ = some (.slice P fs.length c) := h.blk.cell 0
  have HAT := Lib.hid (fun i hi => h.at i hi)
  clear h
  go_enter Try.func45, Try.ntmps45
  go_wp2_with fail
  go_loopg [5] fs.length (fun gk s5 wx => ∃ j : Nat, j + gk = fs.length ∧ s5 = .int .i64 (j : Int) ∧ Hid (∀ x ∈ fs.take j, x.n ≠ n) ∧ wx = w)
  case atStart => exact ⟨0, by omega, rfl, (by show ∀ x ∈ _, _; simp), rfl⟩
  case round =>
    obtain ⟨j, hjg, rfl, HN, rfl⟩ := hrel
    rcases gk with _ | gk
    · obtain rfl : j = fs.length := by omega
      have HX : Hid (∀ x ∈ fs, x.n ≠ n) := by have h := HN.out; rwa [List.take_length] at h
      go_wp2_with fail
      go_ret
      exact ⟨⟨-1, rfl, Or.inl ⟨rfl, HX.out⟩⟩, rfl⟩
    · have hj : j < fs.length := by omega
      have hjI : (j : Int) < (fs.length : Int) := by omega
      obtain ⟨b, o, rfl, a0, a1, a2⟩ := HAT.out j hj
      by_cases hn : (fs[j]).n = n
      · have e0 : ((fs[j]).n == n) = true := by rw [beq_iff_eq]; exact hn
        have HX := Lib.hid hn
        clear hn
        go_wp2_with fail
        go_ret
        exact ⟨⟨(j : Int), rfl, Or.inr ⟨j, hj, rfl, HX.out⟩⟩, rfl⟩
      · have e0 : ((fs[j]).n == n) = false := by rw [beq_eq_false_iff_ne]; exact hn
        have HX : Hid (∀ x ∈ fs.take (j + 1), x.n ≠ n) := by
          show ∀ x ∈ _, _
          intro x hx
          rw [List.take_succ_eq_append_getElem hj, List.mem_append, List.mem_singleton] at hx
          rcases hx with hx | rfl
          · exact HN.out x hx
          · exact hn
        clear hn
        go_wp2_with fail
        go_roundg gk
        case measure => omega
        case rel => exact ⟨j + 1, by omega, by go_num, HX.out, rfl⟩
theorem used_take (fs : List FA) {j : Nat} (hj : j < fs.length) : usedP ((fs.take (j + 1)).map FA.f) = usedP ((fs.take j).map FA.f) + (fs[j]).b.length := by
  rw [List.take_succ_eq_append_getElem hj, List.map_append, usedP_app]
  rfl
theorem used_le (fs : List FA) (j : Nat) : usedP ((fs.take j).map FA.f) ≤ usedP (fs.map FA.f) := by
  have h := usedP_app ((fs.take j).map FA.f) ((fs.drop j).map FA.f)
  rw [← List.map_append, List.take_append_drop] at h
  omega
set_option maxRecDepth 100000 in
set_option maxHeartbeats 4000000 in
theorem rused_c {R : Nat → Prop} {w : World} {g c room : Nat} {P : Option Addr} {fs : List FA} {arm down : Bool} {k : Int} (h : RM w R g P c fs room arm k down) (hl : fs.length ≤ 9223372036854775807) (hu : usedP (fs.map FA.f) ≤ 1000000000) :
    Calls Try.prog 35 #[.pointer (some ⟨g, 0, none⟩)] w fun e w' => e = .returned (.int .i64 (usedP (fs.map FA.f) : Nat)) ∧ w = w' := by
  have c0 : w.cell? ⟨g, 0, none⟩ = some (.slice P fs.length c) := h.blk.cell 0
  have HAT := Lib.hid (fun i hi => h.at i hi)
  have HU := Lib.hid hu
  clear h hu
  go_enter Try.func35, Try.ntmps35
  go_wp2_with fail
  go_loopg [3, 4] fs.length (fun gk s3 s4 wx => ∃ j u : Nat, j + gk = fs.length ∧ s4 = .int .i64 (j : Int) ∧ s3 = .int .i64 (u : Int) ∧ Hid (usedP ((fs.take j).map FA.f) = u) ∧ wx = w)
  case atStart => exact ⟨0, 0, by omega, rfl, rfl, (by show _ = _; simp [usedP]), rfl⟩
  case round =>
    obtain ⟨j, u, hjg, rfl, rfl, HN, rfl⟩ := hrel
    rcases gk with _ | gk
    · obtain rfl : j = fs.length := by omega
      have HX : Hid (usedP (fs.map FA.f) = u) := by have h := HN.out; rwa [List.take_length] at h
      go_wp2_with fail
      go_ret
      exact ⟨by rw [HX.out]; rfl, rfl⟩
    · have hj : j < fs.length := by omega
      have hjI : (j : Int) < (fs.length : Int) := by omega
      obtain ⟨b, o, rfl, a0, a1, a2⟩ := HAT.out j hj
      have HX : Hid (usedP ((fs.take (j + 1)).map FA.f) = u + (fs[j]).b.length) := by show _ = _; rw [used_take fs hj, HN.out]
      have hle : u + (fs[j]).b.length ≤ 1000000000 := by
        have h1 := used_le fs (j + 1)
        rw [HX.out] at h1
        exact Nat.le_trans h1 HU.out
      obtain ⟨m, hm⟩ : ∃ m, (fs[j]).b.length = m := ⟨_, rfl⟩
      rw [hm] at HX hle a1
      clear hm
      go_wp2_with fail
      go_roundg gk
      case measure => omega
      case rel => exact ⟨j + 1, u + m, by omega, by go_num, by go_num, HX.out, rfl⟩
theorem infoFile : (Try.prog.info? 68).map (·.size) = some 3 := by kernel_rfl
set_option maxRecDepth 100000 in
set_option maxHeartbeats 4000000 in
theorem rget_c {R : Nat → Prop} {w : World} {g c room : Nat} {P : Option Addr} {fs : List FA} {arm down : Bool} {k : Int} (h : RM w R g P c fs room arm k down) (hs : Srt (fs.map FA.f)) (hl : fs.length ≤ 9223372036854775807) (n : T) :
    Calls Try.prog 34 #[.pointer (some ⟨g, 0, none⟩), .string ⟨n.toArray⟩] w fun e w' => ∃ x : FA, e = .returned (.agg (fenc x).toArray) ∧ x.f = getF (fs.map FA.f) n ∧ FileOK w' R x ∧ Below w.heap.size w w' := by
  have HC := Lib.hid (fun wx (hx : RM wx R g P c fs room arm k down) => rplace_c hx hl n)
  have HM := Lib.hid (h.turn (S := fun _ => False) (Turn.of_below ((Below.refl _ w).alloc (Nat.le_refl _) (.cells #[.string ⟨#[]⟩, .slice none 0 0, .int .i64 0] 68))) (fun _ _ => id) id)
  have HLT := Lib.hid h.lt
  clear h
  go_enter Try.func34, Try.ntmps34
  go_wp2_with fail
  have hB0 : Blk (w.alloc (.cells #[.string ⟨#[]⟩, .slice none 0 0, .int .i64 0] 68)) w.heap.size 68 [.string ⟨#[]⟩, .slice none 0 0, .int .i64 0] := blk_new w _ _ _ rfl
  have hb0 := (Below.refl w.heap.size w).alloc (Nat.le_refl _) (.cells #[.string ⟨#[]⟩, .slice none 0 0, .int .i64 0] 68)
  obtain ⟨w1, hw1⟩ : ∃ w1, w.alloc (.cells #[.string ⟨#[]⟩, .slice none 0 0, .int .i64 0] 68) = w1 := ⟨_, rfl⟩
  rw [hw1] at hB0 hb0 HM ⊢
  have c0 : w1.cell? ⟨g, 0, none⟩ = some (.slice P fs.length c) := HM.out.blk.cell 0
  have HAT := Lib.hid (fun i hi => HM.out.at i hi)
  have HFO := Lib.hid HM.out.files
  have HBB := Lib.hid hB0
  have HB0 := Lib.hid hb0
  have b0 := hB0.cell 0
  have b1 := hB0.cell 1
  have b2 := hB0.cell 2
  have f0 := hB0.frozen 0
  have f1 := hB0.frozen 1
  have f2 := hB0.frozen 2
  have hlt := hB0.lt
  have HSET : Hid (∀ u v x : Value, Blk (((w1.setCell ⟨w.heap.size, 0, none⟩ u).setCell ⟨w.heap.size, 1, none⟩ v).setCell ⟨w.heap.size, 2, none⟩ x) w.heap.size 68 [u, v, x]) := fun u v x => ((hB0.set 0 u).set 1 v).set 2 x
  have HBS : Hid (∀ u v x : Value, Below w.heap.size w (((w1.setCell ⟨w.heap.size, 0, none⟩ u).setCell ⟨w.heap.size, 1, none⟩ v).setCell ⟨w.heap.size, 2, none⟩ x)) := fun u v x => ((hb0.setCell (p := ⟨w.heap.size, 0, none⟩) (Nat.le_refl _) u).setCell (p := ⟨w.heap.size, 1, none⟩) (Nat.le_refl _) v).setCell (p := ⟨w.heap.size, 2, none⟩) (Nat.le_refl _) x
  refine (HC.out _ HM.out).mono ?_
  clear HC hw1 hB0 hb0
  rintro e w2 ⟨⟨r, rfl, hr⟩, rfl⟩
  rcases hr with ⟨rfl, hno⟩ | ⟨i, hi, rfl, hn⟩
  · have HE : Hid (FA.f ⟨n, none, 0, [], 0⟩ = getF (fs.map FA.f) n) := by
      show _ = _
      rw [getF_none]
      · rfl
      · intro f hf
        obtain ⟨x, hx, rfl⟩ := List.mem_map.1 hf
        exact hno x hx
    clear hno HAT HFO
    go_wp2_with fail
    refine bodyPost_ret (results_blk Try.results34 _ _ w.heap.size 68 [.string ⟨n.toArray⟩, .slice none 0 0, .int .i64 0] _ rfl (HSET.out _ _ _) Try.underlying68 rfl infoFile) rfl ?_
    exact ⟨⟨n, none, 0, [], 0⟩, rfl, HE.out, ⟨(fun h => absurd h (by simp)), fun _ => rfl, Nat.le_refl _, fun b o e => by cases e⟩, HBS.out _ _ _⟩
  · have hiI : (i : Int) < (fs.length : Int) := by omega
    have HE : Hid (FA.f fs[i] = getF (fs.map FA.f) n) := by
      show _ = _
      have h1 := getF_mem hs (List.mem_map_of_mem (List.getElem_mem hi))
      rw [← h1]
      exact congrArg (getF _) hn
    have HXO := Lib.hid (HFO.out _ (List.getElem_mem hi))
    obtain ⟨b, o, rfl, a0, a1, a2⟩ := HAT.out i hi
    obtain ⟨x, hx⟩ : ∃ x, fs[i] = x := ⟨_, rfl⟩
    rw [hx] at HE HXO a0 a1 a2
    clear hx hn HAT HFO
    go_wp2_with fail
    refine bodyPost_ret (results_blk Try.results34 _ _ w.heap.size 68 [.string ⟨x.n.toArray⟩, .slice x.p x.b.length x.c, .int .i64 (x.s : Nat)] _ rfl (HSET.out _ _ _) Try.underlying68 rfl infoFile) rfl ?_
    have ht : Turn (fun k => k = w.heap.size) w1 (((w1.setCell ⟨w.heap.size, 0, none⟩ (.string ⟨x.n.toArray⟩)).setCell ⟨w.heap.size, 1, none⟩ (.slice x.p x.b.length x.c)).setCell ⟨w.heap.size, 2, none⟩ (.int .i64 (x.s : Nat))) :=
      Turn.of_grown (grown_trans (grown_trans (grownSet _ _ _) (grownSet _ _ _)) (grownSet _ _ _)) rfl
    have hx := HXO.out.turn ht (fun k hk e => by have := HLT.out k hk; omega)
    exact ⟨x, rfl, HE.out, hx, HBS.out _ _ _⟩
set_option maxRecDepth 100000 in
set_option maxHeartbeats 4000000 in
theorem rasked_c {R : Nat → Prop} {w : World} {g : Nat} {st : PS} (h : RP w R g st) (n : T) (ch : Bool) (hn : n.length ≤ 9223372036854775807) :
    Calls Try.prog 33 #[.pointer (some ⟨g, 0, none⟩), .string ⟨n.toArray⟩, .bool ch] w fun e w' => e = .returned (.int .i64 ((askP st n ch).1 : Nat)) ∧ RP w' R g (askP st n ch).2 ∧ w.grownBy w' (some g) := by
  obtain ⟨P, c, fs, k, hM, hfs, hk, hk1, hk2⟩ := h
  have hB := hM.blk
  have c2 : w.cell? ⟨g, 2, none⟩ = some (.bool st.left.isSome) := hB.cell 2
  have c3 : w.cell? ⟨g, 3, none⟩ = some (.int .i64 k) := hB.cell 3
  have c4 : w.cell? ⟨g, 4, none⟩ = some (.bool st.down) := hB.cell 4
  have f3 := hB.frozen 3
  have f4 := hB.frozen 4
  have hlt := hB.lt
  have HB := Lib.hid hB
  have HM := Lib.hid hM
  have HFS := Lib.hid hfs
  have HSAME : Hid (RP w R g st) := ⟨P, c, fs, k, hM, hfs, hk, hk1, hk2⟩
  by_cases h1 : nameOk n = true
  · have h1' : 1 ≤ n.length ∧ n.length ≤ 64 := by unfold nameOk at h1; rw [Bool.and_eq_true, decide_eq_true_iff, decide_eq_true_iff] at h1; exact h1
    have i1 : ¬ ((n.length : Int) < 1) := by omega
    have i2 : ¬ ((n.length : Int) > 64) := by omega
    cases hd : st.down with
    | true =>
      have HE : Hid (askP st n ch = (9, st)) := by show _ = _; unfold askP; rw [if_neg (by rw [h1]; simp), hd, if_pos rfl]
      rw [HE.out]
      rw [hd] at c4
      clear h1 h1' hM hB hfs hk hd HE
      go_enter Try.func33, Try.ntmps33
      go_wp2_with fail
      go_ret
      exact ⟨rfl, HSAME.out, World.grownBy.refl w _⟩
    | false =>
      rw [hd] at c4
      cases ch with
      | false =>
        have HE : Hid (askP st n false = (0, st)) := by show _ = _; unfold askP; rw [if_neg (by rw [h1]; simp), hd]; rfl
        rw [HE.out]
        clear h1 h1' hM hB hfs hk hd HE
        go_enter Try.func33, Try.ntmps33
        go_wp2_with fail
        go_ret
        exact ⟨rfl, HSAME.out, World.grownBy.refl w _⟩
      | true =>
        cases hL : st.left with
        | none =>
          have HE : Hid (askP st n true = (0, st)) := by show _ = _; unfold askP; rw [if_neg (by rw [h1]; simp), hd, hL]; rfl
          rw [HE.out]
          rw [hL] at c2
          clear h1 h1' hM hB hfs hk hd HE hL
          go_enter Try.func33, Try.ntmps33
          go_wp2_with fail
          go_ret
          exact ⟨rfl, HSAME.out, World.grownBy.refl w _⟩
        | some m =>
          have hkm := hk m hL
          rw [hL] at c2
          cases m with
          | zero =>
            obtain rfl : k = 0 := hkm
            have HE : Hid (askP st n true = (9, { st with down := true })) := by show _ = _; unfold askP; rw [if_neg (by rw [h1]; simp), hd, hL]; rfl
            rw [HE.out]
            have HR : Hid (RP (w.setCell ⟨g, 4, none⟩ (.bool true)) R g { st with down := true }) :=
              ⟨P, c, fs, _, HM.out.other (grownSet _ _ _) (HB.out.set 4 (.bool true)), hfs, hk, hk1, hk2⟩
            clear h1 h1' hM hB hfs hk hd HE hL
            go_enter Try.func33, Try.ntmps33
            go_wp2_with fail
            go_ret
            exact ⟨rfl, HR.out, grownSet _ _ _⟩
          | succ m =>
            have HE : Hid (askP st n true = (0, { st with left := some m })) := by show _ = _; unfold askP; rw [if_neg (by rw [h1]; simp), hd, hL]; rfl
            rw [HE.out]
            have e1 : k - 1 = (m : Int) := by omega
            have i3 : (k == 0) = false := by rw [beq_eq_false_iff_ne]; omega
            have hB2 : Blk (w.setCell ⟨g, 3, none⟩ (.int .i64 (m : Int))) g 31 [.slice P fs.length c, .int .i64 (st.room : Nat), .bool true, .int .i64 (m : Int), .bool st.down] := by
              have h := HB.out.set 3 (.int .i64 (m : Int))
              rw [hL] at h
              exact h
            have HR : Hid (RP (w.setCell ⟨g, 3, none⟩ (.int .i64 (m : Int))) R g { st with left := some m }) :=
              ⟨P, c, fs, (m : Int), HM.out.other (grownSet _ _ _) hB2, hfs, (fun x e => by injection e with e; rw [e]), by omega, by omega⟩
            clear h1 h1' hM hB hfs hk hd HE hL hB2 hkm
            go_enter Try.func33, Try.ntmps33
            go_wp2_with fail
            go_ret
            exact ⟨rfl, HR.out, grownSet _ _ _⟩
  · have h1f : nameOk n = false := by simpa using h1
    have HE : Hid (askP st n ch = (1, st)) := by show _ = _; unfold askP; rw [if_pos h1f]
    rw [HE.out]
    have h1' : n.length < 1 ∨ 64 < n.length := by
      unfold nameOk at h1f
      by_cases h : n.length < 1
      · exact Or.inl h
      · refine Or.inr ?_
        by_cases h2 : n.length ≤ 64
        · rw [decide_eq_true (by omega), decide_eq_true h2] at h1f; cases h1f
        · omega
    clear h1 h1f hM hB hfs hk HE
    rcases h1' with h2 | h2
    · have i1 : (n.length : Int) < 1 := by omega
      go_enter Try.func33, Try.ntmps33
      go_wp2_with fail
      go_ret
      exact ⟨rfl, HSAME.out, World.grownBy.refl w _⟩
    · have i1 : ¬ ((n.length : Int) < 1) := by omega
      have i2 : (n.length : Int) > 64 := by omega
      go_enter Try.func33, Try.ntmps33
      go_wp2_with fail
      go_ret
      exact ⟨rfl, HSAME.out, World.grownBy.refl w _⟩
end Go.Proofs.Ytggcdlhgmikemaa.plt
