/- The reference's Cut. -/
import Derived.Test.YtggcdlhgmikemaaPlt7
namespace Go.Proofs.Ytggcdlhgmikemaa.plt
open Go.RowKit
open Go.Proofs.Ytggcdlhgmikemaa.oct Go.Proofs.Ytggcdlhgmikemaa.ref Go.Proofs.Ytggcdlhgmikemaa.rows Go.Proofs.Ytggcdlhgmikemaa.rowg Go.Proofs.Ytggcdlhgmikemaa.trn
open Go.Lib (byteCells)

theorem add_zero_addr (a : Addr) : a.add 0 = a := by
  obtain ⟨b, o, s⟩ := a
  unfold Addr.add
  cases s <;> simp
/-- a slice, nil or not, cut at j -/
theorem run_slice_any {P : Program} (w : World) (t e : TypeId) (p : Option Addr) (len cq j : Nat) (h : P.underlying t = some (.slice e)) (he : (P.info? e).map (·.size) = some 1) (hj : j ≤ cq) :
    (Instr.sliceAt t (.slice p len cq) none (some (.int .i64 (j : Int))) none).run P w = .ok (.slice p j cq) w := by
  cases hq : P.info? e with
  | none => simp [hq] at he
  | some i =>
    cases p with
    | none => simp [Instr.sliceAt, Instr.slice, run_underlying h, Instr.sliceBounds, Instr.sliceBound, asIntOf, hj, sizeOf, typeInfo, hq, Sem.run_bind]
    | some a => simp [Instr.sliceAt, Instr.slice, run_underlying h, Instr.sliceBounds, Instr.sliceBound, asIntOf, hj, sizeOf, typeInfo, hq, Sem.run_bind, add_zero_addr]
theorem infoB1r : (Try.prog.info? 5).map (·.size) = some 1 := by kernel_rfl
theorem in8_takeR {w : World} {p : Option Addr} {l : T} (h : In8 w p l) (j : Nat) : In8 w p (l.take j) := by
  intro hl
  rw [List.length_take] at hl
  obtain ⟨b, o, e, hc⟩ := h (by omega)
  refine ⟨b, o, e, fun i hi => ?_⟩
  rw [List.length_take] at hi
  rw [hc i (by omega)]
  congr 4
  rw [List.getD_eq_getElem?_getD, List.getD_eq_getElem?_getD, List.getElem?_take_of_lt (by omega)]
/-- behind a new row: what lay comes to -/
theorem new_done {R : Nat → Prop} {w w3 w5 : World} {g c room : Nat} {P : Option Addr} {fs : List FA} {arm : Option Nat} {down : Bool} {k : Int} {v5 : Value} {l : T} {st : PS} (hl : ∀ k, R k → k < w.heap.size) (hg : g < w.heap.size) (hM : RM w3 R g P c fs room arm.isSome k down) (hgw : w.grownBy w3 (some g))
    (hb : Below w3.heap.size w3 w5) (h5 : w5.ownsRow w3.heap.size 5 1 v5 l.length (byteCells l)) (hs : Srt (fs.map FA.f)) (hfl : fs.length ≤ 1000000000) (hf : fs.map FA.f = st.fs) (hk : (∀ n, arm = some n → k = (n : Int)) ∧ -9223372036854775808 ≤ k ∧ k ≤ 9223372036854775807) :
    ∃ p5 c5, v5 = .slice p5 l.length c5 ∧ ∀ (n : T) (s : Nat) w6, Below w5.heap.size w5 w6 → Calls Try.prog 44 #[.pointer (some ⟨g, 0, none⟩), .agg #[.string ⟨n.toArray⟩, .slice p5 l.length c5, .int .i64 (s : Nat)]] w6 fun e w' => e = .returned (.tuple #[]) ∧ RP w' (Rx R w w') g ⟨layP st.fs ⟨n, l, s⟩, room, arm, down⟩ ∧ w.grownBy w' (some g) := by
  obtain ⟨p5, c5, rfl⟩ := own_sl3 h5
  obtain ⟨q1, q2, q3, q4, q5⟩ := own_row8 h5
  refine ⟨p5, c5, rfl, fun n s w6 hb6 => ?_⟩
  have hM5 := hM.turn (S := fun _ => False) (Turn.of_below hb) (fun _ _ => id) id
  have hg5 := grown_trans hgw (grown_below (r := some g) hb)
  have hM5 := hM5.mono (R2 := Rx R w w5) (fun i hi => Or.inl hi) (Rx.lt hl hg5.size) (Rx.not hM.own hg)
  have hfx : FileOK w5 (Rx R w w5) ⟨n, p5, c5, l, s⟩ := ⟨q1, q2, q3, fun i o e => Or.inr ⟨Nat.le_trans hgw.size (q5 i o e).1, (q5 i o e).2⟩⟩
  have hl := rlay_c (hM5.turn (S := fun _ => False) (Turn.of_below hb6) (fun _ _ => id) id) ⟨n, p5, c5, l, s⟩ (hfx.turn (S := fun _ => False) (Turn.of_below hb6) (fun _ _ => id)) hs hfl
  rw [hf] at hl
  refine hl.mono ?_
  rintro e w9 ⟨rfl, ⟨P9, c9, fs9, h1, h2⟩, h3⟩
  have h56 : w5.heap.size ≤ w6.heap.size := hb6.size
  have h69 : w6.heap.size ≤ w9.heap.size := h3.size
  refine ⟨rfl, ⟨P9, c9, fs9, k, ?_, h2, hk⟩, grown_trans (grown_trans hg5 (grown_below hb6)) h3⟩
  refine h1.mono (fun i hi => ?_) (Rx.lt (by assumption) (Nat.le_trans hg5.size (Nat.le_trans h56 h69))) (Rx.not (fun h => h1.own (Or.inl (Or.inl h))) hg)
  have hws := hg5.size
  rcases hi with (hi | hi) | hi
  · exact Or.inl hi
  · exact Or.inr ⟨hi.1, by omega⟩
  · exact Or.inr ⟨by omega, hi.2⟩
set_option maxRecDepth 100000 in
set_option maxHeartbeats 8000000 in
theorem rcut_c {R : Nat → Prop} {w : World} {g : Nat} {st : PS} (h : RP w R g st) (hw : Wf st) (n : T) (hn : n.length ≤ 9223372036854775807) (c : Int) (hc1 : -9223372036854775808 ≤ c) (hc2 : c ≤ 9223372036854775807) :
    Calls Try.prog 31 #[.pointer (some ⟨g, 0, none⟩), .string ⟨n.toArray⟩, .int .i64 c] w fun e w' => RA w w' R g (cutP st n c) e := by
  obtain ⟨hlt, hg, hgR⟩ := h.lt
  have HA := Lib.hid (rasked_c h n true hn)
  have hfl := wf_files hw
  have HWF := Lib.hid hw
  have HLT := Lib.hid hlt
  clear h
  by_cases h0 : (askP st n true).1 = 0
  · have HQ := Lib.hid (askP_fs st n true)
    unfold cutP
    rw [if_neg (by omega)]
    obtain ⟨q, hq⟩ : ∃ q, askP st n true = q := ⟨_, rfl⟩
    rw [hq] at HA HQ h0 ⊢
    obtain ⟨e1, s1⟩ := q
    dsimp only at h0 HA HQ ⊢
    subst h0
    clear hq
    by_cases hneg : c < 0
    · rw [if_pos (Or.inl hneg)]
      go_enter Try.func31, Try.ntmps31
      go_wp2_with fail
      refine HA.out.mono ?_
      rintro e w1 ⟨rfl, hp1, hg1⟩
      have HSAME := Lib.hid hp1
      obtain ⟨P, cc, fs, k, hM, hfs, hk⟩ := hp1
      have hfl1 : fs.length ≤ 268435456 := by have := congrArg List.length hfs; rw [List.length_map, HQ.out.1] at this; omega
      have hsr : Srt (fs.map FA.f) := by rw [hfs, HQ.out.1]; exact HWF.out.srt
      have HM1 := Lib.hid hM
      have HG1 := Lib.hid hg1
      have HK := Lib.hid hk
      have HFS : Hid (fs.map FA.f = st.fs) := by show _ = _; rw [hfs, HQ.out.1]
      have HSR := Lib.hid hsr
      have HC := Lib.hid (rget_c hM hsr (by omega) n)
      clear hM hg1 hk hfs hsr HA
      go_wp2_with fail
      refine HC.out.mono ?_
      rintro e w2 ⟨x, rfl, hxe, hxo, hb2⟩
      unfold fenc
      have HG := Lib.hid (got HM1.out HG1.out hxo hb2 (.cells #[.string ⟨x.n.toArray⟩, .slice x.p x.b.length x.c, .int .i64 (x.s : Nat)] 68))
      have HXN : Hid (x.b = (getF st.fs n).b ∧ x.s = (getF st.fs n).safe) := by
        rw [HFS.out] at hxe
        exact ⟨congrArg F.b hxe, congrArg F.safe hxe⟩
      have hB0 : Blk (w2.alloc (.cells #[.string ⟨#[]⟩, .slice none 0 0, .int .i64 0] 68)) w2.heap.size 68 [.string ⟨#[]⟩, .slice none 0 0, .int .i64 0] := blk_new w2 _ _ _ rfl
      have b0 := hB0.cell 0
      have b1 := hB0.cell 1
      have b2 := hB0.cell 2
      have f0 := hB0.frozen 0
      have f1 := hB0.frozen 1
      have f2 := hB0.frozen 2
      have hlt0 := hB0.lt
      have hbk : Blk (w2.alloc (.cells #[.string ⟨x.n.toArray⟩, .slice x.p x.b.length x.c, .int .i64 (x.s : Nat)] 68)) w2.heap.size 68 [.string ⟨x.n.toArray⟩, .slice x.p x.b.length x.c, .int .i64 (x.s : Nat)] := blk_new w2 _ _ _ rfl
      have HBK := Lib.hid hbk
      obtain ⟨w3, hw3⟩ : ∃ w3, w2.alloc (.cells #[.string ⟨x.n.toArray⟩, .slice x.p x.b.length x.c, .int .i64 (x.s : Nat)] 68) = w3 := ⟨_, rfl⟩
      rw [hw3] at HG HBK
      have g1 : w3.cell? ⟨w2.heap.size, 1, none⟩ = some (.slice x.p x.b.length x.c) := HBK.out.cell 1
      have g2 : w3.cell? ⟨w2.heap.size, 2, none⟩ = some (.int .i64 (x.s : Nat)) := HBK.out.cell 2
      clear hB0 hxo hxe hb2 hbk
      have HRX := Lib.hid (HSAME.out.turn (S := fun _ => False) (Turn.of_below HG.out.2.2.2) (fun _ _ => id) id)
      go_wp2_with fail
      go_ret
      exact ⟨rfl, HRX.out.rx HLT.out HG.out.2.2.1.size hg, HG.out.2.2.1⟩
    · obtain ⟨j, rfl⟩ : ∃ j : Nat, c = (j : Int) := ⟨c.toNat, by omega⟩
      by_cases hbig : ((getF st.fs n).b.length : Int) < (j : Int)
      · rw [if_pos (Or.inr hbig)]
        have HBG := Lib.hid hbig
        clear hbig
        go_enter Try.func31, Try.ntmps31
        go_wp2_with fail
        refine HA.out.mono ?_
        rintro e w1 ⟨rfl, hp1, hg1⟩
        have HSAME := Lib.hid hp1
        obtain ⟨P, cc, fs, k, hM, hfs, hk⟩ := hp1
        have hfl1 : fs.length ≤ 268435456 := by have := congrArg List.length hfs; rw [List.length_map, HQ.out.1] at this; omega
        have hsr : Srt (fs.map FA.f) := by rw [hfs, HQ.out.1]; exact HWF.out.srt
        have HM1 := Lib.hid hM
        have HG1 := Lib.hid hg1
        have HK := Lib.hid hk
        have HFS : Hid (fs.map FA.f = st.fs) := by show _ = _; rw [hfs, HQ.out.1]
        have HSR := Lib.hid hsr
        have HC := Lib.hid (rget_c hM hsr (by omega) n)
        clear hM hg1 hk hfs hsr HA
        go_wp2_with fail
        refine HC.out.mono ?_
        rintro e w2 ⟨x, rfl, hxe, hxo, hb2⟩
        unfold fenc
        have HG := Lib.hid (got HM1.out HG1.out hxo hb2 (.cells #[.string ⟨x.n.toArray⟩, .slice x.p x.b.length x.c, .int .i64 (x.s : Nat)] 68))
        have HXN : Hid (x.b = (getF st.fs n).b ∧ x.s = (getF st.fs n).safe) := by
          rw [HFS.out] at hxe
          exact ⟨congrArg F.b hxe, congrArg F.safe hxe⟩
        have hB0 : Blk (w2.alloc (.cells #[.string ⟨#[]⟩, .slice none 0 0, .int .i64 0] 68)) w2.heap.size 68 [.string ⟨#[]⟩, .slice none 0 0, .int .i64 0] := blk_new w2 _ _ _ rfl
        have b0 := hB0.cell 0
        have b1 := hB0.cell 1
        have b2 := hB0.cell 2
        have f0 := hB0.frozen 0
        have f1 := hB0.frozen 1
        have f2 := hB0.frozen 2
        have hlt0 := hB0.lt
        have hbk : Blk (w2.alloc (.cells #[.string ⟨x.n.toArray⟩, .slice x.p x.b.length x.c, .int .i64 (x.s : Nat)] 68)) w2.heap.size 68 [.string ⟨x.n.toArray⟩, .slice x.p x.b.length x.c, .int .i64 (x.s : Nat)] := blk_new w2 _ _ _ rfl
        have HBK := Lib.hid hbk
        obtain ⟨w3, hw3⟩ : ∃ w3, w2.alloc (.cells #[.string ⟨x.n.toArray⟩, .slice x.p x.b.length x.c, .int .i64 (x.s : Nat)] 68) = w3 := ⟨_, rfl⟩
        rw [hw3] at HG HBK
        have g1 : w3.cell? ⟨w2.heap.size, 1, none⟩ = some (.slice x.p x.b.length x.c) := HBK.out.cell 1
        have g2 : w3.cell? ⟨w2.heap.size, 2, none⟩ = some (.int .i64 (x.s : Nat)) := HBK.out.cell 2
        clear hB0 hxo hxe hb2 hbk
        have HRX := Lib.hid (HSAME.out.turn (S := fun _ => False) (Turn.of_below HG.out.2.2.2) (fun _ _ => id) id)
        have i1 : (j : Int) > (x.b.length : Int) := by rw [HXN.out.1]; exact HBG.out
        go_wp2_with fail
        go_ret
        exact ⟨rfl, HRX.out.rx HLT.out HG.out.2.2.1.size hg, HG.out.2.2.1⟩
      · rw [if_neg (fun h => h.elim hneg hbig)]
        have HBG : Hid (j ≤ (getF st.fs n).b.length) := by show _ ≤ _; omega
        clear hbig hneg
        go_enter Try.func31, Try.ntmps31
        go_wp2_with fail
        refine HA.out.mono ?_
        rintro e w1 ⟨rfl, hp1, hg1⟩
        have HSAME := Lib.hid hp1
        obtain ⟨P, cc, fs, k, hM, hfs, hk⟩ := hp1
        have hfl1 : fs.length ≤ 268435456 := by have := congrArg List.length hfs; rw [List.length_map, HQ.out.1] at this; omega
        have hsr : Srt (fs.map FA.f) := by rw [hfs, HQ.out.1]; exact HWF.out.srt
        have HM1 := Lib.hid hM
        have HG1 := Lib.hid hg1
        have HK := Lib.hid hk
        have HFS : Hid (fs.map FA.f = st.fs) := by show _ = _; rw [hfs, HQ.out.1]
        have HSR := Lib.hid hsr
        have HC := Lib.hid (rget_c hM hsr (by omega) n)
        clear hM hg1 hk hfs hsr HA
        go_wp2_with fail
        refine HC.out.mono ?_
        rintro e w2 ⟨x, rfl, hxe, hxo, hb2⟩
        unfold fenc
        have HG := Lib.hid (got HM1.out HG1.out hxo hb2 (.cells #[.string ⟨x.n.toArray⟩, .slice x.p x.b.length x.c, .int .i64 (x.s : Nat)] 68))
        have HXN : Hid (x.b = (getF st.fs n).b ∧ x.s = (getF st.fs n).safe) := by
          rw [HFS.out] at hxe
          exact ⟨congrArg F.b hxe, congrArg F.safe hxe⟩
        have hB0 : Blk (w2.alloc (.cells #[.string ⟨#[]⟩, .slice none 0 0, .int .i64 0] 68)) w2.heap.size 68 [.string ⟨#[]⟩, .slice none 0 0, .int .i64 0] := blk_new w2 _ _ _ rfl
        have b0 := hB0.cell 0
        have b1 := hB0.cell 1
        have b2 := hB0.cell 2
        have f0 := hB0.frozen 0
        have f1 := hB0.frozen 1
        have f2 := hB0.frozen 2
        have hlt0 := hB0.lt
        have hbk : Blk (w2.alloc (.cells #[.string ⟨x.n.toArray⟩, .slice x.p x.b.length x.c, .int .i64 (x.s : Nat)] 68)) w2.heap.size 68 [.string ⟨x.n.toArray⟩, .slice x.p x.b.length x.c, .int .i64 (x.s : Nat)] := blk_new w2 _ _ _ rfl
        have HBK := Lib.hid hbk
        obtain ⟨w3, hw3⟩ : ∃ w3, w2.alloc (.cells #[.string ⟨x.n.toArray⟩, .slice x.p x.b.length x.c, .int .i64 (x.s : Nat)] 68) = w3 := ⟨_, rfl⟩
        rw [hw3] at HG HBK
        have g1 : w3.cell? ⟨w2.heap.size, 1, none⟩ = some (.slice x.p x.b.length x.c) := HBK.out.cell 1
        have g2 : w3.cell? ⟨w2.heap.size, 2, none⟩ = some (.int .i64 (x.s : Nat)) := HBK.out.cell 2
        clear hB0 hxo hxe hb2 hbk
        have hjb : j ≤ x.b.length := by rw [HXN.out.1]; exact HBG.out
        have i1 : ¬ ((j : Int) > (x.b.length : Int)) := by omega
        have hroom := HG.out.2.1.room
        have hn3 : w2.heap.size < w3.heap.size := HBK.out.lt
        have hn4 : w2.heap.size ≠ w3.heap.size := Nat.ne_of_lt hn3
        have hn5 : w3.heap.size ≠ w2.heap.size := Nat.ne_of_gt hn3
        have hxbl : x.b.length ≤ 268435456 := by
          have h1 := get_le HWF.out.srt n
          have h2 := HWF.out.used
          have h3 := HWF.out.room
          rw [HXN.out.1]
          omega
        have hsl : ∀ W : World, (Instr.sliceAt 33 (.slice x.p x.b.length x.c) none (some (.int .i64 (j : Int))) none).run Try.prog W = .ok (.slice x.p j x.c) W := fun W => run_slice_any W _ 5 _ _ _ _ Try.underlying33 infoB1r (by omega)
        have hlt2 : (x.b.take j).length = j := by rw [List.length_take]; omega
        have HTK : Hid (∀ W, Below w3.heap.size w3 W → In8 W x.p (x.b.take j)) := fun W hb => (in8_takeR HG.out.2.1.row j).below hb
        have hxnil := HG.out.2.1.nil
        have HDN : Hid (∀ mv : Nat, min x.s j = mv → ∀ v5 w5, w5.ownsRow w3.heap.size 5 1 v5 (0 + j) ([] ++ byteCells (x.b.take j)) → Below w3.heap.size w3 w5 → ∃ p5 c5, v5 = .slice p5 j c5 ∧ w5.cell? ⟨w2.heap.size, 2, none⟩ = some (.int .i64 (x.s : Nat)) ∧ ∀ w6, Below w5.heap.size w5 w6 → Calls Try.prog 44 #[.pointer (some ⟨g, 0, none⟩), .agg #[.string ⟨n.toArray⟩, .slice p5 j c5, .int .i64 (mv : Nat)]] w6 fun e w' => e = .returned (.tuple #[]) ∧ RA w w' R g (0, { s1 with fs := layP st.fs ⟨n, (getF st.fs n).b.take (j : Int).toNat, min (getF st.fs n).safe (j : Int).toNat⟩ }) (.returned (.int .i64 0))) := by
          intro mv hmv v5 w5 q1 q2
          rw [Nat.zero_add, List.nil_append] at q1
          obtain ⟨p5, c5, hv5, hly⟩ := new_done (l := x.b.take j) (st := st) HLT.out hg HG.out.1 HG.out.2.2.1 q2 (by rw [hlt2]; exact q1) HSR.out (by omega) HFS.out HK.out
          rw [hlt2] at hv5 hly
          refine ⟨p5, c5, hv5, ?_, fun w6 hb6 => ?_⟩
          · exact (HBK.out.below q2).cell 2
          · have h9 := hly n (min x.s j) w6 hb6
            rw [hmv] at h9
            refine h9.mono ?_
            rintro e w9 ⟨rfl, h1, h2⟩
            rw [← HXN.out.1, ← HXN.out.2, show min x.s (j : Int).toNat = mv from hmv]
            exact ⟨rfl, rfl, h1, h2⟩
        clear HG HM1 HG1 HK HFS HSR HXN HBK hroom
        by_cases hjs : j < x.s
        · have HM1 : Hid (min x.s j = j) := by show _ = _; omega
          have hji : (j : Int) < (x.s : Int) := by omega
          go_wp2_with fail
          go_region_law (first
            | ((refine step_append8 rfl (.tmp 29) (.tmp 33) rfl w3.heap.size _ 0 [] rfl (own_nil w3) x.p j x.c (x.b.take j) rfl (HTK.out _ (by first | exact (Below.refl _ _).drew.alloc (Nat.le_refl _) _ | exact ((Below.refl _ _).alloc (Nat.le_refl _) _).drew)) hlt2 hxnil (by omega) (by simp) ?_; intro v5 w5 q1 q2; obtain ⟨p5, c5, hv5, k5, hly⟩ := HDN.out j HM1.out v5 w5 q1 (((Below.refl w3.heap.size w3).alloc (Nat.le_refl _) _).drew.grown q2 (by simp) (fun k hk => by have hk2 : w3.heap.size = k := (by injection hk); omega)); have HLY := Lib.hid hly; clear q1 q2 hly; subst hv5))
            | (go_simp; go_at_call 44; (with_reducible refine (HLY.out _ ?_).mono ?_); (first | exact Below.refl _ _ | exact (Below.refl _ _).drew); rintro e w9 ⟨rfl, hra⟩; have HRA := Lib.hid hra; clear hra))
          all_goals
            go_wp2_with fail
            go_ret
            exact HRA.out
        · have HM1 : Hid (min x.s j = x.s) := by show _ = _; omega
          have hji : ¬ ((j : Int) < (x.s : Int)) := by omega
          go_wp2_with fail
          go_region_law (first
            | ((refine step_append8 rfl (.tmp 29) (.tmp 33) rfl w3.heap.size _ 0 [] rfl (own_nil w3) x.p j x.c (x.b.take j) rfl (HTK.out _ (by first | exact (Below.refl _ _).drew.alloc (Nat.le_refl _) _ | exact ((Below.refl _ _).alloc (Nat.le_refl _) _).drew)) hlt2 hxnil (by omega) (by simp) ?_; intro v5 w5 q1 q2; obtain ⟨p5, c5, hv5, k5, hly⟩ := HDN.out x.s HM1.out v5 w5 q1 (((Below.refl w3.heap.size w3).alloc (Nat.le_refl _) _).drew.grown q2 (by simp) (fun k hk => by have hk2 : w3.heap.size = k := (by injection hk); omega)); have HLY := Lib.hid hly; clear q1 q2 hly; subst hv5))
            | (go_simp; go_at_call 44; (with_reducible refine (HLY.out _ ?_).mono ?_); (first | exact Below.refl _ _ | exact (Below.refl _ _).drew); rintro e w9 ⟨rfl, hra⟩; have HRA := Lib.hid hra; clear hra))
          all_goals
            go_wp2_with fail
            go_ret
            exact HRA.out
  · have HE : Hid (cutP st n c = askP st n true) := by show _ = _; unfold cutP; rw [if_pos h0]
    rw [HE.out]
    obtain ⟨q, hq⟩ : ∃ q, askP st n true = q := ⟨_, rfl⟩
    rw [hq] at HA h0 ⊢
    obtain ⟨e1, s1⟩ := q
    dsimp only at h0 HA ⊢
    have i0 : ((e1 : Int) == 0) = false := by rw [beq_eq_false_iff_ne]; omega
    clear hq HE h0
    go_enter Try.func31, Try.ntmps31
    go_wp2_with fail
    refine HA.out.mono ?_
    rintro e w1 ⟨rfl, h1, h2⟩
    have H1 := Lib.hid (h1.rx HLT.out h2.size hg)
    have H2 := Lib.hid h2
    clear h1 h2
    go_wp2_with fail
    go_ret
    exact ⟨rfl, H1.out, H2.out⟩
end Go.Proofs.Ytggcdlhgmikemaa.plt
