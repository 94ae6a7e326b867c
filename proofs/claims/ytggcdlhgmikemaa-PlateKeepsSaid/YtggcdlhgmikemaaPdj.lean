/- The developers' Synced, Read, made. Names of at most 2^47 bytes. -/
import Derived.Test.YtggcdlhgmikemaaPdi
import Derived.Test.YtggcdlhgmikemaaPlp
import Derived.Test.YtggcdlhgmikemaaClnS
namespace Go.Proofs.Ytggcdlhgmikemaa.plt
open Go.RowKit
open Go.Proofs.Ytggcdlhgmikemaa.oct Go.Proofs.Ytggcdlhgmikemaa.ref Go.Proofs.Ytggcdlhgmikemaa.rows Go.Proofs.Ytggcdlhgmikemaa.rowg Go.Proofs.Ytggcdlhgmikemaa.mpt Go.Proofs.Ytggcdlhgmikemaa.cln Go.Proofs.Ytggcdlhgmikemaa.trn
open Go.Lib (byteCells)

theorem ref_ask (s : PS) (n : T) : refD n s.down = (askP s n false).1 := by
  unfold refD askP
  split
  · rfl
  · cases s.down <;> rfl
theorem atD_row {w : World} {R : Nat → Prop} {g m room used : Nat} {D : DataW Nat} {fl : List DF} {k : Int} {down : Bool} (h : PM w R g m D fl room used k down) (n : T) : In8 w (atD fl n).p (atD fl n).b ∧ ((atD fl n).p = none → (atD fl n).c = 0) := by
  rcases atD_cases fl n with ⟨h1, _⟩ | ⟨h1, _⟩
  · exact ⟨(h.files _ h1).in8, (h.files _ h1).room.2⟩
  · rw [h1]
    exact ⟨fun h => absurd h (by simp), fun _ => rfl⟩
theorem field0 (u v : Value) (W : World) : (Instr.field 72 (.agg #[u, v]) 0).run Try.prog W = .ok u W := by kernel_rfl
theorem field1 (u v : Value) (W : World) : (Instr.field 72 (.agg #[u, v]) 1).run Try.prog W = .ok v W := by kernel_rfl
set_option maxRecDepth 100000 in
set_option maxHeartbeats 4000000 in
theorem psynced_c {w : World} {R : Nat → Prop} {g : Nat} {st : PS} (h : PA w R g st) (n : T) (hn : n.length ≤ 140737488351232) :
    Calls Try.prog 16 #[dptr g, .string ⟨n.toArray⟩] w fun e w' => e = .returned (.int .i64 ((getF st.fs n).safe : Nat)) ∧ Below w.heap.size w w' := by
  obtain ⟨m, D, fl, k, hM, hfs, _⟩ := h
  have HC := Lib.hid (of_c hM n hn)
  have HE : Hid ((atD fl n).s = (getF st.fs n).safe) := by show _ = _; rw [← hfs, atD_f hM.srt]; rfl
  rw [← HE.out]
  obtain ⟨x, hx⟩ : ∃ x, atD fl n = x := ⟨_, rfl⟩
  rw [hx] at HC ⊢
  unfold DF.v at HC
  clear HE hx hM hfs
  go_enter Try.func16, Try.ntmps16
  go_wp2_with fail
  refine HC.out.mono ?_
  rintro e w1 ⟨rfl, hb1⟩
  have HB1 := Lib.hid hb1
  have hf1 := field1 (.slice x.p x.b.length x.c) (.int .i64 (x.s : Nat)) w1
  clear hb1
  go_wp2_with fail
  go_ret
  exact ⟨rfl, HB1.out⟩
/-- what Read answers -/
def ReadA (w w' : World) (q : Nat × T) (e : Ending) : Prop := ∃ v, e = .returned (.tuple #[v, .int .i64 (q.1 : Nat)]) ∧ NewB w w' q.2 v
set_option maxRecDepth 100000 in
set_option maxHeartbeats 4000000 in
theorem pread_c {w : World} {R : Nat → Prop} {g : Nat} {st : PS} (h : PA w R g st) (hw : Wf st) (n : T) (hn : n.length ≤ 140737488351232) :
    Calls Try.prog 18 #[dptr g, .string ⟨n.toArray⟩] w fun e w' => ReadA w w' (readP st n) e := by
  obtain ⟨m, D, fl, k, hM, hfs, _⟩ := h
  have HA := Lib.hid (refusal_c hM.blk n (by omega))
  rw [ref_ask] at HA
  have hlen : (getF st.fs n).b.length ≤ 140737488355328 := by
    have := get_le hw.srt n
    have := hw.used
    have := hw.room
    omega
  have HE : Hid ((atD fl n).b = (getF st.fs n).b) := by show _ = _; rw [← hfs, atD_f hM.srt]; rfl
  have HC := Lib.hid (of_c hM n hn)
  have HR := Lib.hid (atD_row hM n)
  unfold readP
  by_cases h0 : (askP st n false).1 = 0
  · rw [if_pos h0, h0]
    rw [h0] at HA
    rw [← HE.out] at hlen ⊢
    obtain ⟨x, hx⟩ : ∃ x, atD fl n = x := ⟨_, rfl⟩
    rw [hx] at HC HR hlen ⊢
    unfold DF.v at HC
    clear HE hx hM hfs h0 hw
    go_enter Try.func18, Try.ntmps18
    go_wp2_with fail
    refine HA.out.mono ?_
    rintro e w1 ⟨rfl, rfl⟩
    go_wp2_with fail
    refine HC.out.mono ?_
    rintro e w1 ⟨rfl, hb1⟩
    have HB1 := Lib.hid hb1
    have HCL := Lib.hid (clone_c w1 x.p x.c x.b (HR.out.1.below hb1) HR.out.2 hlen)
    have hf0 := field0 (.slice x.p x.b.length x.c) (.int .i64 (x.s : Nat)) w1
    clear hb1
    go_wp2_with fail
    refine HCL.out.mono ?_
    rintro e w2 ⟨v, rfl, hv1, hv2⟩
    have HV : Hid (NewB w w2 x.b v) := ⟨own_base hv1 HB1.out.size, bnext HB1.out hv2⟩
    clear hv1 hv2
    go_wp2_with fail
    go_ret2
    exact ⟨v, rfl, HV.out⟩
  · rw [if_neg h0]
    obtain ⟨r, hr⟩ : ∃ r, (askP st n false).1 = r := ⟨_, rfl⟩
    rw [hr] at HA h0 ⊢
    have e0 : ((r : Int) != 0) = true := by rw [bne_iff_ne]; omega
    have e1 : ((r : Int) == 0) = false := by rw [beq_eq_false_iff_ne]; omega
    clear HE hM hfs hw hr h0 HC HR hlen
    go_enter Try.func18, Try.ntmps18
    go_wp2_with fail
    refine HA.out.mono ?_
    rintro e w1 ⟨rfl, rfl⟩
    go_wp2_with fail
    go_ret2
    exact ⟨_, rfl, ⟨by simp [byteCells], Or.inl ⟨rfl, rfl⟩⟩, Below.refl _ _⟩
/-- what made answers: a file of that name; it is there now -/
def MadeA (w w' : World) (R : Nat → Prop) (g m : Nat) (fl : List DF) (n : T) (room used : Nat) (k : Int) (down : Bool) (e : Ending) : Prop :=
  ∃ x D' R', e = .returned (.pointer (some ⟨x.g, 0, none⟩)) ∧ x.n = n ∧ x.f = getF (fl.map DF.f) n ∧ PM w' R' g m D' (insD fl x) room used k down ∧ Turn R w w' ∧ Grown R R' w
theorem insD_self (fl : List DF) (x : DF) : x ∈ insD fl x := (insD_perm fl x).mem_iff.2 List.mem_cons_self
set_option maxRecDepth 100000 in
set_option maxHeartbeats 4000000 in
theorem made_c {w : World} {R : Nat → Prop} {g m room used : Nat} {D : DataW Nat} {fl : List DF} {k : Int} {down : Bool} (h : PM w R g m D fl room used k down) (n : T) (hn : n.length ≤ 140737488351232) (hl : fl.length ≤ 268435456) :
    Calls Try.prog 43 #[dptr g, .string ⟨n.toArray⟩] w fun e w' => MadeA w w' R g m fl n room used k down e := by
  have c2 : w.cell? ⟨g, 2, none⟩ = some (.map (some m)) := h.blk.cell 2
  rcases atD_cases fl n with ⟨h1, h2⟩ | ⟨h1, h2⟩
  · have hl := look_hit h.map h.says h.srt h1 (by rw [h2]; exact hn)
    rw [h2] at hl
    have HF := Lib.hid (atD_f h.srt n)
    have HS := Lib.hid (insD_same h.srt h1)
    obtain ⟨x, hx⟩ : ∃ x, atD fl n = x := ⟨_, rfl⟩
    rw [hx] at hl h2 HF HS
    have HM := Lib.hid h
    have HN := Lib.hid h2
    clear h h1 h2 hx
    go_enter Try.func43, Try.ntmps43
    go_wp2_with fail
    go_ret
    exact ⟨x, D, R, rfl, HN.out, HF.out.symm, by rw [HS.out]; exact HM.out, Turn.refl _ _, Grown.refl _ _⟩
  · have hl := look_miss h.map h.says h2 hn
    have HF : Hid (getF (fl.map DF.f) n = ⟨n, [], 0⟩) := by show _ = _; rw [atD_f h.srt n, h1]; rfl
    have HM := Lib.hid h
    have hb1 := (Below.refl w.heap.size w).alloc (Nat.le_refl _) (.cells #[.slice none 0 0, .int .i64 0] 72)
    have hB1 : Blk (w.alloc (.cells #[.slice none 0 0, .int .i64 0] 72)) w.heap.size 72 [.slice none 0 0, .int .i64 0] := blk_new w _ _ _ rfl
    have hs1 : (w.alloc (.cells #[.slice none 0 0, .int .i64 0] 72)).heap.size = w.heap.size + 1 := by simp
    have HC := Lib.hid (fun W => sclone_c ⟨n.toArray⟩ W (by rw [size_mk]; omega))
    have hglt : g < w.heap.size := h.blk.lt
    obtain ⟨w1, hw1⟩ : ∃ w1, w.alloc (.cells #[.slice none 0 0, .int .i64 0] 72) = w1 := ⟨_, rfl⟩
    rw [hw1] at hb1 hB1 hs1
    have hgl1 : g < w1.heap.size := by omega
    have c21 : w1.cell? ⟨g, 2, none⟩ = some (.map (some m)) := (hb1.cell (p := ⟨g, 2, none⟩) hglt).trans c2
    have HST : Hid (∀ w2, Below w1.heap.size w1 w2 → w2.cell? ⟨g, 2, none⟩ = some (.map (some m)) ∧ ∃ w3, (Instr.mapUpdate 62 (.map (some m)) (.string ⟨n.toArray⟩) (.pointer (some ⟨w.heap.size, 0, none⟩))).run Try.prog w2 = .ok () w3 ∧ MadeA w w3 R g m fl n room used k down (.returned (.pointer (some ⟨w.heap.size, 0, none⟩)))) := by
      intro w2 hb2
      have hbw : Below w.heap.size w w2 := hb1.trans (hb2.mono (by omega))
      refine ⟨(hb2.cell (p := ⟨g, 2, none⟩) hgl1).trans c21, ?_⟩
      obtain ⟨w3, hrun, how, hmt⟩ := (map_turn (S := fun _ => False) HM.out.map (Turn.of_below hbw) id).store (t := 62) (e := 70) skeyed Try.underlying62 (by unfold maxLen; omega) (key_txt n hn) (ptrElem_mk w.heap.size)
      have hx : FileD w2 (fun i => w.heap.size ≤ i ∧ i < w2.heap.size) ⟨n, w.heap.size, none, 0, [], 0⟩ := ⟨hB1.below hb2, ⟨by simp [byteCells], Or.inl ⟨rfl, rfl⟩⟩, fun i hi => by
        rcases hi with rfl | hi
        · exact ⟨Nat.le_refl _, Nat.lt_of_lt_of_le (by rw [hs1]; exact Nat.lt_succ_self _) hb2.size⟩
        · cases hi⟩
      have ha := HM.out.added (x := ⟨n, w.heap.size, none, 0, [], 0⟩) hbw hx how hmt.grown
      exact ⟨w3, hrun, ⟨n, w.heap.size, none, 0, [], 0⟩, _, _, rfl, rfl, HF.out.symm, ha.1, ha.2, Rn.grown _ _ _⟩
    have hgne : g ≠ w.heap.size := Nat.ne_of_lt hglt
    clear h h1 h2 hB1 hb1 hs1 HF HM hglt
    go_enter Try.func43, Try.ntmps43
    go_wp2_with fail
    go_region_with (go_at_call 37; refine (HC.out _).mono ?_; rintro e w2 ⟨rfl, hb2⟩; have hbw : Below w1.heap.size w1 w2 := bnext ((Below.refl w1.heap.size w1).drew) hb2; obtain ⟨c22, w3, hst, hto⟩ := HST.out w2 hbw; have HTO := Lib.hid hto; clear hb2 hbw hto)
    all_goals
      go_wp2_with fail
      go_ret
      exact HTO.out
end Go.Proofs.Ytggcdlhgmikemaa.plt
