/- The developers' Copy: the walk. No condition. -/
import Derived.Test.YtggcdlhgmikemaaPdu
import Derived.Deep.RegionHeld3
import Derived.Deep.Cut
namespace Go.Proofs.Ytggcdlhgmikemaa.plt
open Go.RowKit
open Go.Proofs.Ytggcdlhgmikemaa.oct Go.Proofs.Ytggcdlhgmikemaa.ref Go.Proofs.Ytggcdlhgmikemaa.rows Go.Proofs.Ytggcdlhgmikemaa.rowg Go.Proofs.Ytggcdlhgmikemaa.mpt Go.Proofs.Ytggcdlhgmikemaa.cln Go.Proofs.Ytggcdlhgmikemaa.trn
open Go.Lib (byteCells)

/-- what Copy answers: another plate in the same state, in blocks that are new -/
def CopyA (w w' : World) (st : PS) (e : Ending) : Prop := ∃ g2 R2, e = .returned (dptr g2) ∧ PA w' R2 g2 st ∧ (∀ k, R2 k → w.heap.size ≤ k) ∧ Below w.heap.size w w'
/-- what stands in a round of Copy: the copy's map and its own cells -/
structure CV (w wx : World) (m r g2 m2 : Nat) (D : DataW Nat) (fl : List DF) (left : Lit → Bool) (cnt : Nat) (D2 : DataW Nat) (ys : List DF) (X : List Value) : Prop where
  cq : CQ w wx m r m2 D fl left cnt D2 ys
  blk : Blk wx g2 64 X
/-- an entry of the map is a file -/
theorem entry_file {D : DataW Nat} {fl : List DF} (hm : MapOf D fl) (hs : SrtD fl) {s : T} {c : Value} {y : DataW Nat × List MemPlace} (hh : Maps.has D (.string s) = true) (hv : ptrElem c = some y) (hat : ∀ zd, D.atKey (.string s) zd = y.1) : ∃ x ∈ fl, s = x.n ∧ c = .pointer (some ⟨x.g, 0, none⟩) := by
  obtain ⟨x, hx, e⟩ := (hm.has _).1 hh
  have e2 := Lit.string.inj e
  refine ⟨x, hx, e2, ?_⟩
  have h1 := hat .nil
  rw [e2, hm.hit (dne hs) hx .nil] at h1
  obtain ⟨y1, y2⟩ := y
  dsimp only at h1
  subst h1
  exact ptrElem_held hv
set_option maxRecDepth 100000 in
set_option maxHeartbeats 16000000 in
theorem pcopy_c {w : World} {R : Nat → Prop} {g : Nat} {st : PS} (h : PA w R g st) (hw : Wf st) :
    Calls Try.prog 13 #[dptr g] w fun e w' => CopyA w w' st e := by
  obtain ⟨m, D, fl, k, hM, hfs, hk⟩ := h
  have c0 : w.cell? ⟨g, 0, none⟩ = some (.int .i64 (st.room : Nat)) := hM.blk.cell 0
  have c1 : w.cell? ⟨g, 1, none⟩ = some (.int .i64 (usedP st.fs : Nat)) := hM.blk.cell 1
  have c2 : w.cell? ⟨g, 2, none⟩ = some (.map (some m)) := hM.blk.cell 2
  have c3 : w.cell? ⟨g, 3, none⟩ = some (.int .i64 k) := hM.blk.cell 3
  have c4 : w.cell? ⟨g, 4, none⟩ = some (.bool st.down) := hM.blk.cell 4
  have hmm := @run_makeMap Try.prog
  have hglt := hM.blk.lt
  have hmlt := hM.map.lt
  have HM := Lib.hid hM
  have HFS := Lib.hid hfs
  have HK := Lib.hid hk
  have HFIT : Hid (∀ x ∈ fl, x.n.length ≤ 64 ∧ x.b.length ≤ 140737488355328) := by
    intro x hx
    have h1 := hw.each x.f (by rw [← hfs]; exact List.mem_map_of_mem hx)
    have h2 := get_le hw.srt x.n
    rw [← hfs, getF_hit hM.srt hx] at h2
    have h3 : x.b.length ≤ usedP (fl.map DF.f) := h2
    rw [hfs] at h3
    have := hw.used
    have := hw.room
    exact ⟨h1.2.2.2, by omega⟩
  have hfl := hM.len hfs hw
  obtain ⟨W0, hW0⟩ : ∃ W0, ((w.alloc (.cells #[.int .i64 (st.room : Nat), .int .i64 (usedP st.fs : Nat), .map (some (w.heap.size + 1)), .int .i64 k, .bool st.down] 64)).alloc (.map #[] 0)) = W0 := ⟨_, rfl⟩
  have hs0 : W0.heap.size = w.heap.size + 2 := by rw [← hW0]; simp
  have hb0 : Below w.heap.size w W0 := by rw [← hW0]; exact ((Below.refl _ _).alloc (Nat.le_refl _) _).alloc (by simp) _
  have HB0 := Lib.hid hb0
  have HBLK : Hid (Blk W0 w.heap.size 64 (pcells st.room (usedP st.fs) (.map (some (w.heap.size + 1))) k st.down)) := by
    show Blk _ _ _ _
    rw [← hW0]
    exact blk_old (blk_new w _ _ _ rfl) _
  have HMP : Hid (W0.ownsMap Try.prog 9 ptrElem (w.heap.size + 1) 0 (.map [])) := by
    show World.ownsMap _ _ _ _ _ _ _
    rw [← hW0]
    have h1 := World.ownsMap_made (H := Nat) (w.alloc (.cells #[.int .i64 (st.room : Nat), .int .i64 (usedP st.fs : Nat), .map (some (w.heap.size + 1)), .int .i64 k, .bool st.down] 64)) Try.prog 9 ptrElem
    have h2 : (w.alloc (.cells #[.int .i64 (st.room : Nat), .int .i64 (usedP st.fs : Nat), .map (some (w.heap.size + 1)), .int .i64 k, .bool st.down] 64)).heap.size = w.heap.size + 1 := by simp
    rw [h2] at h1
    exact h1
  have HOM : Hid (W0.ownsMap Try.prog 9 ptrElem m fl.length D) := map_turn (S := fun _ => False) hM.map (Turn.of_below hb0) id
  have c20 : W0.cell? ⟨g, 2, none⟩ = some (.map (some m)) := (hb0.cell (p := ⟨g, 2, none⟩) hglt).trans c2
  clear hM hfs hk hw hb0
  go_enter Try.func13, Try.ntmps13
  go_upto_region 5 with fail
  clear hW0 c0 c1 c2 c3 c4 hmm
  go_wp2_with (first
    | (at_range; refine wpList_range_own _ rfl _ 62 rfl 9 70 skeyed Try.underlying62 ptrElem m fl.length D rfl HOM.out ?_; intro w3 hrg3 hg3 hs3)
    | go_in)
  have HR3 : Hid (CV w w3 m (w.heap.size + 2) w.heap.size (w.heap.size + 1) D fl (Maps.has D) (Maps.size D) (.map []) [] (pcells st.room (usedP st.fs) (.map (some (w.heap.size + 1))) k st.down)) := by
    have h := CQ.start HB0.out HMP.out hrg3 hg3
    rw [hs0] at h
    exact ⟨h, blk_turn HBLK.out (Turn.of_row (S := fun _ => False) hg3 (fun _ e => by cases e)) id⟩
  have hs30 := hg3.size
  have hs3w : w.heap.size + 2 ≤ w3.heap.size := by omega
  rw [hs0]
  clear hrg3 hg3 hs3 hs0 hs30 HB0 HBLK HMP HOM
  go_frame
  go_loopw [4, 5] (fun _ _ wr => ∃ (left : Lit → Bool) (cnt : Nat) (D2 : DataW Nat) (ys : List DF), Hid (CV w wr m (w.heap.size + 2) w.heap.size (w.heap.size + 1) D fl left cnt D2 ys (pcells st.room (usedP st.fs) (.map (some (w.heap.size + 1))) k st.down)))
    (fun _ _ wr => wr.rangeLeft m (w.heap.size + 2))
  case atStart => exact ⟨_, _, _, _, HR3⟩
  case round =>
    obtain ⟨left, cnt, D2, ys, HN⟩ := hrel
    have hrg := HN.out.cq.rg
    have HLF := Lib.hid hrg.left_eq
    clear c20 HR3
    go_wp2_with (first
      | (at_next; refine wpList_next_ranges _ rfl _ rfl 9 skeyed ptrElem encStr (fun v : Value => v) (fun key kl hk => by obtain ⟨x, hx, _⟩ := Go.Maps.keyOf_str Try.underlying9 hk; exact ⟨x, hx⟩) (fun v _ _ => ⟨v, rfl⟩) m (w.heap.size + 2) fl.length _ _ _ rfl hrg ?_ ?_)
      | go_in)
    · intro hc0 hl0
      have HL := Lib.hid hl0
      clear hl0 hc0 hrg
      go_wp2_with fail
      go_ret
      have hq := HN.out
      have hs := HM.out.srt
      exact ⟨_, _, rfl, hq.cq.done HL.out hs HM.out.says HFS.out hq.blk (Nat.le_refl _) (Nat.le_succ _) HK.out, fun k hk => hk.1, hq.cq.bel⟩
    · intro x c kl yd yp w4 cnt4 hkey hlk hv hat hrg4 hlt hg4 hs4 hen
      obtain ⟨x', ex, rfl, _⟩ := Go.Maps.keyOf_str Try.underlying9 hkey
      obtain rfl : x = x' := Go.encStr_inj ex
      obtain ⟨e0, hx0, rfl, rfl⟩ := entry_file HM.out.says HM.out.srt (HN.out.cq.seen.sub _ hlk) hv hat
      have hq := HN.out.cq
      have hb4 : Below w.heap.size w w4 := hq.bel.grown hg4 hq.bel.size (fun k hk => by cases hk; omega)
      have hF := HM.out.files e0 hx0
      have hgl := hF.blk.lt
      have hfit := HFIT.out e0 hx0
      have hm2 := hq.m2.lt
      have hws := hq.bel.size
      have hrl := hq.rg.lt
      have hBo : Blk w4 w.heap.size 64 (pcells st.room (usedP st.fs) (.map (some (w.heap.size + 1))) k st.down) := blk_turn HN.out.blk (Turn.of_grown (S := fun k => k = w.heap.size + 2) hg4 rfl) (by omega)
      have hF4 := hF.turn (S := fun _ => False) (Turn.of_below hb4) fun _ _ => id
      have h8 := hF4.in8
      have hnr := hF4.room
      have d0 : w4.cell? ⟨e0.g, 0, none⟩ = some (.slice e0.p e0.b.length e0.c) := hF4.blk.cell 0
      have d1 : w4.cell? ⟨e0.g, 1, none⟩ = some (.int .i64 (e0.s : Nat)) := hF4.blk.cell 1
      have d2 : w4.cell? ⟨w.heap.size, 2, none⟩ = some (.map (some (w.heap.size + 1))) := hBo.cell 2
      have hg4l := hF4.blk.lt
      have hol := hBo.lt
      have HCC : Hid (∀ W : World, Below w4.heap.size w4 W → W.cell? ⟨e0.g, 0, none⟩ = some (.slice e0.p e0.b.length e0.c) ∧ W.cell? ⟨e0.g, 1, none⟩ = some (.int .i64 (e0.s : Nat)) ∧ W.cell? ⟨w.heap.size, 2, none⟩ = some (.map (some (w.heap.size + 1)))) := fun W hb =>
        ⟨(hb.cell (p := ⟨e0.g, 0, none⟩) hg4l).trans d0, (hb.cell (p := ⟨e0.g, 1, none⟩) hg4l).trans d1, (hb.cell (p := ⟨w.heap.size, 2, none⟩) hol).trans d2⟩
      have HST : Hid (∀ (W : World) (bx : Nat) (p6 : Option Addr) (c6 : Nat), Below w4.heap.size w4 W → Blk W bx 72 [.slice p6 e0.b.length c6, .int .i64 (e0.s : Nat)] → w4.heap.size ≤ bx → W.ownsRow w4.heap.size 5 1 (.slice p6 e0.b.length c6) e0.b.length (byteCells e0.b) →
          ∃ w7, (Instr.mapUpdate 62 (.map (some (w.heap.size + 1))) (.string ⟨e0.n.toArray⟩) (.pointer (some ⟨bx, 0, none⟩))).run Try.prog W = .ok () w7 ∧ CV w w7 m (w.heap.size + 2) w.heap.size (w.heap.size + 1) D fl (fun z => left z && !z.sameKey (.string e0.n)) cnt4 (D2.put (.string e0.n) (.held bx)) (ys ++ [⟨e0.n, bx, p6, c6, e0.b, e0.s⟩]) (pcells st.room (usedP st.fs) (.map (some (w.heap.size + 1))) k st.down)) := by
        intro W bx p6 c6 hbW hBx hbx hv6
        have hm4 := map_turn (S := fun k => k = w.heap.size + 2) hq.m2 (Turn.of_grown hg4 rfl) (by omega)
        have hmW := map_turn (S := fun _ => False) hm4 (Turn.of_below hbW) id
        have hfew := hq.seen.few
        rw [List.length_map, HM.out.says.size] at hfew
        obtain ⟨w7, hrun, how, hmt⟩ := hmW.store (t := 62) (e := 70) skeyed Try.underlying62 (by unfold maxLen; omega) (key_txt e0.n (by omega)) (ptrElem_mk bx)
        have hBW := blk_turn (S := fun _ => False) hBo (Turn.of_below hbW) id
        exact ⟨w7, hrun, hq.step hx0 hlk (by omega) hrg4 hlt hg4 (by omega) (by omega) (by omega) hbW hv6 hBx hbx how hmt.grown, blk_turn hBW (Turn.map (S := fun k => k = w.heap.size + 1) hmt rfl) (by omega)⟩
      have HCS := Lib.hid (fun W => sclone_c ⟨e0.n.toArray⟩ W (by rw [size_mk]; omega))
      have HBC : Hid (∀ W : World, Below w4.heap.size w4 W → Calls Try.prog 36 #[.slice e0.p e0.b.length e0.c] W fun e w' => ∃ p6 c6, e = .returned (.slice p6 e0.b.length c6) ∧ w'.ownsRow w4.heap.size 5 1 (.slice p6 e0.b.length c6) e0.b.length (byteCells e0.b) ∧ Below W.heap.size W w') := by
        intro W hb
        refine (clone_c W e0.p e0.c e0.b (h8.below hb) hnr.2 hfit.2).mono ?_
        rintro e w' ⟨v, rfl, hn1, hn2⟩
        obtain ⟨p6, c6, rfl⟩ := own_slice hn1
        exact ⟨p6, c6, rfl, own_base hn1 hb.size, hn2⟩
      have HAL : Hid (∀ (W : World) (o : Obj), Below w4.heap.size w4 W → Below w4.heap.size w4 (W.alloc o)) := fun W o hb => hb.alloc hb.size o
      have HAB : Hid (∀ (W : World) (p6 : Option Addr) (c6 : Nat), Below w4.heap.size w4 W → W.ownsRow w4.heap.size 5 1 (.slice p6 e0.b.length c6) e0.b.length (byteCells e0.b) → ∃ w7, (Instr.mapUpdate 62 (.map (some (w.heap.size + 1))) (.string ⟨e0.n.toArray⟩) (.pointer (some ⟨W.heap.size, 0, none⟩))).run Try.prog (W.alloc (.cells #[.slice p6 e0.b.length c6, .int .i64 (e0.s : Nat)] 72)) = .ok () w7 ∧ ∃ D3 y3, CV w w7 m (w.heap.size + 2) w.heap.size (w.heap.size + 1) D fl (fun z => left z && !z.sameKey (.string e0.n)) cnt4 D3 y3 (pcells st.room (usedP st.fs) (.map (some (w.heap.size + 1))) k st.down)) := by
        intro W p6 c6 hb hv6
        obtain ⟨w7, h1, h2⟩ := HST.out (W.alloc (.cells #[.slice p6 e0.b.length c6, .int .i64 (e0.s : Nat)] 72)) W.heap.size p6 c6 (HAL.out W _ hb) (blk_new W _ _ _ rfl) hb.size (own_belowG hv6 ((Below.refl _ _).alloc (Nat.le_refl _) _))
        exact ⟨w7, h1, _, _, h2⟩
      have HSB : Hid (∀ (W W2 : World) (p6 : Option Addr) (c6 : Nat), Below w4.heap.size w4 W → W.ownsRow w4.heap.size 5 1 (.slice p6 e0.b.length c6) e0.b.length (byteCells e0.b) → Below (W.alloc (.cells #[.slice p6 e0.b.length c6, .int .i64 (e0.s : Nat)] 72)).heap.size (W.alloc (.cells #[.slice p6 e0.b.length c6, .int .i64 (e0.s : Nat)] 72)) W2 → ∃ w7, (Instr.mapUpdate 62 (.map (some (w.heap.size + 1))) (.string ⟨e0.n.toArray⟩) (.pointer (some ⟨W.heap.size, 0, none⟩))).run Try.prog W2 = .ok () w7 ∧ ∃ D3 y3, CV w w7 m (w.heap.size + 2) w.heap.size (w.heap.size + 1) D fl (fun z => left z && !z.sameKey (.string e0.n)) cnt4 D3 y3 (pcells st.room (usedP st.fs) (.map (some (w.heap.size + 1))) k st.down)) := by
        intro W W2 p6 c6 hb hv6 hb2
        obtain ⟨w7, h1, h2⟩ := HST.out W2 W.heap.size p6 c6 (bnext (HAL.out W _ hb) hb2) ((blk_new W _ _ _ rfl).below hb2) hb.size (own_belowG (own_belowG hv6 ((Below.refl _ _).alloc (Nat.le_refl _) _)) hb2)
        exact ⟨w7, h1, _, _, h2⟩
      have HCE : Hid (∀ W : World, (∃ D3 y3, CV w W m (w.heap.size + 2) w.heap.size (w.heap.size + 1) D fl (fun z => left z && !z.sameKey (.string e0.n)) cnt4 D3 y3 (pcells st.room (usedP st.fs) (.map (some (w.heap.size + 1))) k st.down)) → W.cell? ⟨e0.g, 0, none⟩ = some (.slice e0.p e0.b.length e0.c) ∧ W.cell? ⟨e0.g, 1, none⟩ = some (.int .i64 (e0.s : Nat)) ∧ W.cell? ⟨w.heap.size, 2, none⟩ = some (.map (some (w.heap.size + 1)))) := by
        rintro W ⟨D3, y3, hc⟩
        exact ⟨(hc.cq.bel.cell (p := ⟨e0.g, 0, none⟩) hgl).trans (hF.blk.cell 0), (hc.cq.bel.cell (p := ⟨e0.g, 1, none⟩) hgl).trans (hF.blk.cell 1), hc.blk.cell 2⟩
      have hbd : Below w4.heap.size w4 w4.drew := (Below.refl _ _).drew
      have HLT := Lib.hid hlt
      have hne0 : e0.g ≠ w.heap.size := Nat.ne_of_lt hgl
      clear hs4 hkey hlk hv hat hg4 ex hrg4 hrg hlt hq hF hF4 h8 hnr hBo hb4 hfit hm2 hws hrl HST hx0 hgl hg4l hol
      go_wp2_with fail
      go_region_held3 (fun W : World => W.cell? ⟨e0.g, 0, none⟩ = some (.slice e0.p e0.b.length e0.c) ∧ W.cell? ⟨e0.g, 1, none⟩ = some (.int .i64 (e0.s : Nat)) ∧ W.cell? ⟨w.heap.size, 2, none⟩ = some (.map (some (w.heap.size + 1)))) (first | assumption | exact HCC.out _ (by assumption)) (first
        | (go_at_call 36; refine (HBC.out _ (by assumption)).mono ?_; rintro e w6 ⟨p6, c6, rfl, hv6, hb6⟩; have hbw6 : Below w4.heap.size w4 w6 := bnext (by assumption) hb6; have hba6 := HAL.out w6 (.cells #[.slice p6 e0.b.length c6, .int .i64 (e0.s : Nat)] 72) hbw6; obtain ⟨w7, hrun6, hcv6⟩ := HAB.out w6 p6 c6 hbw6 hv6; have HV6 := Lib.hid hv6; have HB6 := Lib.hid hbw6; have HCV6 := Lib.hid hcv6; have hs7 := HCE.out _ hcv6; clear hv6 hb6 hcv6)
        | (go_at_call 37; (first
          | (refine (HCS.out (World.alloc _ _)).mono ?_; rintro e wS ⟨rfl, hbS⟩; obtain ⟨w8, hrunS, hcvS⟩ := HSB.out w6 wS p6 c6 HB6.out HV6.out hbS; have hbwS : Below w4.heap.size w4 wS := bnext (HAL.out w6 _ HB6.out) hbS; have HCVS := Lib.hid hcvS; have hs8 := HCE.out _ hcvS; clear hcvS hbS)
          | (refine (HCS.out _).mono ?_; rintro e wS ⟨rfl, hbS⟩; have hbwS : Below w4.heap.size w4 wS := bnext HB6.out hbS; have hbaS := HAL.out wS (.cells #[.slice p6 e0.b.length c6, .int .i64 (e0.s : Nat)] 72) hbwS; obtain ⟨w8, hrunS, hcvS⟩ := HAB.out wS p6 c6 hbwS (own_belowG HV6.out hbS); have HCVS := Lib.hid hcvS; have hs8 := HCE.out _ hcvS; clear hcvS hbS)
          | (refine (HCS.out _).mono ?_; rintro e wS ⟨rfl, hbS⟩; have hbwS : Below w4.heap.size w4 wS := bnext (by assumption) hbS; clear hbS))))
      all_goals
        go_wp2_with fail
        first
          | (obtain ⟨D3, y3, hz⟩ := HCVS.out
             refine ⟨⟨_, cnt4, D3, y3, hz⟩, ?_⟩
             rw [hz.cq.rg.left_eq, HLF.out]
             exact HLT.out)
          | (obtain ⟨D3, y3, hz⟩ := HCV6.out
             refine ⟨⟨_, cnt4, D3, y3, hz⟩, ?_⟩
             rw [hz.cq.rg.left_eq, HLF.out]
             exact HLT.out)
end Go.Proofs.Ytggcdlhgmikemaa.plt
