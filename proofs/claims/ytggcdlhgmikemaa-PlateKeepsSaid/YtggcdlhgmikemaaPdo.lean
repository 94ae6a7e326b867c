/- The developers' shorten. Names of at most 2^47 bytes. -/
import Derived.Test.YtggcdlhgmikemaaPdl
import Derived.StillTailTactics
import Derived.Deep.RegionWith
namespace Go.Proofs.Ytggcdlhgmikemaa.plt
open Go.RowKit
open Go.Proofs.Ytggcdlhgmikemaa.oct Go.Proofs.Ytggcdlhgmikemaa.ref Go.Proofs.Ytggcdlhgmikemaa.rows Go.Proofs.Ytggcdlhgmikemaa.rowg Go.Proofs.Ytggcdlhgmikemaa.mpt Go.Proofs.Ytggcdlhgmikemaa.cln Go.Proofs.Ytggcdlhgmikemaa.trn
open Go.Lib (byteCells)

/-- a slice, cut at j -/
theorem run_slice_pre {P : Program} (w : World) (t e : TypeId) (len cq b o j : Nat) (h : P.underlying t = some (.slice e)) (he : (P.info? e).map (·.size) = some 1) (hj : j ≤ cq) :
    (Instr.sliceAt t (.slice (some ⟨b, o, none⟩) len cq) none (some (.int .i64 (j : Int))) none).run P w = .ok (.slice (some ⟨b, o, none⟩) j cq) w := by
  cases hq : P.info? e with
  | none => simp [hq] at he
  | some i =>
    simp [Instr.sliceAt, Instr.slice, run_underlying h, Instr.sliceBounds, Instr.sliceBound, asIntOf, hj, sizeOf, typeInfo, hq, Sem.run_bind, Addr.add]
theorem infoB1 : (Try.prog.info? 5).map (·.size) = some 1 := by kernel_rfl
theorem in8_take {w : World} {p : Option Addr} {l : T} (h : In8 w p l) (j : Nat) : In8 w p (l.take j) := by
  intro hl
  rw [List.length_take] at hl
  obtain ⟨b, o, e, hc⟩ := h (by omega)
  refine ⟨b, o, e, fun i hi => ?_⟩
  rw [List.length_take] at hi
  rw [hc i (by omega)]
  congr 4
  rw [List.getD_eq_getElem?_getD, List.getD_eq_getElem?_getD, List.getElem?_take_of_lt (by omega)]
/-- what shorten comes to -/
def ShortA (w w' : World) (R : Nat → Prop) (g m room : Nat) (k : Int) (down : Bool) (L : List F) : Prop := ∃ R' D' fl', PM w' R' g m D' fl' room (usedP L) k down ∧ fl'.map DF.f = L ∧ Turn R w w' ∧ Grown R R' w
theorem ShortA.same {w : World} {R : Nat → Prop} {g m room : Nat} {D : DataW Nat} {fl : List DF} {k : Int} {down : Bool} {L : List F} (h : PM w R g m D fl room (usedP (fl.map DF.f)) k down) (hL : L = fl.map DF.f) : ShortA w w R g m room k down L :=
  ⟨R, D, fl, by rw [hL]; exact h, hL.symm, Turn.refl R w, Grown.refl R w⟩
/-- a file's bytes are others, in memory of their own -/
theorem PM.cut {w w3 : World} {R : Nat → Prop} {g m room used : Nat} {D : DataW Nat} {fl : List DF} {k : Int} {down : Bool} (h : PM w R g m D fl room used k down) {x : DF} (hx : x ∈ fl) {b : T} {p : Option Addr} {c : Nat} (hv : NewB w w3 b (.slice p b.length c)) (s : Nat) :
    Blk w3 x.g 72 [x.v, .int .i64 (x.s : Nat)] ∧ PM ((w3.setCell ⟨x.g, 0, none⟩ (.slice p b.length c)).setCell ⟨x.g, 1, none⟩ (.int .i64 (s : Nat))) (Rn R w ((w3.setCell ⟨x.g, 0, none⟩ (.slice p b.length c)).setCell ⟨x.g, 1, none⟩ (.int .i64 (s : Nat)))) g m D (insD fl ⟨x.n, x.g, p, c, b, s⟩) room used k down ∧ Turn R w ((w3.setCell ⟨x.g, 0, none⟩ (.slice p b.length c)).setCell ⟨x.g, 1, none⟩ (.int .i64 (s : Nat))) := by
  have hf := h.files x hx
  have hB := hf.blk.below hv.2
  refine ⟨hB, ?_⟩
  have t1 : Turn (fun i => i = x.g) w3 (w3.setCell ⟨x.g, 0, none⟩ (.slice p b.length c)) := Turn.set _ _ _ _ rfl
  have t2 : Turn (fun i => i = x.g) (w3.setCell ⟨x.g, 0, none⟩ (.slice p b.length c)) ((w3.setCell ⟨x.g, 0, none⟩ (.slice p b.length c)).setCell ⟨x.g, 1, none⟩ (.int .i64 (s : Nat))) := Turn.set _ _ _ _ rfl
  have t3 := t1.next t2
  refine h.changed hx ⟨x.n, x.g, p, c, b, s⟩ rfl rfl (((Turn.of_below hv.2).next t3).mono fun i _ e => Or.inl e) ⟨(hB.set 0 _).set 1 _, own_base (own_turn hv.1 t3 fun b hb e => absurd (row_blk hv.1 (e ▸ hb) hB) (by decide)) (Nat.zero_le _), ?_⟩
  rintro i (hi | hi)
  · exact Or.inl (Or.inl hi)
  · exact Or.inr ⟨(hv.1.lt i hi).1, Nat.lt_of_lt_of_le (hv.1.lt i hi).2 t3.size⟩
set_option maxRecDepth 100000 in
set_option maxHeartbeats 8000000 in
theorem shorten_c {w : World} {R : Nat → Prop} {g m room : Nat} {D : DataW Nat} {fl : List DF} {k : Int} {down : Bool} (h : PM w R g m D fl room (usedP (fl.map DF.f)) k down) (ok : ∀ x ∈ fl, x.b ≠ [] ∧ x.s ≤ x.b.length) (hu : usedP (fl.map DF.f) ≤ 268435456) (n : T) (hn : n.length ≤ 140737488351232) (j : Nat) (hj : j ≤ (getF (fl.map DF.f) n).b.length) :
    Calls Try.prog 38 #[dptr g, .string ⟨n.toArray⟩, .int .i64 (j : Nat)] w fun e w' => e = .returned (.tuple #[]) ∧ ShortA w w' R g m room k down (layP (fl.map DF.f) ⟨n, (getF (fl.map DF.f) n).b.take j, min (getF (fl.map DF.f) n).safe j⟩) := by
  have c2 : w.cell? ⟨g, 2, none⟩ = some (.map (some m)) := h.blk.cell 2
  have hsr := srtD_iff.1 h.srt
  have hbs : ∀ f ∈ fl.map DF.f, f.b ≠ [] := fun f hf => by
    obtain ⟨x, hx, rfl⟩ := List.mem_map.1 hf
    exact (ok x hx).1
  have hsame := lay_same hsr hbs n
  rcases atD_cases fl n with ⟨h1, h3⟩ | ⟨h1, h3⟩
  · have hl := look_hit h.map h.says h.srt h1 (by rw [h3]; exact hn)
    rw [h3] at hl
    have hF := h.files _ h1
    have hfx := atD_f h.srt n
    obtain ⟨x, hx⟩ : ∃ x, atD fl n = x := ⟨_, rfl⟩
    rw [hx] at hl hF hfx h1 h3
    rw [hfx] at hj hsame ⊢
    have d0 : w.cell? ⟨x.g, 0, none⟩ = some (.slice x.p x.b.length x.c) := hF.blk.cell 0
    have d1 : w.cell? ⟨x.g, 1, none⟩ = some (.int .i64 (x.s : Nat)) := hF.blk.cell 1
    have hxs := (ok x h1).2
    have hul := get_le hsr n
    rw [hfx] at hul
    have hul2 : x.b.length ≤ usedP (fl.map DF.f) := hul
    have hj2 : j ≤ x.b.length := hj
    show Calls _ _ _ _ fun e w' => e = .returned (.tuple #[]) ∧ ShortA w w' R g m room k down (layP (fl.map DF.f) ⟨n, x.b.take j, min x.s j⟩)
    by_cases hje : j = x.b.length
    · have hL : layP (fl.map DF.f) ⟨n, x.b.take j, min x.s j⟩ = fl.map DF.f := by
        rw [hje, List.take_length, Nat.min_eq_left hxs, ← h3]
        exact hsame
      rw [hL]
      have HS := Lib.hid (ShortA.same h rfl)
      have i1 : ((j : Int) == (x.b.length : Int)) = true := by rw [beq_iff_eq]; omega
      clear h ok hu hj hsr hbs hsame h1 h3 hF hfx hx hul hul2 hj2 hL hje hxs
      go_enter Try.func38, Try.ntmps38
      go_wp2_with fail
      refine bodyPost_ret (results_none rfl _ _ _) rfl ?_
      exact ⟨rfl, HS.out⟩
    · have i1 : ((j : Int) == (x.b.length : Int)) = false := by rw [beq_eq_false_iff_ne]; omega
      have c1 : w.cell? ⟨g, 1, none⟩ = some (.int .i64 (usedP (fl.map DF.f) : Nat)) := h.blk.cell 1
      have f1 := h.blk.frozen 1
      have gl := h.blk.lt
      have HM := Lib.hid h
      have HX1 := Lib.hid h1
      have HX3 := Lib.hid h3
      have HSR := Lib.hid h.srt
      have HFX := Lib.hid hfx
      obtain ⟨u, hue⟩ : ∃ u, usedP (fl.map DF.f) = u := ⟨_, rfl⟩
      rw [hue] at c1 hu hul2
      have HUE := Lib.hid hue
      obtain ⟨l, hle⟩ : ∃ l, x.b.length = l := ⟨_, rfl⟩
      have iw1 : IntKind.i64.wrap ((l : Int) - (j : Int)) = (l : Int) - (j : Int) := by rw [IntKind.wrap_i64]; omega
      have iw2 : IntKind.i64.wrap ((u : Int) - ((l : Int) - (j : Int))) = (u : Int) - ((l : Int) - (j : Int)) := by rw [IntKind.wrap_i64]; omega
      have HU2 : Hid ((u : Int) - ((l : Int) - (j : Int)) = ((u - (l - j) : Nat) : Int)) := by show _ = _; omega
      rw [hle] at d0 i1
      have HLE := Lib.hid hle
      have hbw := (Below.refl w.heap.size w).drew
      obtain ⟨wd, hwd⟩ : ∃ wd, w.drew = wd := ⟨_, rfl⟩
      rw [hwd] at hbw
      have hMd := h.turn (S := fun _ => False) (Turn.of_below hbw) fun _ _ => id
      rw [hue] at hMd
      have hM2 := hMd.cells (grownSet g 1 (.int .i64 ((u - (l - j) : Nat) : Int))) (room2 := room) (used2 := u - (l - j)) (k2 := k) (down2 := down) (hMd.blk.set 1 _)
      have hT2 : Turn R w (wd.setCell ⟨g, 1, none⟩ (.int .i64 ((u - (l - j) : Nat) : Int))) := (Turn.of_below hbw).next (Turn.set _ _ _ _ h.mem)
      have c1d : wd.cell? ⟨g, 1, none⟩ = some (.int .i64 (u : Nat)) := hMd.blk.cell 1
      have f1d := hMd.blk.frozen 1
      have gld := hMd.blk.lt
      have d0d : wd.cell? ⟨x.g, 0, none⟩ = some (.slice x.p l x.c) := by rw [← hle]; exact (hMd.files x h1).blk.cell 0
      obtain ⟨w2, hw2⟩ : ∃ w2, wd.setCell ⟨g, 1, none⟩ (.int .i64 ((u - (l - j) : Nat) : Int)) = w2 := ⟨_, rfl⟩
      rw [hw2] at hM2 hT2
      rw [← HU2.out] at hw2
      have c22 : w2.cell? ⟨g, 2, none⟩ = some (.map (some m)) := hM2.blk.cell 2
      have hF2 := hM2.files x h1
      have d02 : w2.cell? ⟨x.g, 0, none⟩ = some (.slice x.p l x.c) := by rw [← hle]; exact hF2.blk.cell 0
      have d12 : w2.cell? ⟨x.g, 1, none⟩ = some (.int .i64 (x.s : Nat)) := hF2.blk.cell 1
      have HM2 := Lib.hid hM2
      have HT2 := Lib.hid hT2
      have HUL := Lib.hid (used_lay hsr ⟨n, x.b.take j, min x.s j⟩)
      by_cases hj0 : j = 0
      · subst hj0
        have HD : Hid (∀ w3, w3.ownsMap Try.prog 9 ptrElem m fl.length (D.del (.string n)) → w2.mapTurned w3 m → ShortA w w3 R g m room k down (layP (fl.map DF.f) ⟨n, x.b.take 0, min x.s 0⟩)) := by
          intro w3 how hmt
          obtain ⟨a1, a2⟩ := HM2.out.gone (j := fl.length) n how hmt.grown
          have e1 : (delD fl n).map DF.f = layP (fl.map DF.f) ⟨n, x.b.take 0, min x.s 0⟩ := delD_f fl ⟨n, x.b.take 0, min x.s 0⟩ rfl
          refine ⟨R, D.del (.string n), delD fl n, ?_, e1, HT2.out.next a2, Grown.refl R w⟩
          have h7 := HUL.out
          dsimp only at h7
          rw [HFX.out, HUE.out] at h7
          have h8 : (DF.f x).b.length = l := HLE.out
          rw [h8, List.take_zero] at h7
          rw [show usedP (layP (fl.map DF.f) ⟨n, x.b.take 0, min x.s 0⟩) = u - (l - 0) by rw [List.length_nil] at h7; rw [List.take_zero]; omega]
          exact a1
        have HOM := Lib.hid hM2.map
        have iw3 : IntKind.i64.wrap (l : Int) = (l : Int) := by rw [IntKind.wrap_i64]; omega
        have iw4 : IntKind.i64.wrap ((u : Int) - (l : Int)) = (u : Int) - (l : Int) := by rw [IntKind.wrap_i64]; omega
        rw [show (u : Int) - ((l : Int) - ((0 : Nat) : Int)) = (u : Int) - (l : Int) by omega] at hw2
        clear iw1 iw2
        have HK := Lib.hid (key_txt n hn)
        clear h ok hsr hbs hsame h1 h3 hF hfx hx hul hue hle hbw hMd hM2 hT2 hF2 HM HX1 HX3 HSR HFX HUE HLE HU2 HM2 HT2 HUL hxs hj hj2 hje
        go_enter Try.func38, Try.ntmps38
        go_wp2_with fail
        go_still_tail 12, (by kernel_rfl)
        change wpList _ _ _ _ _ w.drew
        rw [hwd]
        clear c1 c2 d0 d1 f1 gl hl
        go_wp2_with (at_delete; (refine wpList_delete_own _ rfl _ _ 62 9 rfl 70 skeyed Try.underlying62 _ m _ D rfl HOM.out _ _ rfl HK.out ?_; intro w3 how hmt; have HS := Lib.hid (HD.out w3 how hmt); clear how hmt))
        refine bodyPost_ret (results_none rfl _ _ _) rfl ?_
        exact ⟨rfl, HS.out⟩
      · have i2 : ((j : Int) == 0) = false := by rw [beq_eq_false_iff_ne]; omega
        have hnb : 0 < x.b.length := by omega
        obtain ⟨r, cap, hv, _, _⟩ := hF2.own.form hnb
        obtain ⟨hxp, hxc⟩ : x.p = some ⟨r, 0, none⟩ ∧ x.c = cap := by unfold DF.v at hv; injection hv with e1 _ e3; exact ⟨e1, e3⟩
        have hlt2 : (x.b.take j).length = j := by rw [List.length_take]; omega
        have hroom := hF2.room.1
        have hsl : ∀ W : World, (Instr.sliceAt 33 (.slice (some ⟨r, 0, none⟩) l x.c) none (some (.int .i64 (j : Int))) none).run Try.prog W = .ok (.slice (some ⟨r, 0, none⟩) j x.c) W := fun W => run_slice_pre W _ 5 _ _ _ _ _ Try.underlying33 infoB1 (by omega)
        have HC : Hid (∀ W, Below w2.heap.size w2 W → Calls Try.prog 36 #[.slice (some ⟨r, 0, none⟩) j x.c] W fun e w' => ∃ p c, e = .returned (.slice p j c) ∧ NewB w2 w' (x.b.take j) (.slice p (x.b.take j).length c)) := by
          intro W hb
          have h8 := in8_take hF2.in8 j
          rw [hxp] at h8
          have hc := clone_c W (some ⟨r, 0, none⟩) x.c (x.b.take j) (h8.below hb) (fun h => by cases h) (by omega)
          rw [hlt2] at hc
          refine hc.mono ?_
          rintro e w' ⟨v, e1, e2, e3⟩
          obtain ⟨p, c, rfl⟩ := own_slice e2
          refine ⟨p, c, by rw [e1, hlt2], ?_, bnext hb e3⟩
          exact own_base e2 hb.size
        have HD : Hid (∀ w3 p c, NewB w2 w3 (x.b.take j) (.slice p (x.b.take j).length c) → Blk w3 x.g 72 [.slice x.p l x.c, .int .i64 (x.s : Nat)] ∧ ShortA w ((w3.setCell ⟨x.g, 0, none⟩ (.slice p j c)).setCell ⟨x.g, 1, none⟩ (.int .i64 (min (x.s : Int) (j : Int)))) R g m room k down (layP (fl.map DF.f) ⟨n, x.b.take j, min x.s j⟩)) := by
          intro w3 p c hn3
          obtain ⟨a0, a1, a2⟩ := HM2.out.cut HX1.out hn3 (min x.s j)
          rw [hlt2] at a1 a2
          have hne : x.b.take j ≠ [] := fun e => by rw [e, List.length_nil] at hlt2; omega
          have e1 := insD_f fl ⟨x.n, x.g, p, c, x.b.take j, min x.s j⟩ hne
          unfold DF.v at a0
          rw [HLE.out] at a0
          rw [show min (x.s : Int) (j : Int) = ((min x.s j : Nat) : Int) by omega]
          have h7 := HUL.out
          dsimp only at h7
          rw [HFX.out, HUE.out] at h7
          have h8 : (DF.f x).b.length = l := HLE.out
          rw [h8, hlt2] at h7
          have e2 : usedP (layP (fl.map DF.f) ⟨n, x.b.take j, min x.s j⟩) = u - (l - j) := by omega
          rw [← e2] at a1
          exact ⟨a0, _, _, _, a1, e1.trans (by rw [← HX3.out]; rfl), HT2.out.next a2, RnG (Grown.refl R w) HT2.out.size⟩
        rw [hxp] at d0 d0d d02 HD
        clear h ok hsr hbs hsame h1 h3 hF hfx hx hul hue hle hbw hMd hM2 hT2 hF2 HM HX1 HX3 HSR HFX HUE HLE HU2 HM2 HT2 HUL hxs hv hlt2 hroom hxp hxc
        go_enter Try.func38, Try.ntmps38
        go_wp2_with fail
        go_still_tail 12, (by kernel_rfl)
        change wpList _ _ _ _ _ w.drew
        rw [hwd]
        clear c1 c2 d0 d1 f1 gl hl
        go_wp2_with fail
        go_region_with (go_at_call 36; refine (HC.out _ (by first | exact (Below.refl _ _).drew | exact Below.refl _ _)).mono ?_; rintro e w3 ⟨p3, c3, rfl, hnb3⟩; obtain ⟨hb3, hs3⟩ := HD.out w3 p3 c3 hnb3; have d03 := hb3.cell 0; have d13 := hb3.cell 1; have e03 := hb3.frozen 0; have e13 := hb3.frozen 1; have l3 := hb3.lt; have d04 : w3.cell? ⟨x.g, 0, none⟩ = some (.slice (some ⟨r, 0, none⟩) l x.c) := d03; have d14 : w3.cell? ⟨x.g, 1, none⟩ = some (.int .i64 (x.s : Nat)) := d13; have HS3 := Lib.hid hs3; clear hnb3 hb3 hs3 d03 d13)
        all_goals
          refine bodyPost_end (results_none rfl _ _ _) rfl ?_
          exact ⟨rfl, HS3.out⟩
  · have hl := look_miss h.map h.says h3 hn
    have hg : getF (fl.map DF.f) n = ⟨n, [], 0⟩ := getF_miss h3
    have hL : layP (fl.map DF.f) ⟨n, (getF (fl.map DF.f) n).b.take j, min (getF (fl.map DF.f) n).safe j⟩ = fl.map DF.f := by
      rw [hg] at hsame ⊢
      dsimp only
      rw [List.take_nil, Nat.zero_min]
      exact hsame
    rw [hL]
    have HS := Lib.hid (ShortA.same h rfl)
    clear h ok hu hj hsr hbs hsame h1 h3 hg hL
    go_enter Try.func38, Try.ntmps38
    go_wp2_with fail
    refine bodyPost_ret (results_none rfl _ _ _) rfl ?_
    exact ⟨rfl, HS.out⟩
end Go.Proofs.Ytggcdlhgmikemaa.plt
