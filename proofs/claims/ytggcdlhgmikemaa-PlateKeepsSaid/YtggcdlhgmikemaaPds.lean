/- The developers' Crash. No condition. -/
import Derived.Test.YtggcdlhgmikemaaPdq
import Derived.Test.YtggcdlhgmikemaaPdr
import Derived.BigRegion
namespace Go.Proofs.Ytggcdlhgmikemaa.plt
open Go.RowKit
open Go.Proofs.Ytggcdlhgmikemaa.oct Go.Proofs.Ytggcdlhgmikemaa.ref Go.Proofs.Ytggcdlhgmikemaa.rows Go.Proofs.Ytggcdlhgmikemaa.rowg Go.Proofs.Ytggcdlhgmikemaa.mpt Go.Proofs.Ytggcdlhgmikemaa.cln Go.Proofs.Ytggcdlhgmikemaa.trn
open Go.Lib (byteCells)

/-- ints as they are handed in -/
def ienc (n : Int) : List Value := [.int .i64 n]
theorem ienc_len : ∀ a, (ienc a).length = 1 := fun _ => rfl
/-- what stands in a round of Crash: the files, i of which are crashed; X: the blocks of what was handed in -/
structure CR (w wx : World) (R : Nat → Prop) (g m : Nat) (st : PS) (ks : List Int) (i : Nat) (k : Int) (down : Bool) : Prop where
  pm : ∃ R' D' fl', PM wx R' g m D' fl' st.room (usedP (crashK st.fs ks i)) k down ∧ fl'.map DF.f = crashK st.fs ks i ∧ Grown R R' w
  turn : Turn R w wx
theorem layP_twice {fs : List F} {f f2 : F} (h : f2.name = f.name) (hb : f.b ≠ []) : layP (layP fs f) f2 = layP fs f2 := by
  unfold layP
  rw [h, if_neg hb, List.filter_append, List.filter_append, List.filter_append, List.filter_append]
  rw [filter_twice (fun x : F => Go.Proofs.Ytggcdlhgmikemaa.scp.lt x.name f.name) (fun x => Go.Proofs.Ytggcdlhgmikemaa.scp.lt x.name f.name) _ (fun _ h => h), filter_none (fun x : F => Go.Proofs.Ytggcdlhgmikemaa.scp.lt x.name f.name) (fun x => Go.Proofs.Ytggcdlhgmikemaa.scp.lt f.name x.name) _ (fun _ h => Go.Proofs.Ytggcdlhgmikemaa.scp.lt_asymm h),
    filter_none (fun x : F => Go.Proofs.Ytggcdlhgmikemaa.scp.lt f.name x.name) (fun x => Go.Proofs.Ytggcdlhgmikemaa.scp.lt x.name f.name) _ (fun _ h => Go.Proofs.Ytggcdlhgmikemaa.scp.lt_asymm h), filter_twice (fun x : F => Go.Proofs.Ytggcdlhgmikemaa.scp.lt f.name x.name) (fun x => Go.Proofs.Ytggcdlhgmikemaa.scp.lt f.name x.name) _ (fun _ h => h)]
  rw [List.filter_cons_of_neg (by rw [Go.Proofs.Ytggcdlhgmikemaa.scp.lt_irrefl]; simp), List.filter_cons_of_neg (by rw [Go.Proofs.Ytggcdlhgmikemaa.scp.lt_irrefl]; simp)]
  simp
theorem crashK_used (fs : List F) (ks : List Int) (i : Nat) : usedP (crashK fs ks i) ≤ usedP fs := by
  unfold crashK
  rw [usedP_app]
  have h1 := crashF_used (fs := fs.take i) ks
  have h2 := usedP_app (fs.take i) (fs.drop i)
  rw [List.take_append_drop] at h2
  omega
theorem CR.round {w1 wr : World} {R : Nat → Prop} {g m : Nat} {st : PS} {ks : List Int} {i : Nat} {k : Int} {down : Bool} (h : CR w1 wr R g m st ks i k down) (hw : Wf st) (hi : i < st.fs.length) :
    ∃ (gx : Nat) (p : Option Addr) (c : Nat), wr.cell? ⟨g, 2, none⟩ = some (.map (some m)) ∧
      (Instr.lookup 62 (.map (some m)) (.string ⟨(st.fs[i]).name.toArray⟩) false).run Try.prog wr = .ok (.pointer (some ⟨gx, 0, none⟩)) wr ∧
      ∀ wd, Below wr.heap.size wr wd → wd.cell? ⟨gx, 0, none⟩ = some (.slice p (st.fs[i]).b.length c) ∧ wd.cell? ⟨gx, 1, none⟩ = some (.int .i64 ((st.fs[i]).safe : Nat)) ∧ wd.frozen? ⟨gx, 1, none⟩ = false ∧ gx < wd.heap.size ∧
        ∀ j, j = kept st.fs[i] ((ks[i]?).getD 0) → Calls Try.prog 38 #[dptr g, .string ⟨(st.fs[i]).name.toArray⟩, .int .i64 (j : Nat)] (wd.setCell ⟨gx, 1, none⟩ (.int .i64 (j : Nat))) fun e w3 => e = .returned (.tuple #[]) ∧ CR w1 w3 R g m st ks (i + 1) k down := by
  obtain ⟨⟨R', D', fl', hM, hfl, hG⟩, hT⟩ := h
  have hsr := srt_crash hw.srt ks i
  have hin : st.fs[i] ∈ crashK st.fs ks i := crashK_at hi
  have hget := getF_mem hsr hin
  have hwf := hw.each _ (List.getElem_mem hi)
  have hall : ∀ f ∈ st.fs, f.safe ≤ f.b.length ∧ f.b ≠ [] := fun f hf => ⟨(hw.each f hf).2.1, (hw.each f hf).1⟩
  obtain ⟨x, hx, hxf⟩ := List.mem_map.1 (by rw [hfl]; exact hin : st.fs[i] ∈ fl'.map DF.f)
  have hxn : x.n = (st.fs[i]).name := congrArg F.name hxf
  have hxb : x.b = (st.fs[i]).b := congrArg F.b hxf
  have hxs : x.s = (st.fs[i]).safe := congrArg F.safe hxf
  have hlook := look_hit hM.map hM.says hM.srt hx (by rw [hxn]; omega)
  rw [hxn] at hlook
  refine ⟨x.g, x.p, x.c, hM.blk.cell 2, hlook, fun wd hbd => ?_⟩
  have hMd := hM.turn (S := fun _ => False) (Turn.of_below hbd) fun _ _ => id
  have hF := hMd.files x hx
  refine ⟨by rw [← hxb]; exact hF.blk.cell 0, by rw [← hxs]; exact hF.blk.cell 1, hF.blk.frozen 1, hF.blk.lt, fun j hj => ?_⟩
  have hk := kept_le (f := st.fs[i]) hwf.2.1 ((ks[i]?).getD 0)
  rw [← hj] at hk
  obtain ⟨a1, a2⟩ := hMd.resync hx j
  have hyb : (⟨x.n, x.g, x.p, x.c, x.b, j⟩ : DF).b ≠ [] := by rw [← hxb] at hwf; exact hwf.1
  have e1 := insD_f fl' ⟨x.n, x.g, x.p, x.c, x.b, j⟩ hyb
  rw [hfl] at e1
  have e1' : (insD fl' ⟨x.n, x.g, x.p, x.c, x.b, j⟩).map DF.f = layP (crashK st.fs ks i) ⟨(st.fs[i]).name, (st.fs[i]).b, j⟩ := by rw [e1, ← hxn, ← hxb]; rfl
  have hu1 := used_lay hsr ⟨(st.fs[i]).name, (st.fs[i]).b, j⟩
  dsimp only at hu1
  rw [hget] at hu1
  have hu2 : usedP (layP (crashK st.fs ks i) ⟨(st.fs[i]).name, (st.fs[i]).b, j⟩) = usedP (crashK st.fs ks i) := by omega
  rw [← hu2, ← e1'] at a1
  have hg2 : getF ((insD fl' ⟨x.n, x.g, x.p, x.c, x.b, j⟩).map DF.f) (st.fs[i]).name = ⟨(st.fs[i]).name, (st.fs[i]).b, j⟩ := by
    rw [e1', getF_lay hsr, if_pos rfl, if_neg hwf.1]
  have hok : ∀ y ∈ insD fl' ⟨x.n, x.g, x.p, x.c, x.b, j⟩, y.b ≠ [] ∧ y.s ≤ y.b.length := by
    intro y hy
    rcases insD_mem hy with rfl | ⟨hy, _⟩
    · exact ⟨hyb, by show j ≤ x.b.length; rw [hxb]; exact hk.2⟩
    · have h5 := crashK_mem hall (x := y.f) (by rw [← hfl]; exact List.mem_map_of_mem hy)
      exact ⟨h5.1, h5.2.1⟩
  have hS := shorten_c a1 hok (by rw [e1', hu2]; have := crashK_used st.fs ks i; have := hw.used; have := hw.room; omega) (st.fs[i]).name (by omega) j (by rw [hg2]; exact hk.2)
  rw [hg2, e1'] at hS
  have hfin : layP (layP (crashK st.fs ks i) ⟨(st.fs[i]).name, (st.fs[i]).b, j⟩) ⟨(st.fs[i]).name, (st.fs[i]).b.take j, min j j⟩ = crashK st.fs ks (i + 1) := by
    rw [layP_twice (f := ⟨(st.fs[i]).name, (st.fs[i]).b, j⟩) (f2 := ⟨(st.fs[i]).name, (st.fs[i]).b.take j, min j j⟩) rfl hwf.1, ← crashK_succ hw.srt ks hi hwf.1, Nat.min_self, hj]
    rfl
  dsimp only at hS
  rw [hfin] at hS
  refine hS.mono ?_
  rintro e w3 ⟨e2, R3, D3, fl3, b1, b2, b3, b4⟩
  have hTd := hT.next ((Turn.of_below hbd : Turn R wr wd))
  have hT3 : Turn R w1 w3 := hTd.trans hG (a2.trans (Rn.grown _ _ _) b3)
  refine ⟨e2, ⟨R3, D3, fl3, b1, b2, fun q hq => ?_⟩, hT3⟩
  rcases b4 q hq with h6 | h6
  · rcases h6 with h7 | h7
    · exact hG q h7
    · exact Or.inr (Nat.le_trans hTd.size h7.1)
  · exact Or.inr (Nat.le_trans (hTd.trans hG a2).size h6)
theorem CR.start {w1 : World} {R : Nat → Prop} {g m : Nat} {st : PS} {D : DataW Nat} {fl : List DF} {k : Int} {down : Bool} (h : PM w1 R g m D fl st.room (usedP st.fs) k down) (hf : fl.map DF.f = st.fs) (ks : List Int) : CR w1 w1 R g m st ks 0 k down :=
  ⟨⟨R, D, fl, h, hf, Grown.refl R w1⟩, Turn.refl R w1⟩
theorem CR.done {w w1 wr : World} {R : Nat → Prop} {g m : Nat} {st : PS} {ks : List Int} {k : Int} {down : Bool} (h : CR w1 wr R g m st ks st.fs.length k down) (ht : Turn R w w1) :
    Blk wr g 64 (pcells st.room (usedP (crashK st.fs ks st.fs.length)) (.map (some m)) k down) ∧ To w ((wr.setCell ⟨g, 3, none⟩ (.int .i64 (-1))).setCell ⟨g, 4, none⟩ (.bool false)) R g (crashP st ks) := by
  obtain ⟨⟨R', D', fl', hM, hfl, hG⟩, hT⟩ := h
  refine ⟨hM.blk, R', ⟨m, D', fl', -1, ?_, ?_, rfl, by omega, by omega⟩, ?_, fun q hq => (hG q hq).imp id fun e => Nat.le_trans ht.size e⟩
  · have h1 := hM.cells (grownSet g 3 (.int .i64 (-1))) (room2 := st.room) (used2 := usedP (crashK st.fs ks st.fs.length)) (k2 := -1) (down2 := down) (hM.blk.set 3 _)
    have h2 := h1.cells (grownSet g 4 (.bool false)) (room2 := st.room) (used2 := usedP (crashK st.fs ks st.fs.length)) (k2 := -1) (down2 := false) (h1.blk.set 4 _)
    rw [crashK_all] at h2
    exact h2
  · rw [hfl, crashK_all]
    rfl
  · have t2 : Turn R' wr ((wr.setCell ⟨g, 3, none⟩ (.int .i64 (-1))).setCell ⟨g, 4, none⟩ (.bool false)) := (Turn.set _ _ _ _ hM.mem).next (Turn.set _ _ _ _ hM.mem)
    exact (ht.next hT).trans (fun q hq => (hG q hq).imp id fun e => Nat.le_trans ht.size e) t2
/-- where a row's texts stand -/
theorem tenc_at {w : World} {B : Nat} {v : Value} {l : List T} (h : w.ownsRow B 9 1 v l.length (cells tenc l)) (i : Nat) (hi : i < l.length) : ∃ b, v.ownBlock = some b ∧ w.cell? ⟨b, i, none⟩ = some (.string ⟨(l[i]).toArray⟩) := by
  obtain ⟨p, c, rfl, _, _, hin⟩ := own_g tenc_len (by decide) h
  obtain ⟨b, o, rfl, hc⟩ := InG.cells hin i hi
  have h0 := hc 0 (by decide)
  rcases h.2 with ⟨h1, _⟩ | ⟨g, cap, cur, h1, _⟩
  · cases h1
  · injection h1 with h1
    injection h1 with h1
    injection h1 with h2 h3
    subst h3
    rw [Nat.mul_one, Nat.zero_add, Nat.add_zero] at h0
    exact ⟨b, rfl, h0⟩
set_option maxRecDepth 100000 in
set_option maxHeartbeats 8000000 in
theorem pcrash_c {w : World} {R : Nat → Prop} {g : Nat} {st : PS} (h : PA w R g st) (hw : Wf st) (pk : Option Addr) (ck : Nat) (ks : List Int) (hk8 : InG ienc 1 w pk ks) (hkl : ks.length ≤ 9223372036854775807) (hki : ∀ n ∈ ks, -9223372036854775808 ≤ n ∧ n ≤ 9223372036854775807) (hkg : ks ≠ [] → ∀ i o x, pk = some ⟨i, o, x⟩ → i < w.heap.size → ¬ R i) :
    Calls Try.prog 14 #[dptr g, .slice pk ks.length ck] w fun e w' => e = .returned (.tuple #[]) ∧ To w w' R g (crashP st ks) := by
  have HN := Lib.hid (pnames_c h hw)
  have HWF := Lib.hid hw
  have HRW := Lib.hid h.lt
  obtain ⟨m, D, fl, k, hM, hfs, _⟩ := h
  have HM := Lib.hid hM
  have HFS := Lib.hid hfs
  have HK8 : Hid (∀ wx, Turn R w wx → InG ienc 1 wx pk ks) := by
    intro wx ht
    by_cases e : ks = []
    · rw [e]
      exact fun h => absurd h (by simp)
    · exact ing_turn ienc_len (by decide) hk8 ht (hkg e)
  have HKI := Lib.hid hki
  have hfl : st.fs.length ≤ 268435456 := by have := hM.len hfs hw; rw [← hfs, List.length_map]; exact this
  clear hM hfs hk8 hki hkg hw
  go_enter Try.func14, Try.ntmps14
  go_wp2_with fail
  refine HN.out.mono ?_
  rintro e w1 ⟨v, rfl, ho, hb1⟩
  rw [List.length_map] at ho
  obtain ⟨pn, cn, rfl⟩ := own_slice ho
  have HT1 : Hid (Turn R w w1) := Turn.of_below hb1
  have HC0 := Lib.hid (CR.start (w1 := w1) (HM.out.turn (S := fun _ => False) (Turn.of_below hb1) fun _ _ => id) HFS.out ks)
  have HAT : Hid (∀ (wx : World), Turn R w1 wx → ∀ i (hi : i < st.fs.length), ∃ b, pn = some ⟨b, 0, none⟩ ∧ wx.cell? ⟨b, i, none⟩ = some (.string ⟨(st.fs[i]).name.toArray⟩)) := by
    intro wx ht i hi
    have ho2 := own_turn ho ht fun b hb hR => by
      have h1 := (ho.lt b hb).1
      have h2 := HRW.out b hR
      omega
    have hl : (st.fs.map (·.name)).length = st.fs.length := List.length_map _
    obtain ⟨b, e1, e2⟩ := tenc_at (l := st.fs.map (·.name)) (by rw [hl]; exact ho2) i (by rw [hl]; exact hi)
    rw [List.getElem_map] at e2
    rcases ho.2 with ⟨h1, _⟩ | ⟨gg, cap, cur, h1, _⟩
    · rw [h1] at e1; cases e1
    · injection h1 with h1
      subst h1
      injection e1 with e1
      subst e1
      exact ⟨gg, rfl, e2⟩
  clear ho hb1 HN HM
  go_wp2_with fail
  go_loopg [4, 5, 6, 7, 13] st.fs.length (fun gk _ _ _ _ s13 wx => ∃ i : Nat, i + gk = st.fs.length ∧ s13 = .int .i64 (i : Int) ∧ Hid (CR w1 wx R g m st ks i k st.down))
  case atStart => exact ⟨0, by omega, rfl, HC0⟩
  case round =>
    obtain ⟨i, hig, rfl, HC⟩ := hrel
    rcases gk with _ | gk
    · obtain rfl : i = st.fs.length := by omega
      obtain ⟨hB, hto⟩ := HC.out.done HT1.out
      have HTO := Lib.hid hto
      have c3 := hB.cell 3
      have c4 := hB.cell 4
      have f3 := hB.frozen 3
      have f4 := hB.frozen 4
      have hlt := hB.lt
      have c3' : wr.cell? ⟨g, 3, none⟩ = some (.int .i64 k) := c3
      have c4' : wr.cell? ⟨g, 4, none⟩ = some (.bool st.down) := c4
      clear hB hto c3 c4
      go_wp2_with fail
      go_end0
      exact ⟨rfl, HTO.out⟩
    · have hi : i < st.fs.length := by omega
      have hiI : (i : Int) < (st.fs.length : Int) := by omega
      obtain ⟨bn, hpn, cn⟩ := HAT.out wr HC.out.turn i hi
      obtain ⟨gx, px, cx, c2, hl, hwd⟩ := HC.out.round HWF.out hi
      have HWD := Lib.hid hwd
      obtain ⟨d0, d1, f1, gxl, hsh⟩ := hwd wr (Below.refl _ _)
      have hwf := (HWF.out.each _ (List.getElem_mem hi)).2.1
      have hbl := get_le HWF.out.srt (st.fs[i]).name
      rw [getF_mem HWF.out.srt (List.getElem_mem hi)] at hbl
      have hus := HWF.out.used
      have hrm := HWF.out.room
      subst hpn
      obtain ⟨nm, hnm⟩ : ∃ nm, (st.fs[i]).name = nm := ⟨_, rfl⟩
      obtain ⟨S, hS⟩ : ∃ S, (st.fs[i]).safe = S := ⟨_, rfl⟩
      obtain ⟨D2, hD⟩ : ∃ D2, (st.fs[i]).b.length = D2 := ⟨_, rfl⟩
      have hS2 : S ≤ D2 := by omega
      have hD2 : D2 ≤ 268435456 := by omega
      rw [hnm] at cn hl HWD
      rw [hS] at d1 HWD
      rw [hD] at d0 HWD
      have iw1 : IntKind.i64.wrap ((D2 : Int) - (S : Int)) = (D2 : Int) - (S : Int) := by rw [IntKind.wrap_i64]; omega
      by_cases hik : i < ks.length
      · have j1 : (i : Int) < (ks.length : Int) := by omega
        obtain ⟨bk, ok, hpk, hck⟩ := InG.cells (HK8.out wr (HT1.out.next HC.out.turn)) i hik
        have k0 := hck 0 (by decide)
        rw [Nat.mul_one, Nat.add_zero] at k0
        have hkr := HKI.out _ (List.getElem_mem hik)
        have HKE : Hid ((ks[i]?).getD 0 = ks[i]) := by show _ = _; rw [List.getElem?_eq_getElem hik]; rfl
        obtain ⟨K, hK⟩ : ∃ K, ks[i] = K := ⟨_, rfl⟩
        rw [hK] at k0 hkr HKE
        have k0' : wr.cell? ⟨bk, ok + i, none⟩ = some (.int .i64 K) := k0
        subst hpk
        obtain ⟨j, hj⟩ : ∃ j, kept st.fs[i] K = j := ⟨_, rfl⟩
        have HJ : Hid (j = kept st.fs[i] ((ks[i]?).getD 0)) := by show _ = _; rw [HKE.out]; exact hj.symm
        have hjv : (S : Int) + min (max K 0) ((D2 : Int) - (S : Int)) = (j : Int) := by rw [← hj]; unfold kept; rw [hS, hD]; omega
        have hjb : j ≤ D2 := by rw [← hj]; unfold kept; rw [hS, hD]; omega
        have iw3 : IntKind.i64.wrap (j : Int) = (j : Int) := by rw [IntKind.wrap_i64]; omega
        have iw2 : IntKind.i64.wrap ((S : Int) + min (max K 0) ((D2 : Int) - (S : Int))) = (j : Int) := by rw [hjv]; exact iw3
        clear hwd hsh hck k0 hK hkr hnm hS hD hwf hbl hus hrm hj
        go_wp2_with fail
        go_still_tail 17, (by kernel_rfl)
        change wpList _ _ _ _ _ wr.drew
        have hbd := (Below.refl wr.heap.size wr).drew
        obtain ⟨wd, hwd⟩ : ∃ wd, wr.drew = wd := ⟨_, rfl⟩
        rw [hwd] at hbd ⊢
        clear hwd
        obtain ⟨e0, e1, ef, el, esh⟩ := HWD.out wd hbd
        have HSH := Lib.hid (esh j HJ.out)
        clear d0 d1 f1 gxl hl c2 hbd esh
        go_wp2_with fail
        refine HSH.out.mono ?_
        rintro e w5 ⟨rfl, hcr⟩
        have HCR := Lib.hid hcr
        clear hcr
        go_wp2_with fail
        go_roundg gk
        case measure => omega
        case rel => exact ⟨i + 1, by omega, by go_num, HCR⟩
      · have j1 : ¬ ((i : Int) < (ks.length : Int)) := by omega
        have HKE : Hid ((ks[i]?).getD 0 = 0) := by show _ = _; rw [List.getElem?_eq_none (by omega)]; rfl
        obtain ⟨j, hj⟩ : ∃ j, kept st.fs[i] 0 = j := ⟨_, rfl⟩
        have HJ : Hid (j = kept st.fs[i] ((ks[i]?).getD 0)) := by show _ = _; rw [HKE.out]; exact hj.symm
        have hjv : (S : Int) + min 0 ((D2 : Int) - (S : Int)) = (j : Int) := by rw [← hj]; unfold kept; rw [hS, hD]; omega
        have hjb : j ≤ D2 := by rw [← hj]; unfold kept; rw [hS, hD]; omega
        have iw3 : IntKind.i64.wrap (j : Int) = (j : Int) := by rw [IntKind.wrap_i64]; omega
        have iw2 : IntKind.i64.wrap ((S : Int) + min 0 ((D2 : Int) - (S : Int))) = (j : Int) := by rw [hjv]; exact iw3
        clear hwd hsh hik hnm hS hD hwf hbl hus hrm hj
        go_wp2_with fail
        go_still_tail 17, (by kernel_rfl)
        change wpList _ _ _ _ _ wr.drew
        have hbd := (Below.refl wr.heap.size wr).drew
        obtain ⟨wd, hwd⟩ : ∃ wd, wr.drew = wd := ⟨_, rfl⟩
        rw [hwd] at hbd ⊢
        clear hwd
        obtain ⟨e0, e1, ef, el, esh⟩ := HWD.out wd hbd
        have HSH := Lib.hid (esh j HJ.out)
        clear d0 d1 f1 gxl hl c2 hbd esh
        go_wp2_with fail
        refine HSH.out.mono ?_
        rintro e w5 ⟨rfl, hcr⟩
        have HCR := Lib.hid hcr
        clear hcr
        go_wp2_with fail
        go_roundg gk
        case measure => omega
        case rel => exact ⟨i + 1, by omega, by go_num, HCR⟩
end Go.Proofs.Ytggcdlhgmikemaa.plt
