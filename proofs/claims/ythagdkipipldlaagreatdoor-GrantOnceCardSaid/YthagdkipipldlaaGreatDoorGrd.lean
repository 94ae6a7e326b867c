/- The developers' keep, issued. No condition beyond what slices and texts are. -/
import Derived.Test.YthagdkipipldlaaGreatDoorGrc
namespace Go.Proofs.YthagdkipipldlaaGreatDoor.gra
open Go.RowKit
open Go.Proofs.YthagdkipipldlaaGreatDoor.oct Go.Proofs.YthagdkipipldlaaGreatDoor.ref Go.Proofs.YthagdkipipldlaaGreatDoor.rows Go.Proofs.YthagdkipipldlaaGreatDoor.rowg Go.Proofs.YthagdkipipldlaaGreatDoor.mpt Go.Proofs.YthagdkipipldlaaGreatDoor.trn Go.Proofs.YthagdkipipldlaaGreatDoor.krd
open Go.Proofs.YthagdkipipldlaaGreatDoor.sha (Tabs)
open Go.Proofs.YthagdkipipldlaaGreatDoor.scp (tx senc senc_len senc_one InS ins_below ins_cell ins_one lt Lst lval lenc GoodL FitS RowA own_good infoStr clone_c key_txt skeyed)

/-- what keep answers -/
def KeepA (w w' : World) (R : Nat → Prop) (g m room : Nat) (fl : List DF) (f : FT) (e : Ending) : Prop :=
  ∃ (y : DF) (D' : DataW Nat), e = .returned (dptr y.g) ∧ y.f = f ∧ BM w' (Rx R y) g m D' (insD fl y) room ∧ Turn R w w' ∧ ∀ k, y.has k → w.heap.size ≤ k
set_option maxRecDepth 100000 in
set_option maxHeartbeats 16000000 in
theorem keep_c {w : World} {R : Nat → Prop} {g m room : Nat} {D : DataW Nat} {fl : List DF} (h : BM w R g m D fl room) (x : DF) (hx : GoodF w x) (hr : RW x.f) (hroom : ∀ y : DF, y.id = x.id → (insD fl y).length ≤ room) :
    Calls Tryz.prog 64 #[dptr g, fval x] w fun e w' => KeepA w w' R g m room fl x.f e := by
  have hidl : x.id.length ≤ 140737488351232 := hx.id
  have hb1 : Below w.heap.size w (w.alloc (.cells (fenc x).toArray 41)) := (Below.refl _ _).alloc (Nat.le_refl _) _
  have hB1 : Blk (w.alloc (.cells (fenc x).toArray 41)) w.heap.size 41 (fenc x) := blk_new w _ _ _ rfl
  have HC := Lib.hid (copied_c x _ (hx.below hb1))
  have hFIN : ∀ (w2 : World) (y : DF), y.f = x.f → OwnF w2 (w.alloc (.cells (fenc x).toArray 41)).heap.size y → Below (w.alloc (.cells (fenc x).toArray 41)).heap.size (w.alloc (.cells (fenc x).toArray 41)) w2 →
      (w2.alloc (.cells (fenc y).toArray 82)).cell? ⟨g, 1, none⟩ = some (.map (some m)) ∧ (w2.alloc (.cells (fenc y).toArray 82)).cell? ⟨w2.heap.size, 0, none⟩ = some (.string ⟨y.id.toArray⟩) ∧
      ∃ w4, (Instr.mapUpdate 77 (.map (some m)) (.string ⟨y.id.toArray⟩) (.pointer (some ⟨w2.heap.size, 0, none⟩))).run Tryz.prog (w2.alloc (.cells (fenc y).toArray 82)).drew = .ok () w4 ∧ KeepA w w4 R g m room fl x.f (.returned (.pointer (some ⟨w2.heap.size, 0, none⟩))) := by
    intro w2 y hyf hyo hb2
    have hid : y.id = x.id := congrArg FT.id hyf
    have hbw : Below w.heap.size w w2 := bnext hb1 hb2
    have hb3 : Below w.heap.size w (w2.alloc (.cells (fenc y).toArray 82)).drew := (hbw.alloc hbw.size _).drew
    have hB3 : Blk (w2.alloc (.cells (fenc y).toArray 82)).drew w2.heap.size 82 (fenc y) := (blk_new w2 _ _ _ rfl).below (Below.refl _ _).drew
    have hM := h.below hb3
    refine ⟨hM.blk.cell 1, hB3.cell 0, ?_⟩
    obtain ⟨w4, hrun, how, hmt⟩ := hM.map.store (t := 77) (e := 83) skeyed Tryz.underlying77 (by have := h.few; have := h.most; unfold maxLen; omega) (key_txt y.id (by rw [hid]; exact hidl)) (ptrElem_mk w2.heap.size)
    refine ⟨w4, hrun, { y with g := w2.heap.size }, D.put (.string y.id) (.held w2.heap.size), rfl, hyf, ?_⟩
    have hsz : w.heap.size ≤ w2.heap.size := hbw.size
    have hnew : ∀ k, DF.has { y with g := w2.heap.size } k → w.heap.size ≤ k ∧ k < (w2.alloc (.cells (fenc y).toArray 82)).drew.heap.size := by
      rintro k (rfl | hk)
      · exact ⟨hsz, by show w2.heap.size < (w2.alloc _).heap.size; rw [World.size_alloc]; exact Nat.lt_succ_self _⟩
      · have h1 := hyo.lt k hk
        refine ⟨by rw [World.size_alloc] at h1; omega, ?_⟩
        show k < (w2.alloc _).heap.size
        rw [World.size_alloc]
        exact Nat.lt_succ_of_lt h1.2
    have hfam : FamM (w2.alloc (.cells (fenc y).toArray 82)).drew (fun i => w.heap.size ≤ i ∧ i < (w2.alloc (.cells (fenc y).toArray 82)).drew.heap.size) { y with g := w2.heap.size } :=
      ⟨hB3, (show OwnF w2 0 { y with g := w2.heap.size } from ⟨(hyo.base (Nat.zero_le _)).sc, (hyo.base (Nat.zero_le _)).tk, (hyo.base (Nat.zero_le _)).ts, (hyo.base (Nat.zero_le _)).le⟩).below ((Below.refl _ _).alloc (Nat.le_refl _) _).drew, hnew⟩
    obtain ⟨a1, a2⟩ := h.added hb3 { y with g := w2.heap.size } hfam (by rw [show DF.f { y with g := w2.heap.size } = x.f from hyf]; exact hr) (hroom _ hid) how hmt.grown
    exact ⟨a1, a2, fun k hk => (hnew k hk).1⟩
  have HFIN := Lib.hid hFIN
  obtain ⟨w1, hw1⟩ : ∃ w1, w.alloc (.cells (fenc x).toArray 41) = w1 := ⟨_, rfl⟩
  rw [hw1] at HC HFIN hB1
  have HB1 := Lib.hid hB1
  have hglt : g < w.heap.size := h.blk.lt
  obtain ⟨F, hF⟩ : ∃ F, x.f = F := ⟨_, rfl⟩
  rw [hF] at HC HFIN ⊢
  obtain ⟨X, hX⟩ : ∃ X, fenc x = X := ⟨_, rfl⟩
  have hXv : fval x = .agg X.toArray := by rw [← hX]; rfl
  have hXi : (Tryz.prog.info? 41).map (·.size) = some X.length := by rw [← hX]; exact infoFa
  rw [hXv] at HC ⊢
  rw [hX] at hw1 HB1
  clear h hx hr hroom hF hX hXv hFIN hb1 hB1 hidl hglt
  go_enter Tryz.func64, Tryz.ntmps64
  go_wp2_with (with_reducible refine wpList_load_blk rfl 41 (.tmp 3) rfl w.heap.size X 41 HB1.out rfl _ Tryz.underlying41 rfl hXi ?_)
  refine HC.out.mono ?_
  rintro e w2 ⟨y, rfl, hyf, hyo, hb2⟩
  obtain ⟨k1, k0, w4, hrun, hz⟩ := HFIN.out w2 y hyf hyo hb2
  have HZ := Lib.hid hz
  rw [show (fenc y).toArray = #[.string ⟨y.id.toArray⟩, .string ⟨y.cl.toArray⟩, .string ⟨y.us.toArray⟩, lval y.sc, .string ⟨y.re.toArray⟩, .string ⟨y.ch.toArray⟩, .string ⟨y.me.toArray⟩, .int .i64 y.code, y.tv, .bool y.rev, y.lv] from rfl] at k1 k0 hrun
  rw [show fval y = .agg #[.string ⟨y.id.toArray⟩, .string ⟨y.cl.toArray⟩, .string ⟨y.us.toArray⟩, lval y.sc, .string ⟨y.re.toArray⟩, .string ⟨y.ch.toArray⟩, .string ⟨y.me.toArray⟩, .int .i64 y.code, y.tv, .bool y.rev, y.lv] from rfl]
  clear hyf hyo hb2 hz HFIN HC HB1 hXi
  obtain ⟨S0, e0⟩ : ∃ S, (⟨y.id.toArray⟩ : ByteArray) = S := ⟨_, rfl⟩
  obtain ⟨S1, e1⟩ : ∃ S, (⟨y.cl.toArray⟩ : ByteArray) = S := ⟨_, rfl⟩
  obtain ⟨S2, e2⟩ : ∃ S, (⟨y.us.toArray⟩ : ByteArray) = S := ⟨_, rfl⟩
  obtain ⟨S4, e4⟩ : ∃ S, (⟨y.re.toArray⟩ : ByteArray) = S := ⟨_, rfl⟩
  obtain ⟨S5, e5⟩ : ∃ S, (⟨y.ch.toArray⟩ : ByteArray) = S := ⟨_, rfl⟩
  obtain ⟨S6, e6⟩ : ∃ S, (⟨y.me.toArray⟩ : ByteArray) = S := ⟨_, rfl⟩
  obtain ⟨V3, n3, C3, e3⟩ : ∃ P n C, lval y.sc = .slice P n C := ⟨_, _, _, rfl⟩
  obtain ⟨V8, n8, C8, e8⟩ : ∃ P n C, y.tv = .slice P n C := ⟨_, _, _, rfl⟩
  obtain ⟨V10, n10, C10, e10⟩ : ∃ P n C, y.lv = .slice P n C := ⟨_, _, _, rfl⟩
  rw [e0, e1, e2, e3, e4, e5, e6, e8, e10] at k1 k0 hrun ⊢
  clear e0 e1 e2 e3 e4 e5 e6 e8 e10
  go_upto_region 2 with fail
  obtain ⟨wk, hwk⟩ : ∃ wk, w2.alloc (.cells #[.string S0, .string S1, .string S2, .slice V3 n3 C3, .string S4, .string S5, .string S6, .int .i64 y.code, .slice V8 n8 C8, .bool y.rev, .slice V10 n10 C10] 82) = wk := ⟨_, rfl⟩
  rw [hwk] at k1 k0 hrun ⊢
  clear hwk
  go_still_tail 10, (by kernel_rfl)
  change wpList _ _ _ _ _ wk.drew
  go_wp2_with fail
  go_ret
  exact HZ.out
end Go.Proofs.YthagdkipipldlaaGreatDoor.gra
