/- The developers' split. No condition. -/
import Derived.Test.YtpijnkfbgieabaaDoorTr3
namespace Go.Proofs.YtpijnkfbgieabaaDoor.tri
open Go.RowKit
open Go.Proofs.YtpijnkfbgieabaaDoor.oct Go.Proofs.YtpijnkfbgieabaaDoor.ref Go.Proofs.YtpijnkfbgieabaaDoor.rows Go.Proofs.YtpijnkfbgieabaaDoor.rowg Go.Proofs.YtpijnkfbgieabaaDoor.trn
open Go.Proofs.YtpijnkfbgieabaaDoor.sha (digest digest_len dval)
open Go.Lib (byteCells)

abbrev noKid : Nat → Option Nat := fun _ => none
theorem zeroP (w : World) : (zeroValue 93).run Tryd.prog w = .ok (.agg (kids noKid).toArray) w := by kernel_rfl
theorem infoP : (Tryd.prog.info? 93).map (·.size) = some 16 := by kernel_rfl
theorem infoPath : (Tryd.prog.info? 103).map (·.size) = some 32 := by kernel_rfl
theorem kids_one (c : Nat → Option Nat) : ∀ v ∈ kids c, v.oneCell' = true := fun v hv => by
  unfold kids at hv
  obtain ⟨k, _, rfl⟩ := List.mem_map.1 hv
  cases c k <;> rfl
def setK (c : Nat → Option Nat) (i : Nat) (p : Option Nat) : Nat → Option Nat := fun k => if k = i then p else c k
theorem kids_set (c : Nat → Option Nat) (i : Nat) (p : Option Nat) : (kids c).set i (nptr p) = kids (setK c i p) := by
  refine List.ext_getElem? fun k => ?_
  by_cases hk : k < 16
  · by_cases e : i = k
    · subst e
      rw [List.getElem?_set_self (by rw [kids_len]; exact hk), kids_at _ hk]
      unfold setK
      rw [if_pos rfl]
    · rw [List.getElem?_set_ne e, kids_at _ hk, kids_at _ hk]
      unfold setK
      rw [if_neg (fun h => e h.symm)]
  · rw [List.getElem?_eq_none (by rw [List.length_set, kids_len]; omega), List.getElem?_eq_none (by rw [kids_len]; omega)]
theorem sub_one (x : Pr) (d k : Nat) : sub [x] d k = if nib x.n d = k then [x] else [] := by
  unfold sub
  by_cases h : nib x.n d = k
  · rw [if_pos h]; simp [h]
  · rw [if_neg h]; simp [h]
/-- what is below -/
def SplitA (w : World) (F : Nat → Prop) (f d : Nat) (l : List Pr) (c : Nat → Option Nat) : Prop := ∀ k, k < 16 → Nd w F f (d + 1) (c k) (sub l d k)
set_option maxRecDepth 100000 in
set_option maxHeartbeats 4000000 in
theorem split_c {w : World} {F : Nat → Prop} {f d : Nat} {p : Option Nat} {l : List Pr} (h : Nd w F (f + 1) d p l) (hd : d < 64) :
    ∃ c, SplitA w F f d l c ∧ Calls Tryd.prog 42 #[nptr p, .int .i64 (d : Nat)] w fun e w' => e = .returned (.agg (kids c).toArray) ∧ Below w.heap.size w w' := by
  rcases h.cases with ⟨rfl, rfl⟩ | ⟨b, v, way, rfl, hl, h1⟩ | ⟨f', b, c, hf, rfl, h2, hn, hk⟩
  · refine ⟨noKid, fun k _ => Nd.nil w F f (d + 1), ?_⟩
    have hz := zeroP
    have hzl := kids_len noKid
    have ho := kids_one noKid
    obtain ⟨Z, hZ⟩ : ∃ Z, kids noKid = Z := ⟨_, rfl⟩
    rw [hZ] at hz hzl ho ⊢
    have hi : Hid ((Tryd.prog.info? 93).map (·.size) = some Z.length) := by show _ = _; rw [hzl]; exact infoP
    have HO := Lib.hid ho
    have hb1 := (Below.refl w.heap.size w).alloc (Nat.le_refl _) (.cells Z.toArray 93)
    have hb2 := hb1.alloc hb1.size (.cells Z.toArray 93)
    have hB4 := blk_old (blk_new w Z.toArray 93 Z rfl) (.cells Z.toArray 93)
    have hB5 := blk_new (w.alloc (.cells Z.toArray 93)) Z.toArray 93 Z rfl
    rw [show (w.alloc (.cells Z.toArray 93)).heap.size = w.heap.size + 1 by simp] at hB5
    have HB2 := Lib.hid hb2
    have HB4 := Lib.hid hB4
    have HB5 := Lib.hid hB5
    unfold nptr
    clear ho hzl hZ h hb1 hb2 hB4 hB5
    go_enter Tryd.func42, Tryd.ntmps42
    go_wp2_with (first
      | (with_reducible refine wpList_load_blk rfl 93 (.tmp 5) rfl (w.heap.size + 1) Z 93 HB5.out rfl _ Tryd.underlying93 rfl hi.out ?_)
      | (with_reducible refine wpList_store_blk rfl 93 (.tmp 4) (.tmp 24) rfl w.heap.size Z Z 93 HB4.out rfl rfl hi.out rfl HO.out ?_; intro w1 hR hW))
    exact bodyPost_ret (v := .agg Z.toArray) (results_blk Tryd.results42 _ _ w.heap.size 93 Z _ rfl hR Tryd.underlying93 rfl hi.out) rfl ⟨rfl, hW.below _ _ HB2.out (Nat.le_refl _)⟩
  · have hl1 : l.length = 1 := h1.resolve_right (by omega)
    obtain ⟨x, rfl⟩ : ∃ x, l = [x] := by
      rcases l with _ | ⟨x, _ | ⟨y, l⟩⟩
      · simp at hl1
      · exact ⟨x, rfl⟩
      · simp at hl1
    have hway : way = digest x.n := (hl.ways x List.mem_cons_self).symm
    obtain ⟨k, hk⟩ : ∃ k, nibW way d = k := ⟨_, rfl⟩
    have hk16 : k < 16 := hk ▸ nibW_lt way d
    refine ⟨setK noKid k (some b), fun j hj => ?_, ?_⟩
    · rw [sub_one]
      unfold setK
      by_cases e : j = k
      · rw [if_pos e, if_pos (by rw [e, ← hk, hway])]
        exact Nd.one ⟨v, way, hl⟩ rfl _ _
      · rw [if_neg e, if_neg (fun h2 => e (by rw [← h2, ← hk, hway]))]
        exact Nd.nil _ _ _ _
    have hz := zeroP
    have hzl := kids_len noKid
    obtain ⟨Z, hZ⟩ : ∃ Z, kids noKid = Z := ⟨_, rfl⟩
    rw [hZ] at hz hzl
    have hb1 := (Below.refl w.heap.size w).alloc (Nat.le_refl _) (.cells Z.toArray 93)
    have hb2 := hb1.alloc hb1.size (.cells Z.toArray 93)
    have hB4 := blk_old (blk_new w Z.toArray 93 Z rfl) (.cells Z.toArray 93)
    have hB5 := blk_new (w.alloc (.cells Z.toArray 93)) Z.toArray 93 Z rfl
    rw [show (w.alloc (.cells Z.toArray 93)).heap.size = w.heap.size + 1 by simp] at hB5
    have HE := Lib.hid (ends_c (h.below hb2))
    have HB2 := Lib.hid hb2
    have HB4 := Lib.hid hB4
    have HB5 := Lib.hid hB5
    rw [show endB (f + 1) [x] = true by unfold endB; simp] at HE
    have hxl := kids_len (setK noKid k (some b))
    have ho := kids_one (setK noKid k (some b))
    have hZX : Z.set k (nptr (some b)) = kids (setK noKid k (some b)) := by rw [← hZ, kids_set]
    obtain ⟨X, hX⟩ : ∃ X, kids (setK noKid k (some b)) = X := ⟨_, rfl⟩
    rw [hX] at hxl ho hZX ⊢
    have hi : Hid ((Tryd.prog.info? 93).map (·.size) = some X.length) := by show _ = _; rw [hxl]; exact infoP
    have hlen : Hid (Z.length = X.length) := by show _ = _; rw [hzl, hxl]
    have hsome : ∃ u, Z[k]? = some u := ⟨_, List.getElem?_eq_getElem (by omega)⟩
    obtain ⟨u, hu⟩ := hsome
    have HST : Hid (∀ w3, Below ((w.alloc (.cells Z.toArray 93)).alloc (.cells Z.toArray 93)).heap.size ((w.alloc (.cells Z.toArray 93)).alloc (.cells Z.toArray 93)) w3 → w3.cell? ⟨w.heap.size + 1, k, none⟩ = some u ∧ w3.frozen? ⟨w.heap.size + 1, k, none⟩ = false ∧ Blk (w3.setCell ⟨w.heap.size + 1, k, none⟩ (nptr (some b))) (w.heap.size + 1) 93 X ∧ Blk (w3.setCell ⟨w.heap.size + 1, k, none⟩ (nptr (some b))) w.heap.size 93 Z ∧ Below w.heap.size w (w3.setCell ⟨w.heap.size + 1, k, none⟩ (nptr (some b)))) := by
      intro w3 hb
      have h5 := hB5.below hb
      refine ⟨by rw [h5.cell, hu], h5.frozen k, ?_, blk_turn (hB4.below hb) (Turn.set (S := fun i => i = w.heap.size + 1) _ _ _ _ rfl) (by omega), (bnext hb2 hb).setCell (p := ⟨w.heap.size + 1, k, none⟩) (Nat.le_succ _) _⟩
      have h6 := h5.set k (nptr (some b))
      rw [hZX] at h6
      exact h6
    have HAT := Lib.hid (at_c way d ((w.alloc (.cells Z.toArray 93)).alloc (.cells Z.toArray 93)) hl.nb.wl hd)
    rw [hk] at HAT
    have hwr := hl.nb.wayR
    have hwl : (byteCells way).length = 32 := by rw [byteCells_len, hl.nb.wl]
    have hlt := hl.nb.lt
    unfold dval at HAT
    obtain ⟨Wy, hWy⟩ : ∃ Wy, byteCells way = Wy := ⟨_, rfl⟩
    rw [hWy] at HAT hwr hwl
    have HWR : Hid (((w.alloc (.cells Z.toArray 93)).alloc (.cells Z.toArray 93)).rangeAt b 34 Wy) := fun j v hj => (hb2.cell (p := ⟨b, 34 + j, none⟩) hlt).trans (hwr j v hj)
    have hiw : Hid ((Tryd.prog.info? 103).map (·.size) = some Wy.length) := by show _ = _; rw [hwl]; exact infoPath
    have HO := Lib.hid ho
    have HLB := Lib.hid hlt
    unfold nptr at *
    clear ho hzl hxl hZ hX h hb1 hb2 hB4 hB5 hl hway hk hwr hwl hWy hu h1 hl1 hZX
    go_enter Tryd.func42, Tryd.ntmps42
    go_wp2_with fail
    refine HE.out.mono ?_
    rintro e w' ⟨rfl, rfl⟩
    go_wp2_with (with_reducible refine wpList_load_mid rfl 103 (.tmp 18) rfl b 34 rfl Wy _ HWR.out Tryd.underlying103 rfl hiw.out ?_)
    refine HAT.out.mono ?_
    rintro e w3 ⟨rfl, hb3⟩
    obtain ⟨r1, r2, r3, r4, r5⟩ := HST.out w3 hb3
    have R3 := Lib.hid r3
    have R4 := Lib.hid r4
    have R5 := Lib.hid r5
    clear hb3 r3 r4 r5
    go_wp2_with (first
      | (with_reducible refine wpList_load_blk rfl 93 (.tmp 5) rfl (w.heap.size + 1) X 93 R3.out rfl _ Tryd.underlying93 rfl hi.out ?_)
      | (with_reducible refine wpList_store_blk rfl 93 (.tmp 4) (.tmp 24) rfl w.heap.size X Z 93 R4.out rfl rfl hi.out hlen.out HO.out ?_; intro w4 hR hW))
    exact bodyPost_ret (v := .agg X.toArray) (results_blk Tryd.results42 _ _ w.heap.size 93 X _ rfl hR Tryd.underlying93 rfl hi.out) rfl ⟨rfl, hW.below _ _ R5.out (Nat.le_refl _)⟩
  · obtain rfl : f = f' := by omega
    refine ⟨c, hk, ?_⟩
    have hz := zeroP
    have hzl := kids_len noKid
    obtain ⟨Z, hZ⟩ : ∃ Z, kids noKid = Z := ⟨_, rfl⟩
    rw [hZ] at hz hzl
    have hb1 := (Below.refl w.heap.size w).alloc (Nat.le_refl _) (.cells Z.toArray 93)
    have hb2 := hb1.alloc hb1.size (.cells Z.toArray 93)
    have hB4 := blk_old (blk_new w Z.toArray 93 Z rfl) (.cells Z.toArray 93)
    have hB5 := blk_new (w.alloc (.cells Z.toArray 93)) Z.toArray 93 Z rfl
    rw [show (w.alloc (.cells Z.toArray 93)).heap.size = w.heap.size + 1 by simp] at hB5
    have HE := Lib.hid (ends_c (h.below hb2))
    have HB2 := Lib.hid hb2
    have HB4 := Lib.hid hB4
    have HB5 := Lib.hid hB5
    rw [show endB (f + 1) l = false by unfold endB; simp; omega] at HE
    have hxl := kids_len c
    have ho := kids_one c
    have hkr := hn.kidR
    have hlt := hn.lt
    obtain ⟨X, hX⟩ : ∃ X, kids c = X := ⟨_, rfl⟩
    rw [hX] at hxl ho hkr ⊢
    have hi : Hid ((Tryd.prog.info? 93).map (·.size) = some X.length) := by show _ = _; rw [hxl]; exact infoP
    have hlen : Hid (Z.length = X.length) := by show _ = _; rw [hzl, hxl]
    have HKR : Hid (((w.alloc (.cells Z.toArray 93)).alloc (.cells Z.toArray 93)).rangeAt b 66 X) := fun j v hj => (hb2.cell (p := ⟨b, 66 + j, none⟩) hlt).trans (hkr j v hj)
    have HO := Lib.hid ho
    have HLB := Lib.hid hlt
    unfold nptr at *
    clear ho hzl hxl hZ hX h hb1 hb2 hB4 hB5 hn hkr hk h2 hf
    go_enter Tryd.func42, Tryd.ntmps42
    go_wp2_with fail
    refine HE.out.mono ?_
    rintro e w' ⟨rfl, rfl⟩
    go_wp2_with (first
      | (with_reducible refine wpList_load_mid rfl 93 (.tmp 8) rfl b 66 rfl X _ HKR.out Tryd.underlying93 rfl hi.out ?_)
      | ((with_reducible refine wpList_store_blk rfl 93 (.tmp 5) (.tmp 9) rfl (w.heap.size + 1) X Z 93 HB5.out rfl rfl hi.out hlen.out HO.out ?_); intro w4 hR4 hW4; have HR4 := Lib.hid hR4; have HZ4 : Hid (Blk w4 w.heap.size 93 Z) := (hW4.other _ (by omega)).trans HB4.out; have HW4 := Lib.hid (hW4.below _ _ HB2.out (Nat.le_succ _)); clear hR4 hW4)
      | (with_reducible refine wpList_load_blk rfl 93 (.tmp 5) rfl (w.heap.size + 1) X 93 HR4.out rfl _ Tryd.underlying93 rfl hi.out ?_)
      | (with_reducible refine wpList_store_blk rfl 93 (.tmp 4) (.tmp 24) rfl w.heap.size X Z 93 HZ4.out rfl rfl hi.out hlen.out HO.out ?_; intro w5 hR hW))
    exact bodyPost_ret (v := .agg X.toArray) (results_blk Tryd.results42 _ _ w.heap.size 93 X _ rfl hR Tryd.underlying93 rfl hi.out) rfl ⟨rfl, hW.below _ _ HW4.out (Nat.le_refl _)⟩
end Go.Proofs.YtpijnkfbgieabaaDoor.tri
