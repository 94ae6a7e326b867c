/- The developers' Ids: maps.Keys of a roll's map with its iterator laid at this translation, slices.Sorted, cloned. No condition beyond what texts are. -/
import Derived.Test.YtfeafhagnhbmiaaGreatDoorRoS
import Derived.Test.YtfeafhagnhbmiaaGreatDoorGscq
namespace Go.Proofs.YtfeafhagnhbmiaaGreatDoor.sh
open Go.Shelf
def laysZr_ren : Go.Shelf.Ren := ⟨fun | 7 => 29 | 10 => 50 | n => n, fun | 0 => 0 | 3 => 49 | 4 => 4 | 23 => 68 | 26 => 9 | 27 => 65 | 28 => 66 | 33 => 74 | n => n, fun  | n => n⟩
theorem laysZr : Go.Proofs.SlLaysZ.n7 Tryz.prog laysZr_ren := {
  mixed := by kernel_rfl
  f7 := ⟨Tryz.f29.name, (by decide), Tryz.func29.trans (congrArg some (by kernel_rfl))⟩
  f10 := ⟨Tryz.f50.name, (by decide), Tryz.func50.trans (congrArg some (by kernel_rfl))⟩
  t0 := Tryz.underlying0
  a0 := Tryz.isAgg0
  z0 := Tryz.sizeOf0
  v0 := Tryz.zeroValue0
  t4 := Tryz.underlying4
  a4 := Tryz.isAgg4
  z4 := Tryz.sizeOf4
  v4 := Tryz.zeroValue4
  t23 := Tryz.underlying68
  a23 := Tryz.isAgg68
  z23 := Tryz.sizeOf68
  v23 := Tryz.zeroValue68
  t26 := Tryz.underlying9
  a26 := Tryz.isAgg9
  z26 := Tryz.sizeOf9
  v26 := Tryz.zeroValue9
  t27 := Tryz.underlying65
  a27 := Tryz.isAgg65
  z27 := Tryz.sizeOf65
  v27 := Tryz.zeroValue65
  t28 := Tryz.underlying66
  a28 := Tryz.isAgg66
  z28 := Tryz.sizeOf66
  v28 := Tryz.zeroValue66
  t33 := Tryz.underlying74
  a33 := Tryz.isAgg74
  z33 := Tryz.sizeOf74
  v33 := Tryz.zeroValue74 }
end Go.Proofs.YtfeafhagnhbmiaaGreatDoor.sh
namespace Go.Proofs.YtfeafhagnhbmiaaGreatDoor.rol
open Go.RowKit
open Go.Proofs.YtfeafhagnhbmiaaGreatDoor.oct Go.Proofs.YtfeafhagnhbmiaaGreatDoor.ref Go.Proofs.YtfeafhagnhbmiaaGreatDoor.rows Go.Proofs.YtfeafhagnhbmiaaGreatDoor.rowg Go.Proofs.YtfeafhagnhbmiaaGreatDoor.trn
open Go.Proofs.YtfeafhagnhbmiaaGreatDoor.scp (tx senc senc_len InS ins_below ins_cell lt hasB hasB_iff Lst lval lenc GoodL FitS skeyed enc_cells RowA own_good)
open Go Go.Maps Go.Sort Go.Proofs

/-- the Ids, rising -/
def idsP (ys : List Cm) : List T := (ys.map (·.id)).mergeSort Go.leB
theorem rol_keys {w : World} {m n : Nat} {D : DataW Value} {ys : List Cm} (hom : w.ownsMap Tryz.prog 9 vElem m n D) (hr : IsRol D ys) (hnd : (ys.map (·.id)).Nodup) :
    (∀ ss : List T, ss.Perm (Go.strKeys D) → ss.mergeSort Go.leB = idsP ys ∧ ss.length = ys.length) ∧ Maps.size D = ys.length := by
  obtain ⟨es, hD, hpw, _⟩ := hom.entries skeyed
  obtain ⟨es', hD', hko⟩ := hom.keysOf
  obtain rfl : es = es' := by rw [hD] at hD'; simpa using hD'
  subst hD
  have hp := Go.perm_strKeys hpw (fun p hp => by obtain ⟨v, hv⟩ := hko p hp; obtain ⟨x, _, hx, _⟩ := Go.Maps.keyOf_str Tryz.underlying9 hv; exact ⟨x, hx⟩) hnd (fun x => by
    rw [hr.has x, List.mem_map])
  refine ⟨fun ss hss => ?_, ?_⟩
  · have h1 := hss.trans hp.symm
    exact ⟨Go.mergeSort_of_perm h1, by rw [h1.length_eq, List.length_map]⟩
  · have h2 := hp.length_eq
    rw [List.length_map] at h2
    rw [h2]
    show es.length = (es.map fun p => Go.strOf p.1).length
    rw [List.length_map]
theorem rkeys_c (b : Nat) (W : World) : Calls Tryz.prog 29 #[.map (some b)] W fun e w' => e = .returned (.func (.func 50) #[] #[.pointer (some ⟨W.heap.size, 0, none⟩)]) ∧ w' = W.alloc (.cells #[.map (some b)] 68) :=
  (callsIn_wide (n := 6)).1 (AnyZ.keys_in sh.laysZr Fence.wide 6 trivial rfl (some b) W)
set_option maxHeartbeats 1000000 in
theorem rskeys_c (b n : Nat) (D : DataW Value) (ys : List Cm) (w : World) (hom : w.ownsMap Tryz.prog 9 vElem b n D) (hr : IsRol D ys) (hnd : (ys.map (·.id)).Nodup) (hL : ys.length ≤ 4194304) :
    Calls Tryz.prog 28 #[.func (.func 50) #[] #[.pointer (some ⟨w.heap.size, 0, none⟩)]] (w.alloc (.cells #[.map (some b)] 68)) fun e w' => RowA w w' (idsP ys) e := by
  obtain ⟨hk, hsz⟩ := rol_keys hom hr hnd
  have hbl := hom.lt
  have hseq : SeqGives Fence.wide 2 Tryz.prog 50 #[.pointer (some ⟨w.heap.size, 0, none⟩)] encStr (fun ss => ss.Perm (Go.strKeys D)) (Maps.size D) (w.alloc (.cells #[.map (some b)] 68)) :=
    AnyZ.keys_gives (ρ := sh.laysZr_ren) { sh.laysZr with } Fence.wide _ trivial rfl (by omega) w.heap.size b n D _ (by simp) (by simp) (by
      obtain ⟨es, clock, hb, Ft, hs, hD⟩ := hom
      exact ⟨es, clock, (Below.heap_alloc _ _ b hbl).trans hb, Ft, hs, hD⟩)
  have cS := AnyZ.sorted_in sh.laysZ6 Fence.wide 5 trivial trivial trivial trivial rfl (by omega) (sh.sortsIn _) (enters_of Tryz.func49 (by kernel_rfl) rfl) 50 #[.pointer (some ⟨w.heap.size, 0, none⟩)] trivial (enters_of Tryz.func50 (by kernel_rfl) rfl) _ _ (by rw [hsz]; unfold maxLen; omega) (by rw [hsz]; omega) _ hseq
  refine ((callsIn_wide (n := 5)).1 cS).mono ?_
  rintro e w' ⟨v, ss, rfl, hS, hrow, _, hb⟩
  obtain ⟨h1, h2⟩ := hk ss hS
  have hrow' : w'.ownsRow w.heap.size 9 1 v (idsP ys).length (cells senc (idsP ys)) := by
    rw [← enc_cells, ← h1, List.length_mergeSort]
    exact ownsRow_base_a hrow (by simp)
  exact ⟨v, rfl, hrow', ((Below.refl _ w).alloc (Nat.le_refl _) _).trans (hb.mono (by simp))⟩
theorem ids_mem {ys : List Cm} {x : T} : x ∈ idsP ys ↔ ∃ y ∈ ys, y.id = x := by
  unfold idsP
  rw [List.mem_mergeSort, List.mem_map]
theorem ids_len (ys : List Cm) : (idsP ys).length = ys.length := by
  unfold idsP
  rw [List.length_mergeSort, List.length_map]
set_option maxRecDepth 100000 in
set_option maxHeartbeats 1000000 in
theorem ids_c {w : World} {F : Nat → Prop} {g : Nat} {ys : List Cm} (h : RolM w F g ys) (hnd : (ys.map (·.id)).Nodup) (hl : ys.length ≤ 70) :
    Calls Tryz.prog 12 #[.pointer (some ⟨g, 0, none⟩)] w fun e w' => ∃ p c, e = .returned (.slice p ys.length c) ∧ GoodL w' (p, c, idsP ys) ∧ Below w.heap.size w w' := by
  obtain ⟨m, D, hr⟩ := h
  have c0 : w.cell? ⟨g, 0, none⟩ = some (.map (some m)) := hr.blk.cell 0
  have HKY := Lib.hid (rkeys_c m w)
  have HSK := Lib.hid (rskeys_c m ys.length D ys w hr.map hr.is hnd (by omega))
  have hfit : FitS (idsP ys) := fun x hx => by
    obtain ⟨y, hy, rfl⟩ := ids_mem.1 hx
    have := (hr.small y hy).id
    show y.id.length ≤ _
    have h2 : y.id.length ≤ 64 := this
    omega
  have hil := ids_len ys
  have HCL : Hid (∀ (W W' : World) (v : Value), W'.ownsRow W.heap.size 9 1 v (idsP ys).length (cells senc (idsP ys)) → Calls Tryz.prog 26 #[v] W' fun e w' => ∃ p c, e = .returned (.slice p ys.length c) ∧ GoodL w' (p, c, idsP ys) ∧ Below W'.heap.size W' w') := Lib.hid fun W W' v hv => by
    obtain ⟨p, c, rfl, h5⟩ := own_good hv hfit (by omega)
    refine (cloned_c (p, c, idsP ys) W' ⟨h5.row, h5.room, h5.nil, h5.fit, by have := h5.few; show (idsP ys).length ≤ _; omega⟩ (by show (idsP ys).length ≤ _; omega)).mono ?_
    rintro e w' ⟨p2, c2, q1, _, q3, q4⟩
    refine ⟨p2, c2, ?_, q3, q4⟩
    rw [q1]
    show Ending.returned (.slice p2 (idsP ys).length c2) = _
    rw [hil]
  clear hr hfit hil
  unfold RowA at HSK
  go_enter Tryz.func12, Tryz.ntmps12
  go_wp2_with (first
    | (go_at_call 29; refine HKY.out.mono ?_; rintro e w' ⟨rfl, rfl⟩)
    | (go_at_call 28; refine HSK.out.mono ?_; rintro e w1 ⟨v, rfl, hown, hb1⟩; have HB1 := Lib.hid hb1; have HC1 := Lib.hid (HCL.out _ _ _ hown); clear hown hb1)
    | (go_at_call 26; refine HC1.out.mono ?_; rintro e w2 ⟨p, c, rfl, hg, hb2⟩; have HG := Lib.hid hg; have HB2 := Lib.hid (bnext HB1.out hb2); clear hg hb2))
  go_ret
  exact ⟨p, c, rfl, HG.out, HB2.out⟩
end Go.Proofs.YtfeafhagnhbmiaaGreatDoor.rol
