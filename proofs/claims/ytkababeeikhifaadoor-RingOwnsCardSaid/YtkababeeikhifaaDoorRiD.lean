/- Without of a ring, and of none. Condition: package variables (RT). -/
import Derived.Test.YtkababeeikhifaaDoorRiC
namespace Go.Proofs.YtkababeeikhifaaDoor.rng
open Go.RowKit
open Go.Proofs.YtkababeeikhifaaDoor.oct Go.Proofs.YtkababeeikhifaaDoor.ref Go.Proofs.YtkababeeikhifaaDoor.rows Go.Proofs.YtkababeeikhifaaDoor.rowg Go.Proofs.YtkababeeikhifaaDoor.trn
open Go.Proofs.YtkababeeikhifaaDoor.scp (tx senc senc_len InS ins_below ins_cell)
open Go.Sort (putRow Holds)

theorem without_nil (w : World) (name : T) : Calls Tryd.prog 22 #[.pointer none, tx name] w fun e w' => e = .returned (.tuple #[.pointer none, .int .i64 12]) ∧ w = w' := by
  unfold tx
  go_enter Tryd.func22, Tryd.ntmps22
  go_wp2_with fail
  go_ret2
  exact ⟨rfl, rfl⟩
/-- the names but this one -/
def but (ms : List T) (x : T) : List T := ms.filter fun y => !decide (y = x)
theorem but_eq {ms : List T} (hd : ms.Nodup) {x : T} (hx : x ∈ ms) : ms.take (ms.idxOf x) ++ ms.drop (ms.idxOf x + 1) = but ms x := by
  have h := List.idxOf_lt_length_of_mem hx
  have hg := List.getElem_idxOf h
  generalize ms.idxOf x = i at h hg
  have e : ms = ms.take i ++ x :: ms.drop (i + 1) := by
    have h2 := List.take_append_drop i ms
    rw [List.drop_eq_getElem_cons h, hg] at h2
    exact h2.symm
  have hn := hd
  rw [e, List.nodup_append, List.nodup_cons] at hn
  have h1 : (ms.take i).filter (fun y => !decide (y = x)) = ms.take i := List.filter_eq_self.2 fun y hy => by
    have : y ≠ x := hn.2.2 y hy x List.mem_cons_self
    simp [this]
  have h2 : (ms.drop (i + 1)).filter (fun y => !decide (y = x)) = ms.drop (i + 1) := List.filter_eq_self.2 fun y hy => by
    have : y ≠ x := fun e => hn.2.1.1 (e ▸ hy)
    simp [this]
  have h3 : but ms x = (ms.take i ++ x :: ms.drop (i + 1)).filter fun y => !decide (y = x) := by rw [← e]; rfl
  rw [h3, List.filter_append, List.filter_cons_of_neg (by simp), h1, h2]
theorem but_len {ms : List T} (hd : ms.Nodup) {x : T} (hx : x ∈ ms) : (but ms x).length + 1 = ms.length := by
  have h := List.idxOf_lt_length_of_mem hx
  rw [← but_eq hd hx, List.length_append, List.length_take, List.length_drop]
  omega
theorem holdsS {w : World} {B e n : Nat} {g C : Nat} {ms : List T} (hn : ms.length = n) (h : w.ownsRow B e 1 (.slice (some ⟨g, 0, none⟩) n C) n (cells senc ms)) : Holds tx w g 0 ms.toArray := by
  subst hn
  obtain ⟨_, hh⟩ := h
  rcases hh with ⟨hv, hz⟩ | ⟨g', cap, cur, hv, hB, hb, h1, h2, h3, h4⟩
  · cases hv
  · injection hv with e1 e2 e3
    injection e1 with e1
    injection e1 with e1
    subst e1
    intro j hj
    have hj' : j < ms.length := by simpa using hj
    refine ⟨?_, by simp [World.frozen?, hb]⟩
    have h5 := cells_at senc_len ms j hj' 0 (by decide)
    rw [Nat.mul_one, Nat.add_zero] at h5
    rw [← h4, List.getElem?_take_of_lt (by omega)] at h5
    simp only [World.cell?, hb, Nat.zero_add, Option.isSome_none, Bool.false_eq_true, if_false]
    rw [← Array.getElem?_toList, h5]
    rw [getElem!_pos ms.toArray j hj]
    rfl
theorem del_c {w : World} {B n g C i : Nat} {ms : List T} (hn : ms.length = n) (hi : i < n) (h : w.ownsRow B 9 1 (.slice (some ⟨g, 0, none⟩) n C) n (cells senc ms)) :
    Calls Tryd.prog 38 #[.slice (some ⟨g, 0, none⟩) n C, .int .i64 (i : Int), .int .i64 ((i + 1 : Nat) : Int)] w fun e w' => e = .returned (.slice (some ⟨g, 0, none⟩) (n - 1) C) ∧ InS w' (some ⟨g, 0, none⟩) (ms.take i ++ ms.drop (i + 1)) ∧ w.grownBy w' (some g) := by
  have hH := holdsS hn h
  have hC : n ≤ C ∧ C ≤ maxLen := by
    rcases h.2 with ⟨hv, hz⟩ | ⟨g', cap, cur, hv, hB, hb, h1, h2, h3, h4⟩
    · cases hv
    · injection hv with e1 e2 e3
      subst e3
      exact ⟨h1, h2⟩
  obtain ⟨j0, hj, hy0, hy1, hy2⟩ := info_parts infoStr
  have hcon := AnyE.slices_Delete YtkababeeikhifaaDoor.sh.laysDel tx (fun _ => rfl) [] Tryd.zeroValue9 j0 hj hy1 g 0 C i (i + 1) ms.toArray w hH (by simpa [hn] using hC.1) (by have := hC.2; unfold maxLen at this; omega) (by omega) (by rw [List.size_toArray, hn]; omega)
  rw [List.size_toArray, hn, show i + 1 - i = 1 by omega] at hcon
  refine hcon.mono ?_
  rintro e w' ⟨rfl, q, rfl⟩
  have hl1 : (ms.take i ++ ms.drop (i + 1)).length = n - 1 := by rw [List.length_append, List.length_take, List.length_drop]; omega
  refine ⟨rfl, fun _ => ⟨g, 0, rfl, fun k hk j hj => ?_⟩, ?_⟩
  · obtain rfl : j = 0 := by omega
    rw [hl1] at hk
    have h2 := Sort.cell?_putRow tx (Sort.ahead w q) g 0 ms.toArray (ms.toArray.toList.take i ++ ms.toArray.toList.drop (i + 1) ++ List.replicate 1 []).toArray (Sort.holds_ahead _ _ _ _ _ _ hH) (by simp; omega) k (by simp; omega)
    have e : (⟨g, 0 + k * 1 + 0, none⟩ : Addr) = ⟨g, 0 + k, none⟩ := by rw [Nat.mul_one, Nat.add_zero]
    rw [e, h2]
    have hk2 : k < (ms.take i ++ ms.drop (i + 1)).length := by omega
    rw [getElem!_pos _ k (by simp; omega)]
    simp only [List.getElem_toArray]
    rw [List.getElem_append_left (by simp; omega)]
    rfl
  · have hg : g < w.heap.size := by
      have := (h.lt g rfl).2
      exact this
    refine ⟨rfl, rfl, rfl, by simp [putRow, Sort.mapBlock, Sort.ahead], fun k hk hne => ?_⟩
    have : g ≠ k := fun e => hne (by rw [e])
    simp [putRow, Sort.mapBlock, Sort.ahead, Array.getElem?_modify, this]
theorem idxZ_T {ms : List T} {x : T} (hx : x ∈ ms) : idxZ ms x = ((ms.idxOf x : Nat) : Int) := by
  have h := List.idxOf_lt_length_of_mem hx
  refine idx_at h (fun h2 => ?_) (List.getElem_idxOf h).symm
  have h3 := List.idxOf_lt_length_of_mem h2
  rw [List.length_take] at h3
  have e := List.take_append_drop (ms.idxOf x) ms
  have h4 : ms.idxOf x = (ms.take (ms.idxOf x) ++ ms.drop (ms.idxOf x)).idxOf x := by rw [e]
  rw [List.idxOf_append, if_pos h2] at h4
  omega
set_option maxRecDepth 100000 in
set_option maxHeartbeats 4000000 in
theorem without_no {w : World} {F : Nat → Prop} {g np : Nat} {ms : List T} (h : Rg w F g np ms) (name : T) (hx : name ∉ ms) :
    Calls Tryd.prog 22 #[.pointer (some ⟨g, 0, none⟩), tx name] w fun e w' => e = .returned (.tuple #[.pointer none, .int .i64 7]) ∧ w = w' := by
  have h8 := h.good.1.hi
  have h1 := h.good.1.lo
  obtain ⟨vn, vp, hR⟩ := h
  obtain ⟨b, c, rfl, hc, hin⟩ := own_in senc_len (by decide) rfl h1 hR.nrow
  have HI := Lib.hid (sidx_c (some ⟨b, 0, none⟩) c ms.length ms name w hin rfl (by omega))
  rw [idx_no hx] at HI
  have c1 : w.cell? ⟨g, 1, none⟩ = some (.slice (some ⟨b, 0, none⟩) ms.length c) := hR.blk.cell 1
  obtain ⟨L, hL⟩ : ∃ L, ms.length = L := ⟨_, rfl⟩
  rw [hL] at HI c1
  unfold tx at *
  clear hR hin hL hx h8 h1 hc
  go_enter Tryd.func22, Tryd.ntmps22
  go_wp2_with fail
  refine HI.out.mono ?_
  rintro e w1 ⟨rfl, rfl⟩
  go_wp2_with fail
  go_ret2
  exact ⟨rfl, rfl⟩
set_option maxRecDepth 100000 in
set_option maxHeartbeats 16000000 in
theorem without_yes {w : World} {F : Nat → Prop} {g np : Nat} {ms : List T} (h : Rg w F g np ms) (hT : RT w) (name : T) (hx : name ∈ ms) :
    Calls Tryd.prog 22 #[.pointer (some ⟨g, 0, none⟩), tx name] w (NewR w (np : Int) (but ms name)) := by
  have h8 := h.good.1.hi
  have h1 := h.good.1.lo
  have hd := h.good.1.nd
  have hil := List.idxOf_lt_length_of_mem hx
  have HNM : Hid (∀ W, Below w.heap.size w W → Calls Tryd.prog 13 #[.pointer (some ⟨g, 0, none⟩)] W fun e w' => ∃ g2 C, e = .returned (.slice (some ⟨g2, 0, none⟩) ms.length C) ∧ w.heap.size ≤ g2 ∧ w'.ownsRow w.heap.size 9 1 (.slice (some ⟨g2, 0, none⟩) ms.length C) ms.length (cells senc ms) ∧ ms.length ≤ C ∧ Below W.heap.size W w') := Lib.hid fun W hW => (names_c (h.below hW)).mono fun _ _ ⟨v, e1, e2, e3⟩ => by
    have e4 := cln.own_base e2 hW.size
    obtain ⟨b, c, rfl, hc, _⟩ := own_in senc_len (by decide) rfl h1 e4
    exact ⟨b, c, e1, (e4.lt b rfl).1, e4, hc, e3⟩
  have HDL : Hid (∀ (W : World) (g2 C : Nat), W.ownsRow w.heap.size 9 1 (.slice (some ⟨g2, 0, none⟩) ms.length C) ms.length (cells senc ms) → Calls Tryd.prog 38 #[.slice (some ⟨g2, 0, none⟩) ms.length C, .int .i64 ((ms.idxOf name : Nat) : Int), .int .i64 ((ms.idxOf name : Nat) + 1 : Int)] W fun e w' => e = .returned (.slice (some ⟨g2, 0, none⟩) (ms.length - 1) C) ∧ InS w' (some ⟨g2, 0, none⟩) (but ms name) ∧ W.grownBy w' (some g2)) := Lib.hid fun W g2 C hw => by
    have hh := del_c rfl hil hw
    rw [but_eq hd hx] at hh
    exact hh
  have hbl := but_len hd hx
  have HNEW : Hid (∀ W g2 C, InS W (some ⟨g2, 0, none⟩) (but ms name) → ms.length ≤ C → Below w.heap.size w W → Calls Tryd.prog 9 #[.int .i64 (np : Int), .slice (some ⟨g2, 0, none⟩) (ms.length - 1) C] W (NewR w (np : Int) (but ms name))) := Lib.hid fun W g2 C h1 h2 h3 => (new_c (np : Int) (some ⟨g2, 0, none⟩) C (ms.length - 1) (but ms name) W h1 (by omega) (by omega) (by omega) (hT.below h3)).mono fun _ _ hh => hh.back h3
  obtain ⟨vn, vp, hR⟩ := h
  obtain ⟨b, c, rfl, hc, hin⟩ := own_in senc_len (by decide) rfl h1 hR.nrow
  have HI := Lib.hid (sidx_c (some ⟨b, 0, none⟩) c ms.length ms name w hin rfl (by omega))
  have c1 : w.cell? ⟨g, 1, none⟩ = some (.slice (some ⟨b, 0, none⟩) ms.length c) := hR.blk.cell 1
  have c0 : w.cell? ⟨g, 0, none⟩ = some (.int .i64 (np : Int)) := hR.blk.cell 0
  have hgl := hR.blk.lt
  have HCX : Hid (∀ W, Below w.heap.size w W → W.cell? ⟨g, 0, none⟩ = some (.int .i64 (np : Int))) := Lib.hid fun W hW => (hW.cell (p := ⟨g, 0, none⟩) hgl).trans c0
  have hiz := idxZ_T hx
  rw [hiz] at HI
  obtain ⟨L, hL⟩ : ∃ L, ms.length = L := ⟨_, rfl⟩
  obtain ⟨i, hi⟩ : ∃ i, ms.idxOf name = i := ⟨_, rfl⟩
  obtain ⟨bs, hbs⟩ : ∃ bs, but ms name = bs := ⟨_, rfl⟩
  rw [hL] at HNM HDL HNEW HI c1 h8 h1 hil
  rw [hi] at HDL HI hil
  rw [hbs] at HDL HNEW ⊢
  have HB0 : Hid (Below w.heap.size w w) := Lib.hid (Below.refl _ _)
  have i1 : decide ((i : Int) < 0) = false := decide_eq_false (by omega)
  have i2 : IntKind.i64.wrap ((i : Int) + 1) = (i : Int) + 1 := by rw [IntKind.wrap_i64]; omega
  unfold tx at *
  clear hR hin hL hx hc hd hbl hiz hi hbs hT
  go_enter Tryd.func22, Tryd.ntmps22
  go_wp2_with fail
  refine HI.out.mono ?_
  rintro e w1 ⟨rfl, rfl⟩
  go_wp2_with fail
  go_region_law (first
    | (go_simp; go_at_call 13; (with_reducible refine (HNM.out _ HB0.out.drew).mono ?_); rintro e wN ⟨g2, C, rfl, hg2, hn, hc2, hb⟩; have HNR := Lib.hid hn; have HC2 := Lib.hid hc2; have HG2 := Lib.hid hg2; have HBN := Lib.hid (HB0.out.drew.trans (hb.mono HB0.out.size)); have cN := HCX.out wN HBN.out; clear hn hb hc2 hg2)
    | (go_simp; go_at_call 38; (with_reducible refine (HDL.out _ _ _ HNR.out).mono ?_); rintro e wD ⟨rfl, hs, hgr⟩; have HBD := Lib.hid (HBN.out.grown hgr HBN.out.size (fun k hk => by cases hk; exact HG2.out)); have HSD := Lib.hid hs; have cD := HCX.out wD HBD.out; clear hs hgr)
    | (go_simp; go_at_call 9; (with_reducible refine (HNEW.out _ _ _ HSD.out HC2.out HBD.out).mono ?_); rintro e wZ hz; obtain ⟨pz, cz, rfl⟩ := newR_vals hz; have HZ := Lib.hid hz; clear hz))
  all_goals
    go_wp2_with fail
    go_ret2
    exact HZ.out
end Go.Proofs.YtkababeeikhifaaDoor.rng
