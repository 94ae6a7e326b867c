/- The developers' headOf, tagOf. Texts within the reach; St. -/
import Derived.Test.YtjadginnaogjoaaGreatDoorSe3
import Derived.Test.YtjadginnaogjoaaGreatDoorBaseA
namespace Go.Proofs.YtjadginnaogjoaaGreatDoor.sea
open Go.RowKit
open Go.Proofs.YtjadginnaogjoaaGreatDoor.oct Go.Proofs.YtjadginnaogjoaaGreatDoor.ref Go.Proofs.YtjadginnaogjoaaGreatDoor.rows
open Go.Proofs.YtjadginnaogjoaaGreatDoor.sha (digest digest_len mac dval Rm InP joined joined_one run_arr_to' Part)
open Go.Lib (byteCells)
open Go.Proofs.YtjadginnaogjoaaGreatDoor.jsn (intD)

theorem conv_row (l : T) (w : World) : ∃ W cp, (convert 9 22 (.string ⟨l.toArray⟩)).run Tryz.prog w = .ok (.slice (some ⟨w.heap.size, 0, none⟩) l.length cp) W ∧ In8 W (some ⟨w.heap.size, 0, none⟩) l ∧ l.length ≤ cp ∧ Below w.heap.size w W := by
  have h := Lib.run_convert_string_bytes (P := Tryz.prog) w 9 22 5 ⟨l.toArray⟩ Tryz.underlying9 Tryz.underlying22 Tryz.underlying5
  have hs : (⟨l.toArray⟩ : ByteArray).size = l.length := List.size_toArray
  refine ⟨_, _, by rw [h, hs], fun _ => ⟨w.heap.size, 0, rfl, fun i hi => ?_⟩, grownCap_ge _ _ _ _, Lib.bytesWorld_below w _ _⟩
  rw [Nat.zero_add]
  have hc := Lib.bytesWorld_cell w 5 ⟨l.toArray⟩ i (by rw [hs]; exact hi)
  rw [hc]
theorem itoa_c (n : Int) (h0 : 0 ≤ n) (h1 : n ≤ 1099511627776) (w : World) (ht : St w) : Calls Tryz.prog 39 #[.int .i64 n] w fun e w' => e = .returned (.string ⟨(intD n).toArray⟩) ∧ Below w.heap.size w w' := by
  have h := sh.itoa_c n (by omega) (by omega) w ht.tab
  rw [itoaD] at h
  exact h
theorem head_txt (c : UInt8) (f d : T) : (⟨#[c]⟩ : ByteArray) ++ ⟨#[46]⟩ ++ ⟨f.toArray⟩ ++ ⟨#[46]⟩ ++ ⟨d.toArray⟩ ++ ⟨#[46]⟩ = ⟨(c :: 46 :: (f ++ 46 :: (d ++ [46]))).toArray⟩ := by
  have e (c : UInt8) : (⟨#[c]⟩ : ByteArray) = ⟨([c] : T).toArray⟩ := rfl
  rw [e c, e 46, ba_append, ba_append, ba_append, ba_append, ba_append]
  simp
set_option maxRecDepth 100000 in
set_option maxHeartbeats 4000000 in
/-- at a letter -/
theorem headOf_k (t : Tk) (c : UInt8) (j : Nat) (b o cp : Nat) (w : World) (hr : Rt t) (hk : t.k = (j : Int) + 1) (hj : j < 3) (hv : w.cell? ⟨0, 0, none⟩ = some (.slice (some ⟨b, o, none⟩) 3 cp)) (hc : w.cell? ⟨b, o + j, none⟩ = some (.string ⟨#[c]⟩)) (ht : St w) :
    Calls Tryz.prog 23 #[tok t] w fun e w' => e = .returned (txt (c :: 46 :: (t.f ++ 46 :: (intD t.n ++ [46])))) ∧ Below w.heap.size w w' := by
  cases t with
  | mk k f n =>
    simp only at hk
    subst hk
    have HTX : Hid ((⟨#[c]⟩ : ByteArray) ++ ⟨#[46]⟩ ++ ⟨f.toArray⟩ ++ ⟨#[46]⟩ ++ ⟨(intD n).toArray⟩ ++ ⟨#[46]⟩ = ⟨(c :: 46 :: (f ++ 46 :: (intD n ++ [46]))).toArray⟩) := head_txt c f (intD n)
    have h0 : 0 ≤ n := hr.n0
    have h1 : n ≤ 1099511627776 := hr.n1
    simp only
    unfold tok txt
    simp only
    obtain ⟨S, hS⟩ : ∃ S, (⟨f.toArray⟩ : ByteArray) = S := ⟨_, rfl⟩
    obtain ⟨D, hD⟩ : ∃ D, (⟨(intD n).toArray⟩ : ByteArray) = D := ⟨_, rfl⟩
    obtain ⟨R, hR⟩ : ∃ R, (⟨(c :: 46 :: (f ++ 46 :: (intD n ++ [46]))).toArray⟩ : ByteArray) = R := ⟨_, rfl⟩
    obtain ⟨C1, hC1⟩ : ∃ C1, (⟨#[c]⟩ : ByteArray) = C1 := ⟨_, rfl⟩
    rw [hS, hD, hR, hC1] at HTX
    rw [hR, hS]
    obtain ⟨w1, hw1⟩ : ∃ w1, w.alloc (.cells #[.int .i64 ((j : Int) + 1), .string S, .int .i64 n] 24) = w1 := ⟨_, rfl⟩
    have hb1 : Below w.heap.size w w1 := by rw [← hw1]; exact (Below.refl _ _).alloc (Nat.le_refl _) _
    have hB1 : Blk w1 w.heap.size 24 [.int .i64 ((j : Int) + 1), .string S, .int .i64 n] := by rw [← hw1]; exact blk_new w _ _ _ rfl
    have e0 : ∀ y : After w1, y.v.cell? ⟨w.heap.size, 0, none⟩ = some (.int .i64 ((j : Int) + 1)) := fun y => (hB1.below y.below).cell 0
    have e1 : ∀ y : After w1, y.v.cell? ⟨w.heap.size, 1, none⟩ = some (.string S) := fun y => (hB1.below y.below).cell 1
    have e2 : ∀ y : After w1, y.v.cell? ⟨w.heap.size, 2, none⟩ = some (.int .i64 n) := fun y => (hB1.below y.below).cell 2
    have hv1 : w1.cell? ⟨0, 0, none⟩ = some (.slice (some ⟨b, o, none⟩) 3 cp) := (hb1.cell (cellB_lt hv)).trans hv
    have hc1 : w1.cell? ⟨b, o + j, none⟩ = some (.string C1) := by rw [← hC1]; exact (hb1.cell (cellB_lt hc)).trans hc
    have e3 : ∀ y : After w1, y.v.cell? ⟨0, 0, none⟩ = some (.slice (some ⟨b, o, none⟩) 3 cp) := fun y => (y.below.cell (cellB_lt hv1)).trans hv1
    have e4 : ∀ y : After w1, y.v.cell? ⟨b, o + j, none⟩ = some (.string C1) := fun y => (y.below.cell (cellB_lt hc1)).trans hc1
    have CI : Hid (∀ y : After w1, Calls Tryz.prog 39 #[.int .i64 n] y.v fun e w'' => e = .returned (.string D) ∧ ∃ z : After w1, w'' = z.v) := Lib.hid fun y => after_of y (by rw [← hD]; exact itoa_c n h0 h1 y.v ((ht.below hb1).below y.below))
    have ewr : IntKind.i64.wrap ((j : Int) + 1 - 1) = (j : Int) := by rw [IntKind.wrap_i64]; omega
    have ewr2 : (j : Int) + 1 - 1 = (j : Int) := by omega
    have i1 : (0 : Int) ≤ (j : Int) := by omega
    have i2 : (j : Int) < 3 := by omega
    have HB := Lib.hid hb1
    have z1 : C1.size = 1 := by rw [← hC1]; rfl
    have z2 : S.size ≤ 32 := by rw [← hS]; exact Nat.le_trans (Nat.le_of_eq List.size_toArray) hr.f32
    have z3 : D.size ≤ 13 := by rw [← hD]; exact Nat.le_trans (Nat.le_of_eq List.size_toArray) (dlen h0 h1).1
    have n1 : ¬ (9223372036854775807 < C1.size + 1) := by omega
    have n2 : ¬ (9223372036854775807 < C1.size + 1 + S.size) := by omega
    have n3 : ¬ (9223372036854775807 < C1.size + 1 + S.size + 1) := by omega
    have n4 : ¬ (9223372036854775807 < C1.size + 1 + S.size + 1 + D.size) := by omega
    have n5 : ¬ (9223372036854775807 < C1.size + 1 + S.size + 1 + D.size + 1) := by omega
    clear z1 z2 z3
    clear hS hD hR hC1 hv hc hv1 hc1 hB1 hb1 hr h0 h1 ht hj
    go_enter Tryz.func23, Tryz.ntmps23
    go_wp2_with fail
    try rw [hw1]
    clear hw1
    refine wp_region_after (by kernel_rfl) (by kernel_rfl) ?_
    repeat (go_big_quiet_step (first
      | (rename_i y; go_at_call 39; with_reducible exact CI.out y)))
    refine wpQuiet_nil ?_
    rintro ⟨wq, hq⟩
    dsimp only
    have HQ := Lib.hid (bnext HB.out hq)
    clear hq e0 e1 e2 e3 e4
    go_wp2_with fail
    go_ret
    exact ⟨by rw [← HTX.out]; rfl, HQ.out⟩
theorem headOf_c (t : Tk) (w : World) (hr : Rt t) (ht : St w) :
    Calls Tryz.prog 23 #[tok t] w fun e w' => e = .returned (txt (headT t)) ∧ Below w.heap.size w w' := by
  obtain ⟨b, o, cp, hl⟩ := ht.lt
  have h1 := hr.k1
  have h3 := hr.k3
  have hk : t.k = 1 ∨ t.k = 2 ∨ t.k = 3 := by omega
  unfold headT letC
  rcases hk with hk | hk | hk
  · rw [if_pos hk]
    exact headOf_k t 99 0 b o cp w hr (by rw [hk]; rfl) (by decide) hl.v hl.c0 ht
  · rw [if_neg (by omega), if_pos hk]
    exact headOf_k t 97 1 b o cp w hr (by rw [hk]; rfl) (by decide) hl.v hl.c1 ht
  · rw [if_neg (by omega), if_neg (by omega)]
    exact headOf_k t 114 2 b o cp w hr (by rw [hk]; rfl) (by decide) hl.v hl.c2 ht
/-- the tag of a head -/
def tagT (k h : T) : T := webT ((mac k h).take 12)
theorem mac_len (k h : T) : (mac k h).length = 32 := by unfold mac; exact digest_len _
theorem tag_len (k h : T) : (tagT k h).length = 16 := by
  unfold tagT
  rw [webT_len, List.length_take, mac_len]
  rfl
theorem in8_pre {w : World} {p : Option Addr} {l : List UInt8} (h : In8 w p l) (n : Nat) : In8 w p (l.take n) := by
  intro hl
  rw [List.length_take] at hl
  obtain ⟨b, o, hp, hc⟩ := h (by omega)
  refine ⟨b, o, hp, fun i hi => ?_⟩
  rw [List.length_take] at hi
  rw [hc i (by omega)]
  have e : (l.take n)[i]? = l[i]? := List.getElem?_take_of_lt (by omega)
  simp [e]
theorem infoDT : (Tryz.prog.info? 56).map (·.size) = some 32 := by kernel_rfl
theorem infoBT : (Tryz.prog.info? 5).map (·.size) = some 1 := by kernel_rfl
set_option maxRecDepth 100000 in
set_option maxHeartbeats 4000000 in
theorem tagOf_c (p : Option Addr) (cp : Nat) (k h : T) (w : World) (ht : St w) (hp : In8 w p k) (hk : k.length ≤ 140737488354000) (hn : Rm p cp k.length) (hl : h.length ≤ 140737488354000) :
    Calls Tryz.prog 12 #[.slice p k.length cp, txt h] w fun e w' => e = .returned (txt (tagT k h)) ∧ Below w.heap.size w w' := by
  obtain ⟨W, ch, hcv, h8, hcp, hbW⟩ := conv_row h w
  have hb1 : Below W.heap.size W (W.alloc (.cells #[.slice (some ⟨w.heap.size, 0, none⟩) h.length ch] 22)) := (Below.refl _ _).alloc (Nat.le_refl _) _
  have hbb := bnext hbW hb1
  have HM := Lib.hid (sha.mac_c p cp k (some ⟨W.heap.size, 0, none⟩) 1 [⟨some ⟨w.heap.size, 0, none⟩, ch, h⟩] (W.alloc (.cells #[.slice (some ⟨w.heap.size, 0, none⟩) h.length ch] 22)) (ht.dig.below hbb) (hp.below hbb) hk hn (InP.one h8 ⟨(fun h => by cases h), hcp⟩) (by simp) (by rw [joined_one]; exact hl))
  rw [joined_one] at HM
  simp only [List.length_singleton] at HM
  have hdl := mac_len k h
  have HTG : Hid (tagT k h = webT ((mac k h).take 12)) := rfl
  have HNL : Hid (32 = (byteCells (mac k h)).length) := by show _ = _; rw [byteCells_len, hdl]
  have HI : Hid ((Tryz.prog.info? 56).map (·.size) = some (byteCells (mac k h)).length) := by show _ = _; rw [byteCells_len, hdl]; exact infoDT
  have HO := Lib.hid (bytes_one (mac k h))
  have HTL : Hid (((mac k h).take 12).length = 12) := by show _ = _; rw [List.length_take, hdl]; rfl
  obtain ⟨D, hD⟩ : ∃ D, mac k h = D := ⟨_, rfl⟩
  obtain ⟨X, hX⟩ : ∃ X, tagT k h = X := ⟨_, rfl⟩
  rw [hD] at HM hdl HNL HI HO HTG HTL
  rw [hX] at HTG ⊢
  have HBB := Lib.hid hbb
  unfold txt
  unfold dval at HM
  obtain ⟨kl, hkl⟩ : ∃ kl, k.length = kl := ⟨_, rfl⟩
  obtain ⟨hl', hhl⟩ : ∃ hl', h.length = hl' := ⟨_, rfl⟩
  rw [hkl] at HM ⊢
  rw [hhl] at HM hcv HBB
  obtain ⟨S, hS⟩ : ∃ S, (⟨h.toArray⟩ : ByteArray) = S := ⟨_, rfl⟩
  rw [hS] at hcv ⊢
  have har := fun (w : World) (b : Nat) => run_arr_to' (P := Tryz.prog) w 56 5 32 b 0 12 12 rfl Tryz.underlying56 infoBT (by decide)
  clear h8 hcp hbW hb1 hbb ht hp hk hn hl hD hX hdl hkl hhl hS
  go_enter Tryz.func12, Tryz.ntmps12
  go_wp2_with fail
  refine HM.out.mono ?_
  rintro e w1 ⟨rfl, hb1⟩
  have HB1 := Lib.hid (bnext HBB.out hb1)
  clear hb1 HM hcv
  go_wp2_with ((with_reducible refine wpList_store_new rfl 56 (.tmp 5) (.tmp 10) rfl (byteCells D) 56 _ rfl rfl HI.out (Eq.trans (by decide) HNL.out) HO.out ?_); intro w2 hS hSb hz; clear hz; have H8 := Lib.hid (in8_all hS); have hb2 := Lib.hid (bnext HB1.out hSb); clear hS hSb)
  have HWB := Lib.hid (web_c (some ⟨w1.heap.size, 0, none⟩) 32 (D.take 12) w2 (in8_pre H8.out 12) (by rw [HTL.out]; decide))
  rw [HTL.out, ← HTG.out] at HWB
  refine HWB.out.mono ?_
  rintro e w3 ⟨rfl, hb3⟩
  go_wp2_with fail
  go_ret
  exact ⟨rfl, bnext hb2.out hb3⟩
end Go.Proofs.YtjadginnaogjoaaGreatDoor.sea
