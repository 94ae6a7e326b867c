/- JsonMakes by JApi. -/
import Derived.Test.YtbgnoobgnpebdaaDoorJsnLb
namespace Go.Proofs.YtbgnoobgnpebdaaDoor.jsn
open Go.RowKit
open Go.Proofs.YtbgnoobgnpebdaaDoor.oct Go.Proofs.YtbgnoobgnpebdaaDoor.ref Go.Proofs.YtbgnoobgnpebdaaDoor.rows Go.Proofs.YtbgnoobgnpebdaaDoor.rowg
open Go.Lib (byteCells)

set_option maxRecDepth 8000 in
set_option maxHeartbeats 4000000 in
theorem law_makes {T : World → Prop} (X : JApi T) (nm t : List UInt8) (n : Int) (b : Bool) (P : Option Addr) (C : Nat) (ms : List Mem) (w : World) (hp : InM w P ms) (hl : ms.length ≤ 2513169434916) (hC : ms.length ≤ C) (hN : P = none → C = 0) (hf : FitM ms) (hnm : nm.length ≤ 140737488351232) (htl : t.length ≤ 140737488351232) (ht : T w) :
    Calls Tryd.prog 8 #[.string ⟨nm.toArray⟩, .string ⟨t.toArray⟩, .int .i64 n, .bool b, .slice P ms.length C] w fun e w' => e = .returned (.bool true) ∧ Below w.heap.size w w' := by
  have HT := Lib.hid ht
  have HX := Lib.hid X
  have HP := Lib.hid hp
  have HK1 := Lib.hid (X.text nm t w ht hnm htl)
  have HK2 : Hid (∀ w, T w → Calls Tryd.prog 17 #[tx nm, .int .i64 n] w fun e w' => e = .returned (mv ⟨nm, 1, [], n, false⟩) ∧ Below w.heap.size w w') := fun w h => X.int nm n w h hnm
  have HK3 : Hid (∀ w, T w → Calls Tryd.prog 18 #[tx nm, .bool b] w fun e w' => e = .returned (mv ⟨nm, 2, [], 0, b⟩) ∧ Below w.heap.size w w') := fun w h => X.bool nm b w h hnm
  have HG : Hid (∀ w, T w → InM w P ms → Calls Tryd.prog 19 #[.slice P ms.length C, tx nm] w fun e w' => e = .returned (getV (findM ms nm)) ∧ Below w.heap.size w w') := fun w h hp => X.get P C ms nm w h hp hl hC hN hf
  have HR : Hid (∀ w, InM w P ms → Calls Tryd.prog 20 #[.slice P ms.length C, tx nm] w fun e w' => e = .returned (getV (findM ms nm)) ∧ Below w.heap.size w w') := fun w hp => rget_c P C ms nm w hp (by omega)
  obtain ⟨N, hn⟩ : ∃ N, ms.length = N := ⟨_, rfl⟩
  rw [hn] at HG HR ⊢
  obtain ⟨z, hz⟩ : ∃ z, findM ms nm = z := ⟨_, rfl⟩
  rw [hz] at HG HR
  unfold tx mv tx at HK1 HK2 HK3
  unfold tx at HG HR
  obtain ⟨A, hA⟩ : ∃ A : ByteArray, ⟨nm.toArray⟩ = A := ⟨_, rfl⟩
  obtain ⟨B, hB⟩ : ∃ B : ByteArray, ⟨t.toArray⟩ = B := ⟨_, rfl⟩
  dsimp only at HK1 HK2 HK3
  rw [hA] at HK1 HK2 HK3 HG HR ⊢
  rw [hB] at HK1 ⊢
  clear hn hz ht X hp hl hC hN hf hA hB
  go_enter Tryd.func8, Tryd.ntmps8
  go_wp2_with fail
  refine HK1.out.mono ?_
  rintro e w1 ⟨rfl, hb1⟩
  have HB1 := Lib.hid hb1
  have HP1 := Lib.hid (inm_below HP.out hb1)
  clear hb1 HK1 HP
  go_wp2_with fail
  refine (HK2.out w1 (HX.out.tbelow _ _ HT.out HB1.out)).mono ?_
  rintro e w2 ⟨rfl, hb2⟩
  have HB2 := Lib.hid (bnext HB1.out hb2)
  have HP2 := Lib.hid (inm_below HP1.out hb2)
  clear hb2 HK2 HP1 HB1
  go_wp2_with fail
  refine (HK3.out w2 (HX.out.tbelow _ _ HT.out HB2.out)).mono ?_
  rintro e w3 ⟨rfl, hb3⟩
  have HB3 := Lib.hid (bnext HB2.out hb3)
  have HP3 := Lib.hid (inm_below HP2.out hb3)
  clear hb3 HK3 HP2 HB2
  go_wp2_with fail
  have e1 : Blk (w3.alloc (.cells ([.string A, .int .i64 0, .string B, .int .i64 0, .bool false] : List Value).toArray 38)) w3.heap.size 38 [.string A, .int .i64 0, .string B, .int .i64 0, .bool false] := blk_new w3 _ _ _ rfl
  have e2 : Blk ((w3.alloc (.cells ([.string A, .int .i64 0, .string B, .int .i64 0, .bool false] : List Value).toArray 38)).alloc (.cells ([.string A, .int .i64 1, .string ⟨#[]⟩, .int .i64 n, .bool false] : List Value).toArray 38)) (w3.heap.size + 1) 38 [.string A, .int .i64 1, .string ⟨#[]⟩, .int .i64 n, .bool false] := by
    have h := blk_new (w3.alloc (.cells ([.string A, .int .i64 0, .string B, .int .i64 0, .bool false] : List Value).toArray 38)) ([.string A, .int .i64 1, .string ⟨#[]⟩, .int .i64 n, .bool false] : List Value).toArray 38 [.string A, .int .i64 1, .string ⟨#[]⟩, .int .i64 n, .bool false] rfl
    simpa using h
  have e3 : Blk (((w3.alloc (.cells ([.string A, .int .i64 0, .string B, .int .i64 0, .bool false] : List Value).toArray 38)).alloc (.cells ([.string A, .int .i64 1, .string ⟨#[]⟩, .int .i64 n, .bool false] : List Value).toArray 38)).alloc (.cells ([.string A, .int .i64 2, .string ⟨#[]⟩, .int .i64 0, .bool b] : List Value).toArray 38)) (w3.heap.size + 1 + 1) 38 [.string A, .int .i64 2, .string ⟨#[]⟩, .int .i64 0, .bool b] := by
    have h := blk_new ((w3.alloc (.cells ([.string A, .int .i64 0, .string B, .int .i64 0, .bool false] : List Value).toArray 38)).alloc (.cells ([.string A, .int .i64 1, .string ⟨#[]⟩, .int .i64 n, .bool false] : List Value).toArray 38)) ([.string A, .int .i64 2, .string ⟨#[]⟩, .int .i64 0, .bool b] : List Value).toArray 38 [.string A, .int .i64 2, .string ⟨#[]⟩, .int .i64 0, .bool b] rfl
    simpa using h
  have a1 := (Below.refl w3.heap.size w3).alloc (Nat.le_refl _) (.cells ([.string A, .int .i64 0, .string B, .int .i64 0, .bool false] : List Value).toArray 38)
  have a2 := a1.alloc a1.size (.cells ([.string A, .int .i64 1, .string ⟨#[]⟩, .int .i64 n, .bool false] : List Value).toArray 38)
  have a3 := a2.alloc a2.size (.cells ([.string A, .int .i64 2, .string ⟨#[]⟩, .int .i64 0, .bool b] : List Value).toArray 38)
  have f12 := (Below.refl (w3.alloc (.cells ([.string A, .int .i64 0, .string B, .int .i64 0, .bool false] : List Value).toArray 38)).heap.size (w3.alloc (.cells ([.string A, .int .i64 0, .string B, .int .i64 0, .bool false] : List Value).toArray 38))).alloc (Nat.le_refl _) (.cells ([.string A, .int .i64 1, .string ⟨#[]⟩, .int .i64 n, .bool false] : List Value).toArray 38)
  have f13 := f12.alloc f12.size (.cells ([.string A, .int .i64 2, .string ⟨#[]⟩, .int .i64 0, .bool b] : List Value).toArray 38)
  have f23 := (Below.refl ((w3.alloc (.cells ([.string A, .int .i64 0, .string B, .int .i64 0, .bool false] : List Value).toArray 38)).alloc (.cells ([.string A, .int .i64 1, .string ⟨#[]⟩, .int .i64 n, .bool false] : List Value).toArray 38)).heap.size ((w3.alloc (.cells ([.string A, .int .i64 0, .string B, .int .i64 0, .bool false] : List Value).toArray 38)).alloc (.cells ([.string A, .int .i64 1, .string ⟨#[]⟩, .int .i64 n, .bool false] : List Value).toArray 38))).alloc (Nat.le_refl _) (.cells ([.string A, .int .i64 2, .string ⟨#[]⟩, .int .i64 0, .bool b] : List Value).toArray 38)
  have g1 := e1.below f13
  have g2 := e2.below f23
  have HB4 := Lib.hid (bnext HB3.out a3)
  have HP4 := Lib.hid (inm_below HP3.out a3)
  have G1 := Lib.hid g1
  have G2 := Lib.hid g2
  have G3 := Lib.hid e3
  clear e1 e2 e3 a1 a2 a3 f12 f13 f23 g1 g2 HP3 HB3
  refine (jknown_c HX.out _ (HX.out.tbelow _ _ HT.out HB4.out)).mono ?_
  rintro e w4 ⟨rfl, hb4⟩
  have HB5 := Lib.hid (bnext HB4.out hb4)
  have HP5 := Lib.hid (inm_below HP4.out hb4)
  have k1 := G1.out.below hb4
  have k2 := G2.out.below hb4
  have k3 := G3.out.below hb4
  obtain ⟨a, ha⟩ : ∃ a, w3.heap.size = a := ⟨_, rfl⟩
  rw [ha] at k1 k2 k3 ⊢
  have c10 := k1.cell 0
  have c11 := k1.cell 1
  have c12 := k1.cell 2
  have c13 := k1.cell 3
  have c14 := k1.cell 4
  have c20 := k2.cell 0
  have c21 := k2.cell 1
  have c22 := k2.cell 2
  have c23 := k2.cell 3
  have c24 := k2.cell 4
  have c30 := k3.cell 0
  have c31 := k3.cell 1
  have c32 := k3.cell 2
  have c33 := k3.cell 3
  have c34 := k3.cell 4
  dsimp only [List.getElem?_cons_zero, List.getElem?_cons_succ] at c10 c11 c12 c13 c14 c20 c21 c22 c23 c24 c30 c31 c32 c33 c34
  clear G1 G2 G3 HB4 HP4 hb4 k1 k2 k3 ha
  go_wp2_with fail
  clear c10 c11 c12 c13 c14 c20 c21 c22 c23 c24 c30 c31 c32 c33 c34
  refine (HG.out w4 (HX.out.tbelow _ _ HT.out HB5.out) HP5.out).mono ?_
  rintro e w5 ⟨rfl, hb5⟩
  have HB6 := Lib.hid (bnext HB5.out hb5)
  have HP6 := Lib.hid (inm_below HP5.out hb5)
  clear hb5 HG HB5 HP5
  obtain ⟨m0, ok, hv⟩ : ∃ m0 ok, getV z = .tuple #[mv m0, .bool ok] := by
    unfold getV
    split
    · exact ⟨_, _, rfl⟩
    · exact ⟨_, _, rfl⟩
  rw [hv] at HR ⊢
  clear hv
  obtain ⟨m1, a1, m2, a3, a4⟩ := m0
  unfold mv tx at HR ⊢
  dsimp only at HR ⊢
  obtain ⟨a0, h0⟩ : ∃ S : ByteArray, ⟨m1.toArray⟩ = S := ⟨_, rfl⟩
  obtain ⟨a2, h2⟩ : ∃ S : ByteArray, ⟨m2.toArray⟩ = S := ⟨_, rfl⟩
  rw [h0, h2] at HR ⊢
  clear h0 h2
  go_wp2_with fail
  have e1 : Blk (w5.alloc (.cells ([.string a0, .int .i64 a1, .string a2, .int .i64 a3, .bool a4] : List Value).toArray 38)) w5.heap.size 38 [.string a0, .int .i64 a1, .string a2, .int .i64 a3, .bool a4] := blk_new w5 _ _ _ rfl
  have b1 := (Below.refl w5.heap.size w5).alloc (Nat.le_refl _) (.cells ([.string a0, .int .i64 a1, .string a2, .int .i64 a3, .bool a4] : List Value).toArray 38)
  refine (HR.out _ (inm_below HP6.out b1)).mono ?_
  rintro e w6 ⟨rfl, hb6⟩
  have b2 := (Below.refl w6.heap.size w6).alloc (Nat.le_refl _) (.cells ([.string a0, .int .i64 a1, .string a2, .int .i64 a3, .bool a4] : List Value).toArray 38)
  have HB7 := Lib.hid (bnext (bnext (bnext HB6.out b1) hb6) b2)
  have k1 := (e1.below hb6).below b2
  have k2 : Blk (w6.alloc (.cells ([.string a0, .int .i64 a1, .string a2, .int .i64 a3, .bool a4] : List Value).toArray 38)) w6.heap.size 38 [.string a0, .int .i64 a1, .string a2, .int .i64 a3, .bool a4] := blk_new w6 _ _ _ rfl
  obtain ⟨a, ha⟩ : ∃ a, w5.heap.size = a := ⟨_, rfl⟩
  rw [ha] at k1 ⊢
  have c0 := k1.cell 0
  have c1 := k1.cell 1
  have c2 := k1.cell 2
  have c3 := k1.cell 3
  have c4 := k1.cell 4
  have d0 := k2.cell 0
  have d1 := k2.cell 1
  have d2 := k2.cell 2
  have d3 := k2.cell 3
  have d4 := k2.cell 4
  dsimp only [List.getElem?_cons_zero, List.getElem?_cons_succ] at c0 c1 c2 c3 c4 d0 d1 d2 d3 d4
  clear e1 b1 b2 hb6 k1 k2 ha HR HP6 HB6
  go_wp2_with fail
  go_ret
  exact ⟨rfl, HB7.out⟩
end Go.Proofs.YtbgnoobgnpebdaaDoor.jsn
