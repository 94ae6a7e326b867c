/- What the laws of sha ask of the program's calls (Api): each answers the plain digest; T: what of the package's variables they need; Has: a hash at a block was told these bytes. And the fixed question, by it. -/
import Derived.Test.YtohmhcglmaifpaaDoorSha7
import Derived.Test.YtohmhcglmaifpaaDoorSha8
import Derived.Test.YtohmhcglmaifpaaDoorSha9
import Derived.Test.YtohmhcglmaifpaaDoorSha10
import Derived.Lib.SlBytesConst
import Derived.Stop.BytesEq
namespace Go.Proofs.YtohmhcglmaifpaaDoor.sha
open Go.RowKit
open Go.Proofs.YtohmhcglmaifpaaDoor.oct Go.Proofs.YtohmhcglmaifpaaDoor.ref Go.Proofs.YtohmhcglmaifpaaDoor.rows
open Go.Lib (byteCells)

/-- the value of a digest -/
def dval (l : List UInt8) : Value := .agg (byteCells l).toArray
structure Api (T : World → Prop) (Has : World → Nat → List UInt8 → Prop) : Prop where
  tbelow : ∀ w w', T w → Below w.heap.size w w' → T w'
  keep : ∀ w w' g L, Has w g L → w'.heap[g]? = w.heap[g]? → Has w' g L
  lt : ∀ w g L, Has w g L → g < w.heap.size
  sum : ∀ p cp l w, T w → In8 w p l → l.length ≤ 140737488354500 → Rm p cp l.length → Calls Tryd.prog 13 #[.slice p l.length cp] w fun e w' => e = .returned (dval (digest l)) ∧ Below w.heap.size w w'
  mac : ∀ p cp k P C ps w, T w → In8 w p k → k.length ≤ 140737488354000 → Rm p cp k.length → InP w P ps → ps.length ≤ 200 → (joined ps).length ≤ 140737488354000 → Calls Tryd.prog 15 #[.slice p k.length cp, .slice P ps.length C] w fun e w' => e = .returned (dval (mac k (joined ps))) ∧ Below w.heap.size w w'
  all : ∀ P C ps w, T w → InP w P ps → ps.length ≤ 200 → (joined ps).length ≤ 140737488354000 → Calls Tryd.prog 22 #[.slice P ps.length C] w fun e w' => e = .returned (dval (digest (joined ps))) ∧ Below w.heap.size w w'

theorem InP.one {w : World} {p : Option Addr} {cp : Nat} {l : List UInt8} (h : In8 w p l) (hn : Rm p cp l.length) : InP (w.alloc (.cells #[.slice p l.length cp] 22)) (some ⟨w.heap.size, 0, none⟩) [⟨p, cp, l⟩] := by
  refine ⟨fun _ => ⟨w.heap.size, 0, rfl, fun i hi => ?_⟩, ?_⟩
  · obtain rfl : i = 0 := by simp at hi; omega
    rw [World.cell?_alloc_at _ _ _ _ rfl]; rfl
  · intro x hx
    simp only [List.mem_cons, List.not_mem_nil, or_false] at hx
    subst hx
    exact ⟨h.below ((Below.refl _ _).alloc (Nat.le_refl _) _), hn⟩
theorem joined_one (p : Option Addr) (cp : Nat) (l : List UInt8) : joined [⟨p, cp, l⟩] = l := by simp [joined]
theorem digest_eq (a b : List UInt8) (w : World) (ha : a.length = 32) (hb : b.length = 32) : (binOp .eql 26 (dval a) (dval b)).run Tryd.prog w = .ok (.bool (a == b)) w :=
  run_eql_bytes w 26 5 32 Tryd.underlying26 Tryd.underlying5 (fun w => by obtain ⟨j0, hj, _, hs, _⟩ := info_parts infoByte; simp [sizeOf, typeInfo, hj, hs]) a b ha hb

theorem in8_mark (w : World) (cs : Array Value) (fr : Nat × Nat) (l : List UInt8) (h : cs = (byteCells l).toArray) : In8 (w.alloc (.cells cs 5 fr)) (some ⟨w.heap.size, 0, none⟩) l := by
  intro _
  refine ⟨w.heap.size, 0, rfl, fun i hi => ?_⟩
  rw [Nat.zero_add, World.cell?_alloc_mark w cs 5 fr i, h]
  simp [byteCells, List.getD, List.getElem?_eq_getElem hi]
theorem infoDS : (Tryd.prog.info? 26).map (·.size) = some 32 := by kernel_rfl

set_option maxHeartbeats 1000000 in
theorem known_c {T : World → Prop} {Has : World → Nat → List UInt8 → Prop} (X : Api T Has) (w : World) (ht : T w) : Calls Tryd.prog 11 #[] w fun e w' => e = .returned (.bool true) ∧ Below w.heap.size w w' := by
  have HT := Lib.hid ht
  have HX := Lib.hid X
  have kc := fun (w : World) (C : Array Value) n c => Lib.run_convert_bytes_const (P := Tryd.prog) w 22 5 C n c Tryd.underlying22 Tryd.underlying5
  have hdl := digest_len [97, 98, 99]
  have hd1 := bytes_one (digest [97, 98, 99])
  have hdi : Hid ((Tryd.prog.info? 26).map (·.size) = some (byteCells (digest [97, 98, 99])).length) := by show _ = _; rw [byteCells_len, hdl]; exact infoDS
  have HDL2 : Hid (32 = (byteCells (digest [97, 98, 99])).length) := by show _ = _; rw [byteCells_len, hdl]
  have HD := Lib.hid abc_digest
  obtain ⟨D, hD⟩ : ∃ D, digest [97, 98, 99] = D := ⟨_, rfl⟩
  rw [hD] at hd1 hdi HDL2 HD
  have HDe := Lib.hid hD
  clear ht X hdl hD
  go_enter Tryd.func11, Tryd.ntmps11
  go_wp2_with fail
  have b1 : Below w.heap.size w (w.alloc (.cells #[.int .u8 97, .int .u8 98, .int .u8 99] 5 (3, 4))) := (Below.refl _ _).alloc (Nat.le_refl _) _
  refine (HX.out.sum (some ⟨w.heap.size, 0, none⟩) 3 [97, 98, 99] _ (HX.out.tbelow _ _ HT.out b1) (in8_mark w _ (3, 4) [97, 98, 99] rfl) (by decide) ⟨(fun h => by cases h), (by decide)⟩).mono ?_
  rintro e w1 ⟨rfl, hb1⟩
  have hbw := Lib.hid (bnext b1 hb1)
  rw [HDe.out]
  unfold dval
  clear b1 hb1
  go_wp2_with ((with_reducible refine wpList_store_new rfl 26 (.tmp 1) (.tmp 4) rfl (byteCells D) 26 _ rfl rfl hdi.out (Eq.trans (by decide) HDL2.out) hd1 ?_); intro w2 hS hSb hz; clear hz; have c0 : w2.cell? ⟨w1.heap.size, 0, none⟩ = some (.int .u8 186) := (hS.cell 0).trans (by rw [HD.out]; rfl); have c1 : w2.cell? ⟨w1.heap.size, 1, none⟩ = some (.int .u8 120) := (hS.cell 1).trans (by rw [HD.out]; rfl); have c31 : w2.cell? ⟨w1.heap.size, 31, none⟩ = some (.int .u8 173) := (hS.cell 31).trans (by rw [HD.out]; rfl); have hb2 := Lib.hid (bnext hbw.out hSb); clear hS hSb)
  go_ret
  exact ⟨rfl, hb2.out⟩

set_option maxHeartbeats 1000000 in
theorem law_sums {T : World → Prop} {Has : World → Nat → List UInt8 → Prop} (X : Api T Has) (p : Option Addr) (cp : Nat) (l : List UInt8) (w : World) (hp : In8 w p l) (hl : l.length ≤ 140737488351232) (hn : Rm p cp l.length) (ht : T w) :
    Calls Tryd.prog 3 #[.slice p l.length cp] w fun e w' => e = .returned (.bool true) ∧ Below w.heap.size w w' := by
  have HP := Lib.hid hp
  have HT := Lib.hid ht
  have HX := Lib.hid X
  clear hp ht X
  go_enter Tryd.func3, Tryd.ntmps3
  go_wp2_with fail
  refine (known_c HX.out w HT.out).mono ?_
  rintro e w1 ⟨rfl, hb1⟩
  go_wp2_with fail
  refine (HX.out.sum p cp l w1 (HX.out.tbelow _ _ HT.out hb1) (HP.out.below hb1) (by omega) hn).mono ?_
  rintro e w2 ⟨rfl, hb2⟩
  have hbw := bnext hb1 hb2
  clear hb1 hb2
  go_wp2_with fail
  refine (rsum_c p cp l w2 (HP.out.below hbw) (by omega) hn.1).mono ?_
  rintro e w3 ⟨rfl, hb3⟩
  have hbw3 := bnext hbw hb3
  clear hbw hb3
  go_wp2_with fail
  refine (same_c (digest l) (digest l) w3 (digest_len l) (digest_len l)).mono ?_
  rintro e w4 ⟨rfl, hb4⟩
  rw [show decide (digest l = digest l) = true from by simp]
  go_wp2_with fail
  go_ret
  exact ⟨rfl, bnext hbw3 hb4⟩

set_option maxHeartbeats 1000000 in
theorem law_macs {T : World → Prop} {Has : World → Nat → List UInt8 → Prop} (X : Api T Has) (p : Option Addr) (cp : Nat) (k : List UInt8) (q : Option Addr) (cq : Nat) (l : List UInt8) (w : World)
    (hp : In8 w p k) (hk : k.length ≤ 140737488351232) (hpn : Rm p cp k.length) (hq : In8 w q l) (hl : l.length ≤ 140737488351232) (hqn : Rm q cq l.length) (ht : T w) :
    Calls Tryd.prog 4 #[.slice p k.length cp, .slice q l.length cq] w fun e w' => e = .returned (.bool true) ∧ Below w.heap.size w w' := by
  have HP := Lib.hid hp
  have HQ := Lib.hid hq
  have HT := Lib.hid ht
  have HX := Lib.hid X
  have HM : Hid (mac k (joined [⟨q, cq, l⟩]) = mac k l) := by show _ = _; rw [joined_one]
  clear hp hq ht X
  go_enter Tryd.func4, Tryd.ntmps4
  go_wp2_with fail
  refine (known_c HX.out w HT.out).mono ?_
  rintro e w1 ⟨rfl, hb1⟩
  have hq1 := InP.one (HQ.out.below hb1) hqn
  have hb1' := hb1.alloc hb1.size (.cells #[.slice q l.length cq] 22)
  have HPS := Lib.hid hq1
  have HB1 := Lib.hid hb1'
  clear hq1 hb1 hb1'
  go_wp2_with fail
  refine (HX.out.mac p cp k _ 1 [⟨q, cq, l⟩] _ (HX.out.tbelow _ _ HT.out HB1.out) (HP.out.below HB1.out) (by omega) hpn HPS.out (by simp) (by rw [joined_one]; omega)).mono ?_
  rintro e w2 ⟨rfl, hb2⟩
  rw [HM.out]
  have hbw := bnext HB1.out hb2
  clear hb2
  go_wp2_with fail
  refine (rmac_c p cp k q cq l w2 (HP.out.below hbw) (by omega) hpn.1 (HQ.out.below hbw) (by omega) hqn.1).mono ?_
  rintro e w3 ⟨rfl, hb3⟩
  have hbw3 := bnext hbw hb3
  clear hbw hb3
  go_wp2_with fail
  refine (same_c (mac k l) (mac k l) w3 (digest_len _) (digest_len _)).mono ?_
  rintro e w4 ⟨rfl, hb4⟩
  rw [show decide (mac k l = mac k l) = true from by simp]
  go_wp2_with fail
  go_ret
  exact ⟨rfl, bnext hbw3 hb4⟩
end Go.Proofs.YtohmhcglmaifpaaDoor.sha
