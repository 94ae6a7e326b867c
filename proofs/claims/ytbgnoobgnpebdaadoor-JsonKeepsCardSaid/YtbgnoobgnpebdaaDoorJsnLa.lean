/- JsonPrints, JsonParses, JsonBack, JsonForth, JsonUnlike by JApi. -/
import Derived.Test.YtbgnoobgnpebdaaDoorJsnApi
namespace Go.Proofs.YtbgnoobgnpebdaaDoor.jsn
open Go.RowKit
open Go.Proofs.YtbgnoobgnpebdaaDoor.oct Go.Proofs.YtbgnoobgnpebdaaDoor.ref Go.Proofs.YtbgnoobgnpebdaaDoor.rows Go.Proofs.YtbgnoobgnpebdaaDoor.rowg
open Go.Lib (byteCells)

theorem fit_of {ms : List Mem} (h : FitM ms) : ∀ m ∈ ms, i64 m := fun m hm => (h m hm).2.2
/-- what an own row of members is -/
theorem own_ms {w : World} {B : Nat} {v : Value} {ms : List Mem} (h : w.ownsRow B 38 5 v ms.length (cells menc ms)) : ∃ p c, v = .slice p ms.length c ∧ ms.length ≤ c ∧ (p = none → c = 0) ∧ InM w p ms := own_g menc_len (by decide) h
/-- parsed members are few and small -/
theorem parse_few (l : List UInt8) : (parseJ l).2.length ≤ 64 := by
  by_cases h : (parseJ l).1 = 0
  · exact (printJ_ok (parse_ok h)).1
  · rw [parse_err h]; exact Nat.zero_le _

set_option maxRecDepth 8000 in
set_option maxHeartbeats 2000000 in
theorem law_prints {T : World → Prop} (X : JApi T) (P : Option Addr) (C : Nat) (ms : List Mem) (w : World) (hp : InM w P ms) (hl : ms.length ≤ 2513169434916) (hC : ms.length ≤ C) (hN : P = none → C = 0) (hf : FitM ms) (ht : T w) :
    Calls Tryd.prog 3 #[.slice P ms.length C] w fun e w' => e = .returned (.bool true) ∧ Below w.heap.size w w' := by
  have HT := Lib.hid ht
  have HX := Lib.hid X
  have HP := Lib.hid hp
  have HF := Lib.hid hf
  have HK := Lib.hid (X.print P C ms w ht hp hl hC hN hf)
  have HR : Hid (∀ w, InM w P ms → Calls Tryd.prog 11 #[.slice P ms.length C] w fun e w' => e = .returned (.tuple #[tx (printJ ms).2, .int .i64 ((printJ ms).1 : Nat)]) ∧ Below w.heap.size w w') := fun w h => rprint_c P C ms w h hf (by omega)
  obtain ⟨n, hn⟩ : ∃ n, ms.length = n := ⟨_, rfl⟩
  rw [hn] at HK HR ⊢
  obtain ⟨⟨k, s⟩, hr⟩ : ∃ r, printJ ms = r := ⟨_, rfl⟩
  rw [hr] at HK HR
  unfold tx at HK HR
  clear hn hr ht X hp hl hC hN hf
  go_enter Tryd.func3, Tryd.ntmps3
  go_wp2_with fail
  refine HK.out.mono ?_
  rintro e w1 ⟨rfl, hb1⟩
  have HB1 := Lib.hid hb1
  have HP1 := Lib.hid (inm_below HP.out hb1)
  clear hb1 HK HP
  go_wp2_with fail
  refine (HR.out w1 HP1.out).mono ?_
  rintro e w2 ⟨rfl, hb2⟩
  have HB2 := Lib.hid (bnext HB1.out hb2)
  clear hb2 HR
  go_wp2_with fail
  refine (jknown_c HX.out w2 (HX.out.tbelow _ _ HT.out HB2.out)).mono ?_
  rintro e w3 ⟨rfl, hb3⟩
  have HB3 := Lib.hid (bnext HB2.out hb3)
  clear hb3
  go_wp2_with fail
  go_ret
  exact ⟨rfl, HB3.out⟩

set_option maxRecDepth 8000 in
set_option maxHeartbeats 2000000 in
theorem law_parses {T : World → Prop} (X : JApi T) (l : List UInt8) (w : World) (hl : l.length ≤ 140737488351232) (ht : T w) :
    Calls Tryd.prog 4 #[.string ⟨l.toArray⟩] w fun e w' => e = .returned (.bool true) ∧ Below w.heap.size w w' := by
  have HT := Lib.hid ht
  have HX := Lib.hid X
  have HK := Lib.hid (X.parse l w ht hl)
  have hs : (⟨l.toArray⟩ : ByteArray).size = l.length := by simp [size_mk]
  have HR : Hid (∀ w, Calls Tryd.prog 14 #[.string ⟨l.toArray⟩] w fun e w' => ParseV w w' (parseJ l) e) := fun w => by
    have h := rparse_c ⟨l.toArray⟩ w (by omega)
    simpa using h
  have HW := Lib.hid (parse_few l)
  obtain ⟨⟨k, ms⟩, hr⟩ : ∃ r, parseJ l = r := ⟨_, rfl⟩
  rw [hr] at HK HR HW
  obtain ⟨L, hL⟩ : ∃ L : ByteArray, ⟨l.toArray⟩ = L := ⟨_, rfl⟩
  rw [hL] at HK HR ⊢
  dsimp only at HW
  clear hr ht X hl hs hL
  go_enter Tryd.func4, Tryd.ntmps4
  go_wp2_with fail
  refine HK.out.mono ?_
  rintro e w1 ⟨v, rfl, hown, hb1⟩
  obtain ⟨p, c, rfl, _, _, hin⟩ := own_ms hown
  have HB1 := Lib.hid hb1
  have HP1 := Lib.hid hin
  clear hown hin hb1 HK
  go_wp2_with fail
  refine (HR.out w1).mono ?_
  rintro e w2 ⟨v, rfl, hown, hb2⟩
  obtain ⟨q, d, rfl, _, _, hin⟩ := own_ms hown
  have HP2 := Lib.hid (inm_below HP1.out hb2)
  have HQ2 := Lib.hid hin
  have HB2 := Lib.hid (bnext HB1.out hb2)
  clear hown hin hb2 HR
  go_wp2_with fail
  refine (jknown_c HX.out w2 (HX.out.tbelow _ _ HT.out HB2.out)).mono ?_
  rintro e w3 ⟨rfl, hb3⟩
  have HS := Lib.hid (rsame_c p c ms q d ms w3 (inm_below HP2.out hb3) (inm_below HQ2.out hb3) (by have := HW.out; omega) (by have := HW.out; omega))
  have HB3 := Lib.hid (bnext HB2.out hb3)
  clear hb3
  rw [decide_eq_true rfl] at HS
  go_wp2_with fail
  refine HS.out.mono ?_
  rintro e w4 ⟨rfl, nd, rfl⟩
  go_wp2_with fail
  go_ret
  exact ⟨rfl, below_drewN HB3.out nd⟩
end Go.Proofs.YtbgnoobgnpebdaaDoor.jsn
