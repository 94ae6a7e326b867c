/- The chapter's example 1 in plain lists. No condition. -/
import Derived.Test.YthagdkipipldlaaGreatDoorGrr
import Derived.KernelRfl
namespace Go.Proofs.YthagdkipipldlaaGreatDoor.gra
open Go.RowKit
open Go.Proofs.YthagdkipipldlaaGreatDoor.krd

def cmdK (k ser tok : Int) (cl us : T) (sc : List T) (rf : Bool) (edge : Int) : CT := ⟨k, [102, 49], ser, tok, cl, us, sc, [], [], [], [], rf, edge⟩
def famK (code : Int) (tk : List IT) (rev : Bool) (le : List Int) : FT := ⟨[102, 49], [97], [117], [[114]], [], [], [], code, tk, rev, le⟩
def tkK : List IT := [⟨2, [[114]], false⟩, ⟨3, [[114]], false⟩]
theorem ex1 : doG 4 [] (cmdK 1 0 0 [97] [117] [[114]] false 0) = ([famK 1 [] false []], { no 0 with sc := [[114]] }) := by kernel_rfl
theorem ex2 : doG 4 [famK 1 [] false []] (cmdK 2 0 0 [97] [] [] true 0) = ([famK 2 tkK false []], ⟨0, 1, 2, [[114]], [], [], false, false⟩) := by kernel_rfl
theorem ex3 : doG 4 [famK 2 tkK false []] (cmdK 6 1 2 [] [] [] false 3) = ([famK 2 tkK false [3]], ⟨0, 0, 0, [[114]], [97], [117], true, false⟩) := by kernel_rfl
theorem ex4 : doG 4 [famK 2 tkK false [3]] (cmdK 2 0 0 [97] [] [] false 0) = ([famK 2 tkK true [3]], no 3) := by kernel_rfl
theorem ex5 : doG 4 [famK 2 tkK true [3]] (cmdK 6 1 2 [] [] [] false 3) = ([famK 2 tkK true [3]], no 0) := by kernel_rfl
theorem ex6 : pendG [famK 2 tkK true [3]] = [[102, 49]] := by kernel_rfl
open Go.Proofs.YthagdkipipldlaaGreatDoor.oct Go.Proofs.YthagdkipipldlaaGreatDoor.ref Go.Proofs.YthagdkipipldlaaGreatDoor.rows Go.Proofs.YthagdkipipldlaaGreatDoor.rowg Go.Proofs.YthagdkipipldlaaGreatDoor.mpt Go.Proofs.YthagdkipipldlaaGreatDoor.trn
open Go.Proofs.YthagdkipipldlaaGreatDoor.sha (Tabs)
open Go.Proofs.YthagdkipipldlaaGreatDoor.scp (tx senc senc_len InS ins_one lval FitS RowA)
/-- a block of the law's own beside the book -/
structure AVar (w : World) (R : Nat → Prop) (b : Nat) (X : List Value) : Prop where
  blk : Blk w b 59 X
  out : ¬ R b
theorem AVar.next {w w' : World} {R R' : Nat → Prop} {b : Nat} {X : List Value} (h : AVar w R b X) (ht : Turn R w w') (hg : Grown R R' w) : AVar w' R' b X :=
  ⟨blk_turn h.blk ht h.out, fun h2 => (hg b h2).elim h.out fun h3 => by have := h.blk.lt; omega⟩
theorem AVar.below {w w' : World} {R : Nat → Prop} {b : Nat} {X : List Value} (h : AVar w R b X) (hb : Below w.heap.size w w') : AVar w' R b X := ⟨h.blk.below hb, h.out⟩
theorem AVar.new {w0 w : World} {R : Nat → Prop} {g room : Nat} {l : List FT} (h : LW w0 w R g room l) (X : List Value) : AVar (w.alloc (.cells X.toArray 59)) R w.heap.size X := ⟨blk_new w _ _ _ rfl, fun h2 => absurd (h.ba.lt _ h2) (Nat.lt_irrefl _)⟩
theorem good_l (w : World) (c : CT) (p : Option Addr) (r : Nat) (hk : (okI c.kind ∧ okI c.ser) ∧ okI c.tok ∧ okI c.edge) (hl : (c.fam.length ≤ 100 ∧ c.cl.length ≤ 100 ∧ c.us.length ≤ 100 ∧ c.re.length ≤ 100) ∧ c.ch.length ≤ 100 ∧ c.me.length ≤ 100 ∧ c.ve.length ≤ 100) (hs : LL w (p, r, c.sc)) : GoodC w ⟨c, p, r⟩ := by
  obtain ⟨⟨a1, a2⟩, a3, a4⟩ := hk
  obtain ⟨⟨b1, b2, b3, b4⟩, b5, b6, b7⟩ := hl
  exact ⟨a1, a2, a3, a4, by show c.fam.length ≤ _; omega, by show c.cl.length ≤ _; omega, by show c.us.length ≤ _; omega, by show c.re.length ≤ _; omega, by show c.ch.length ≤ _; omega, by show c.me.length ≤ _; omega, by show c.ve.length ≤ _; omega, hs⟩
theorem ll_nil (w : World) : LL w (none, 0, []) := ⟨fun h => absurd h (by simp), Nat.le_refl _, fun _ => rfl, (fun _ h => by cases h), Nat.zero_le _⟩
theorem ok_cmd (k ser tok : Int) (cl us : T) (sc : List T) (rf : Bool) (edge : Int) (h : ((-100 ≤ k ∧ k ≤ 100) ∧ (-100 ≤ ser ∧ ser ≤ 100)) ∧ (-100 ≤ tok ∧ tok ≤ 100) ∧ (-100 ≤ edge ∧ edge ≤ 100)) : (okI (cmdK k ser tok cl us sc rf edge).kind ∧ okI (cmdK k ser tok cl us sc rf edge).ser) ∧ okI (cmdK k ser tok cl us sc rf edge).tok ∧ okI (cmdK k ser tok cl us sc rf edge).edge := by
  unfold okI cmdK
  dsimp only
  omega
set_option maxRecDepth 100000 in
set_option maxHeartbeats 16000000 in
theorem gknown_c (w : World) (ht : Tabs w) : Calls Tryz.prog 13 #[] w fun e w' => e = .returned (.bool true) ∧ Below w.heap.size w w' := by
  have HT := Lib.hid ht
  have HN := Lib.hid (new_c 4 w (by decide) (by decide))
  clear ht
  go_enter Tryz.func13, Tryz.ntmps13
  go_wp2_with fail
  refine HN.out.mono ?_
  rintro e w1 hn
  obtain ⟨g, R1, rfl, hL1⟩ := LW.start (Below.refl w.heap.size w) hn
  have hbA : Below w1.heap.size w1 (w1.alloc (.cells #[.string ⟨#[114]⟩] 9)) := (Below.refl _ _).alloc (Nat.le_refl _) _
  have hD1 := lw_do (hL1.below hbA) HT.out ⟨cmdK 1 0 0 [97] [117] [[114]] false 0, some ⟨w1.heap.size, 0, none⟩, 1⟩ (good_l _ _ _ _ (ok_cmd _ _ _ _ _ _ _ _ (by decide)) (by decide) ⟨ins_one w1 [114] _, Nat.le_refl 1, (fun h => by cases h), (fun s hs => by rw [List.mem_singleton.1 hs]; decide), (show 1 ≤ 140737488351232 by decide)⟩) (fun b o z _ e _ h => by injection e with e; injection e with e; subst e; exact absurd (hL1.ba.lt _ h) (Nat.lt_irrefl _))
  rw [ex1] at hD1
  have HD1 := Lib.hid hD1
  clear hn hD1 hbA HN
  go_wp2_with fail
  refine HD1.out.mono ?_
  rintro e w2 ⟨R2, p1, q1, rfl, _, _, hL2, _, _⟩
  have HL2 := Lib.hid hL2
  have HD2 := Lib.hid (lw_do hL2 HT.out ⟨cmdK 2 0 0 [97] [] [] true 0, none, 0⟩ (good_l _ _ _ _ (ok_cmd _ _ _ _ _ _ _ _ (by decide)) (by decide) (ll_nil _)) (fun b o z hs => absurd rfl hs))
  rw [ex2] at HD2
  clear hL2 HD1 hL1
  go_wp2_with fail
  refine HD2.out.mono ?_
  rintro e w3 ⟨R3, p2, q2, rfl, _, _, hL3, _, _⟩
  rw [show ansv ([famK 2 tkK false []], (⟨0, 1, 2, [[114]], [], [], false, false⟩ : AT)).2 p2 q2 = .agg #[.int .i64 0, .int .i64 1, .int .i64 2, .slice p2 1 q2, .string ⟨#[]⟩, .string ⟨#[]⟩, .bool false, .bool false] from rfl]
  have hV3 := AVar.new hL3 [.int .i64 0, .int .i64 1, .int .i64 2, .slice p2 1 q2, .string ⟨#[]⟩, .string ⟨#[]⟩, .bool false, .bool false]
  have hL3b := hL3.below ((Below.refl _ _).alloc (Nat.le_refl _) (.cells #[.int .i64 0, .int .i64 1, .int .i64 2, .slice p2 1 q2, .string ⟨#[]⟩, .string ⟨#[]⟩, .bool false, .bool false] 59))
  have HV3 := Lib.hid hV3
  have HD3 := Lib.hid (lw_do hL3b HT.out ⟨cmdK 6 1 2 [] [] [] false 3, none, 0⟩ (good_l _ _ _ _ (ok_cmd _ _ _ _ _ _ _ _ (by decide)) (by decide) (ll_nil _)) (fun b o z hs => absurd rfl hs))
  rw [ex3] at HD3
  clear hL3 hL3b hV3 HD2 HL2
  go_wp2_with fail
  refine HD3.out.mono ?_
  rintro e w4 ⟨R4, p3, q3, rfl, _, _, hL4, hT4, hG4⟩
  rw [show ansv ([famK 2 tkK false [3]], (⟨0, 0, 0, [[114]], [97], [117], true, false⟩ : AT)).2 p3 q3 = .agg #[.int .i64 0, .int .i64 0, .int .i64 0, .slice p3 1 q3, .string ⟨#[97]⟩, .string ⟨#[117]⟩, .bool true, .bool false] from rfl]
  have hb4 : Below w4.heap.size w4 (w4.alloc (.cells #[.int .i64 0, .int .i64 0, .int .i64 0, .slice p3 1 q3, .string ⟨#[97]⟩, .string ⟨#[117]⟩, .bool true, .bool false] 59)) := (Below.refl _ _).alloc (Nat.le_refl _) _
  have HV34 := Lib.hid ((HV3.out.next hT4 hG4).below hb4)
  have HV4 := Lib.hid (AVar.new hL4 [.int .i64 0, .int .i64 0, .int .i64 0, .slice p3 1 q3, .string ⟨#[97]⟩, .string ⟨#[117]⟩, .bool true, .bool false])
  have HD4 := Lib.hid (lw_do (hL4.below hb4) HT.out ⟨cmdK 2 0 0 [97] [] [] false 0, none, 0⟩ (good_l _ _ _ _ (ok_cmd _ _ _ _ _ _ _ _ (by decide)) (by decide) (ll_nil _)) (fun b o z hs => absurd rfl hs))
  rw [ex4] at HD4
  clear hL4 hT4 hG4 hb4 HD3 HV3
  go_wp2_with fail
  refine HD4.out.mono ?_
  rintro e w5 ⟨R5, p4, q4, rfl, _, _, hL5, hT5, hG5⟩
  rw [show ansv ([famK 2 tkK true [3]], no 3).2 p4 q4 = .agg #[.int .i64 3, .int .i64 0, .int .i64 0, .slice p4 0 q4, .string ⟨#[]⟩, .string ⟨#[]⟩, .bool false, .bool false] from rfl]
  have hb5 : Below w5.heap.size w5 (w5.alloc (.cells #[.int .i64 3, .int .i64 0, .int .i64 0, .slice p4 0 q4, .string ⟨#[]⟩, .string ⟨#[]⟩, .bool false, .bool false] 59)) := (Below.refl _ _).alloc (Nat.le_refl _) _
  have HV35 := Lib.hid ((HV34.out.next hT5 hG5).below hb5)
  have HV45 := Lib.hid ((HV4.out.next hT5 hG5).below hb5)
  have HV5 := Lib.hid (AVar.new hL5 [.int .i64 3, .int .i64 0, .int .i64 0, .slice p4 0 q4, .string ⟨#[]⟩, .string ⟨#[]⟩, .bool false, .bool false])
  have HD5 := Lib.hid (lw_do (hL5.below hb5) HT.out ⟨cmdK 6 1 2 [] [] [] false 3, none, 0⟩ (good_l _ _ _ _ (ok_cmd _ _ _ _ _ _ _ _ (by decide)) (by decide) (ll_nil _)) (fun b o z hs => absurd rfl hs))
  rw [ex5] at HD5
  clear hL5 hT5 hG5 hb5 HD4 HV34 HV4
  go_wp2_with fail
  refine HD5.out.mono ?_
  rintro e w6 ⟨R6, p5, q5, rfl, _, _, hL6, hT6, hG6⟩
  rw [show ansv ([famK 2 tkK true [3]], no 0).2 p5 q5 = .agg #[.int .i64 0, .int .i64 0, .int .i64 0, .slice p5 0 q5, .string ⟨#[]⟩, .string ⟨#[]⟩, .bool false, .bool false] from rfl]
  have hb6 : Below w6.heap.size w6 (w6.alloc (.cells #[.int .i64 0, .int .i64 0, .int .i64 0, .slice p5 0 q5, .string ⟨#[]⟩, .string ⟨#[]⟩, .bool false, .bool false] 59)) := (Below.refl _ _).alloc (Nat.le_refl _) _
  have hV3 := ((HV35.out.next hT6 hG6).below hb6).blk
  have hV4 := ((HV45.out.next hT6 hG6).below hb6).blk
  have hV5 := ((HV5.out.next hT6 hG6).below hb6).blk
  have hV6 := (AVar.new hL6 [.int .i64 0, .int .i64 0, .int .i64 0, .slice p5 0 q5, .string ⟨#[]⟩, .string ⟨#[]⟩, .bool false, .bool false]).blk
  have HP := Lib.hid (lw_pending (hL6.below hb6))
  rw [ex6] at HP
  have HBE := Lib.hid (hL6.below hb6).bel
  have e31 := hV3.cell 1
  have e32 := hV3.cell 2
  have e45 := hV4.cell 5
  have e46 := hV4.cell 6
  have e50 := hV5.cell 0
  have e66 := hV6.cell 6
  have HE : Hid (_ ∧ _ ∧ _ ∧ _ ∧ _ ∧ _) := ⟨e31, e32, e45, e46, e50, e66⟩
  clear hL6 hT6 hG6 hb6 HD5 HV35 HV45 HV5 hV3 hV4 hV5 hV6 e31 e32 e45 e46 e50 e66
  go_upto_region 9 with fail
  obtain ⟨e31, e32, e45, e46, e50, e66⟩ := HE.out
  obtain ⟨w7, hw7⟩ : ∃ w7, w6.alloc (.cells #[.int .i64 0, .int .i64 0, .int .i64 0, .slice p5 0 q5, .string ⟨#[]⟩, .string ⟨#[]⟩, .bool false, .bool false] 59) = w7 := ⟨_, rfl⟩
  rw [hw7] at HP HBE e31 e32 e45 e46 e50 e66 ⊢
  clear hw7 HE
  go_wp2_with (first
    | (go_at_call 19; (with_reducible refine HP.out.mono ?_); rintro e w8 ⟨v, rfl, ho, hb8⟩; obtain ⟨pp, cc, hv, _, _, _⟩ := own_g senc_len (by decide) ho; subst hv; have HB8 := Lib.hid hb8; clear hb8 ho)
    | fail)
  go_ret
  exact ⟨rfl, bnext HBE.out HB8.out⟩
end Go.Proofs.YthagdkipipldlaaGreatDoor.gra
