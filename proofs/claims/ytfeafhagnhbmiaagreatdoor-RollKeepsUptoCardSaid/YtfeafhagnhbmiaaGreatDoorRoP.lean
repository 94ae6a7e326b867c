/- The law's known question. No condition. -/
import Derived.Test.YtfeafhagnhbmiaaGreatDoorRoF
import Derived.Test.YtfeafhagnhbmiaaGreatDoorRoM
namespace Go.Proofs.YtfeafhagnhbmiaaGreatDoor.rol
open Go.RowKit
open Go.Proofs.YtfeafhagnhbmiaaGreatDoor.oct Go.Proofs.YtfeafhagnhbmiaaGreatDoor.ref Go.Proofs.YtfeafhagnhbmiaaGreatDoor.rows Go.Proofs.YtfeafhagnhbmiaaGreatDoor.rowg Go.Proofs.YtfeafhagnhbmiaaGreatDoor.trn
open Go.Proofs.YtfeafhagnhbmiaaGreatDoor.scp (tx senc senc_len InS ins_below ins_cell ins_one lt hasB hasB_iff Lst lval lenc GoodL FitS)
open Go.Proofs.YtfeafhagnhbmiaaGreatDoor.fld (Pr InPr getV getN)

def kCT : CT := ⟨[97], [115, 58], false, [[117]], [[114]], [wRT]⟩
theorem k_all : allB [kCT] = true := by decide +kernel
theorem k_head : headP [97] [115, 58] = [66, 97, 115, 105, 99, 32, 89, 84, 112, 122, 74, 84, 78, 66] := by decide +kernel
theorem k_auth1 : authP [kCT] [66, 97, 115, 105, 99, 32, 89, 84, 112, 122, 74, 84, 78, 66] [] = ([97], 0) := by
  rw [← k_head]
  unfold authP
  rw [if_neg (head_ne _ _), auth_head]
  decide +kernel
theorem k_auth2 : authP [kCT] [] [(wId, [97])] = ([], 2) := by
  unfold authP
  rw [if_pos rfl]
  decide +kernel
theorem k_redir : redirP [kCT] [97] [] = ([117], true) := by decide +kernel
theorem k_may : hasB (lookP [kCT] [97]).1.gra wRT = true := by decide +kernel
theorem inc_one (W : World) (x : Cm) (e : Nat) : InC (W.alloc (.cells #[tx x.id, tx x.sec, .bool x.pub, lval x.red, lval x.sco, lval x.gra] e)) (some ⟨W.heap.size, 0, none⟩) [x] := fun _ =>
  ⟨_, _, rfl, fun i hi j hj => by
    have h0 : i = 0 := by simpa using hi
    subst h0
    rw [World.cell?_alloc_at _ _ _ _ rfl]
    show _ = (clenc x)[j]?
    have e2 : ((⟨W.heap.size, 0 + 0 * 6 + j, none⟩ : Addr)).off = j := by simp
    first | rfl | simp [clenc]⟩
theorem inpr_one (W : World) (x : Pr) (e : Nat) : InPr (W.alloc (.cells #[.string ⟨x.1.toArray⟩, .string ⟨x.2.toArray⟩] e)) (some ⟨W.heap.size, 0, none⟩) [x] := fun _ =>
  ⟨_, _, rfl, fun i hi => by
    have h0 : i = 0 := by simpa using hi
    subst h0
    constructor <;> (rw [World.cell?_alloc_at _ _ _ _ rfl]; rfl)⟩
theorem sec1_of {ys : List Cm} {l : List CT} (h : ys.map Cm.ct = l) (hr : ∀ c ∈ l, rightB c = true) : Sec1 ys := fun y hy hp => by
  have h1 := hr y.ct (by rw [← h]; exact List.mem_map_of_mem hy)
  have h2 := (right_parts h1).2.1
  have h3 : secB y.pub y.sec = true := h2
  rw [hp] at h3
  exact (prB_len h3).1
theorem ns_one (W : World) (x : T) (e : Nat) : InS (W.alloc (.cells #[.string ⟨x.toArray⟩] e)) (some ⟨W.heap.size, 0, none⟩) [x] := ins_one W x e
theorem ll_one {w : World} {p : Addr} {x : T} (h : InS w (some p) [x]) (hx : x.length ≤ 140737488351232) : LL w (some p, 1, [x]) := ⟨h, Nat.le_refl _, (fun e => by cases e), (fun y hy => by rw [List.mem_singleton.1 hy]; exact hx), by simp⟩
set_option maxRecDepth 100000 in
set_option maxHeartbeats 1000000 in
theorem known15_c (w : World) : Calls Tryz.prog 10 #[] w fun e w' => e = .returned (.bool true) ∧ Below w.heap.size w w' := by
  obtain ⟨w1, hw1⟩ : ∃ w1, w.alloc (.cells #[.string ⟨#[117]⟩] 9) = w1 := ⟨_, rfl⟩
  have i1 : InS w1 (some ⟨w.heap.size, 0, none⟩) [[117]] := by rw [← hw1]; exact ns_one w [117] _
  have b1 : Below w.heap.size w w1 := by rw [← hw1]; exact (Below.refl _ _).alloc (Nat.le_refl _) _
  obtain ⟨w2, hw2⟩ : ∃ w2, w1.alloc (.cells #[.string ⟨#[114]⟩] 9) = w2 := ⟨_, rfl⟩
  have i2 : InS w2 (some ⟨w1.heap.size, 0, none⟩) [[114]] := by rw [← hw2]; exact ns_one w1 [114] _
  have b2 : Below w1.heap.size w1 w2 := by rw [← hw2]; exact (Below.refl _ _).alloc (Nat.le_refl _) _
  obtain ⟨w3, hw3⟩ : ∃ w3, w2.alloc (.cells #[.string ⟨#[114, 101, 102, 114, 101, 115, 104, 95, 116, 111, 107, 101, 110]⟩] 9) = w3 := ⟨_, rfl⟩
  have i3 : InS w3 (some ⟨w2.heap.size, 0, none⟩) [wRT] := by rw [← hw3]; exact ns_one w2 wRT _
  have b3 : Below w2.heap.size w2 w3 := by rw [← hw3]; exact (Below.refl _ _).alloc (Nat.le_refl _) _
  obtain ⟨w4, hw4⟩ : ∃ w4, w3.alloc (.cells #[.string ⟨#[97]⟩, .string ⟨#[115, 58]⟩, .bool false, .slice (some ⟨w.heap.size, 0, none⟩) 1 1, .slice (some ⟨w1.heap.size, 0, none⟩) 1 1, .slice (some ⟨w2.heap.size, 0, none⟩) 1 1] 27) = w4 := ⟨_, rfl⟩
  have b4 : Below w3.heap.size w3 w4 := by rw [← hw4]; exact (Below.refl _ _).alloc (Nat.le_refl _) _
  have hin : InC w4 (some ⟨w3.heap.size, 0, none⟩) [⟨[97], [115, 58], false, (some ⟨w.heap.size, 0, none⟩, 1, [[117]]), (some ⟨w1.heap.size, 0, none⟩, 1, [[114]]), (some ⟨w2.heap.size, 0, none⟩, 1, [wRT])⟩] := by rw [← hw4]; exact inc_one w3 ⟨[97], [115, 58], false, (some ⟨w.heap.size, 0, none⟩, 1, [[117]]), (some ⟨w1.heap.size, 0, none⟩, 1, [[114]]), (some ⟨w2.heap.size, 0, none⟩, 1, [wRT])⟩ _
  have hg : GoodC w4 ⟨[97], [115, 58], false, (some ⟨w.heap.size, 0, none⟩, 1, [[117]]), (some ⟨w1.heap.size, 0, none⟩, 1, [[114]]), (some ⟨w2.heap.size, 0, none⟩, 1, [wRT])⟩ := ⟨by simp, by simp, ll_one (ins_below (ins_below (ins_below i1 b2) b3) b4) (by simp), ll_one (ins_below (ins_below i2 b3) b4) (by simp), ll_one (ins_below i3 b4) (by simp [wRT])⟩
  have HNW : Hid (Calls Tryz.prog 14 #[.slice (some ⟨w3.heap.size, 0, none⟩) 1 1] w4 fun e w' => ∃ g ys, e = .returned (.tuple #[.pointer (some ⟨g, 0, none⟩), .int .i64 0]) ∧ RolM w' (fun k => w4.heap.size ≤ k ∧ k < w'.heap.size) g ys ∧ ys.map Cm.ct = [kCT] ∧ Below w4.heap.size w4 w') := Lib.hid ((new_c (some ⟨w3.heap.size, 0, none⟩) 1 _ w4 hin (fun x hx => by rw [List.mem_singleton.1 hx]; exact hg) (by simp)).mono fun e w' ⟨hb, h⟩ => by
    rcases h with ⟨_, g, ys, h1, h2, h3⟩ | ⟨h1, _⟩
    · exact ⟨g, ys, h1, h2, h3, hb⟩
    · have h2 := k_all
      have h3 : allB [kCT] = false := h1
      rw [h2] at h3
      cases h3)
  have HB4 := Lib.hid (bnext (bnext (bnext b1 b2) b3) b4)
  clear i1 i2 i3 b1 b2 b3 b4 hin hg
  go_enter Tryz.func10, Tryz.ntmps10
  go_wp2_with fail
  refine HNW.out.mono ?_
  rintro e w5 ⟨g, ys, rfl, hr, hys, hb5⟩
  have hN : RolN w5 (fun k => w4.heap.size ≤ k ∧ k < w5.heap.size) (some ⟨g, 0, none⟩) ys := Or.inr ⟨g, rfl, hr⟩
  have HN := Lib.hid hN
  have HS1 : Hid (Sec1 ys) := Lib.hid (sec1_of hys (all_right k_all).1)
  have HB5 := Lib.hid (bnext HB4.out hb5)
  have HA1 : Hid (Calls Tryz.prog 6 #[.pointer (some ⟨g, 0, none⟩), .string ⟨#[66, 97, 115, 105, 99, 32, 89, 84, 112, 122, 74, 84, 78, 66]⟩, .slice none 0 0] w5 fun e w' => e = .returned (.tuple #[.string ⟨#[97]⟩, .int .i64 0]) ∧ Below w5.heap.size w5 w') := Lib.hid ((auth_c hN HS1.out [66, 97, 115, 105, 99, 32, 89, 84, 112, 122, 74, 84, 78, 66] (by decide) none 0 [] ⟨(fun h => absurd h (by simp)), by simp, (fun x hx => by cases hx)⟩).mono fun e w' ⟨h1, h2⟩ => ⟨by rw [hys, k_auth1] at h1; exact h1, h2⟩)
  have HRX : Hid (∀ W, Below w5.heap.size w5 W → RolN W (fun k => w4.heap.size ≤ k ∧ k < w5.heap.size) (some ⟨g, 0, none⟩) ys) := Lib.hid fun W hW => hN.below hW
  have HA2 : Hid (∀ W (p : Addr), Below w5.heap.size w5 W → InPr W (some p) [(wId, [97])] → Calls Tryz.prog 6 #[.pointer (some ⟨g, 0, none⟩), .string ⟨#[]⟩, .slice (some p) 1 1] W fun e w' => e = .returned (.tuple #[.string ⟨#[]⟩, .int .i64 2]) ∧ Below W.heap.size W w') := Lib.hid fun W p hW hpr => (auth_c (HRX.out W hW) HS1.out [] (by decide) (some p) 1 [(wId, [97])] ⟨hpr, by simp, (fun x hx => by rw [List.mem_singleton.1 hx]; simp)⟩).mono fun e w' ⟨h1, h2⟩ => ⟨by rw [hys, k_auth2] at h1; exact h1, h2⟩
  have HRD : Hid (∀ W, Below w5.heap.size w5 W → Calls Tryz.prog 8 #[.pointer (some ⟨g, 0, none⟩), .string ⟨#[97]⟩, .string ⟨#[]⟩] W fun e w' => e = .returned (.tuple #[.string ⟨#[117]⟩, .bool true]) ∧ Below W.heap.size W w') := Lib.hid fun W hW => (redirect_c (HRX.out W hW) [97] [] (by decide) (by decide)).mono fun e w' ⟨h1, h2⟩ => ⟨by rw [hys, k_redir] at h1; exact h1, h2⟩
  have HMY : Hid (∀ W, Below w5.heap.size w5 W → Calls Tryz.prog 11 #[.pointer (some ⟨g, 0, none⟩), .string ⟨#[97]⟩, .string ⟨#[114, 101, 102, 114, 101, 115, 104, 95, 116, 111, 107, 101, 110]⟩] W fun e w' => e = .returned (.bool true) ∧ Below W.heap.size W w') := Lib.hid fun W hW => (may_c (HRX.out W hW) [97] wRT (by decide)).mono fun e w' ⟨h1, h2⟩ => ⟨by rw [hys, k_may] at h1; exact h1, h2⟩
  have HHD : Hid (∀ W, Calls Tryz.prog 7 #[.string ⟨#[97]⟩, .string ⟨#[115, 58]⟩] W fun e w' => e = .returned (.string ⟨#[66, 97, 115, 105, 99, 32, 89, 84, 112, 122, 74, 84, 78, 66]⟩) ∧ Below W.heap.size W w') := Lib.hid fun W => (header_c [97] [115, 58] W (by decide) (by decide)).mono fun e w' ⟨h1, h2⟩ => ⟨by rw [k_head] at h1; exact h1, h2⟩
  clear hr hys hb5 hN HNW hw1 hw2 hw3 hw4
  go_wp2_with fail
  refine HA1.out.mono ?_
  rintro e w6 ⟨rfl, hb6⟩
  obtain ⟨w7, hw7⟩ : ∃ w7, w6.alloc (.cells #[.string ⟨#[99, 108, 105, 101, 110, 116, 95, 105, 100]⟩, .string ⟨#[97]⟩] 63) = w7 := ⟨_, rfl⟩
  have hpr : InPr w7 (some ⟨w6.heap.size, 0, none⟩) [(wId, [97])] := by rw [← hw7]; exact inpr_one w6 (wId, [97]) _
  have b7 : Below w6.heap.size w6 w7 := by rw [← hw7]; exact (Below.refl _ _).alloc (Nat.le_refl _) _
  have HB7 := Lib.hid (bnext hb6 b7)
  have HA3 := Lib.hid (HA2.out w7 ⟨w6.heap.size, 0, none⟩ HB7.out hpr)
  clear hb6 hpr b7 HA1 HA2
  go_wp2_with (first
    | (go_at_call 6; (with_reducible refine HA3.out.mono ?_); rintro e w8 ⟨rfl, hb8⟩; have HB8 := Lib.hid (bnext HB7.out hb8); clear hb8)
    | (go_at_call 8; (with_reducible refine (HRD.out _ HB8.out).mono ?_); rintro e w9 ⟨rfl, hb9⟩; have HB9 := Lib.hid (bnext HB8.out hb9); clear hb9)
    | (go_at_call 7; (with_reducible refine (HHD.out _).mono ?_); rintro e wA ⟨rfl, hbA⟩; have HBA := Lib.hid (bnext HB9.out hbA); clear hbA)
    | (go_at_call 11; (with_reducible refine (HMY.out _ HBA.out).mono ?_); rintro e wB ⟨rfl, hbB⟩; have HBB := Lib.hid (bnext HBA.out hbB); clear hbB))
  go_ret
  exact ⟨rfl, bnext HB5.out HBB.out⟩
end Go.Proofs.YtfeafhagnhbmiaaGreatDoor.rol
