/- RollHeaders, of an Id and a secret of at most 1048576 bytes together. -/
import Derived.Test.YteihjgakhkpgnaaGreatDoorRoU
namespace Go.Proofs.YteihjgakhkpgnaaGreatDoor.rol
open Go.RowKit
open Go.Proofs.YteihjgakhkpgnaaGreatDoor.oct Go.Proofs.YteihjgakhkpgnaaGreatDoor.ref Go.Proofs.YteihjgakhkpgnaaGreatDoor.rows Go.Proofs.YteihjgakhkpgnaaGreatDoor.rowg Go.Proofs.YteihjgakhkpgnaaGreatDoor.trn
open Go.Proofs.YteihjgakhkpgnaaGreatDoor.scp (tx senc senc_len InS ins_below ins_cell lt hasB hasB_iff Lst lval lenc GoodL FitS setP)
open Go.Proofs.YteihjgakhkpgnaaGreatDoor.fld (Pr InPr getV getN quote)

theorem inpr_two (W : World) (x y : Pr) (e : Nat) : InPr (W.alloc (.cells #[.string ⟨x.1.toArray⟩, .string ⟨x.2.toArray⟩, .string ⟨y.1.toArray⟩, .string ⟨y.2.toArray⟩] e)) (some ⟨W.heap.size, 0, none⟩) [x, y] := fun _ =>
  ⟨_, _, rfl, fun i hi => by
    have h0 : i = 0 ∨ i = 1 := by simp at hi; omega
    rcases h0 with rfl | rfl <;> (constructor <;> (rw [World.cell?_alloc_at _ _ _ _ rfl]; rfl))⟩
theorem head_len2 {id sec : T} (h : id.length + sec.length ≤ 1048576) : (headP id sec).length ≤ 8388608 := by
  have l1 := fld.quote_len id
  have l2 := fld.quote_len sec
  have hbl := basT_len (quote id ++ 58 :: quote sec)
  have h6 : wBas.length = 6 := rfl
  unfold headP
  rw [List.length_append, h6]
  rw [List.length_append, List.length_cons] at hbl
  omega
set_option maxRecDepth 100000 in
set_option maxHeartbeats 4000000 in
theorem law_headers (P : Option Addr) (C : Nat) (xs0 : List Cm) (id sec : T) (w : World) (h0 : ArgC w P C xs0) (hid : id.length + sec.length ≤ 1048576) :
    Calls Tryz.prog 5 #[.slice P xs0.length C, .string ⟨id.toArray⟩, .string ⟨sec.toArray⟩] w fun e w' => e = .returned (.bool true) ∧ Below w.heap.size w w' := by
  obtain ⟨hp, hg⟩ := h0.few
  have HF := Lib.hid (few15_c P C xs0 w h0.cap)
  obtain ⟨xs, hxs⟩ : ∃ xs, xs0.take 70 = xs := ⟨_, rfl⟩
  rw [hxs] at hp hg HF
  have hl : xs.length ≤ 70 := by rw [← hxs, List.length_take]; omega
  obtain ⟨n0, hn0⟩ : ∃ n, xs0.length = n := ⟨_, rfl⟩
  rw [hn0] at HF ⊢
  clear hxs hn0 h0
  have HK := Lib.hid known15_c
  have HHD := Lib.hid (fun W => header_c id sec W (by omega) (by omega))
  have HRH := Lib.hid (fun W => rheader_c id sec W hid)
  have HAL : Hid (∀ W, Below w.heap.size w W → Calls Tryz.prog 12 #[.slice P xs.length C] W fun e w' => e = .returned (.bool (allB (xs.map Cm.ct))) ∧ Below W.heap.size W w') := Lib.hid fun W hW => all_c P C xs W (inc_below hp hW) (fun x hx => (hg x hx).below hW) (by omega)
  have HNW : Hid (allB (xs.map Cm.ct) = true → ∀ W, Below w.heap.size w W → Calls Tryz.prog 10 #[.slice P xs.length C] W fun e w' => ∃ g ys, e = .returned (.tuple #[.pointer (some ⟨g, 0, none⟩), .int .i64 0]) ∧ RolN w' (fun k => W.heap.size ≤ k ∧ k < w'.heap.size) (some ⟨g, 0, none⟩) ys ∧ ys.map Cm.ct = xs.map Cm.ct ∧ Sec1 ys ∧ Below W.heap.size W w') := Lib.hid fun ha W hW => new_yes (inc_below hp hW) (fun x hx => (hg x hx).below hW) hl ha
  obtain ⟨L, hL⟩ : ∃ L, xs.map Cm.ct = L := ⟨_, rfl⟩
  obtain ⟨n, hn⟩ : ∃ n, xs.length = n := ⟨_, rfl⟩
  rw [hn] at HF HAL HNW
  rw [hL] at HNW HAL
  obtain ⟨ab, hab⟩ : ∃ b, allB L = b := ⟨_, rfl⟩
  rw [hab] at HAL HNW
  have hal := auth_head L id sec
  have hat : authP L (headP id sec) [] = authH L (headP id sec) [] := by unfold authP; rw [if_neg (head_ne _ _)]
  have hbo := auth_both L id sec
  have hhl := head_len2 hid
  obtain ⟨hd, hhd⟩ : ∃ h, headP id sec = h := ⟨_, rfl⟩
  rw [hhd] at HHD HRH hal hat hhl
  rw [hal] at hat
  clear hp hg hl hn hL hhd hab hal
  have HAT := Lib.hid hat
  have HBO := Lib.hid hbo
  clear hat hbo
  have HCUR : Hid (Below w.heap.size w w) := Lib.hid (Below.refl _ _)
  go_enter Tryz.func5, Tryz.ntmps5
  cases ab with
  | false =>
    clear HNW
    go_wp2_with (first
      | (go_at_call 9; (with_reducible refine HF.out.mono ?_); rintro e w1 ⟨rfl, rfl⟩)
      | (go_at_call 19; (with_reducible refine (HHD.out _).mono ?_); rintro e w2 ⟨rfl, hb2⟩; have HCUR := Lib.hid (bnext HCUR.out hb2); clear hb2)
      | (go_at_call 20; (with_reducible refine (HRH.out _).mono ?_); rintro e w2 ⟨rfl, hb2⟩; have HCUR := Lib.hid (bnext HCUR.out hb2); clear hb2)
      | (go_at_call 11; (with_reducible refine (HK.out _).mono ?_); rintro e w2 ⟨rfl, hb2⟩; have HCUR := Lib.hid (bnext HCUR.out hb2); clear hb2)
      | (go_at_call 12; (with_reducible refine (HAL.out _ HCUR.out).mono ?_); rintro e w3 ⟨rfl, hb2⟩; have HCUR := Lib.hid (bnext HCUR.out hb2); clear hb2))
    go_ret
    exact ⟨rfl, HCUR.out⟩
  | true =>
    have HNW2 := Lib.hid (HNW.out rfl)
    clear HNW
    go_wp2_with (first
      | (go_at_call 9; (with_reducible refine HF.out.mono ?_); rintro e w1 ⟨rfl, rfl⟩)
      | (go_at_call 19; (with_reducible refine (HHD.out _).mono ?_); rintro e w2 ⟨rfl, hb2⟩; have HCUR := Lib.hid (bnext HCUR.out hb2); clear hb2)
      | (go_at_call 20; (with_reducible refine (HRH.out _).mono ?_); rintro e w2 ⟨rfl, hb2⟩; have HCUR := Lib.hid (bnext HCUR.out hb2); clear hb2)
      | (go_at_call 11; (with_reducible refine (HK.out _).mono ?_); rintro e w2 ⟨rfl, hb2⟩; have HCUR := Lib.hid (bnext HCUR.out hb2); clear hb2)
      | (go_at_call 12; (with_reducible refine (HAL.out _ HCUR.out).mono ?_); rintro e w3 ⟨rfl, hb2⟩; have HCUR := Lib.hid (bnext HCUR.out hb2); clear hb2))
    refine (HNW2.out _ HCUR.out).mono ?_
    rintro e w5 ⟨g, ys, rfl, hr, hys, hs1, hb5⟩
    have HB5 := Lib.hid (bnext HCUR.out hb5)
    have hid2 : id.length ≤ 1048576 ∧ sec.length ≤ 1048576 := by omega
    have HAU : Hid (Calls Tryz.prog 17 #[.pointer (some ⟨g, 0, none⟩), .string ⟨hd.toArray⟩, .slice none 0 0] w5 fun e w' => AuthA (if (lookP L id).2 = false ∨ (lookP L id).1.pub = true ∨ (lookP L id).1.sec ≠ sec then ([], 2) else (id, 0)) e ∧ Below w5.heap.size w5 w') := Lib.hid (by
      have h := auth_c hr hs1 hd hhl none 0 [] ⟨(fun h => absurd h (by simp)), by simp, (fun x hx => by cases hx)⟩
      rw [hys, HAT.out] at h
      exact h)
    have HA2 : Hid (((lookP L id).2 = true ∧ (lookP L id).1.pub = false ∧ (lookP L id).1.sec = sec) → ∀ W (p : Addr), Below w5.heap.size w5 W → InPr W (some p) [(wId, id), (wSec, sec)] → Calls Tryz.prog 17 #[.pointer (some ⟨g, 0, none⟩), .string ⟨#[]⟩, .slice (some p) 2 2] W fun e w' => e = .returned (.tuple #[.string ⟨id.toArray⟩, .int .i64 0]) ∧ Below W.heap.size W w') := Lib.hid fun hc W p hW hpr => (auth_c (hr.below hW) hs1 [] (by simp) (some p) 2 [(wId, id), (wSec, sec)] ⟨hpr, by simp, (fun x hx => by
      rcases List.mem_cons.1 hx with rfl | hx
      · show id.length ≤ _; omega
      · rw [List.mem_singleton.1 hx]; show sec.length ≤ _; omega)⟩).mono fun e w' ⟨h1, h2⟩ => ⟨by
        have h3 : authP (ys.map Cm.ct) [] [(wId, id), (wSec, sec)] = (id, 0) := by unfold authP; rw [if_pos rfl, hys]; exact HBO.out hc
        rw [h3] at h1
        exact h1, h2⟩
    have HFN : Hid (∀ W, Below w5.heap.size w5 W → Calls Tryz.prog 13 #[.pointer (some ⟨g, 0, none⟩), .string ⟨id.toArray⟩] W fun e w' => ClientA W w' (lookP L id) e) := Lib.hid fun W hW => by
      have h := find_c (hr.below hW) id (by omega)
      rw [hys] at h
      exact h
    obtain ⟨⟨⟨cid, csec, cpub, cred, csco, cgra⟩, kn⟩, hk⟩ : ∃ r, lookP L id = r := ⟨_, rfl⟩
    rw [hk] at HAU HA2 HFN
    dsimp only at HAU HA2
    obtain ⟨go, hgo⟩ : ∃ b, (kn && !cpub && decide (csec = sec)) = b := ⟨_, rfl⟩
    have HBW : Hid (∀ W, Below w5.heap.size w5 W → Below w.heap.size w W) := Lib.hid fun W hW => bnext HB5.out hW
    clear hr hys hb5 hk hs1 hhl HAT HBO HNW2 HAL HF HK HHD HRH hid hid2
    have HCUR : Hid (Below w5.heap.size w5 w5) := Lib.hid (Below.refl _ _)
    cases go with
    | true =>
      have hc : kn = true ∧ cpub = false ∧ csec = sec := by simpa [Bool.and_eq_true, and_assoc] using hgo
      obtain ⟨rfl, rfl, rfl⟩ := hc
      have HAU2 : Hid (Calls Tryz.prog 17 #[.pointer (some ⟨g, 0, none⟩), .string ⟨hd.toArray⟩, .slice none 0 0] w5 fun e w' => e = .returned (.tuple #[.string ⟨id.toArray⟩, .int .i64 0]) ∧ Below w5.heap.size w5 w') := Lib.hid (by
        have h := HAU.out
        rw [if_neg (by simp)] at h
        exact h)
      have HA3 := Lib.hid (HA2.out ⟨rfl, rfl, rfl⟩)
      clear hgo HAU HA2
      go_wp2_with fail
      refine HAU2.out.mono ?_
      rintro e w6 ⟨rfl, hb6⟩
      have HB6 := Lib.hid hb6
      have HFN2 := Lib.hid (HFN.out w6 hb6)
      clear hb6 HAU2 HFN
      go_wp2_with fail
      refine HFN2.out.mono ?_
      rintro e w7 ⟨y, he, hyc, hyo, hb7⟩
      obtain ⟨id2, sec2, pub2, ⟨P3, C3, l3⟩, ⟨P4, C4, l4⟩, ⟨P5, C5, l5⟩⟩ := y
      injection hyc with e1 e2 e3 e4 e5 e6
      dsimp only at e1 e2 e3 e4 e5 e6
      subst e1 e2 e3
      replace he : e = .returned (.tuple #[.agg #[.string ⟨id2.toArray⟩, .string ⟨sec2.toArray⟩, .bool false, .slice P3 l3.length C3, .slice P4 l4.length C4, .slice P5 l5.length C5], .bool true]) := he
      subst he
      obtain ⟨w8, w9, hV⟩ := var_c w7 32 (.string ⟨id2.toArray⟩) (.string ⟨sec2.toArray⟩) (.bool false) (.slice P3 l3.length C3) (.slice P4 l4.length C4) (.slice P5 l5.length C5)
      have hv1 := hV.a
      have hv2 := hV.s
      obtain ⟨s0, s1, s2, s3, s4, s5⟩ := blk6 hV.zero
      obtain ⟨t0, t1, t2, t3, t4, t5⟩ := frz6 hV.zero
      obtain ⟨v0, v1, v2, v3, v4, v5⟩ := blk6 hV.blk
      have HB9 := Lib.hid (bnext HB6.out (bnext hb7 hV.below))
      obtain ⟨wA, hwA⟩ : ∃ wA, w9.alloc (.cells #[.string ⟨#[99, 108, 105, 101, 110, 116, 95, 105, 100]⟩, .string ⟨id.toArray⟩, .string ⟨#[99, 108, 105, 101, 110, 116, 95, 115, 101, 99, 114, 101, 116]⟩, .string ⟨sec2.toArray⟩] 48) = wA := ⟨_, rfl⟩
      have hpr : InPr wA (some ⟨w9.heap.size, 0, none⟩) [(wId, id), (wSec, sec2)] := by rw [← hwA]; exact inpr_two w9 (wId, id) (wSec, sec2) _
      have bA : Below w9.heap.size w9 wA := by rw [← hwA]; exact (Below.refl _ _).alloc (Nat.le_refl _) _
      have HBA := Lib.hid (bnext HB9.out bA)
      have HA4 := Lib.hid (HA3.out wA ⟨w9.heap.size, 0, none⟩ HBA.out hpr)
      clear hyo hb7 hV hpr bA HA3 HFN2 e4 e5 e6
      go_wp2_with (first
        | (go_at_call 17; (with_reducible refine HA4.out.mono ?_); rintro e wB ⟨rfl, hbB⟩; have HBB := Lib.hid (bnext HBA.out hbB); clear hbB))
      go_ret
      exact ⟨rfl, HBW.out _ HBB.out⟩
    | false =>
      have hc : kn = false ∨ cpub = true ∨ csec ≠ sec := by
        cases kn
        · exact Or.inl rfl
        · cases cpub
          · exact Or.inr (Or.inr (by simpa using hgo))
          · exact Or.inr (Or.inl rfl)
      have HAU2 : Hid (Calls Tryz.prog 17 #[.pointer (some ⟨g, 0, none⟩), .string ⟨hd.toArray⟩, .slice none 0 0] w5 fun e w' => e = .returned (.tuple #[.string ⟨#[]⟩, .int .i64 2]) ∧ Below w5.heap.size w5 w') := Lib.hid (by
        have h := HAU.out
        rw [if_pos hc] at h
        exact h)
      have hse : kn = true → cpub = false → (csec == sec) = false := fun h1 h2 => by subst h1; subst h2; simpa using hgo
      clear hgo HAU HA2 hc
      go_wp2_with fail
      refine HAU2.out.mono ?_
      rintro e w6 ⟨rfl, hb6⟩
      have HB6 := Lib.hid hb6
      have HFN2 := Lib.hid (HFN.out w6 hb6)
      clear hb6 HAU2 HFN
      go_wp2_with fail
      refine HFN2.out.mono ?_
      rintro e w7 ⟨y, he, hyc, hyo, hb7⟩
      obtain ⟨id2, sec2, pub2, ⟨P3, C3, l3⟩, ⟨P4, C4, l4⟩, ⟨P5, C5, l5⟩⟩ := y
      injection hyc with e1 e2 e3 e4 e5 e6
      dsimp only at e1 e2 e3 e4 e5 e6
      subst e1 e2 e3
      replace he : e = .returned (.tuple #[.agg #[.string ⟨id2.toArray⟩, .string ⟨sec2.toArray⟩, .bool pub2, .slice P3 l3.length C3, .slice P4 l4.length C4, .slice P5 l5.length C5], .bool kn]) := he
      subst he
      obtain ⟨w8, w9, hV⟩ := var_c w7 32 (.string ⟨id2.toArray⟩) (.string ⟨sec2.toArray⟩) (.bool pub2) (.slice P3 l3.length C3) (.slice P4 l4.length C4) (.slice P5 l5.length C5)
      have hv1 := hV.a
      have hv2 := hV.s
      obtain ⟨s0, s1, s2, s3, s4, s5⟩ := blk6 hV.zero
      obtain ⟨t0, t1, t2, t3, t4, t5⟩ := frz6 hV.zero
      obtain ⟨v0, v1, v2, v3, v4, v5⟩ := blk6 hV.blk
      have HB9 := Lib.hid (bnext HB6.out (bnext hb7 hV.below))
      clear hyo hb7 hV HFN2 e4 e5 e6
      cases kn with
      | false =>
        clear hse
        go_wp2_with fail
        go_ret
        exact ⟨rfl, HBW.out _ HB9.out⟩
      | true =>
        cases pub2 with
        | true =>
          clear hse
          go_wp2_with fail
          go_ret
          exact ⟨rfl, HBW.out _ HB9.out⟩
        | false =>
          have b0 := hse rfl rfl
          clear hse
          go_wp2_with fail
          go_ret
          exact ⟨rfl, HBW.out _ HB9.out⟩
theorem g_headers (P : Option Addr) (C : Nat) (xs : List Cm) (s u : ByteArray) (w : World) (hp : InC w P xs) (hc : xs.length ≤ C) (hg : ∀ x ∈ xs, GoodC w x) (hs : s.size + u.size ≤ 1048576) (_ : u.size ≤ 1048576) :
    Calls Tryz.prog 5 #[.slice P xs.length C, .string s, .string u] w fun e w' => e = .returned (.bool true) ∧ Below w.heap.size w w' := by
  have h := law_headers P C xs s.data.toList u.data.toList w ⟨hp, hc, hg⟩ (by rw [Array.length_toList, Array.length_toList]; exact hs)
  rw [s_of, s_of] at h
  exact h
end Go.Proofs.YteihjgakhkpgnaaGreatDoor.rol
