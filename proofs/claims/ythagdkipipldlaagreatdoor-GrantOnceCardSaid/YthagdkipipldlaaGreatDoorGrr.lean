/- The developers' Pending; a book within a law (LW). No condition beside the package's tables. -/
import Derived.Test.YthagdkipipldlaaGreatDoorGrq
namespace Go.Proofs.YthagdkipipldlaaGreatDoor.gra
open Go.RowKit
open Go.Proofs.YthagdkipipldlaaGreatDoor.oct Go.Proofs.YthagdkipipldlaaGreatDoor.ref Go.Proofs.YthagdkipipldlaaGreatDoor.rows Go.Proofs.YthagdkipipldlaaGreatDoor.rowg Go.Proofs.YthagdkipipldlaaGreatDoor.mpt Go.Proofs.YthagdkipipldlaaGreatDoor.trn Go.Proofs.YthagdkipipldlaaGreatDoor.krd
open Go.Proofs.YthagdkipipldlaaGreatDoor.sha (Tabs)
open Go.Proofs.YthagdkipipldlaaGreatDoor.scp (tx senc senc_len senc_one InS ins_below ins_cell ins_one lt Lst lval lenc GoodL FitS RowA own_good infoStr clone_c key_txt skeyed)

/-- the Ids of the families that are revoked -/
def pendG (l : List FT) : List T := (l.filter (·.rev)).map (·.id)
theorem pend_take {fl : List DF} {k : Nat} (hk : k < fl.length) : ((fl.take (k + 1)).filter (·.rev)).map kid = ((fl.take k).filter (·.rev)).map kid ++ (if fl[k].rev then [fl[k].id] else []) := by
  rw [List.take_succ_eq_append_getElem hk, List.filter_append, List.map_append]
  cases h : fl[k].rev with
  | true => simp [h]
  | false => simp [h]
theorem pend_f (fl : List DF) : (fl.filter (·.rev)).map kid = pendG (fl.map DF.f) := by
  unfold pendG
  rw [List.filter_map, List.map_map]
  rfl
set_option maxRecDepth 100000 in
set_option maxHeartbeats 16000000 in
theorem pending_c {w : World} {R : Nat → Prop} {g m room : Nat} {D : DataW Nat} {fl : List DF} (h : BM w R g m D fl room) :
    Calls Tryz.prog 19 #[dptr g] w fun e w' => RowA w w' (pendG (fl.map DF.f)) e := by
  rw [← pend_f]
  have HID := Lib.hid (ids_c h)
  have HM := Lib.hid h
  have hlen : fl.length ≤ 256 := Nat.le_trans h.few h.most
  obtain ⟨i0, hi0, hz0, hz1, hz2⟩ := info_parts infoStr
  obtain ⟨n, hn⟩ : ∃ n, fl.length = n := ⟨_, rfl⟩
  rw [hn] at hlen
  have HN := Lib.hid hn
  have HFIT : Hid (∀ x ∈ fl, x.id.length ≤ 32) := fun x hx => by
    have hi := (h.right x hx).id
    unfold idB at hi
    simp only [Bool.and_eq_true, decide_eq_true_eq] at hi
    exact hi.1.2
  clear h hn
  go_enter Tryz.func19, Tryz.ntmps19
  go_wp2_with fail
  refine HID.out.mono ?_
  rintro e w1 ⟨v, rfl, ho1, hb1⟩
  obtain ⟨p1, c1, hv, hc1, hn1, hin1⟩ := own_g senc_len (by decide) (show w1.ownsRow _ _ 1 v (fl.map kid).length _ from ho1)
  subst hv
  rw [show (fl.map kid).length = n by rw [List.length_map]; exact HN.out] at *
  have HIN : Hid (InS w1 p1 (fl.map kid)) := Lib.hid hin1
  have HB1 := Lib.hid hb1
  clear ho1 hc1 hn1 hin1 hb1
  go_wp2_with fail
  go_loopg [3, 5, 9] n (fun gg s3 _ s9 wx => ∃ (k j : Nat) (L : List T), k + gg = n ∧ s9 = .int .i64 k ∧ Hid (L = ((fl.take k).filter (·.rev)).map kid ∧ L.length = j ∧ j ≤ k) ∧ Hid (wx.ownsRow w1.heap.size 9 1 s3 j (cells senc L)) ∧ Hid (Below w1.heap.size w1 wx))
  case atStart => exact ⟨0, 0, [], by omega, rfl, ⟨rfl, rfl, Nat.le_refl _⟩, World.ownsRow_nil _ _ _ _, Below.refl _ _⟩
  case round =>
    obtain ⟨k, j, L, hkg, rfl, HL, HOW, HBX⟩ := hrel
    rcases gk with _ | gg
    · obtain rfl : n = k := by omega
      have HR := HOW.out
      have hL := HL.out.1
      rw [show fl.take n = fl from List.take_of_length_le (by rw [HN.out]; exact Nat.le_refl _)] at hL
      have HO : Hid (RowA w wr ((fl.filter (·.rev)).map kid) (.returned u3)) := ⟨u3, rfl, by rw [← hL, HL.out.2.1]; exact own_baseR HR HB1.out.size, bnext HB1.out HBX.out⟩
      clear hL HR
      go_wp2_with fail
      go_ret
      exact HO.out
    · have hk : k < fl.length := by rw [HN.out]; omega
      have hkI : (k : Int) < (n : Int) := by omega
      obtain ⟨b, o, hP, c0⟩ := ins_cell (ins_below HIN.out HBX.out) k (by rw [List.length_map]; exact hk)
      have hxm : fl[k] ∈ fl := List.getElem_mem hk
      have hfit := HFIT.out _ hxm
      have HOF := Lib.hid (of_c (HM.out.below (bnext HB1.out HBX.out)) fl[k].id (by omega))
      have hgk : getD fl fl[k].id = some fl[k] := getK_mem kid HM.out.srt hxm
      rw [hgk] at HOF
      have c9 := (cellsF ((HM.out.below (bnext HB1.out HBX.out)).fams _ hxm).blk).c9
      have HPT := Lib.hid (pend_take hk)
      rw [show (fl.map kid)[k]'(by rw [List.length_map]; exact hk) = fl[k].id from List.getElem_map ..] at c0
      obtain ⟨x, hx⟩ : ∃ x, fl[k] = x := ⟨_, rfl⟩
      rw [hx] at c0 HOF c9 HPT hfit
      unfold optr at HOF
      dsimp only at HOF
      subst hP
      have HCL := Lib.hid (fun W => clone_c ⟨x.id.toArray⟩ W (by rw [size_mk]; omega))
      obtain ⟨y, hy⟩ : ∃ y : T, x.id = y := ⟨_, rfl⟩
      obtain ⟨xg, hxg⟩ : ∃ xg, x.g = xg := ⟨_, rfl⟩
      obtain ⟨xr, hxr⟩ : ∃ xr, x.rev = xr := ⟨_, rfl⟩
      rw [hy] at c0 HOF HPT HCL
      rw [hxg] at HOF c9
      rw [hxr] at c9 HPT
      have hj : j ≤ 256 := by have := HL.out.2.2; omega
      clear hx hxm hgk hfit hk hy hxg hxr
      cases xr with
      | false =>
        go_wp2_with (first
          | (go_at_call 42; (with_reducible refine HOF.out.mono ?_); rintro e w2 ⟨rfl, hw2⟩; obtain rfl : wr = w2 := hw2.symm)
          | fail)
        go_roundg gg
        case measure => omega
        case rel => exact ⟨k + 1, j, L, by omega, by go_num, ⟨by rw [HPT.out, HL.out.1]; simp, HL.out.2.1, Nat.le_succ_of_le HL.out.2.2⟩, HOW, HBX⟩
      | true =>
        go_wp2_with (first
          | (go_at_call 42; (with_reducible refine HOF.out.mono ?_); rintro e w2 ⟨rfl, hw2⟩; obtain rfl : wr = w2 := hw2.symm)
          | (go_at_call 43; (with_reducible refine (HCL.out _).mono ?_); rintro e w3 ⟨rfl, hb3⟩; have HB3 := Lib.hid (bnext HBX.out hb3); have HO3 := Lib.hid (own_belowG HOW.out hb3); clear hb3)
          | (at_builtin; refine wpList_append_g senc_len (by decide) senc_one rfl (.tmp 20) (.tmp 23) 35 9 rfl Tryz.underlying35 hi0 hz0 hz1 hz2 rfl w1.heap.size _ j _ rfl (HO3.out.alloc _) (some ⟨w3.heap.size, 0, none⟩) 1 1 [y] rfl (ins_one w3 y _) rfl (fun h => by cases h) (by unfold maxLen; omega) (by omega) (by have := HB3.out.size; simp; omega) ?_; intro v4 w4 hown hgr; have HO4 := Lib.hid hown; have HB4 := Lib.hid ((HB3.out.alloc HB3.out.size _).grown hgr (by have := HB3.out.size; simp; omega) (fun q hq => (HO3.out.lt q hq).1)); clear hown hgr)
          | fail)
        go_roundg gg
        case measure => omega
        case rel =>
          refine ⟨k + 1, j + 1, L ++ [y], by omega, by go_num, ⟨by rw [HPT.out, HL.out.1]; simp, by rw [List.length_append, HL.out.2.1]; rfl, Nat.succ_le_succ HL.out.2.2⟩, ?_, HB4⟩
          show w4.ownsRow _ _ _ _ _ _
          rw [cells_append]
          exact HO4.out
/-- a book within a law: what it has is new since the law began -/
structure LW (w0 w : World) (R : Nat → Prop) (g room : Nat) (l : List FT) : Prop where
  ba : BA w R g room l
  bel : Below w0.heap.size w0 w
  new : ∀ k, R k → w0.heap.size ≤ k
theorem LW.below {w0 w W : World} {R : Nat → Prop} {g room : Nat} {l : List FT} (h : LW w0 w R g room l) (hb : Below w.heap.size w W) : LW w0 W R g room l := ⟨h.ba.below hb, bnext h.bel hb, h.new⟩
theorem LW.start {w0 w w' : World} {room : Nat} {e : Ending} (hb : Below w0.heap.size w0 w) (h : NewBk w w' room e) : ∃ g R, e = .returned (.tuple #[dptr g, .int .i64 0]) ∧ LW w0 w' R g room [] := by
  obtain ⟨g, R, h1, h2, h3, h4⟩ := h
  exact ⟨g, R, h1, h2, bnext hb h4, fun k hk => Nat.le_trans hb.size (h3 k hk)⟩
/-- what a command comes to within a law -/
def LDo (w0 w w' : World) (R : Nat → Prop) (g room : Nat) (r : List FT × AT) (e : Ending) : Prop := ∃ R' p q, e = .returned (ansv r.2 p q) ∧ w'.ownsRow w.heap.size 9 1 (.slice p r.2.sc.length q) r.2.sc.length (cells senc r.2.sc) ∧ (∀ k, (Value.slice p r.2.sc.length q).ownBlock = some k → ¬ R' k) ∧ LW w0 w' R' g room r.1 ∧ Turn R w w' ∧ Grown R R' w
theorem lw_do {w0 w : World} {R : Nat → Prop} {g room : Nat} {l : List FT} (h : LW w0 w R g room l) (ht : Tabs w0) (x : CM) (hx : GoodC w x) (hsep : ∀ b o z, x.c.sc ≠ [] → x.p = some ⟨b, o, z⟩ → b < w.heap.size → ¬ R b) :
    Calls Tryz.prog 29 #[dptr g, cval x] w fun e w' => LDo w0 w w' R g room (doG room l x.c) e := by
  obtain ⟨m, D, fl, hM, rfl, hall⟩ := h.ba
  refine (do_c hM hall x hx (ht.below h.bel) hsep).mono ?_
  rintro e w' ⟨R', p, q, h1, h2, h3, h4, h5, h6⟩
  refine ⟨R', p, q, h1, h2, h3, ⟨h4, Turn.below h.bel h5 h.new h.bel.size, fun k hk => ?_⟩, h5, h6⟩
  rcases h6 k hk with h7 | h7
  · exact h.new k h7
  · exact Nat.le_trans h.bel.size h7
/-- .. a command that was handed in -/
theorem lw_doIn {w0 w : World} {R : Nat → Prop} {g room : Nat} {l : List FT} (h : LW w0 w R g room l) (ht : Tabs w0) (x : CM) (hx : GoodC w0 x) :
    Calls Tryz.prog 29 #[dptr g, cval x] w fun e w' => LDo w0 w w' R g room (doG room l x.c) e := by
  refine lw_do h ht x (hx.below h.bel) fun b o z hs e _ hR => ?_
  obtain ⟨b2, o2, e2, hc⟩ := hx.sc.row (by show 0 < x.c.sc.length; cases hl : x.c.sc with | nil => exact absurd hl hs | cons _ _ => simp)
  have e3 : x.p = some ⟨b2, o2, none⟩ := e2
  rw [e] at e3
  injection e3 with e3
  injection e3 with e4 _ _
  subst e4
  have h1 := hc 0 (by show 0 < x.c.sc.length; cases hl : x.c.sc with | nil => exact absurd hl hs | cons _ _ => simp) 0 (by decide)
  have h2 : b < w0.heap.size := cell_lt (h1.trans (by rw [List.getElem?_eq_getElem (by rw [senc_len]; decide)]))
  have := h.new b hR
  omega
theorem lw_pending {w0 w : World} {R : Nat → Prop} {g room : Nat} {l : List FT} (h : LW w0 w R g room l) :
    Calls Tryz.prog 19 #[dptr g] w fun e w' => RowA w w' (pendG l) e := by
  obtain ⟨m, D, fl, hM, rfl, hall⟩ := h.ba
  exact pending_c hM
end Go.Proofs.YthagdkipipldlaaGreatDoor.gra
