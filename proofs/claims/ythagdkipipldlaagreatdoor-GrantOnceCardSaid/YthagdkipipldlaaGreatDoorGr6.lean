/- The developers' cloned; slices.Clone over issued tokens and over ints, slices.Sort over an own row; an element of an own row is turned; families that are handed in (GoodF). No condition beyond what slices and texts are. -/
import Derived.Test.YthagdkipipldlaaGreatDoorGr5b
import Derived.Test.YthagdkipipldlaaGreatDoorGscq
namespace Go.Proofs.YthagdkipipldlaaGreatDoor.gra
open Go.RowKit
open Go.Proofs.YthagdkipipldlaaGreatDoor.oct Go.Proofs.YthagdkipipldlaaGreatDoor.ref Go.Proofs.YthagdkipipldlaaGreatDoor.rows Go.Proofs.YthagdkipipldlaaGreatDoor.rowg Go.Proofs.YthagdkipipldlaaGreatDoor.mpt Go.Proofs.YthagdkipipldlaaGreatDoor.trn Go.Proofs.YthagdkipipldlaaGreatDoor.krd
open Go.Proofs.YthagdkipipldlaaGreatDoor.scp (tx senc senc_len senc_one InS ins_below ins_cell ins_one lt Lst lval lenc GoodL FitS RowA own_good infoStr)

set_option maxRecDepth 100000 in
set_option maxHeartbeats 8000000 in
theorem cloned_r (x : Lst) (w : World) (hx : LL w x) (hf : x.2.2.length ≤ 4194304) :
    Calls Tryz.prog 71 #[lval x] w fun e w' => RowA w w' x.2.2 e := by
  obtain ⟨P, C, l⟩ := x
  show Calls _ _ #[.slice P l.length C] w fun e w' => RowA w w' l e
  have hfl : l.length ≤ 4194304 := hf
  have HP : Hid (InS w P l) := Lib.hid hx.row
  have HFT : Hid (FitS l) := Lib.hid hx.fit
  obtain ⟨i0, hi0, hz0, hz1, hz2⟩ := info_parts infoStr
  obtain ⟨n, hn⟩ : ∃ n, l.length = n := ⟨_, rfl⟩
  rw [hn] at hfl ⊢
  have HN := Lib.hid hn
  clear hx hf hn
  go_enter Tryz.func71, Tryz.ntmps71
  go_wp2_with fail
  go_loopg [3, 8] n (fun g s3 s8 wx => ∃ k : Nat, k + g = n ∧ s8 = .int .i64 k ∧ Hid (wx.ownsRow w.heap.size 9 1 s3 k (cells senc (l.take k))) ∧ Hid (Below w.heap.size w wx))
  case atStart => exact ⟨0, by omega, rfl, World.ownsRow_nil _ _ _ _, Lib.hid (Below.refl _ _)⟩
  case round =>
    obtain ⟨k, hkg, rfl, HOW, HBX⟩ := hrel
    rcases gk with _ | g
    · obtain rfl : k = n := by omega
      have HR := HOW.out
      rw [← HN.out, List.take_length] at HR
      have HO := Lib.hid HR
      obtain ⟨p, co, hv, hco, hno, hin⟩ := own_g senc_len (by decide) HR
      subst hv
      clear hin HR HOW
      go_wp2_with fail
      go_ret
      exact ⟨_, rfl, HO.out, HBX.out⟩
    · have hk : k < l.length := by rw [HN.out]; omega
      have hkI : (k : Int) < (n : Int) := by omega
      obtain ⟨b, o, hP, c0⟩ := ins_cell (ins_below HP.out HBX.out) k hk
      have htk : (l.take k).length = k := by rw [List.length_take]; omega
      have HT := Lib.hid (List.take_succ_eq_append_getElem hk)
      have hfit := HFT.out _ (List.getElem_mem hk)
      obtain ⟨x, hx⟩ : ∃ x, l[k] = x := ⟨_, rfl⟩
      rw [hx] at c0 HT hfit
      have HCL := Lib.hid (fun W => scp.clone_c ⟨x.toArray⟩ W (by rw [size_mk]; omega))
      subst hP
      have HOW2 : Hid (wr.ownsRow w.heap.size 9 1 u3 k (cells senc (l.take k))) := HOW
      clear hx hfit hk htk HOW
      go_wp2_with (first
        | (go_at_call 43; (with_reducible refine (HCL.out _).mono ?_); rintro e w2 ⟨rfl, hb2⟩; have HB2 := Lib.hid (bnext HBX.out hb2); have HO2 := Lib.hid (own_belowG HOW2.out hb2); clear hb2)
        | (at_builtin; refine wpList_append_g senc_len (by decide) senc_one rfl (.tmp 12) (.tmp 15) 35 9 rfl Tryz.underlying35 hi0 hz0 hz1 hz2 rfl w.heap.size _ k _ rfl (HO2.out.alloc _) (some ⟨w2.heap.size, 0, none⟩) 1 1 [x] rfl (ins_one w2 x _) rfl (fun h => by cases h) (by unfold maxLen; omega) (by omega) (by have := HB2.out.size; simp; omega) ?_; intro v3 w3 hown3 hgrow3; have hb3 := (HB2.out.alloc HB2.out.size _).grown hgrow3 (by have := HB2.out.size; simp; omega) (fun k hk => (HO2.out.lt k hk).1); have HO3 := Lib.hid hown3; have HB3 := Lib.hid hb3; clear hown3 hgrow3 hb3))
      go_roundg g
      case measure => omega
      case rel =>
        refine ⟨k + 1, by omega, by go_num, ?_, HB3⟩
        show w3.ownsRow _ _ _ _ _ _
        rw [HT.out, cells_append]
        exact HO3.out
theorem cloned_c (x : Lst) (w : World) (hx : LL w x) (hf : x.2.2.length ≤ 4194304) :
    Calls Tryz.prog 71 #[lval x] w fun e w' => ∃ p c, e = .returned (.slice p x.2.2.length c) ∧ w'.ownsRow w.heap.size 9 1 (.slice p x.2.2.length c) x.2.2.length (cells senc x.2.2) ∧ GoodL w' (p, c, x.2.2) ∧ Below w.heap.size w w' := (cloned_r x w hx hf).mono fun e w' ⟨v, h1, h2, h3⟩ => by
  obtain ⟨p, c, rfl, h5⟩ := own_good h2 hx.fit hf
  exact ⟨p, c, h1, h2, h5, h3⟩
open Go.RowKit Go.Sort Go.Shelf in
/-- slices.Sort over an own row of texts -/
theorem sort_own {W : World} {B n : Nat} {v : Value} {ss : List (List UInt8)} (h : W.ownsRow B 9 1 v n (ss.map encStr)) (hn : n < 4611686018427387904) :
    Calls Tryz.prog 70 #[v] W fun e w' => e = .returned (.tuple #[]) ∧ w'.ownsRow B 9 1 v n ((ss.mergeSort fun x y => decide (x ≤ y)).map encStr) ∧ W.grownBy w' v.ownBlock := by
  have hlen : ss.length = n := by have := h.1; simpa using this
  rcases h.2 with ⟨rfl, hz⟩ | ⟨gb, cap, cur, rfl, hbase, hgb, r1, r2, r3, r4⟩
  · obtain rfl : ss = [] := List.eq_nil_of_length_eq_zero (by omega)
    subst hz
    refine (Go.Proofs.AnyM.slices_Sort_string_none sh.laysSort none 0 W).mono ?_
    rintro e w' ⟨rfl, rfl⟩
    exact ⟨rfl, by simpa using h, World.grownBy.refl _ _⟩
  · subst hlen
    have hH : Holds encStr W gb 0 ss.toArray := holds_of_block hgb (by simpa using r4)
    have hgl : gb < W.heap.size := (Array.getElem?_eq_some_iff.1 hgb).1
    refine (Go.Proofs.AnyM.slices_Sort_string sh.laysSort gb 0 cap ss W hH hgl hn).mono ?_
    rintro e w' ⟨rfl, nn, os, rfl⟩
    exact ⟨rfl, ownsRow_sorted (by simp) hbase hgb r1 r2 r3, grownBy_sorted _⟩

/-- an element of a row of the call's own is turned: one of its cells -/
theorem own_setG {α : Type} {enc : α → List Value} {k : Nat} (hk : ∀ a, (enc a).length = k) {w : World} {B e cap : Nat} {b : Nat} {l : List α} (h : w.ownsRow B e k (.slice (some ⟨b, 0, none⟩) l.length cap) l.length (cells enc l)) (i j : Nat) (hi : i < l.length) (hj : j < k) (y : α) (u : Value) (hy : enc y = (enc l[i]).set j u) :
    (w.setCell ⟨b, i * k + j, none⟩ u).ownsRow B e k (.slice (some ⟨b, 0, none⟩) l.length cap) l.length (cells enc (l.set i y)) := by
  rcases h.2 with ⟨h1, _⟩ | ⟨g2, cap2, cur, h1, h2, h3, h4, h5, h6, h7⟩
  · injection h1 with h1; cases h1
  · injection h1 with h1 _ h1c
    injection h1 with h1
    injection h1 with h1
    subst h1
    subst h1c
    have hc : (cells enc l).set (i * k + j) u = cells enc (l.set i y) := by
      clear h h2 h3 h4 h5 h6 h7
      induction l generalizing i with
      | nil => simp at hi
      | cons a r ih =>
        have e1 : cells enc (a :: r) = enc a ++ cells enc r := rfl
        cases i with
        | zero =>
          rw [e1, Nat.zero_mul, Nat.zero_add, List.set_append_left _ _ (by rw [hk]; exact hj)]
          show _ = enc y ++ cells enc r
          rw [hy]; rfl
        | succ i =>
          rw [e1, List.set_append_right _ _ (by rw [hk, Nat.succ_mul]; omega), hk, show (i + 1) * k + j - k = i * k + j by rw [Nat.succ_mul]; omega]
          show _ = enc a ++ cells enc (r.set i y)
          rw [ih i (by simpa using hi) hy rfl]
    refine ⟨by rw [cells_len hk, List.length_set], Or.inr ⟨b, cap, cur.set! (i * k + j) u, rfl, h2, ?_, h4, h5, by simpa using h6, ?_⟩⟩
    · simp [World.setCell, Array.getElem?_modify, h3]
    · rw [show (cur.set! (i * k + j) u).toList = cur.toList.set (i * k + j) u by simp, List.take_set, h7, hc]
theorem own_frozen {w : World} {B e k n b cap : Nat} {xs : List Value} (h : w.ownsRow B e k (.slice (some ⟨b, 0, none⟩) n cap) n xs) (i : Nat) (hi : i < n * k) : w.frozen? ⟨b, i, none⟩ = false ∧ ∃ v, xs[i]? = some v ∧ w.cell? ⟨b, i, none⟩ = some v := by
  rcases h.2 with ⟨h1, _⟩ | ⟨g2, cap2, cur, h1, h2, h3, h4, h5, h6, h7⟩
  · injection h1 with h1; cases h1
  · injection h1 with h1 _ h1c
    injection h1 with h1
    injection h1 with h1
    subst h1
    subst h1c
    refine ⟨by simp [World.frozen?, h3], ?_⟩
    have hx : i < xs.length := by rw [h.1]; exact hi
    refine ⟨xs[i], List.getElem?_eq_getElem hx, ?_⟩
    rw [cell_of_row w b i cur e (0, 0) h3]
    have h8 : (cur.toList.take (n * k))[i]? = xs[i]? := by rw [h7]
    rw [List.getElem?_take, if_pos hi, List.getElem?_eq_getElem hx] at h8
    simpa using h8
/-- a family that is handed in -/
structure GoodF (w : World) (x : DF) : Prop where
  id : x.id.length ≤ 140737488351232
  cl : x.cl.length ≤ 140737488351232
  us : x.us.length ≤ 140737488351232
  re : x.re.length ≤ 140737488351232
  ch : x.ch.length ≤ 140737488351232
  me : x.me.length ≤ 140737488351232
  sc : GoodL w x.sc
  tk : InG ienc 3 w x.tp x.tk
  tc : x.tk.length ≤ x.tc
  tn : x.tp = none → x.tc = 0
  tl : x.tk.length ≤ 4194304
  ts : ∀ t ∈ x.tk, GoodL w t.sc
  le : InG nenc 1 w x.lp x.le
  lc : x.le.length ≤ x.lc
  ln : x.lp = none → x.lc = 0
  ll : x.le.length ≤ 4194304
theorem GoodF.below {w w' : World} {x : DF} (h : GoodF w x) (hb : Below w.heap.size w w') : GoodF w' x :=
  ⟨h.id, h.cl, h.us, h.re, h.ch, h.me, h.sc.below hb, h.tk.below ienc_len (by decide) hb, h.tc, h.tn, h.tl, fun t m => (h.ts t m).below hb, h.le.below nenc_len (by decide) hb, h.lc, h.ln, h.ll⟩
theorem infoIss : (Tryz.prog.info? 50).map (fun i => (i.zero, i.size, i.bytes)) = some (some (.agg #[.int .i64 0, .slice none 0 0, .bool false]), 3, 40) := by kernel_rfl
theorem infoNum : (Tryz.prog.info? 3).map (fun i => (i.zero, i.size, i.bytes)) = some (some (.int .i64 0), 1, 8) := by kernel_rfl
/-- a row of the call's own, as the slice that it is -/
def RowG {α : Type} (enc : α → List Value) (e k : Nat) (w w' : World) (l : List α) (n : Ending) : Prop := ∃ p c, n = .returned (.slice p l.length c) ∧ w'.ownsRow w.heap.size e k (.slice p l.length c) l.length (cells enc l) ∧ Below w.heap.size w w'
set_option maxRecDepth 100000 in
set_option maxHeartbeats 4000000 in
theorem iclone_c (p : Option Addr) (c : Nat) (l : List IM) (w : World) (hp : InG ienc 3 w p l) (hn : p = none → c = 0) (hl : l.length ≤ 4194304) :
    Calls Tryz.prog 72 #[.slice p l.length c] w fun e w' => RowG ienc 50 3 w w' l e := by
  rcases p with _ | ad
  · obtain rfl := ing_nil hp
    obtain rfl := hn rfl
    have heq : ∀ w : World, (binOp .eql 38 (.slice none 0 0) (.slice none 0 0)).run Tryz.prog w = .ok (.bool true) w := fun w => by kernel_rfl
    clear hp hn
    go_enter Tryz.func72, Tryz.ntmps72
    go_wp2_with fail
    go_ret
    exact ⟨none, 0, rfl, World.ownsRow_nil _ _ _ _, Below.refl _ _⟩
  · have H8 := Lib.hid hp
    have heq : ∀ w : World, (binOp .eql 38 (.slice (some ad) l.length c) (.slice none 0 0)).run Tryz.prog w = .ok (.bool false) w := fun w => Lib.run_eql_slice_nil w 38 50 _ _ _ 0 0 Tryz.underlying38
    have hb0 : Below w.heap.size w (w.alloc (.cells #[] 50)) := (Below.refl _ w).alloc (Nat.le_refl _) _
    have HB0 := Lib.hid hb0
    obtain ⟨i0, hi0, hz0, hz1, hz2⟩ := info_parts infoIss
    clear hp hb0 hn
    go_enter Tryz.func72, Tryz.ntmps72
    go_wp2_with (at_builtin; refine wpList_append_g ienc_len (by decide) ienc_one rfl (.tmp 5) (.tmp 6) 38 50 rfl Tryz.underlying38 hi0 hz0 hz1 hz2 rfl w.heap.size _ 0 (cells ienc []) rfl (own_emptyG (enc := ienc) w 50) (some ad) l.length c l rfl (H8.out.below ienc_len (by decide) HB0.out) rfl (fun h => by cases h) (by unfold maxLen; omega) (by omega) HB0.out.size ?_; intro v1 w1 hown hgr; have hb1 := HB0.out.grown hgr HB0.out.size (fun k hk => by cases hk; exact Nat.le_refl _); have HO := Lib.hid hown; have HB := Lib.hid hb1; clear hown hgr hb1)
    go_ret
    have h := HO.out
    rw [Nat.zero_add, show ∀ X : List Value, cells ienc [] ++ X = X from fun _ => rfl] at h
    obtain ⟨p, co, hv, hco, hno, hin⟩ := own_g ienc_len (by decide) h
    rw [hv] at h ⊢
    exact ⟨p, co, rfl, h, HB.out⟩
set_option maxRecDepth 100000 in
set_option maxHeartbeats 4000000 in
theorem nclone_c (p : Option Addr) (c : Nat) (l : List Int) (w : World) (hp : InG nenc 1 w p l) (hn : p = none → c = 0) (hl : l.length ≤ 4194304) :
    Calls Tryz.prog 73 #[.slice p l.length c] w fun e w' => RowG nenc 3 1 w w' l e := by
  rcases p with _ | ad
  · obtain rfl := ing_nil hp
    obtain rfl := hn rfl
    have heq : ∀ w : World, (binOp .eql 39 (.slice none 0 0) (.slice none 0 0)).run Tryz.prog w = .ok (.bool true) w := fun w => by kernel_rfl
    clear hp hn
    go_enter Tryz.func73, Tryz.ntmps73
    go_wp2_with fail
    go_ret
    exact ⟨none, 0, rfl, World.ownsRow_nil _ _ _ _, Below.refl _ _⟩
  · have H8 := Lib.hid hp
    have heq : ∀ w : World, (binOp .eql 39 (.slice (some ad) l.length c) (.slice none 0 0)).run Tryz.prog w = .ok (.bool false) w := fun w => Lib.run_eql_slice_nil w 39 3 _ _ _ 0 0 Tryz.underlying39
    have hb0 : Below w.heap.size w (w.alloc (.cells #[] 3)) := (Below.refl _ w).alloc (Nat.le_refl _) _
    have HB0 := Lib.hid hb0
    obtain ⟨i0, hi0, hz0, hz1, hz2⟩ := info_parts infoNum
    clear hp hb0 hn
    go_enter Tryz.func73, Tryz.ntmps73
    go_wp2_with (at_builtin; refine wpList_append_g nenc_len (by decide) nenc_one rfl (.tmp 5) (.tmp 6) 39 3 rfl Tryz.underlying39 hi0 hz0 hz1 hz2 rfl w.heap.size _ 0 (cells nenc []) rfl (own_emptyG (enc := nenc) w 3) (some ad) l.length c l rfl (H8.out.below nenc_len (by decide) HB0.out) rfl (fun h => by cases h) (by unfold maxLen; omega) (by omega) HB0.out.size ?_; intro v1 w1 hown hgr; have hb1 := HB0.out.grown hgr HB0.out.size (fun k hk => by cases hk; exact Nat.le_refl _); have HO := Lib.hid hown; have HB := Lib.hid hb1; clear hown hgr hb1)
    go_ret
    have h := HO.out
    rw [Nat.zero_add, show ∀ X : List Value, cells nenc [] ++ X = X from fun _ => rfl] at h
    obtain ⟨p, co, hv, hco, hno, hin⟩ := own_g nenc_len (by decide) h
    rw [hv] at h ⊢
    exact ⟨p, co, rfl, h, HB.out⟩
end Go.Proofs.YthagdkipipldlaaGreatDoor.gra
