/- A put is written (put), by WApi. -/
import Derived.Test.YtpffebcaalbhjaaDoorWirApi
namespace Go.Proofs.YtpffebcaalbhjaaDoor.wir
open Go.RowKit
open Go.Proofs.YtpffebcaalbhjaaDoor.oct Go.Proofs.YtpffebcaalbhjaaDoor.ref Go.Proofs.YtpffebcaalbhjaaDoor.rows Go.Proofs.YtpffebcaalbhjaaDoor.rowg
open Go.Lib (byteCells)

theorem WS.put_int (s : WS) (n : Int) (t : T) (l : List T) : s.put ⟨0, n, t, l⟩ = s.put ⟨0, n, [], []⟩ := by cases s <;> rfl
theorem WS.put_text (s : WS) (n : Int) (t : T) (l : List T) : s.put ⟨1, n, t, l⟩ = s.put ⟨1, 0, t, []⟩ := by cases s <;> rfl
theorem WS.put_bool (s : WS) (n : Int) (t : T) (l : List T) (b : Bool) (h : b = decide (n = 1)) : s.put ⟨2, n, t, l⟩ = s.put ⟨2, if b then 1 else 0, [], []⟩ := by
  cases s with
  | nil => rfl
  | ok u c =>
    have e : putB ⟨2, n, t, l⟩ = putB ⟨2, if b then 1 else 0, [], []⟩ := by
      subst h
      by_cases hn : n = 1
      · subst hn; rfl
      · have h1 : putB ⟨2, n, t, l⟩ = [if n = 1 then 1 else 0] := rfl
        have h2 : putB ⟨2, if decide (n = 1) = true then 1 else 0, [], []⟩ = [if (if decide (n = 1) = true then (1 : Int) else 0) = 1 then 1 else 0] := rfl
        rw [h1, h2, if_neg hn, decide_eq_false hn]
        rfl
    show WS.ok (u ++ putB ⟨2, n, t, l⟩) (c || false) = WS.ok (u ++ putB ⟨2, if b then 1 else 0, [], []⟩) (c || false)
    rw [e]
theorem WS.put_count (s : WS) (n : Int) (t : T) (l : List T) : s.put ⟨3, n, t, l⟩ = s.put ⟨3, n, [], []⟩ := by cases s <;> rfl
theorem WS.put_texts (s : WS) (n : Int) (t : T) (l : List T) : s.put ⟨4, n, t, l⟩ = s.put ⟨4, 0, [], l⟩ := by cases s <;> rfl
theorem WS.put_none (s : WS) (x : Put) (h0 : x.k ≠ 0) (h1 : x.k ≠ 1) (h2 : x.k ≠ 2) (h3 : x.k ≠ 3) (h4 : x.k ≠ 4) : s.put x = s := by
  cases s with
  | nil => rfl
  | ok t b =>
    unfold WS.put putB putBad
    simp [h0, h1, h2, h3, h4]
theorem ins_lt {w : World} {p : Option Addr} {l : List T} (h : InS w p l) (hl : 0 < l.length) {g o : Nat} (hp : p = some ⟨g, o, none⟩) : g < w.heap.size := by
  obtain ⟨b, o2, e, hc⟩ := ins_cell h 0 hl
  rw [hp] at e
  injection e with e
  injection e with e1
  subst e1
  exact cell_lt hc
/-- what a call on a writer comes to -/
def WrA {T' : World → Prop} {Cap : Nat → Prop} (X : WApi T' Cap) (B : Nat) (v : Value) (s : WS) (w : World) (e : Ending) (w' : World) : Prop := e = .returned (.tuple #[]) ∧ X.Wr w' B v s ∧ Below B w w'
set_option maxRecDepth 100000 in
set_option maxHeartbeats 4000000 in
theorem put_c {T' : World → Prop} {Cap : Nat → Prop} (X : WApi T' Cap) (B : Nat) (v : Value) (s : WS) (x : PutA) (w0 w : World) (hW : X.Wr w B v s) (hx : GoodP w0 x) (hb : Below w0.heap.size w0 w) (hB : w0.heap.size ≤ B) (hc : Cap (s.put x.put).len) :
    Calls Tryd.prog 27 #[v, .agg (penc x).toArray] w fun e w' => WrA X B v (s.put x.put) w e w' := by
  obtain ⟨k, n, s0, p, c, l⟩ := x
  obtain ⟨pv, rfl⟩ := X.wptr hW
  obtain ⟨hn, hs0, hrow, hnil, hroom, hmany, htexts⟩ := hx
  dsimp only at hn hs0 hrow hnil hroom hmany htexts
  unfold PutA.put at hc ⊢
  unfold penc
  dsimp only at hc ⊢
  have hWB := X.wsize hW
  have HBW := Lib.hid (fun o => (Below.refl B w).alloc hWB o)
  have HK := Lib.hid (fun o => X.wkeep hW ((Below.refl w.heap.size w).alloc (Nat.le_refl _) o))
  by_cases hk : k = 0
  · subst hk
    have HC := Lib.hid (fun wx hx => X.wint B (.pointer pv) s n wx hx hn.1 hn.2 (by rw [← WS.put_int s n s0 l]; exact hc))
    rw [WS.put_int]
    clear hc hW
    go_enter Tryd.func27, Tryd.ntmps27
    go_wp2_with (go_at_call 47; refine (HC.out _ (HK.out _)).mono ?_; rintro e w' ⟨rfl, h1, h2⟩)
    refine bodyPost_ret (results_none rfl _ _ _) rfl ?_
    exact ⟨rfl, h1, (HBW.out _).trans h2⟩
  · have i0 : (k == 0) = false := by rw [beq_eq_false_iff_ne]; exact hk
    have N0 := Lib.hid hk
    clear hk
    by_cases hk : k = 1
    · subst hk
      have HC := Lib.hid (fun wx hx => X.wtext B (.pointer pv) s s0 wx hx hs0 (by rw [← WS.put_text s n s0 l]; exact hc))
      rw [WS.put_text]
      unfold tx8 at HC
      clear hc hW
      go_enter Tryd.func27, Tryd.ntmps27
      go_wp2_with (go_at_call 48; refine (HC.out _ (HK.out _)).mono ?_; rintro e w' ⟨rfl, h1, h2⟩)
      refine bodyPost_ret (results_none rfl _ _ _) rfl ?_
      exact ⟨rfl, h1, (HBW.out _).trans h2⟩
    · have i1 : (k == 1) = false := by rw [beq_eq_false_iff_ne]; exact hk
      have N1 := Lib.hid hk
      clear hk
      by_cases hk : k = 2
      · subst hk
        have HC := Lib.hid (fun wx hx => X.wbool B (.pointer pv) s (n == 1) wx hx (by rw [← WS.put_bool s n s0 l (n == 1) (by rw [Bool.eq_iff_iff, beq_iff_eq, decide_eq_true_iff])]; exact hc))
        rw [WS.put_bool s n s0 l (n == 1) (by rw [Bool.eq_iff_iff, beq_iff_eq, decide_eq_true_iff])]
        obtain ⟨S2, hS2⟩ : ∃ S2, s.put ⟨2, if (n == 1) = true then 1 else 0, [], []⟩ = S2 := ⟨_, rfl⟩
        rw [hS2] at HC ⊢
        clear hS2
        clear hc hW
        go_enter Tryd.func27, Tryd.ntmps27
        go_wp2_with (go_at_call 49; refine (HC.out _ (HK.out _)).mono ?_; rintro e w' ⟨rfl, h1, h2⟩)
        refine bodyPost_ret (results_none rfl _ _ _) rfl ?_
        exact ⟨rfl, h1, (HBW.out _).trans h2⟩
      · have i2 : (k == 2) = false := by rw [beq_eq_false_iff_ne]; exact hk
        have N2 := Lib.hid hk
        clear hk
        by_cases hk : k = 3
        · subst hk
          have HC := Lib.hid (fun wx hx => X.wcount B (.pointer pv) s n wx hx hn.1 hn.2 (by rw [← WS.put_count s n s0 l]; exact hc))
          rw [WS.put_count]
          clear hc hW
          go_enter Tryd.func27, Tryd.ntmps27
          go_wp2_with (go_at_call 50; refine (HC.out _ (HK.out _)).mono ?_; rintro e w' ⟨rfl, h1, h2⟩)
          refine bodyPost_ret (results_none rfl _ _ _) rfl ?_
          exact ⟨rfl, h1, (HBW.out _).trans h2⟩
        · have i3 : (k == 3) = false := by rw [beq_eq_false_iff_ne]; exact hk
          have N3 := Lib.hid hk
          clear hk
          by_cases hk : k = 4
          · subst hk
            have HC := Lib.hid (fun wx (hx : X.Wr wx B (.pointer pv) s) (hbx : Below w0.heap.size w0 wx) => X.wtexts B (.pointer pv) s p c l wx hx (InG.below senc_len (by decide) hrow hbx) hnil hroom hmany htexts (by rw [← WS.put_texts s n s0 l]; exact hc) (fun hl g o hp => Nat.lt_of_lt_of_le (ins_lt hrow hl hp) hB))
            rw [WS.put_texts]
            clear hc hW
            go_enter Tryd.func27, Tryd.ntmps27
            go_wp2_with (go_at_call 51; refine (HC.out _ (HK.out _) (hb.alloc hb.size _)).mono ?_; rintro e w' ⟨rfl, h1, h2⟩)
            refine bodyPost_ret (results_none rfl _ _ _) rfl ?_
            exact ⟨rfl, h1, (HBW.out _).trans h2⟩
          · have i4 : (k == 4) = false := by rw [beq_eq_false_iff_ne]; exact hk
            rw [WS.put_none s ⟨k, n, s0, l⟩ N0.out N1.out N2.out N3.out hk]
            clear hk hc hW
            go_enter Tryd.func27, Tryd.ntmps27
            go_wp2_with fail
            refine bodyPost_ret (results_none rfl _ _ _) rfl ?_
            exact ⟨rfl, HK.out _, HBW.out _⟩
end Go.Proofs.YtpffebcaalbhjaaDoor.wir
