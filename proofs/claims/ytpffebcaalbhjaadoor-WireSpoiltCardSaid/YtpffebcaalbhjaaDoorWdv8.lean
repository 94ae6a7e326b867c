/- The landed code of wire keeps what the laws ask of it (the_wapi): at every length. Nil writers. -/
import Derived.Test.YtpffebcaalbhjaaDoorWdv3
import Derived.Test.YtpffebcaalbhjaaDoorWdv6
import Derived.Test.YtpffebcaalbhjaaDoorWdv7
namespace Go.Proofs.YtpffebcaalbhjaaDoor.wir
open Go.RowKit
open Go.Proofs.YtpffebcaalbhjaaDoor.oct Go.Proofs.YtpffebcaalbhjaaDoor.ref Go.Proofs.YtpffebcaalbhjaaDoor.rows Go.Proofs.YtpffebcaalbhjaaDoor.rowg Go.Proofs.YtpffebcaalbhjaaDoor.crc
open Go.Lib (byteCells)

theorem nint_c (n : Int) (w : World) : Calls Tryd.prog 47 #[.pointer none, .int .i64 n] w fun e w' => e = .returned (.tuple #[]) ∧ w = w' := by
  go_enter Tryd.func47, Tryd.ntmps47
  go_wp2_with fail
  go_end0
  exact ⟨rfl, rfl⟩
theorem ntext_c (s : T) (w : World) : Calls Tryd.prog 48 #[.pointer none, .string ⟨s.toArray⟩] w fun e w' => e = .returned (.tuple #[]) ∧ w = w' := by
  go_enter Tryd.func48, Tryd.ntmps48
  go_wp2_with fail
  go_end0
  exact ⟨rfl, rfl⟩
theorem ncount_c (n : Int) (w : World) : Calls Tryd.prog 50 #[.pointer none, .int .i64 n] w fun e w' => e = .returned (.tuple #[]) ∧ w = w' := by
  go_enter Tryd.func50, Tryd.ntmps50
  go_wp2_with fail
  go_end0
  exact ⟨rfl, rfl⟩
theorem nbool_c (b : Bool) (w : World) : Calls Tryd.prog 49 #[.pointer none, .bool b] w fun e w' => e = .returned (.tuple #[]) ∧ w = w' := by
  cases b with
  | true =>
    go_enter Tryd.func49, Tryd.ntmps49
    go_wp2_with (go_at_call 50; refine (ncount_c _ _).mono ?_; rintro e w' ⟨rfl, rfl⟩)
    go_end0
    exact ⟨rfl, rfl⟩
  | false =>
    go_enter Tryd.func49, Tryd.ntmps49
    go_wp2_with (go_at_call 50; refine (ncount_c _ _).mono ?_; rintro e w' ⟨rfl, rfl⟩)
    go_end0
    exact ⟨rfl, rfl⟩
theorem ntexts_c (p : Option Addr) (c : Nat) (l : List T) (w : World) (hp : InS w p l) (hl : l.length ≤ 140737488351232) :
    Calls Tryd.prog 51 #[.pointer none, .slice p l.length c] w fun e w' => e = .returned (.tuple #[]) ∧ w = w' := by
  have HP := Lib.hid hp
  clear hp
  go_enter Tryd.func51, Tryd.ntmps51
  go_wp2_with (go_at_call 50; refine (ncount_c _ _).mono ?_; rintro e w' ⟨rfl, rfl⟩)
  go_loopg [12] l.length (fun gk s12 wx => ∃ k : Nat, k + gk = l.length ∧ s12 = .int .i64 (k : Int) ∧ wx = w)
  case atStart => exact ⟨0, by omega, rfl, rfl⟩
  case round =>
    obtain ⟨k, hkg, rfl, rfl⟩ := hrel
    rcases gk with _ | gk
    · obtain rfl : k = l.length := by omega
      go_wp2_with fail
      go_end0
      exact ⟨rfl, rfl⟩
    · have hk : k < l.length := by omega
      have hkI : (k : Int) < (l.length : Int) := by omega
      obtain ⟨b, o, rfl, hc⟩ := ins_cell HP.out k hk
      obtain ⟨s, hs⟩ : ∃ s, l[k] = s := ⟨_, rfl⟩
      rw [hs] at hc
      clear hs
      go_wp2_with (go_at_call 48; refine (ntext_c _ _).mono ?_; rintro e w' ⟨rfl, rfl⟩)
      go_roundg gk
      case measure => omega
      case rel => exact ⟨k + 1, by omega, by go_num, rfl⟩
theorem nframe_c (w : World) : Calls Tryd.prog 26 #[.pointer none] w fun e w' => e = .returned (.tuple #[.slice none 0 0, .int .i64 12]) ∧ w = w' := by
  go_enter Tryd.func26, Tryd.ntmps26
  go_wp2_with fail
  go_ret2
  exact ⟨rfl, rfl⟩
/-- a writer, or none -/
def WrV (w : World) (B : Nat) (v : Value) : WS → Prop
  | .nil => v = .pointer none ∧ B ≤ w.heap.size
  | .ok t b => ∃ g, v = .pointer (some ⟨g, 0, none⟩) ∧ WrP w B g t b
theorem ws_int (t : T) (b : Bool) (n : Int) : (WS.ok t b).put ⟨0, n, [], []⟩ = .ok (t ++ numB (zz n)) b := by
  show WS.ok (t ++ numB (zz n)) (b || false) = _
  rw [Bool.or_false]
theorem ws_text (t s : T) (b : Bool) : (WS.ok t b).put ⟨1, 0, s, []⟩ = .ok (t ++ textB s) b := by
  show WS.ok (t ++ textB s) (b || false) = _
  rw [Bool.or_false]
theorem ws_bool (t : T) (b x : Bool) : (WS.ok t b).put ⟨2, if x then 1 else 0, [], []⟩ = .ok (t ++ [if x then 1 else 0]) b := by
  cases x with
  | true =>
    show WS.ok (t ++ [1]) (b || false) = _
    rw [Bool.or_false]; rfl
  | false =>
    show WS.ok (t ++ [0]) (b || false) = _
    rw [Bool.or_false]; rfl
theorem ws_count (t : T) (b : Bool) (n : Int) : (WS.ok t b).put ⟨3, n, [], []⟩ = if 0 ≤ n ∧ n ≤ 4096 then .ok (t ++ numB n.toNat) b else .ok t true := by
  show WS.ok (t ++ (if 0 ≤ n ∧ n ≤ 4096 then numB n.toNat else [])) (b || ((true && !(decide (0 ≤ n) && decide (n ≤ 4096))) || (false && decide (4096 < (0 : Nat))))) = _
  by_cases h : 0 ≤ n ∧ n ≤ 4096
  · rw [if_pos h, if_pos h, decide_eq_true h.1, decide_eq_true h.2]; simp
  · rw [if_neg h, if_neg h]
    have e : (decide (0 ≤ n) && decide (n ≤ 4096)) = false := by
      rw [← Bool.decide_and]
      exact decide_eq_false h
    rw [e]; simp
theorem ws_texts (t : T) (b : Bool) (l : List T) : (WS.ok t b).put ⟨4, 0, [], l⟩ = .ok (lB t l l.length) (b || decide (4096 < l.length)) := by
  show WS.ok (t ++ (if l.length ≤ 4096 then numB l.length ++ l.flatMap textB else [])) (b || (false || (true && decide (4096 < l.length)))) = _
  unfold lB
  rw [List.take_length]
  simp
theorem put_nil (x : Put) : WS.put .nil x = .nil := rfl
theorem wrv_same {w w' : World} {B : Nat} {v : Value} {s : WS} (h : WrV w B v s) (hw : w = w') : WrV w' B v s ∧ Below B w w' := by
  subst hw
  exact ⟨h, Below.refl _ _⟩
def the_wapi : WApi Tab fun _ => True where
  Wr := WrV
  Rd := RdV
  capmono := fun _ _ => trivial
  tbelow := fun w w' h hb => h.below hb
  wptr := fun {w B v s} h => by
    cases s with
    | nil => exact ⟨none, h.1⟩
    | ok t b => obtain ⟨g, h1, _⟩ := h; exact ⟨_, h1⟩
  wsize := fun {w B v s} h => by
    cases s with
    | nil => exact h.2
    | ok t b => obtain ⟨g, _, h1⟩ := h; exact h1.2.1
  wkeep := fun {w w' B v s} h hb => by
    cases s with
    | nil => exact ⟨h.1, Nat.le_trans h.2 hb.size⟩
    | ok t b => obtain ⟨g, h1, h2⟩ := h; exact ⟨g, h1, h2.keep hb⟩
  wnil := fun w B h => ⟨rfl, h⟩
  wnew := fun w => (wir_new w).mono fun e w' ⟨g, h1, h2, h3⟩ => ⟨_, h1, ⟨g, rfl, h2⟩, h3⟩
  wint := fun B v s n w h h1 h2 _ => by
    cases s with
    | nil =>
      obtain ⟨rfl, hB⟩ := h
      exact (nint_c n w).mono fun e w' ⟨h1, h2⟩ => ⟨h1, by subst h2; exact ⟨⟨rfl, hB⟩, Below.refl _ _⟩⟩
    | ok t b =>
      obtain ⟨g, rfl, hW⟩ := h
      rw [ws_int]
      exact (wint_c B g t b n w hW h1 h2).mono fun e w' ⟨h1, h2, h3⟩ => ⟨h1, ⟨g, rfl, h2⟩, h3⟩
  wtext := fun B v s x w h hx _ => by
    cases s with
    | nil =>
      obtain ⟨rfl, hB⟩ := h
      exact (ntext_c x w).mono fun e w' ⟨h1, h2⟩ => ⟨h1, by subst h2; exact ⟨⟨rfl, hB⟩, Below.refl _ _⟩⟩
    | ok t b =>
      obtain ⟨g, rfl, hW⟩ := h
      rw [ws_text]
      exact (wtext_c B g t b x w hW hx).mono fun e w' ⟨h1, h2, h3⟩ => ⟨h1, ⟨g, rfl, h2⟩, h3⟩
  wbool := fun B v s x w h _ => by
    cases s with
    | nil =>
      obtain ⟨rfl, hB⟩ := h
      exact (nbool_c x w).mono fun e w' ⟨h1, h2⟩ => ⟨h1, by subst h2; exact ⟨⟨rfl, hB⟩, Below.refl _ _⟩⟩
    | ok t b =>
      obtain ⟨g, rfl, hW⟩ := h
      rw [ws_bool]
      exact (wbool_c B g t b x w hW).mono fun e w' ⟨h1, h2, h3⟩ => ⟨h1, ⟨g, rfl, h2⟩, h3⟩
  wcount := fun B v s n w h h1 h2 _ => by
    cases s with
    | nil =>
      obtain ⟨rfl, hB⟩ := h
      exact (ncount_c n w).mono fun e w' ⟨h1, h2⟩ => ⟨h1, by subst h2; exact ⟨⟨rfl, hB⟩, Below.refl _ _⟩⟩
    | ok t b =>
      obtain ⟨g, rfl, hW⟩ := h
      rw [ws_count]
      refine (wcount_c B g t b n w hW h1 h2).mono fun e w' h => ?_
      by_cases hn : 0 ≤ n ∧ n ≤ 4096
      · rw [if_pos hn] at h ⊢
        exact ⟨h.1, ⟨g, rfl, h.2.1⟩, h.2.2⟩
      · rw [if_neg hn] at h ⊢
        exact ⟨h.1, ⟨g, rfl, h.2.1⟩, h.2.2⟩
  wtexts := fun B v s p c l w h hp _ _ hl hy _ hB => by
    cases s with
    | nil =>
      obtain ⟨rfl, hBw⟩ := h
      exact (ntexts_c p c l w hp hl).mono fun e w' ⟨h1, h2⟩ => ⟨h1, by subst h2; exact ⟨⟨rfl, hBw⟩, Below.refl _ _⟩⟩
    | ok t b =>
      obtain ⟨g, rfl, hW⟩ := h
      rw [ws_texts]
      exact (wtexts_c B g t b p c l w hW hp hl hy hB).mono fun e w' ⟨h1, h2, h3⟩ => ⟨h1, ⟨g, rfl, h2⟩, h3⟩
  wframe := fun B v s w hT h => by
    cases s with
    | nil =>
      obtain ⟨rfl, hB⟩ := h
      exact (nframe_c w).mono fun e w' ⟨h1, h2⟩ => by
        subst h2
        exact ⟨_, h1, World.ownsRow_nil _ _ _ _, Below.refl _ _⟩
    | ok t b =>
      obtain ⟨g, rfl, hW⟩ := h
      exact wframe_c B g t b w hT hW
  rptr := fun {w lo hi v st} h => by
    rcases h with ⟨rfl, _⟩ | ⟨g, rfl, _⟩
    · exact ⟨_, rfl⟩
    · exact ⟨_, rfl⟩
  rsize := fun h => h.sizes
  rkeep := fun h h1 h2 => h.keep h1 h2
  rnil := fun w lo hi h1 h2 => Or.inl ⟨rfl, rfl, h1, h2⟩
  rnew := fun p c l w hT h8 _ hc hl => newreader_c p c l w hT h8 hc (by omega)
  rint := fun {lo hi v st} w h => drint_c lo hi v st w h
  rtext := fun {lo hi v st} w h => drtext_c lo hi v st w h
  rbool := fun {lo hi v st} w h => drbool_c lo hi v st w h
  rcount := fun {lo hi v st} w h => drcount_c lo hi v st w h
  rtexts := fun {lo hi v st} w h => drtexts_c lo hi v st w h
  rend := fun {lo hi v st} w h => (drend_c lo hi v st w h).mono fun e w' ⟨h1, h2⟩ => ⟨h1, by subst h2; exact Below.refl _ _⟩
theorem big_new (p : Option Addr) (c : Nat) (l : T) (w : World) (hT : Tab w) (h8 : In8 w p l) (_ : p = none → c = 0) (hc : l.length ≤ c) (hl : l.length ≤ 281474976710656) : Calls Tryd.prog 16 #[.slice p l.length c] w fun e w' => ∃ q, e = .returned (.tuple #[.pointer q, .int .i64 (openE l : Nat)]) ∧ Below w.heap.size w w' :=
  (newreader_c p c l w hT h8 hc hl).mono fun _ _ ⟨q, h1, _, _, h4⟩ => ⟨q, h1, h4⟩
theorem cap_ok : (fun _ : Nat => True) 10485760 := trivial
end Go.Proofs.YtpffebcaalbhjaaDoor.wir
