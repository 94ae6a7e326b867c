/- OctetBack, OctetForth: the walks of the laws (rows and texts up to 1048576). -/
import Derived.Test.YtddihhpahghajaaDoorOct11
import Derived.WalkSmall
namespace Go.Proofs.YtddihhpahghajaaDoor.lawB
open Go.RowKit
open Go.Proofs.YtddihhpahghajaaDoor.pl Go.Proofs.YtddihhpahghajaaDoor.oct
open Go.Lib (byteCells)

theorem hit8 {T : List UInt8 → List UInt8} {o s : List UInt8} {w : World} {e : Ending} {w' : World} (hT : ∀ a b, T a = T b → a = b) (ho : T o = s) (h : ReadT T s w e w') :
    ∃ p cp, e = .returned (.tuple #[.slice p o.length cp, .int .i64 0]) ∧ In8 w' p o ∧ Below w.heap.size w w' := by
  obtain ⟨v, h1, h2, h3⟩ := h.hit hT ho
  obtain ⟨_, p, cp, rfl, h4⟩ := own_in8 h2
  exact ⟨p, cp, h1, h4, h3⟩

theorem unhex_k (l : List UInt8) (w : World) (hl : l.length ≤ 1048576) : Calls Tryd.prog 18 #[.string ⟨(hexT l).toArray⟩] w fun e w' =>
    ∃ p cp, e = .returned (.tuple #[.slice p l.length cp, .int .i64 0]) ∧ In8 w' p l ∧ Below w.heap.size w w' :=
  (unhex_c ⟨(hexT l).toArray⟩ w (by rw [size_mk, hexT_len]; omega)).mono fun _ _ h => hit8 (fun _ _ => hexT_inj) rfl h
theorem unweb_k (l : List UInt8) (w : World) (hl : l.length ≤ 1048576) : Calls Tryd.prog 23 #[.string ⟨(webT l).toArray⟩] w fun e w' =>
    ∃ p cp, e = .returned (.tuple #[.slice p l.length cp, .int .i64 0]) ∧ In8 w' p l ∧ Below w.heap.size w w' :=
  (unweb_c ⟨(webT l).toArray⟩ w (by rw [size_mk, webT_len]; omega)).mono fun _ _ h => hit8 (fun _ _ => webT_inj) rfl h
theorem unbas_k (l : List UInt8) (w : World) (hl : l.length ≤ 1048576) : Calls Tryd.prog 27 #[.string ⟨(basT l).toArray⟩] w fun e w' =>
    ∃ p cp, e = .returned (.tuple #[.slice p l.length cp, .int .i64 0]) ∧ In8 w' p l ∧ Below w.heap.size w w' :=
  (unbas_c ⟨(basT l).toArray⟩ w (by rw [size_mk, basT_len]; omega)).mono fun _ _ h => hit8 (fun _ _ => basT_inj) rfl h

theorem rsame_t (p : Option Addr) (q : Option Addr) (cp cq : Nat) (l : List UInt8) (w : World) (hp : In8 w p l) (hq : In8 w q l) (hl : l.length ≤ 140737488355328) :
    Calls Tryd.prog 20 #[.slice p l.length cp, .slice q l.length cq] w fun e w' => e = .returned (.bool true) ∧ Below w.heap.size w w' :=
  (rsame_c p q cp cq l l w hp hq (by omega)).mono fun e w' ⟨h1, n, h2⟩ => ⟨by rw [h1]; simp, by rw [h2]; exact below_drewN (Below.refl _ _) n⟩

set_option maxHeartbeats 1000000 in
theorem back (p : Option Addr) (cp : Nat) (l : List UInt8) (w : World) (hp : In8 w p l) (hl : l.length ≤ 1048576) :
    Calls Tryd.prog 9 #[.slice p l.length cp] w fun e w' => e = .returned (.bool true) ∧ Below w.heap.size w w' := by
  have HP := Lib.hid hp
  clear hp
  go_enter Tryd.func9, Tryd.ntmps9
  go_wp2_with fail
  refine (hex_c p cp l _ HP.out (by omega)).mono ?_
  rintro e w1 ⟨rfl, hb1⟩
  have q1 := HP.out.below hb1
  go_wp2_with fail
  refine (unhex_k l _ hl).mono ?_
  rintro e w2 ⟨px, cx, rfl, x2, hb2⟩
  have q2 := q1.below hb2
  go_wp2_with fail
  refine (web_c p cp l _ q2 (by omega)).mono ?_
  rintro e w3 ⟨rfl, hb3⟩
  have q3 := q2.below hb3
  have x3 := x2.below hb3
  go_wp2_with fail
  refine (unweb_k l _ hl).mono ?_
  rintro e w4 ⟨py, cy, rfl, y4, hb4⟩
  have q4 := q3.below hb4
  have x4 := x3.below hb4
  go_wp2_with fail
  refine (bas_c p cp l _ q4 (by omega)).mono ?_
  rintro e w5 ⟨rfl, hb5⟩
  have q5 := q4.below hb5
  have x5 := x4.below hb5
  have y5 := y4.below hb5
  go_wp2_with fail
  refine (unbas_k l _ hl).mono ?_
  rintro e w6 ⟨pz, cz, rfl, z6, hb6⟩
  have q6 := q5.below hb6
  have x6 := x5.below hb6
  have y6 := y5.below hb6
  go_wp2_with fail
  refine (known_c _).mono ?_
  rintro e w7 ⟨rfl, hb7⟩
  have q7 := q6.below hb7
  have x7 := x6.below hb7
  have y7 := y6.below hb7
  have z7 := z6.below hb7
  clear q1 q2 q3 q4 q5 q6 x2 x3 x4 x5 x6 y4 y5 y6 z6
  go_wp2_with fail
  refine (rsame_t px p cx cp l _ x7 q7 (by omega)).mono ?_
  rintro e w8 ⟨rfl, hb8⟩
  have q8 := q7.below hb8
  have y8 := y7.below hb8
  have z8 := z7.below hb8
  go_wp2_with fail
  refine (rsame_t py p cy cp l _ y8 q8 (by omega)).mono ?_
  rintro e w9 ⟨rfl, hb9⟩
  have q9 := q8.below hb9
  have z9 := z8.below hb9
  go_wp2_with fail
  refine (rsame_t pz p cz cp l _ z9 q9 (by omega)).mono ?_
  rintro e w10 ⟨rfl, hb10⟩
  go_wp2_with fail
  go_ret
  exact ⟨rfl, bnext (bnext (bnext (bnext (bnext (bnext (bnext (bnext (bnext hb1 hb2) hb3) hb4) hb5) hb6) hb7) hb8) hb9) hb10⟩

/-- a reading, either way, in one form -/
def Came (T : List UInt8 → List UInt8) (s : ByteArray) (w : World) (e : Ending) (w' : World) : Prop :=
  ∃ p cp out E, e = .returned (.tuple #[.slice p out.length cp, .int .i64 E]) ∧ In8 w' p out ∧ Below w.heap.size w w' ∧ out.length ≤ 140737488355328 ∧ ((E = 0 ∧ (⟨(T out).toArray⟩ : ByteArray) = s) ∨ (E = 3 ∧ out = []))
theorem came {T : List UInt8 → List UInt8} {s : ByteArray} {w : World} {e : Ending} {w' : World} (hl : ∀ o, o.length ≤ (T o).length) (hs : s.size ≤ 140737488355328) (h : ReadT T s.data.toList w e w') : Came T s w e w' := by
  rcases h with ⟨out, v, h1, h2, h3, h4⟩ | ⟨h1, h2, h3⟩
  · obtain ⟨_, p, cp, rfl, h5⟩ := own_in8 h3
    have hsl : s.data.toList.length = s.size := by rw [Array.length_toList]; rfl
    have := hl out
    refine ⟨p, cp, out, 0, h2, h5, h4, by rw [h1, hsl] at this; omega, Or.inl ⟨rfl, ?_⟩⟩
    rw [h1]
  · exact ⟨none, 0, [], 3, h2, fun h => by simp at h, h3, by simp, Or.inr ⟨rfl, rfl⟩⟩

theorem hexs (p : Option Addr) (cp : Nat) (l : List UInt8) (s : ByteArray) (w : World) (hp : In8 w p l) (hl : s.size ≤ 140737488355328) (he : (⟨(hexT l).toArray⟩ : ByteArray) = s) :
    Calls Tryd.prog 16 #[.slice p l.length cp] w fun e w' => e = .returned (.string s) ∧ Below w.heap.size w w' := by
  rw [← he, size_mk, hexT_len] at hl
  rw [← he]; exact hex_c p cp l w hp (by omega)
theorem webs (p : Option Addr) (cp : Nat) (l : List UInt8) (s : ByteArray) (w : World) (hp : In8 w p l) (hl : s.size ≤ 140737488355328) (he : (⟨(webT l).toArray⟩ : ByteArray) = s) :
    Calls Tryd.prog 21 #[.slice p l.length cp] w fun e w' => e = .returned (.string s) ∧ Below w.heap.size w w' := by
  rw [← he, size_mk, webT_len] at hl
  rw [← he]; exact web_c p cp l w hp (by omega)
theorem bass (p : Option Addr) (cp : Nat) (l : List UInt8) (s : ByteArray) (w : World) (hp : In8 w p l) (hl : s.size ≤ 140737488355328) (he : (⟨(basT l).toArray⟩ : ByteArray) = s) :
    Calls Tryd.prog 25 #[.slice p l.length cp] w fun e w' => e = .returned (.string s) ∧ Below w.heap.size w w' := by
  rw [← he, size_mk, basT_len] at hl
  rw [← he]; exact bas_c p cp l w hp (by omega)

set_option maxHeartbeats 4000000 in
theorem forth (s : ByteArray) (w : World) (hs : s.size ≤ 140737488355328) :
    Calls Tryd.prog 10 #[.string s] w fun e w' => e = .returned (.bool true) ∧ Below w.heap.size w w' := by
  go_enter Tryd.func10, Tryd.ntmps10
  go_wp2_with fail
  refine (unhex_c s _ (by omega)).mono ?_
  intro e w1 h1
  obtain ⟨px, cx, ox, ex, rfl, x1, hb1, lx, hx⟩ := came (fun o => by rw [hexT_len]; omega) hs h1
  clear h1
  go_wp2_with fail
  refine (unweb_c s _ (by omega)).mono ?_
  intro e w2 h2
  obtain ⟨py, cy, oy, ey, rfl, y2, hb2, ly, hy⟩ := came (fun o => by rw [webT_len]; omega) hs h2
  have x2 := x1.below hb2
  clear h2
  go_wp2_with fail
  refine (unbas_c s _ (by omega)).mono ?_
  intro e w3 h3
  obtain ⟨pz, cz, oz, ez, rfl, z3, hb3, lz, hz⟩ := came (fun o => by rw [basT_len]; omega) hs h3
  have x3 := x2.below hb3
  have y3 := y2.below hb3
  clear h3
  go_wp2_with fail
  refine (known_c _).mono ?_
  rintro e w4 ⟨rfl, hb4⟩
  have HX := Lib.hid (x3.below hb4)
  have HY := Lib.hid (y3.below hb4)
  have HZ := Lib.hid (z3.below hb4)
  have HB := Lib.hid (bnext (bnext (bnext hb1 hb2) hb3) hb4)
  clear x1 x2 x3 y2 y3 z3 hb1 hb2 hb3 hb4
  have h64 : s.size ≤ 9223372036854775807 := by omega
  have C0 := Below.refl w4.heap.size w4
  rcases hx with ⟨rfl, hx⟩ | ⟨rfl, rfl⟩ <;> rcases hy with ⟨rfl, hy⟩ | ⟨rfl, rfl⟩ <;> rcases hz with ⟨rfl, hz⟩ | ⟨rfl, rfl⟩
  all_goals
    try (have HHX := Lib.hid hx; clear hx)
    try (have HHY := Lib.hid hy; clear hy)
    try (have HHZ := Lib.hid hz; clear hz)
    go_wp2_with (first
      | (go_at_call 16; refine (hexs px cx ox s w4 HX.out hs HHX.out).mono ?_; rintro e w5 ⟨rfl, hb5⟩; have C1 := bnext C0 hb5)
      | (go_at_call 21; refine (webs py cy oy s _ (by first | exact HY.out.below C1 | exact HY.out.below C0) hs HHY.out).mono ?_; rintro e w6 ⟨rfl, hb6⟩; have C2 : Below w4.heap.size w4 w6 := by first | exact bnext C1 hb6 | exact bnext C0 hb6)
      | (go_at_call 25; refine (bass pz cz oz s _ (by first | exact HZ.out.below C2 | exact HZ.out.below C1 | exact HZ.out.below C0) hs HHZ.out).mono ?_; rintro e w7 ⟨rfl, hb7⟩; have C3 : Below w4.heap.size w4 w7 := by first | exact bnext C2 hb7 | exact bnext C1 hb7 | exact bnext C0 hb7))
    go_ret
    exact ⟨rfl, by first | exact bnext HB.out C3 | exact bnext HB.out C2 | exact bnext HB.out C1 | exact HB.out⟩
end Go.Proofs.YtddihhpahghajaaDoor.lawB
