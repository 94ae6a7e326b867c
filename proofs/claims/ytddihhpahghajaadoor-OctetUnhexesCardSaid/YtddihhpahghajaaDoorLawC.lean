/- OctetHexes, OctetUnhexes, OctetWebs, OctetUnwebs, OctetBasics, OctetUnbasics: the walks of the laws (rows and texts up to 1048576). -/
import Derived.Test.YtddihhpahghajaaDoorRef2
import Derived.Test.YtddihhpahghajaaDoorRef5
import Derived.Test.YtddihhpahghajaaDoorLawB
namespace Go.Proofs.YtddihhpahghajaaDoor.lawC
open Go.RowKit
open Go.Proofs.YtddihhpahghajaaDoor.pl Go.Proofs.YtddihhpahghajaaDoor.oct Go.Proofs.YtddihhpahghajaaDoor.ref
open Go.Lib (byteCells)

theorem rhexT_c (p : Option Addr) (cp : Nat) (l : List UInt8) (w : World) (hp : In8 w p l) (hl : l.length ≤ 1048576) :
    Calls Tryd.prog 17 #[.slice p l.length cp] w fun e w' => e = .returned (.string ⟨(hexT l).toArray⟩) ∧ Below w.heap.size w w' := by
  rw [← hexR_eq]; exact rhex_c p cp l w hp hl
theorem runhexT_c (s : ByteArray) (w : World) (hs : s.size ≤ 140737488355328) :
    Calls Tryd.prog 19 #[.string s] w (ReadT hexT s.data.toList w) := by
  have e : hexR = hexT := funext hexR_eq
  rw [← e]; exact runhex_c s w hs

set_option maxHeartbeats 1000000 in
theorem hexes (p : Option Addr) (cp : Nat) (l : List UInt8) (w : World) (hp : In8 w p l) (hl : l.length ≤ 1048576) :
    Calls Tryd.prog 3 #[.slice p l.length cp] w fun e w' => e = .returned (.bool true) ∧ Below w.heap.size w w' := by
  have HP := Lib.hid hp
  clear hp
  obtain ⟨X, hX⟩ : ∃ X, hexT l = X := ⟨_, rfl⟩
  have HX := Lib.hid hX
  clear hX
  go_enter Tryd.func3, Tryd.ntmps3
  go_wp2_with fail
  refine (known_c _).mono ?_
  rintro e w1 ⟨rfl, hb1⟩
  have q1 := HP.out.below hb1
  go_wp2_with fail
  refine (hex_c p cp l _ q1 (by omega)).mono ?_
  rintro e w2 ⟨rfl, hb2⟩
  rw [HX.out]
  have q2 := q1.below hb2
  go_wp2_with fail
  refine (rhexT_c p cp l _ q2 (by omega)).mono ?_
  rintro e w3 ⟨rfl, hb3⟩
  rw [HX.out]
  go_wp2_with fail
  go_ret
  exact ⟨rfl, bnext (bnext hb1 hb2) hb3⟩

set_option maxHeartbeats 1000000 in
theorem webs (p : Option Addr) (cp : Nat) (l : List UInt8) (w : World) (hp : In8 w p l) (hl : l.length ≤ 1048576) :
    Calls Tryd.prog 5 #[.slice p l.length cp] w fun e w' => e = .returned (.bool true) ∧ Below w.heap.size w w' := by
  have HP := Lib.hid hp
  clear hp
  obtain ⟨X, hX⟩ : ∃ X, webT l = X := ⟨_, rfl⟩
  have HX := Lib.hid hX
  clear hX
  go_enter Tryd.func5, Tryd.ntmps5
  go_wp2_with fail
  refine (known_c _).mono ?_
  rintro e w1 ⟨rfl, hb1⟩
  have q1 := HP.out.below hb1
  go_wp2_with fail
  refine (web_c p cp l _ q1 (by omega)).mono ?_
  rintro e w2 ⟨rfl, hb2⟩
  rw [HX.out]
  have q2 := q1.below hb2
  go_wp2_with fail
  refine (rweb_c p cp l _ q2 (by omega)).mono ?_
  rintro e w3 ⟨rfl, hb3⟩
  rw [HX.out]
  go_wp2_with fail
  go_ret
  exact ⟨rfl, bnext (bnext hb1 hb2) hb3⟩

set_option maxHeartbeats 1000000 in
theorem basics (p : Option Addr) (cp : Nat) (l : List UInt8) (w : World) (hp : In8 w p l) (hl : l.length ≤ 1048576) :
    Calls Tryd.prog 7 #[.slice p l.length cp] w fun e w' => e = .returned (.bool true) ∧ Below w.heap.size w w' := by
  have HP := Lib.hid hp
  clear hp
  obtain ⟨X, hX⟩ : ∃ X, basT l = X := ⟨_, rfl⟩
  have HX := Lib.hid hX
  clear hX
  go_enter Tryd.func7, Tryd.ntmps7
  go_wp2_with fail
  refine (known_c _).mono ?_
  rintro e w1 ⟨rfl, hb1⟩
  have q1 := HP.out.below hb1
  go_wp2_with fail
  refine (bas_c p cp l _ q1 (by omega)).mono ?_
  rintro e w2 ⟨rfl, hb2⟩
  rw [HX.out]
  have q2 := q1.below hb2
  go_wp2_with fail
  refine (rbas_c p cp l _ q2 (by omega)).mono ?_
  rintro e w3 ⟨rfl, hb3⟩
  rw [HX.out]
  go_wp2_with fail
  go_ret
  exact ⟨rfl, bnext (bnext hb1 hb2) hb3⟩

set_option maxHeartbeats 1000000 in
theorem unhexes (s : ByteArray) (w : World) (hs : s.size ≤ 140737488355328) :
    Calls Tryd.prog 4 #[.string s] w fun e w' => e = .returned (.bool true) ∧ Below w.heap.size w w' := by
  go_enter Tryd.func4, Tryd.ntmps4
  go_wp2_with fail
  refine (unhex_c s _ (by omega)).mono ?_
  intro e w1 h1
  rcases h1 with ⟨out, v, hT, rfl, hown, hb1⟩ | ⟨hN, rfl, hb1⟩
  · have hol : out.length ≤ 140737488355328 := by
      have h3 := congrArg List.length hT
      have hsl : s.data.toList.length = s.size := by rw [Array.length_toList]; rfl
      rw [hexT_len, hsl] at h3
      omega
    obtain ⟨_, p, cp, rfl, x1⟩ := own_in8 hown
    have HT := Lib.hid hT
    clear hT
    go_wp2_with fail
    refine (runhexT_c s _ (by omega)).mono ?_
    intro e w2 h2
    obtain ⟨p2, cp2, rfl, x2, hb2⟩ := Go.Proofs.YtddihhpahghajaaDoor.lawB.hit8 (fun _ _ => hexT_inj) HT.out h2
    have x3 := x1.below hb2
    clear h2
    go_wp2_with fail
    refine (known_c _).mono ?_
    rintro e w3 ⟨rfl, hb3⟩
    have y2 := x2.below hb3
    have y3 := x3.below hb3
    go_wp2_with fail
    refine (Go.Proofs.YtddihhpahghajaaDoor.lawB.rsame_t p p2 cp cp2 out _ y3 y2 hol).mono ?_
    rintro e w4 ⟨rfl, hb4⟩
    go_wp2_with fail
    go_ret
    exact ⟨rfl, bnext (bnext (bnext hb1 hb2) hb3) hb4⟩
  · have HN := Lib.hid hN
    clear hN
    go_wp2_with fail
    refine (runhexT_c s _ (by omega)).mono ?_
    intro e w2 h2
    have h2' : e = .returned (.tuple #[.slice none 0 0, .int .i64 3]) ∧ Below w1.heap.size w1 w2 := by
      rcases h2 with ⟨out, v, hT, _⟩ | ⟨_, h, hb⟩
      · exact absurd hT (HN.out out)
      · exact ⟨h, hb⟩
    clear h2
    obtain ⟨rfl, hb2⟩ := h2'
    go_wp2_with fail
    refine (known_c _).mono ?_
    rintro e w3 ⟨rfl, hb3⟩
    go_wp2_with fail
    refine (Go.Proofs.YtddihhpahghajaaDoor.lawB.rsame_t none none 0 0 [] _ (fun h => by simp at h) (fun h => by simp at h) (by simp)).mono ?_
    rintro e w4 ⟨rfl, hb4⟩
    go_wp2_with fail
    go_ret
    exact ⟨rfl, bnext (bnext (bnext hb1 hb2) hb3) hb4⟩

set_option maxHeartbeats 1000000 in
theorem unwebs (s : ByteArray) (w : World) (hs : s.size ≤ 1048576) :
    Calls Tryd.prog 6 #[.string s] w fun e w' => e = .returned (.bool true) ∧ Below w.heap.size w w' := by
  go_enter Tryd.func6, Tryd.ntmps6
  go_wp2_with fail
  refine (unweb_c s _ (by omega)).mono ?_
  intro e w1 h1
  rcases h1 with ⟨out, v, hT, rfl, hown, hb1⟩ | ⟨hN, rfl, hb1⟩
  · have hol : out.length ≤ 1048576 := by
      have h3 := congrArg List.length hT
      have hsl : s.data.toList.length = s.size := by rw [Array.length_toList]; rfl
      rw [webT_len, hsl] at h3
      omega
    obtain ⟨_, p, cp, rfl, x1⟩ := own_in8 hown
    have HT := Lib.hid hT
    clear hT
    go_wp2_with fail
    refine (runweb_c s _ (by omega)).mono ?_
    intro e w2 h2
    obtain ⟨p2, cp2, rfl, x2, hb2⟩ := Go.Proofs.YtddihhpahghajaaDoor.lawB.hit8 (fun _ _ => webT_inj) HT.out h2
    have x3 := x1.below hb2
    clear h2
    go_wp2_with fail
    refine (known_c _).mono ?_
    rintro e w3 ⟨rfl, hb3⟩
    have y2 := x2.below hb3
    have y3 := x3.below hb3
    go_wp2_with fail
    refine (Go.Proofs.YtddihhpahghajaaDoor.lawB.rsame_t p p2 cp cp2 out _ y3 y2 (by omega)).mono ?_
    rintro e w4 ⟨rfl, hb4⟩
    go_wp2_with fail
    go_ret
    exact ⟨rfl, bnext (bnext (bnext hb1 hb2) hb3) hb4⟩
  · have HN := Lib.hid hN
    clear hN
    go_wp2_with fail
    refine (runweb_c s _ (by omega)).mono ?_
    intro e w2 h2
    have h2' : e = .returned (.tuple #[.slice none 0 0, .int .i64 3]) ∧ Below w1.heap.size w1 w2 := by
      rcases h2 with ⟨out, v, hT, _⟩ | ⟨_, h, hb⟩
      · exact absurd hT (HN.out out)
      · exact ⟨h, hb⟩
    clear h2
    obtain ⟨rfl, hb2⟩ := h2'
    go_wp2_with fail
    refine (known_c _).mono ?_
    rintro e w3 ⟨rfl, hb3⟩
    go_wp2_with fail
    refine (Go.Proofs.YtddihhpahghajaaDoor.lawB.rsame_t none none 0 0 [] _ (fun h => by simp at h) (fun h => by simp at h) (by simp)).mono ?_
    rintro e w4 ⟨rfl, hb4⟩
    go_wp2_with fail
    go_ret
    exact ⟨rfl, bnext (bnext (bnext hb1 hb2) hb3) hb4⟩

set_option maxHeartbeats 1000000 in
theorem unbasics (s : ByteArray) (w : World) (hs : s.size ≤ 1048576) :
    Calls Tryd.prog 8 #[.string s] w fun e w' => e = .returned (.bool true) ∧ Below w.heap.size w w' := by
  go_enter Tryd.func8, Tryd.ntmps8
  go_wp2_with fail
  refine (unbas_c s _ (by omega)).mono ?_
  intro e w1 h1
  rcases h1 with ⟨out, v, hT, rfl, hown, hb1⟩ | ⟨hN, rfl, hb1⟩
  · have hol : out.length ≤ 1048576 := by
      have h3 := congrArg List.length hT
      have hsl : s.data.toList.length = s.size := by rw [Array.length_toList]; rfl
      rw [basT_len, hsl] at h3
      omega
    obtain ⟨_, p, cp, rfl, x1⟩ := own_in8 hown
    have HT := Lib.hid hT
    clear hT
    go_wp2_with fail
    refine (runbas_c s _ (by omega)).mono ?_
    intro e w2 h2
    obtain ⟨p2, cp2, rfl, x2, hb2⟩ := Go.Proofs.YtddihhpahghajaaDoor.lawB.hit8 (fun _ _ => basT_inj) HT.out h2
    have x3 := x1.below hb2
    clear h2
    go_wp2_with fail
    refine (known_c _).mono ?_
    rintro e w3 ⟨rfl, hb3⟩
    have y2 := x2.below hb3
    have y3 := x3.below hb3
    go_wp2_with fail
    refine (Go.Proofs.YtddihhpahghajaaDoor.lawB.rsame_t p p2 cp cp2 out _ y3 y2 (by omega)).mono ?_
    rintro e w4 ⟨rfl, hb4⟩
    go_wp2_with fail
    go_ret
    exact ⟨rfl, bnext (bnext (bnext hb1 hb2) hb3) hb4⟩
  · have HN := Lib.hid hN
    clear hN
    go_wp2_with fail
    refine (runbas_c s _ (by omega)).mono ?_
    intro e w2 h2
    have h2' : e = .returned (.tuple #[.slice none 0 0, .int .i64 3]) ∧ Below w1.heap.size w1 w2 := by
      rcases h2 with ⟨out, v, hT, _⟩ | ⟨_, h, hb⟩
      · exact absurd hT (HN.out out)
      · exact ⟨h, hb⟩
    clear h2
    obtain ⟨rfl, hb2⟩ := h2'
    go_wp2_with fail
    refine (known_c _).mono ?_
    rintro e w3 ⟨rfl, hb3⟩
    go_wp2_with fail
    refine (Go.Proofs.YtddihhpahghajaaDoor.lawB.rsame_t none none 0 0 [] _ (fun h => by simp at h) (fun h => by simp at h) (by simp)).mono ?_
    rintro e w4 ⟨rfl, hb4⟩
    go_wp2_with fail
    go_ret
    exact ⟨rfl, bnext (bnext (bnext hb1 hb2) hb3) hb4⟩
end Go.Proofs.YtddihhpahghajaaDoor.lawC
