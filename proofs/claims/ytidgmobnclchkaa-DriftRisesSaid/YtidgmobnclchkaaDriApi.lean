/- What the laws of drift ask of the program's calls (DApi: each answers the plain forms; T': what of the package's variables they need); the fixed question; DriftTurns, DriftBounds, DriftTerms. -/
import Derived.Test.YtidgmobnclchkaaDri4
import Derived.Test.YtidgmobnclchkaaAfter
import Derived.Test.YtidgmobnclchkaaRows2
namespace Go.Proofs.Ytidgmobnclchkaa.dri
open Go.RowKit
open Go.Proofs.Ytidgmobnclchkaa.oct Go.Proofs.Ytidgmobnclchkaa.ref Go.Proofs.Ytidgmobnclchkaa.rows

/-- a clock -/
abbrev clk (c : Int) : Value := .agg #[.int .i64 c]
structure DApi (T' : World → Prop) : Prop where
  tbelow : ∀ w w', T' w → Below w.heap.size w w' → T' w'
  within : ∀ r d w, T' w → I64 r → I64 d → Calls Try.prog 14 #[.int .i64 r, .int .i64 d] w fun e w' => e = .returned (.bool (withinB r d)) ∧ Below w.heap.size w w'
  read : ∀ c w, T' w → I64 c → Calls Try.prog 12 #[clk c] w fun e w' => e = .returned (.int .i64 (readP c)) ∧ Below w.heap.size w w'
  turn : ∀ c u r w, T' w → I64 c → I64 u → I64 r → Calls Try.prog 9 #[clk c, .int .i64 u, .int .i64 r] w fun e w' => e = .returned (.tuple #[clk (turnP c u r).1, .int .i64 ((turnP c u r).2 : Nat)]) ∧ Below w.heap.size w w'
  least : ∀ n d w, T' w → I64 n → I64 d → Calls Try.prog 16 #[.int .i64 n, .int .i64 d] w fun e w' => e = .returned (.tuple #[.int .i64 (leastP n d).1, .int .i64 ((leastP n d).2 : Nat)]) ∧ Below w.heap.size w w'
  most : ∀ n d w, T' w → I64 n → I64 d → Calls Try.prog 17 #[.int .i64 n, .int .i64 d] w fun e w' => e = .returned (.tuple #[.int .i64 (mostP n d).1, .int .i64 ((mostP n d).2 : Nat)]) ∧ Below w.heap.size w w'
  short : ∀ n d w, T' w → I64 n → I64 d → Calls Try.prog 18 #[.int .i64 n, .int .i64 d] w fun e w' => e = .returned (.tuple #[.int .i64 (shortP n d).1, .int .i64 ((shortP n d).2 : Nat)]) ∧ Below w.heap.size w w'
  live : ∀ s n k w, T' w → I64 s → I64 n → I64 k → Calls Try.prog 22 #[.int .i64 s, .int .i64 n, .int .i64 k] w fun e w' => e = .returned (.bool (liveP s n k)) ∧ Below w.heap.size w w'
  over : ∀ s n t w, T' w → I64 s → I64 n → I64 t → Calls Try.prog 24 #[.int .i64 s, .int .i64 n, .int .i64 t] w fun e w' => e = .returned (.bool (overP s n t)) ∧ Below w.heap.size w w'
theorem i64_k {n : Int} (h : -9223372036854775808 ≤ n ∧ n ≤ 9223372036854775807) : I64 n := h
set_option maxHeartbeats 1000000 in
theorem dknown_c {T' : World → Prop} (X : DApi T') (w : World) (ht : T' w) : Calls Try.prog 11 #[] w fun e w' => e = .returned (.bool true) ∧ Below w.heap.size w w' := by
  have HT := Lib.hid ht
  have HX := Lib.hid X
  have HS := Lib.hid (fun w ht => X.short 1000 100 w ht (by decide) (by decide))
  have HU := Lib.hid (fun w ht => X.turn 0 10 (-100) w ht (by decide) (by decide) (by decide))
  have HR := Lib.hid (fun w ht => X.read 9000 w ht (by decide))
  have HO := Lib.hid (fun w ht => X.over 5 16 10 w ht (by decide) (by decide) (by decide))
  have HL := Lib.hid (fun w ht => X.live 5 5 1 w ht (by decide) (by decide) (by decide))
  rw [show shortP 1000 100 = (818, 0) by decide +kernel] at HS
  rw [show turnP 0 10 (-100) = (9000, 0) by decide +kernel] at HU
  rw [show readP 9000 = 9 by decide +kernel] at HR
  rw [show overP 5 16 10 = true by decide +kernel] at HO
  rw [show liveP 5 5 1 = true by decide +kernel] at HL
  clear ht X
  go_enter Try.func11, Try.ntmps11
  go_wp2_with fail
  refine (HS.out w HT.out).mono ?_
  rintro e w1 ⟨rfl, hb⟩
  have HW := Lib.hid hb
  clear hb
  go_wp2_with fail
  refine (HU.out w1 (HX.out.tbelow _ _ HT.out HW.out)).mono ?_
  rintro e w2 ⟨rfl, hb⟩
  have HW := Lib.hid (bnext HW.out hb)
  clear hb
  go_wp2_with fail
  refine (HR.out _ (HX.out.tbelow _ _ HT.out (HW.out.alloc HW.out.size _))).mono ?_
  rintro e w3 ⟨rfl, hb⟩
  have HW := Lib.hid (bnext (HW.out.alloc HW.out.size _) hb)
  clear hb
  go_wp2_with fail
  refine (HO.out w3 (HX.out.tbelow _ _ HT.out HW.out)).mono ?_
  rintro e w4 ⟨rfl, hb⟩
  have HW := Lib.hid (bnext HW.out hb)
  clear hb
  go_wp2_with fail
  refine (HL.out w4 (HX.out.tbelow _ _ HT.out HW.out)).mono ?_
  rintro e w5 ⟨rfl, hb⟩
  have HW := Lib.hid (bnext HW.out hb)
  clear hb
  go_wp2_with fail
  go_ret
  exact ⟨rfl, HW.out⟩
set_option maxHeartbeats 1000000 in
theorem law_terms {T' : World → Prop} (X : DApi T') (s n t : Int) (w : World) (hs : I64 s) (hn : I64 n) (hk : I64 t) (ht : T' w) :
    Calls Try.prog 5 #[.int .i64 s, .int .i64 n, .int .i64 t] w fun e w' => e = .returned (.bool true) ∧ Below w.heap.size w w' := by
  have HT := Lib.hid ht
  have HX := Lib.hid X
  have HK := Lib.hid (fun w ht => dknown_c X w ht)
  have HL := Lib.hid (fun w ht => X.live s n t w ht hs hn hk)
  have RL := Lib.hid (fun w => rlive_c s n t w hs hn hk)
  have HO := Lib.hid (fun w ht => X.over s n t w ht hs hn hk)
  have RO := Lib.hid (fun w => rover_c s n t w hs hn hk)
  have HW := Lib.hid (Below.refl w.heap.size w)
  obtain ⟨b1, h1⟩ : ∃ b, liveP s n t = b := ⟨_, rfl⟩
  obtain ⟨b2, h2⟩ : ∃ b, overP s n t = b := ⟨_, rfl⟩
  rw [h1] at HL RL
  rw [h2] at HO RO
  have e1 : (b1 == b1) = true := by simp
  have e2 : (b2 == b2) = true := by simp
  clear ht X h1 h2
  go_enter Try.func5, Try.ntmps5
  go_wp2_with fail
  refine (HK.out w (HX.out.tbelow _ _ HT.out HW.out)).mono ?_
  rintro e w1 ⟨rfl, hb⟩
  have HW := Lib.hid (bnext HW.out hb)
  clear hb
  go_wp2_with fail
  refine (HL.out w1 (HX.out.tbelow _ _ HT.out HW.out)).mono ?_
  rintro e w2 ⟨rfl, hb⟩
  have HW := Lib.hid (bnext HW.out hb)
  clear hb
  go_wp2_with fail
  refine (RL.out w2).mono ?_
  rintro e w2x ⟨rfl, rfl⟩
  go_wp2_with fail
  refine (HO.out w2 (HX.out.tbelow _ _ HT.out HW.out)).mono ?_
  rintro e w3 ⟨rfl, hb⟩
  have HW := Lib.hid (bnext HW.out hb)
  clear hb
  go_wp2_with fail
  refine (RO.out w3).mono ?_
  rintro e w3x ⟨rfl, rfl⟩
  go_wp2_with fail
  go_ret
  exact ⟨rfl, HW.out⟩
set_option maxHeartbeats 1000000 in
theorem law_bounds {T' : World → Prop} (X : DApi T') (n d : Int) (w : World) (hn : I64 n) (hd : I64 d) (ht : T' w) :
    Calls Try.prog 4 #[.int .i64 n, .int .i64 d] w fun e w' => e = .returned (.bool true) ∧ Below w.heap.size w w' := by
  have HT := Lib.hid ht
  have HX := Lib.hid X
  have HK := Lib.hid (fun w ht => dknown_c X w ht)
  have H1 := Lib.hid (fun w ht => X.least n d w ht hn hd)
  have H2 := Lib.hid (fun w ht => X.most n d w ht hn hd)
  have H3 := Lib.hid (fun w ht => X.short n d w ht hn hd)
  have R1 := Lib.hid (fun w => rLeast_c n d w hn hd)
  have R2 := Lib.hid (fun w => rMost_c n d w hn hd)
  have R3 := Lib.hid (fun w => rShort_c n d w hn hd)
  have HW := Lib.hid (Below.refl w.heap.size w)
  obtain ⟨⟨x1, y1⟩, h1⟩ : ∃ b, leastP n d = b := ⟨_, rfl⟩
  obtain ⟨⟨x2, y2⟩, h2⟩ : ∃ b, mostP n d = b := ⟨_, rfl⟩
  obtain ⟨⟨x3, y3⟩, h3⟩ : ∃ b, shortP n d = b := ⟨_, rfl⟩
  rw [h1] at H1 R1
  rw [h2] at H2 R2
  rw [h3] at H3 R3
  clear ht X h1 h2 h3
  go_enter Try.func4, Try.ntmps4
  go_wp2_with fail
  refine (H1.out w (HX.out.tbelow _ _ HT.out HW.out)).mono ?_
  rintro e w1 ⟨rfl, hb⟩
  have HW := Lib.hid (bnext HW.out hb)
  clear hb
  go_wp2_with fail
  refine (H2.out w1 (HX.out.tbelow _ _ HT.out HW.out)).mono ?_
  rintro e w2 ⟨rfl, hb⟩
  have HW := Lib.hid (bnext HW.out hb)
  clear hb
  go_wp2_with fail
  refine (H3.out w2 (HX.out.tbelow _ _ HT.out HW.out)).mono ?_
  rintro e w3 ⟨rfl, hb⟩
  have HW := Lib.hid (bnext HW.out hb)
  clear hb
  go_wp2_with fail
  refine (R1.out w3).mono ?_
  rintro e wx ⟨rfl, rfl⟩
  go_wp2_with fail
  refine (R2.out w3).mono ?_
  rintro e wx ⟨rfl, rfl⟩
  go_wp2_with fail
  refine (R3.out w3).mono ?_
  rintro e wx ⟨rfl, rfl⟩
  go_wp2_with fail
  refine (HK.out w3 (HX.out.tbelow _ _ HT.out HW.out)).mono ?_
  rintro e w4 ⟨rfl, hb⟩
  have HW := Lib.hid (bnext HW.out hb)
  clear hb
  go_wp2_with fail
  go_ret
  exact ⟨rfl, HW.out⟩
set_option maxHeartbeats 1000000 in
theorem law_turns {T' : World → Prop} (X : DApi T') (c u r d : Int) (w : World) (hc : I64 c) (hu : I64 u) (hr : I64 r) (hd : I64 d) (ht : T' w) :
    Calls Try.prog 3 #[.int .i64 c, .int .i64 u, .int .i64 r, .int .i64 d] w fun e w' => e = .returned (.bool true) ∧ Below w.heap.size w w' := by
  have HT := Lib.hid ht
  have HX := Lib.hid X
  have HK := Lib.hid (fun w ht => dknown_c X w ht)
  have H1 := Lib.hid (fun w ht => X.turn c u r w ht hc hu hr)
  have H2 := Lib.hid (fun w ht => X.read c w ht hc)
  have H3 := Lib.hid (fun w ht => X.within r d w ht hr hd)
  have R1 := Lib.hid (fun w => rturn_c c u r w hc hu hr)
  have R2 := Lib.hid (fun w => rread_c c w hc)
  have R3 := Lib.hid (fun w => rwithin_c r d w hr hd)
  have HW := Lib.hid (Below.refl w.heap.size w)
  obtain ⟨⟨x1, y1⟩, h1⟩ : ∃ b, turnP c u r = b := ⟨_, rfl⟩
  obtain ⟨x2, h2⟩ : ∃ b, readP c = b := ⟨_, rfl⟩
  obtain ⟨x3, h3⟩ : ∃ b, withinB r d = b := ⟨_, rfl⟩
  rw [h1] at H1 R1
  rw [h2] at H2 R2
  rw [h3] at H3 R3
  have e3 : (x3 == x3) = true := by simp
  clear ht X h1 h2 h3
  go_enter Try.func3, Try.ntmps3
  go_wp2_with fail
  refine (H1.out w (HX.out.tbelow _ _ HT.out HW.out)).mono ?_
  rintro e w1 ⟨rfl, hb⟩
  have HW := Lib.hid (bnext HW.out hb)
  clear hb
  go_wp2_with fail
  refine (R1.out _).mono ?_
  rintro e wx ⟨rfl, rfl⟩
  have HB := Lib.hid (show Blk (w1.alloc (.cells #[.int .i64 x1] 23)) w1.heap.size 23 [.int .i64 x1] from blk_new w1 _ _ _ rfl)
  have HW := Lib.hid (HW.out.alloc HW.out.size (.cells #[.int .i64 x1] 23))
  go_wp2_with fail
  refine (HK.out _ (HX.out.tbelow _ _ HT.out HW.out)).mono ?_
  rintro e w2 ⟨rfl, hb⟩
  have HW := Lib.hid (bnext HW.out hb)
  have c0 : w2.cell? ⟨w1.heap.size, 0, none⟩ = some (.int .i64 x1) := (HB.out.below hb).cell 0
  clear hb
  go_wp2_with fail
  refine (H2.out w2 (HX.out.tbelow _ _ HT.out HW.out)).mono ?_
  rintro e w3 ⟨rfl, hb⟩
  have HW := Lib.hid (bnext HW.out hb)
  clear hb
  go_wp2_with fail
  refine (R2.out w3).mono ?_
  rintro e wx ⟨rfl, rfl⟩
  go_wp2_with fail
  refine (H3.out w3 (HX.out.tbelow _ _ HT.out HW.out)).mono ?_
  rintro e w4 ⟨rfl, hb⟩
  have HW := Lib.hid (bnext HW.out hb)
  clear hb
  go_wp2_with fail
  refine (R3.out w4).mono ?_
  rintro e wx ⟨rfl, rfl⟩
  go_wp2_with fail
  go_ret
  exact ⟨rfl, HW.out⟩
end Go.Proofs.Ytidgmobnclchkaa.dri
