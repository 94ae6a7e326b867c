/- The laws' fixed question. -/
import Derived.Test.YtdjgafemmihlgaaLanA
import Derived.Lib.SlBytesConst
namespace Go.Proofs.Ytdjgafemmihlgaa.lan
open Go.RowKit
open Go.Proofs.Ytdjgafemmihlgaa.oct Go.Proofs.Ytdjgafemmihlgaa.ref Go.Proofs.Ytdjgafemmihlgaa.rows Go.Proofs.Ytdjgafemmihlgaa.rowg Go.Proofs.Ytdjgafemmihlgaa.trn
open Go.Lib (byteCells)

def k1 : LS := (sendP (newP 3) 0 1 [97]).2
def k2 : LS := (sendP k1 1 2 [98]).2
def k3 : LS := (linkP k2 0 1 true).2
def k4 : LS := (takeP k3 1).2.2
theorem k_send1 : (sendP (newP 3) 0 1 [97]).1 = 0 := by rfl
theorem k_take0 : takeP k3 0 = (zeroPk, 9, k3) := by rfl
theorem k_next3 : nextP k3 = 1 := by rfl
theorem k_take1 : takeP k3 1 = (⟨1, 2, [98]⟩, 0, k4) := by rfl
theorem k_next4 : nextP k4 = -1 := by rfl
theorem k_len4 : k4.ps.length = 1 := by rfl
theorem k_cn2 : k2.cn < 1000000 := by decide
theorem St.new (w w0 : World) (hb : Below w.heap.size w w0) (n : Nat) (h1 : 1 ≤ n) (h2 : n ≤ 32) :
    Calls Try.prog 7 #[.int .i64 (n : Nat)] w0 fun e w' => ∃ g, e = .returned (.tuple #[ptr g, err 0]) ∧ St w w' g (newP n) :=
  (new_c w0 n h1 h2).mono fun _ _ ⟨g, _, e1, e2, e3, e4⟩ => ⟨g, e1, St.of_new hb e2 e3 e4 h1 h2⟩
theorem bytes_new (W : World) (c : UInt8) (g : Nat) (hg : g = W.heap.size) : In8 (W.alloc (.cells #[.int .u8 (c.toNat : Int)] 5 (1, 2))) (some ⟨g, 0, none⟩) [c] := by
  subst hg
  intro _
  refine ⟨W.heap.size, 0, rfl, fun i hi => ?_⟩
  obtain rfl : i = 0 := by simpa using hi
  rw [World.cell?_alloc_mark]
  rfl
set_option maxRecDepth 100000 in
set_option maxHeartbeats 8000000 in
theorem known_c (w w0 : World) (hb : Below w.heap.size w w0) :
    Calls Try.prog 8 #[] w0 fun e w' => e = .returned (.bool true) ∧ Below w.heap.size w w' := by
  have HN := Lib.hid (St.new w w0 hb 3 (by decide) (by decide))
  have cv := fun (w : World) (C : Array Value) n c => Lib.run_convert_bytes_const (P := Try.prog) w 35 5 C n c Try.underlying35 Try.underlying5
  clear hb
  go_enter Try.func8, Try.ntmps8
  go_wp2_with fail
  refine HN.out.mono ?_
  rintro e w1 ⟨g, rfl, h1⟩
  have HC : Hid (Calls Try.prog 12 #[ptr g, .int .i64 0, .int .i64 1, .slice (some ⟨w1.heap.size, 0, none⟩) 1 1] (w1.alloc (.cells #[.int .u8 97] 5 (1, 2))) fun e w2 => e = .returned (err (sendP (newP 3) 0 1 [97]).1) ∧ St w w2 g k1) := (h1.more ((Below.refl w1.heap.size w1).alloc (Nat.le_refl _) (.cells #[.int .u8 97] 5 (1, 2)))).send 0 1 (by decide) (by decide) (some ⟨w1.heap.size, 0, none⟩) 1 [97] (bytes_new w1 97 _ rfl) (fun e => by cases e) (by decide)
  clear h1
  go_wp2_with fail
  refine HC.out.mono ?_
  rintro e w2 ⟨rfl, h2⟩
  have HC : Hid (Calls Try.prog 12 #[ptr g, .int .i64 1, .int .i64 2, .slice (some ⟨w2.heap.size, 0, none⟩) 1 1] (w2.alloc (.cells #[.int .u8 98] 5 (1, 2))) fun e w3 => e = .returned (err (sendP k1 1 2 [98]).1) ∧ St w w3 g k2) := (h2.more ((Below.refl w2.heap.size w2).alloc (Nat.le_refl _) (.cells #[.int .u8 98] 5 (1, 2)))).send 1 2 (by decide) (by decide) (some ⟨w2.heap.size, 0, none⟩) 1 [98] (bytes_new w2 98 _ rfl) (fun e => by cases e) (by decide)
  clear h2
  go_wp2_with fail
  refine HC.out.mono ?_
  rintro e w3 ⟨rfl, h3⟩
  have HC : Hid (Calls Try.prog 11 #[ptr g, .int .i64 0, .int .i64 1] w3 fun e w4 => e = .returned (err (linkP k2 0 1 true).1) ∧ St w w4 g k3) := h3.shut k_cn2 0 1 (by decide) (by decide)
  clear h3
  go_wp2_with fail
  refine HC.out.mono ?_
  rintro e w4 ⟨rfl, h4⟩
  have HC : Hid (Calls Try.prog 14 #[ptr g, .int .i64 0] w4 fun e w5 => TakeS w w5 g (zeroPk, 9, k3) e) := by
    have h := h4.take 0 (by decide)
    rw [k_take0] at h
    exact h
  clear h4
  go_wp2_with fail
  refine HC.out.mono ?_
  rintro e w5 ⟨v5, rfl, hv5, h5⟩
  obtain ⟨p5, c5, rfl⟩ := own_slice hv5
  dsimp only [zeroPk] at hv5 ⊢
  have hs := h5.more ((Below.refl w5.heap.size w5).alloc (Nat.le_refl _) (.cells #[.int .i64 0, .int .i64 0, .slice p5 0 c5] 44))
  have HC := Lib.hid hs.next
  rw [k_next3] at HC
  clear h5 hv5 hs
  go_wp2_with fail
  refine HC.out.mono ?_
  rintro e w6 ⟨rfl, h6⟩
  have HC : Hid (Calls Try.prog 14 #[ptr g, .int .i64 1] w6 fun e w7 => TakeS w w7 g (⟨1, 2, [98]⟩, 0, k4) e) := by
    have h := h6.take 1 (by decide)
    rw [k_take1] at h
    exact h
  clear h6
  go_wp2_with fail
  refine HC.out.mono ?_
  rintro e w7 ⟨v7, rfl, hv7, h7⟩
  obtain ⟨p7, c7, rfl⟩ := own_slice hv7
  dsimp only at hv7 ⊢
  have hal := (Below.refl w7.heap.size w7).alloc (Nat.le_refl _) (.cells #[.int .i64 1, .int .i64 2, .slice p7 1 c7] 44)
  have hs := h7.more hal
  have hcv : (convert 35 9 (.slice p7 1 c7)).run Try.prog (w7.alloc (.cells #[.int .i64 1, .int .i64 2, .slice p7 1 c7] 44)) = .ok (.string ⟨#[98]⟩) (w7.alloc (.cells #[.int .i64 1, .int .i64 2, .slice p7 1 c7] 44)) := conv_own (own_below hv7 hal)
  have HC := Lib.hid hs.count
  rw [k_len4] at HC
  have HD := Lib.hid hs.next
  rw [k_next4] at HD
  clear h7 hv7 hs hal
  go_wp2_with fail
  refine HC.out.mono ?_
  rintro e w8 ⟨rfl, rfl⟩
  go_wp2_with fail
  refine HD.out.mono ?_
  rintro e w9 ⟨rfl, h9⟩
  have HB := Lib.hid h9.below
  clear h9
  go_wp2_with fail
  go_ret
  exact ⟨rfl, HB.out⟩
end Go.Proofs.Ytdjgafemmihlgaa.lan
