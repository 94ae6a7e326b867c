/- LaneFull: no more than 4096 packets are under way. -/
import Derived.Test.YtdjgafemmihlgaaLanB
namespace Go.Proofs.Ytdjgafemmihlgaa.lan
open Go.RowKit
open Go.Proofs.Ytdjgafemmihlgaa.oct Go.Proofs.Ytdjgafemmihlgaa.ref Go.Proofs.Ytdjgafemmihlgaa.rows Go.Proofs.Ytdjgafemmihlgaa.rowg Go.Proofs.Ytdjgafemmihlgaa.trn
open Go.Lib (byteCells)

theorem in8_take {w : World} {p : Option Addr} {l : T} (h : In8 w p l) (k : Nat) : In8 w p (l.take k) := fun hp => by
  have hl : 0 < l.length := by rw [List.length_take] at hp; omega
  obtain ⟨b, o, e, hc⟩ := h hl
  refine ⟨b, o, e, fun i hi => ?_⟩
  rw [List.length_take] at hi
  rw [hc i (by omega)]
  simp [List.getD, show i < k by omega]
theorem umod (a : Int) {n : Nat} (h0 : 0 < n) (h1 : n ≤ 65544) : ∃ k : Nat, k < n ∧ wrap64 ((IntKind.u64.wrap a).tmod (n : Int)) = (k : Int) := by
  have hu : 0 ≤ IntKind.u64.wrap a := by
    have h : IntKind.u64.wrap a = a % 18446744073709551616 := rfl
    rw [h]
    omega
  obtain ⟨u, hu2⟩ := Int.eq_ofNat_of_zero_le hu
  rw [hu2]
  refine ⟨u % n, Nat.mod_lt _ h0, ?_⟩
  have h2 : ((u : Int)).tmod (n : Int) = ((u % n : Nat) : Int) := by rw [Int.ofNat_tmod]
  rw [h2]
  have h3 := Nat.mod_lt u h0
  obtain ⟨k, hk⟩ : ∃ k, u % n = k := ⟨_, rfl⟩
  rw [hk] at h3 ⊢
  unfold wrap64
  omega
/-- a lane of two nodes, so many packets -/
def Cnt (s : LS) (i : Nat) : Prop := s.n = 2 ∧ s.ps.length = i
theorem cnt_send {s : LS} {i : Nat} (h : Cnt s i) (a b : Int) (d : T) (ha : 0 ≤ a ∧ a < 2) (hb : 0 ≤ b ∧ b < 2) (hd : d.length ≤ 64) (hi : i < 4096) : (sendP s a b d).1 = 0 ∧ Cnt (sendP s a b d).2 (i + 1) := by
  have h1 : inN s.n a = true := by rw [h.1]; exact inN_iff.2 ⟨ha.1, by omega⟩
  have h2 : inN s.n b = true := by rw [h.1]; exact inN_iff.2 ⟨hb.1, by omega⟩
  unfold sendP
  rw [if_neg (by rw [h1, h2]; rintro (h | h) <;> cases h), if_neg (by omega), if_neg (by rw [h.2]; omega)]
  exact ⟨rfl, h.1, by show (s.ps ++ [_]).length = _; rw [List.length_append, List.length_singleton, h.2]⟩
theorem cnt_full {s : LS} (h : Cnt s 4096) (a b : Int) (d : T) (ha : 0 ≤ a ∧ a < 2) (hb : 0 ≤ b ∧ b < 2) (hd : d.length ≤ 64) : sendP s a b d = (8, s) := by
  have h1 : inN s.n a = true := by rw [h.1]; exact inN_iff.2 ⟨ha.1, by omega⟩
  have h2 : inN s.n b = true := by rw [h.1]; exact inN_iff.2 ⟨hb.1, by omega⟩
  unfold sendP
  rw [if_neg (by rw [h1, h2]; rintro (h | h) <;> cases h), if_neg (by omega), if_pos (by rw [h.2]; omega)]
theorem cnt_twice {s : LS} {i : Nat} (h : Cnt s i) (k : Int) (hk : 0 ≤ k ∧ k < i) (hi : i < 4096) : (twiceP s k).1 = 0 ∧ Cnt (twiceP s k).2 (i + 1) := by
  unfold twiceP
  rw [atP_of (by rw [h.2]; exact hk)]
  dsimp only
  unfold addP
  rw [if_neg (by rw [h.2]; omega)]
  exact ⟨rfl, h.1, by show (s.ps ++ [_]).length = _; rw [List.length_append, List.length_singleton, h.2]⟩
theorem cnt_twice_full {s : LS} (h : Cnt s 4096) (k : Int) (hk : 0 ≤ k ∧ k < 4096) : twiceP s k = (8, s) := by
  unfold twiceP
  rw [atP_of (by rw [h.2]; exact hk)]
  dsimp only
  unfold addP
  rw [if_pos (by rw [h.2]; omega)]
theorem cnt_drop {s : LS} {i : Nat} (h : Cnt s (i + 1)) (k : Int) (hk : 0 ≤ k ∧ k < i + 1) : (dropP s k).1 = 0 ∧ Cnt (dropP s k).2 i := by
  unfold dropP
  rw [atP_of (by rw [h.2]; omega)]
  refine ⟨rfl, h.1, ?_⟩
  show (s.ps.eraseIdx k.toNat).length = i
  rw [List.length_eraseIdx_of_lt (by rw [h.2]; omega), h.2, Nat.add_sub_cancel]
set_option maxRecDepth 100000 in
set_option maxHeartbeats 8000000 in
theorem law_full (p : Option Addr) (c : Nat) (d : T) (k : Int) (w : World) (hp : In8 w p d) (hn : p = none → c = 0) (hc : d.length ≤ c) (hd : d.length ≤ 140737488351232) :
    Calls Try.prog 5 #[.slice p d.length c, .int .i64 k] w fun e w' => e = .returned (.bool true) ∧ Below w.heap.size w w' := by
  have HNEW := Lib.hid (St.new w w (Below.refl _ _) 2 (by decide) (by decide))
  have HKN := Lib.hid (fun w0 => known_c w0 w0 (Below.refl _ _))
  obtain ⟨n, hn0, hn1⟩ := umod k (n := 4096) (by decide) (by decide)
  have HN1 : Hid (wrap64 ((IntKind.u64.wrap k).tmod 4096) = (n : Int)) := hn1
  clear hn1
  by_cases h64 : 64 < d.length
  · obtain ⟨b, o, rfl, _⟩ := hp.at (by omega)
    have HS : Hid (∀ (wx : World) (g : Nat) (s : LS) (a b2 : Int), St w wx g s → I64 a → I64 b2 → Calls Try.prog 12 #[ptr g, .int .i64 a, .int .i64 b2, .slice (some ⟨b, o, none⟩) 64 c] wx fun e w2 => e = .returned (err (sendP s a b2 (d.take 64)).1) ∧ St w w2 g (sendP s a b2 (d.take 64)).2) := by
      intro wx g s a b2 hst ha hb
      have h := hst.send a b2 ha hb (some ⟨b, o, none⟩) c (d.take 64) ((in8_take hp 64).below hst.below) (fun e => by cases e) (by rw [List.length_take]; omega)
      rw [List.length_take, Nat.min_eq_left (by omega)] at h
      exact h
    have HD : Hid ((d.take 64).length ≤ 64) := by show _ ≤ _; rw [List.length_take]; omega
    obtain ⟨D, hD⟩ : ∃ D, d.take 64 = D := ⟨_, rfl⟩
    rw [hD] at HS HD
    have i0 : (d.length : Int) > 64 := by omega
    have i1 : (64 : Int) ≤ c := by omega
    clear hp hn hD
    go_enter Try.func5, Try.ntmps5
    go_wp2_with fail
    refine HNEW.out.mono ?_
    rintro e w1 ⟨g, rfl, h1⟩
    have H1 := Lib.hid h1
    clear h1
    go_wp2_with fail
    go_loopg [7] 4096 (fun gk s7 wx => ∃ i : Nat, i + gk = 4096 ∧ s7 = .int .i64 (i : Int) ∧ Hid (∃ s, St w wx g s ∧ Cnt s i))
    case atStart => exact ⟨0, by omega, rfl, ⟨_, H1.out, rfl, rfl⟩⟩
    case round =>
      obtain ⟨i, hig, rfl, HX⟩ := hrel
      obtain ⟨s, hst, hcn⟩ := HX.out
      rcases gk with _ | gk
      · obtain rfl : i = 4096 := by omega
        have HST := Lib.hid hst
        have HCN := Lib.hid hcn
        clear hst hcn
        go_wp2_with (rw [HN1.out])
        refine (HKN.out _).mono ?_
        rintro e w2 ⟨rfl, hb⟩
        have HST2 := Lib.hid (HST.out.more hb)
        clear hb
        have HC := Lib.hid (HS.out w2 g s 0 1 HST2.out (by decide) (by decide))
        rw [cnt_full HCN.out 0 1 D (by decide) (by decide) HD.out] at HC
        go_wp2_with fail
        refine HC.out.mono ?_
        rintro e w3 ⟨rfl, h3⟩
        have HC := Lib.hid (h3.twice (n : Int) ⟨by omega, by omega⟩)
        rw [cnt_twice_full HCN.out (n : Int) ⟨by omega, by omega⟩] at HC
        clear h3
        go_wp2_with fail
        refine HC.out.mono ?_
        rintro e w4 ⟨rfl, h4⟩
        have HST4 := Lib.hid h4
        have HC := Lib.hid h4.count
        rw [HCN.out.2] at HC
        clear h4
        go_wp2_with fail
        refine HC.out.mono ?_
        rintro e w5 ⟨rfl, rfl⟩
        have HC := Lib.hid (HST4.out.drop (n : Int) ⟨by omega, by omega⟩)
        have hdr := cnt_drop (i := 4095) HCN.out (n : Int) ⟨by omega, by omega⟩
        rw [hdr.1] at HC
        have HDR := Lib.hid hdr.2
        clear hdr
        go_wp2_with fail
        refine HC.out.mono ?_
        rintro e w6 ⟨rfl, h6⟩
        have HC := Lib.hid (h6.twice 0 (by decide))
        have hdr := cnt_twice HDR.out 0 (by decide) (by decide)
        rw [hdr.1] at HC
        have HDR2 := Lib.hid hdr.2
        clear hdr h6
        go_wp2_with fail
        refine HC.out.mono ?_
        rintro e w7 ⟨rfl, h7⟩
        have HC := Lib.hid (HS.out w7 g _ 0 1 h7 (by decide) (by decide))
        rw [cnt_full HDR2.out 0 1 D (by decide) (by decide) HD.out] at HC
        clear h7
        go_wp2_with fail
        refine HC.out.mono ?_
        rintro e w8 ⟨rfl, h8⟩
        have HST8 := Lib.hid h8
        have HC := Lib.hid h8.count
        rw [HDR2.out.2] at HC
        clear h8
        go_wp2_with fail
        refine HC.out.mono ?_
        rintro e w9 ⟨rfl, rfl⟩
        go_wp2_with fail
        go_ret
        exact ⟨rfl, HST8.out.below⟩
      · have hi : i < 4096 := by omega
        have hiI : (i : Int) < 4096 := by omega
        obtain ⟨r, hr, hr2⟩ : ∃ r : Nat, (i : Int) % 2 = r ∧ r < 2 := ⟨i % 2, by omega, by omega⟩
        have HR := Lib.hid hr
        have HC := Lib.hid (HS.out wr g s r 1 hst ⟨by omega, by omega⟩ (by decide))
        have hsn := cnt_send hcn (r : Int) 1 D ⟨by omega, by omega⟩ (by decide) HD.out hi
        rw [hsn.1] at HC
        have HSN := Lib.hid hsn.2
        clear hsn hst hcn hr
        go_wp2_with (rw [HR.out])
        refine HC.out.mono ?_
        rintro e w2 ⟨rfl, h2⟩
        have HST := Lib.hid h2
        clear h2
        go_wp2_with fail
        go_roundg gk
        case measure => omega
        case rel => exact ⟨i + 1, by omega, by go_num, ⟨_, HST.out, HSN.out⟩⟩
  · have HS : Hid (∀ (wx : World) (g : Nat) (s : LS) (a b2 : Int), St w wx g s → I64 a → I64 b2 → Calls Try.prog 12 #[ptr g, .int .i64 a, .int .i64 b2, .slice p d.length c] wx fun e w2 => e = .returned (err (sendP s a b2 d).1) ∧ St w w2 g (sendP s a b2 d).2) := by
      intro wx g s a b2 hst ha hb
      exact hst.send a b2 ha hb p c d (hp.below hst.below) hn (by omega)
    have HD : Hid (d.length ≤ 64) := by show _ ≤ _; omega
    obtain ⟨D, hD⟩ : ∃ D, d = D := ⟨_, rfl⟩
    rw [hD] at HS HD hd h64 ⊢
    have i0 : ¬ ((D.length : Int) > 64) := by omega
    clear hp hn hD hc
    go_enter Try.func5, Try.ntmps5
    go_wp2_with fail
    refine HNEW.out.mono ?_
    rintro e w1 ⟨g, rfl, h1⟩
    have H1 := Lib.hid h1
    clear h1
    go_wp2_with fail
    go_loopg [7] 4096 (fun gk s7 wx => ∃ i : Nat, i + gk = 4096 ∧ s7 = .int .i64 (i : Int) ∧ Hid (∃ s, St w wx g s ∧ Cnt s i))
    case atStart => exact ⟨0, by omega, rfl, ⟨_, H1.out, rfl, rfl⟩⟩
    case round =>
      obtain ⟨i, hig, rfl, HX⟩ := hrel
      obtain ⟨s, hst, hcn⟩ := HX.out
      rcases gk with _ | gk
      · obtain rfl : i = 4096 := by omega
        have HST := Lib.hid hst
        have HCN := Lib.hid hcn
        clear hst hcn
        go_wp2_with (rw [HN1.out])
        refine (HKN.out _).mono ?_
        rintro e w2 ⟨rfl, hb⟩
        have HST2 := Lib.hid (HST.out.more hb)
        clear hb
        have HC := Lib.hid (HS.out w2 g s 0 1 HST2.out (by decide) (by decide))
        rw [cnt_full HCN.out 0 1 D (by decide) (by decide) HD.out] at HC
        go_wp2_with fail
        refine HC.out.mono ?_
        rintro e w3 ⟨rfl, h3⟩
        have HC := Lib.hid (h3.twice (n : Int) ⟨by omega, by omega⟩)
        rw [cnt_twice_full HCN.out (n : Int) ⟨by omega, by omega⟩] at HC
        clear h3
        go_wp2_with fail
        refine HC.out.mono ?_
        rintro e w4 ⟨rfl, h4⟩
        have HST4 := Lib.hid h4
        have HC := Lib.hid h4.count
        rw [HCN.out.2] at HC
        clear h4
        go_wp2_with fail
        refine HC.out.mono ?_
        rintro e w5 ⟨rfl, rfl⟩
        have HC := Lib.hid (HST4.out.drop (n : Int) ⟨by omega, by omega⟩)
        have hdr := cnt_drop (i := 4095) HCN.out (n : Int) ⟨by omega, by omega⟩
        rw [hdr.1] at HC
        have HDR := Lib.hid hdr.2
        clear hdr
        go_wp2_with fail
        refine HC.out.mono ?_
        rintro e w6 ⟨rfl, h6⟩
        have HC := Lib.hid (h6.twice 0 (by decide))
        have hdr := cnt_twice HDR.out 0 (by decide) (by decide)
        rw [hdr.1] at HC
        have HDR2 := Lib.hid hdr.2
        clear hdr h6
        go_wp2_with fail
        refine HC.out.mono ?_
        rintro e w7 ⟨rfl, h7⟩
        have HC := Lib.hid (HS.out w7 g _ 0 1 h7 (by decide) (by decide))
        rw [cnt_full HDR2.out 0 1 D (by decide) (by decide) HD.out] at HC
        clear h7
        go_wp2_with fail
        refine HC.out.mono ?_
        rintro e w8 ⟨rfl, h8⟩
        have HST8 := Lib.hid h8
        have HC := Lib.hid h8.count
        rw [HDR2.out.2] at HC
        clear h8
        go_wp2_with fail
        refine HC.out.mono ?_
        rintro e w9 ⟨rfl, rfl⟩
        go_wp2_with fail
        go_ret
        exact ⟨rfl, HST8.out.below⟩
      · have hi : i < 4096 := by omega
        have hiI : (i : Int) < 4096 := by omega
        obtain ⟨r, hr, hr2⟩ : ∃ r : Nat, (i : Int) % 2 = r ∧ r < 2 := ⟨i % 2, by omega, by omega⟩
        have HR := Lib.hid hr
        have HC := Lib.hid (HS.out wr g s r 1 hst ⟨by omega, by omega⟩ (by decide))
        have hsn := cnt_send hcn (r : Int) 1 D ⟨by omega, by omega⟩ (by decide) HD.out hi
        rw [hsn.1] at HC
        have HSN := Lib.hid hsn.2
        clear hsn hst hcn hr
        go_wp2_with (rw [HR.out])
        refine HC.out.mono ?_
        rintro e w2 ⟨rfl, h2⟩
        have HST := Lib.hid h2
        clear h2
        go_wp2_with fail
        go_roundg gk
        case measure => omega
        case rel => exact ⟨i + 1, by omega, by go_num, ⟨_, HST.out, HSN.out⟩⟩
end Go.Proofs.Ytdjgafemmihlgaa.lan
