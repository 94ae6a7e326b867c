/- What of the library's variables json needs (JT); the contract of the developers' number. Texts shorter than 4294967281 bytes; JT. -/
import Derived.Test.YtbgnoobgnpebdaaDoorJdv6
import Derived.Lib.LaidTab
import Derived.Lib.SmallJoins
namespace Go.Proofs.YtbgnoobgnpebdaaDoor.jdv
open Go.RowKit
open Go.Proofs.YtbgnoobgnpebdaaDoor.oct Go.Proofs.YtbgnoobgnpebdaaDoor.ref Go.Proofs.YtbgnoobgnpebdaaDoor.rows Go.Proofs.YtbgnoobgnpebdaaDoor.rowg Go.Proofs.YtbgnoobgnpebdaaDoor.jsn
open Go.Lib (byteCells hasPrefix trimPrefix)

/-- the table of powers of ten, and the two errors -/
structure JT (w : World) : Prop where
  tab : Lib.TabIs Tryd.prog w "internal/strconv.uint64pow10" .u64 Lib.pow10Tab
  syn : ∃ t p, w.var? Tryd.prog "strconv.ErrSyntax" = some #[.iface t p]
  rng : ∃ t p, w.var? Tryd.prog "strconv.ErrRange" = some #[.iface t p]
theorem g_tab : Tryd.prog.globalNamed "internal/strconv.uint64pow10" = some 0 := by kernel_rfl
theorem g_syn : Tryd.prog.globalNamed "strconv.ErrSyntax" = some 4 := by kernel_rfl
theorem g_rng : Tryd.prog.globalNamed "strconv.ErrRange" = some 5 := by kernel_rfl
theorem var_block {w : World} {n : String} {g : Nat} {cs : Array Value} (hg : Tryd.prog.globalNamed n = some g) (h : w.var? Tryd.prog n = some cs) : ∃ t fz, w.heap[g]? = some (.cells cs t fz) := by
  unfold World.var? at h
  rw [hg, Option.bind_some] at h
  split at h
  · rename_i cs' t fz hh
    cases h
    exact ⟨t, fz, hh⟩
  · cases h
theorem var_of {w : World} {n : String} {g : Nat} {cs : Array Value} {t : TypeId} {fz : Nat × Nat} (hg : Tryd.prog.globalNamed n = some g) (h : w.heap[g]? = some (.cells cs t fz)) : w.var? Tryd.prog n = some cs := by
  unfold World.var?
  rw [hg, Option.bind_some, h]
/-- a variable stands where its block stands; a reader's block is none of these -/
theorem var_rk {w w' : World} {b : Nat} {l : List UInt8} {n : String} {g : Nat} {cs : Array Value} (hg : Tryd.prog.globalNamed n = some g) (h : w.var? Tryd.prog n = some cs) (hr : Rd w b l) (hk : RK b w w') (hne : cs ≠ #[.string ⟨l.toArray⟩]) : w'.var? Tryd.prog n = some cs := by
  obtain ⟨t, fz, hh⟩ := var_block hg h
  have hlt : g < w.heap.size := (Array.getElem?_eq_some_iff.1 hh).1
  have hgb : g ≠ b := by
    rintro rfl
    have hb : w.heap[g]? = some (.cells #[.string ⟨l.toArray⟩] 60 (0, 0)) := hr
    rw [hh] at hb
    injection hb with hb
    injection hb with h1 h2 h3
    exact hne h1
  exact var_of hg ((hk.block g hlt hgb).trans hh)
theorem var_below {w w' : World} {n : String} {g : Nat} {cs : Array Value} (hg : Tryd.prog.globalNamed n = some g) (h : w.var? Tryd.prog n = some cs) (hk : Below w.heap.size w w') : w'.var? Tryd.prog n = some cs := by
  obtain ⟨t, fz, hh⟩ := var_block hg h
  have hlt : g < w.heap.size := (Array.getElem?_eq_some_iff.1 hh).1
  exact var_of hg ((hk.block g hlt).trans hh)
theorem JT.rk {w w' : World} {b : Nat} {l : List UInt8} (h : JT w) (hr : Rd w b l) (hk : RK b w w') : JT w' := by
  obtain ⟨t1, p1, h1⟩ := h.syn
  obtain ⟨t2, p2, h2⟩ := h.rng
  refine ⟨var_rk g_tab h.tab hr hk ?_, ⟨t1, p1, var_rk g_syn h1 hr hk ?_⟩, ⟨t2, p2, var_rk g_rng h2 hr hk ?_⟩⟩
  · intro e
    have := congrArg Array.size e
    simp [Lib.pow10Tab_length] at this
  · intro e; cases e
  · intro e; cases e
theorem JT.below {w w' : World} (h : JT w) (hk : Below w.heap.size w w') : JT w' := by
  obtain ⟨t1, p1, h1⟩ := h.syn
  obtain ⟨t2, p2, h2⟩ := h.rng
  exact ⟨var_below g_tab h.tab hk, ⟨t1, p1, var_below g_syn h1 hk⟩, ⟨t2, p2, var_below g_rng h2 hk⟩⟩
theorem ixP_lt (l : List UInt8) : ixP l < l.length ∨ l = [] := by
  have go : ∀ l : List UInt8, Lib.indexAny l [44, 125] < l.length ∨ l = [] := by
    intro l
    induction l with
    | nil => exact Or.inr rfl
    | cons b l ih =>
      left
      rw [Lib.indexAny]
      split
      · simp only [List.length_cons]; omega
      · split
        · simp only [List.length_cons]; omega
        · rcases ih with h | h
          · simp only [List.length_cons]; omega
          · subst h; simp_all [Lib.indexAny]
  exact go l
theorem ixP_le (l : List UInt8) (h : ¬ ixP l < 0) : (ixP l).toNat ≤ l.length := by
  rcases ixP_lt l with h1 | h1
  · omega
  · subst h1
    exfalso
    apply h
    decide
/-- what Atoi answers: the number and no error, or an error -/
theorem atoi_any (d : List UInt8) (hd : d.length ≤ 281474976710656) (w : World) (ht : JT w) :
    Calls Tryd.prog 67 #[.string ⟨d.toArray⟩] w fun e w' => (∃ (v : Int) (x : Value), e = .returned (.tuple #[.int .i64 v, x]) ∧ (match Lib.atoiAll d with | .ok u => v = u ∧ x = .nilIface | _ => ∃ t p, x = .iface t p)) ∧ Below w.heap.size w w' := by
  have hz : (⟨d.toArray⟩ : ByteArray).size = d.length := size_mk d
  rcases h : Lib.atoiAll d with u | _ | _
  · refine (sh.atoi_ok ⟨d.toArray⟩ (by rw [hz]; omega) u (by rw [mk_toList]; exact h) w).mono ?_
    rintro e w' ⟨rfl, hw⟩
    refine ⟨⟨u, .nilIface, rfl, rfl, rfl⟩, ?_⟩
    rcases hw with rfl | ⟨t, rfl⟩
    · exact Below.refl _ _
    · exact Joins.below_bytesWorld _ _ _ _ (Nat.le_refl _)
  · obtain ⟨t, p, hv⟩ := ht.syn
    have hc := World.var?_cell g_syn hv 0
    refine (sh.atoi_syntax ⟨d.toArray⟩ (by rw [hz]; exact hd) (by rw [mk_toList]; exact h) (.iface t p) w (by simpa using hc) (Or.inr ⟨t, p, rfl⟩)).mono ?_
    rintro e w' ⟨N, rfl, _, _, hb⟩
    exact ⟨⟨_, _, rfl, _, _, rfl⟩, hb⟩
  · obtain ⟨t, p, hv⟩ := ht.rng
    have hc := World.var?_cell g_rng hv 0
    refine (sh.atoi_range ⟨d.toArray⟩ (by rw [hz]; exact hd) (by rw [mk_toList]; exact h) (.iface t p) w (by simpa using hc) (Or.inr ⟨t, p, rfl⟩)).mono ?_
    rintro e w' ⟨N, rfl, _, _, hb⟩
    exact ⟨⟨_, _, rfl, _, _, rfl⟩, hb⟩
abbrev nv (n : Int) : Value := .int .i64 n
set_option maxRecDepth 100000 in
set_option maxHeartbeats 4000000 in
theorem number_c (b : Nat) (l : List UInt8) (w : World) (hr : Rd w b l) (hl : l.length < 4294967281) (ht : JT w) :
    Calls Tryd.prog 59 #[.pointer (some ⟨b, 0, none⟩)] w fun e w' => RdV b w w' (numP l) nv e := by
  have HI := Lib.hid (indexAny_c l w hl)
  have c0 := hr.cell
  have HR := Lib.hid hr
  have HT := Lib.hid ht
  clear ht
  by_cases h0 : ixP l < 0
  · have HV : Hid (numP l = none) := by show _ = _; unfold numP; rw [if_pos h0]
    clear hr hl
    obtain ⟨i, hi⟩ : ∃ i, ixP l = i := ⟨_, rfl⟩
    rw [hi] at h0 HI
    clear hi
    go_enter Tryd.func59, Tryd.ntmps59
    go_wp2_with (first | (go_at_call 66; refine HI.out.mono ?_; rintro e w1 ⟨rfl, hb1⟩) | (go_at_call 42; refine (giveUp_c _).mono ?_; rintro e w5 ⟨rfl, rfl⟩))
    exact ⟨rfl, RdV.mk_no HV.out (RK.of_below hb1)⟩
  · have hle := ixP_le l h0
    obtain ⟨i, hi⟩ : ∃ i : Nat, ixP l = i := ⟨(ixP l).toNat, by omega⟩
    have HNE : Hid (numP l = match Lib.atoiAll (l.take i) with | .ok v => if Lib.itoa v = l.take i then some (v, l.drop i) else none | _ => none) := by
      show _ = _
      unfold numP
      rw [if_neg h0, hi, Int.toNat_natCast]
      rfl
    rw [hi] at h0 hle HI
    rw [Int.toNat_natCast] at hle
    have HD : Hid ((⟨l.toArray⟩ : ByteArray).extract 0 i = ⟨(l.take i).toArray⟩) := mk_take l i
    have HE : Hid ((⟨l.toArray⟩ : ByteArray).extract i (⟨l.toArray⟩ : ByteArray).size = ⟨(l.drop i).toArray⟩) := by show _ = _; rw [mk_size, mk_extract]
    have hdl : (l.take i).length ≤ 281474976710656 := by rw [List.length_take]; omega
    have HAT := Lib.hid (fun w ht => atoi_any (l.take i) hdl w ht)
    have hsz : (⟨l.toArray⟩ : ByteArray).size = l.length := size_mk l
    obtain ⟨S, hS⟩ : ∃ S, (⟨l.toArray⟩ : ByteArray) = S := ⟨_, rfl⟩
    rw [hS] at hsz HI HD HE c0
    have m1 : (i : Int) ≤ (S.size : Int) := by omega
    have m2 : (S.size : Int) ≤ 4294967281 := by omega
    have m0 : (0 : Int) ≤ (i : Int) := by omega
    clear hi hdl hsz
    go_enter Tryd.func59, Tryd.ntmps59
    go_wp2_with fail
    refine HI.out.mono ?_
    rintro e w1 ⟨rfl, hb1⟩
    have hr1 := HR.out.below hb1
    have c1 := hr1.cell
    rw [hS] at c1
    have f1 := hr1.fr
    have HR1 := Lib.hid hr1
    have HB1 := Lib.hid hb1
    clear hb1 hr1
    go_wp2_with fail
    rw [HD.out, HE.out]
    have hw2 := HR1.out.set (l.drop i)
    have hk2 := (RK.of_below (b := b) HB1.out).trans (RK.set b w1 (.string ⟨(l.drop i).toArray⟩))
    have ht2 := (HT.out.below HB1.out).rk HR1.out (RK.set b w1 (.string ⟨(l.drop i).toArray⟩))
    obtain ⟨w2, hww⟩ : ∃ w2, w1.setCell ⟨b, 0, none⟩ (.string ⟨(l.drop i).toArray⟩) = w2 := ⟨_, rfl⟩
    rw [hww] at hw2 hk2 ht2 ⊢
    refine (HAT.out w2 ht2).mono ?_
    rintro e w3 ⟨⟨v, x, rfl, hvx⟩, hb3⟩
    have HR3 := Lib.hid (hw2.below hb3)
    have HK3 := Lib.hid (hk2.trans (RK.of_below hb3))
    have HT3 := Lib.hid (ht2.below hb3)
    clear hw2 hk2 ht2 hww hb3 HAT HD HE HR1 HB1 c1 f1 c0 HI
    rcases ha : Lib.atoiAll (l.take i) with u | _ | _
    · rw [ha] at HNE hvx
      obtain ⟨rfl, rfl⟩ := hvx
      have hbd := Lib.atoiAll_bounds ha
      have HIT := Lib.hid (sh.itoa_c v hbd.1 hbd.2 w3 HT3.out.tab)
      clear ha
      by_cases he : Lib.itoa v = l.take i
      · have HV : Hid (numP l = some (v, l.drop i)) := by show _ = _; rw [HNE.out]; exact if_pos he
        have hq : ((⟨(Lib.itoa v).toArray⟩ : ByteArray).toList != (⟨(l.take i).toArray⟩ : ByteArray).toList) = false := by rw [he]; simp
        go_wp2_with (go_at_call 36; refine HIT.out.mono ?_; rintro e w4 ⟨rfl, hb4⟩)
        go_ret
        exact RdV.mk_yes HV.out (HK3.out.trans (RK.of_below hb4)) (HR3.out.below hb4)
      · have HV : Hid (numP l = none) := by show _ = _; rw [HNE.out]; exact if_neg he
        have hq : (Lib.itoa v == l.take i) = false := by simpa using he
        go_wp2_with (first | (go_at_call 36; refine HIT.out.mono ?_; rintro e w4 ⟨rfl, hb4⟩) | (go_at_call 42; refine (giveUp_c _).mono ?_; rintro e w5 ⟨rfl, rfl⟩))
        exact ⟨rfl, RdV.mk_no HV.out (HK3.out.trans (RK.of_below hb4))⟩
    · rw [ha] at HNE hvx
      obtain ⟨t, p, rfl⟩ := hvx
      clear ha
      go_wp2_with (go_at_call 42; refine (giveUp_c _).mono ?_; rintro e w5 ⟨rfl, rfl⟩)
      exact ⟨rfl, RdV.mk_no HNE.out HK3.out⟩
    · rw [ha] at HNE hvx
      obtain ⟨t, p, rfl⟩ := hvx
      clear ha
      go_wp2_with (go_at_call 42; refine (giveUp_c _).mono ?_; rintro e w5 ⟨rfl, rfl⟩)
      exact ⟨rfl, RdV.mk_no HNE.out HK3.out⟩
end Go.Proofs.YtbgnoobgnpebdaaDoor.jdv
