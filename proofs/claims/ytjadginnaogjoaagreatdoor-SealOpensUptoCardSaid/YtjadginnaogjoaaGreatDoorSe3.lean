/- What seal needs of the package variables (St); the developers' Right, demand, kindOf, serialOf. Texts within the reach. -/
import Derived.Test.YtjadginnaogjoaaGreatDoorSe2
import Derived.Test.YtjadginnaogjoaaGreatDoorShNum
import Derived.Test.YtjadginnaogjoaaGreatDoorDevA0
import Derived.Lib.LaidTab
import Derived.Lib.SmallJoins
namespace Go.Proofs.YtjadginnaogjoaaGreatDoor.sea
open Go.RowKit
open Go.Proofs.YtjadginnaogjoaaGreatDoor.oct Go.Proofs.YtjadginnaogjoaaGreatDoor.rows

theorem g_tab : Tryz.prog.globalNamed "internal/strconv.uint64pow10" = some 6 := by kernel_rfl
theorem g_syn : Tryz.prog.globalNamed "strconv.ErrSyntax" = some 4 := by kernel_rfl
theorem g_rng : Tryz.prog.globalNamed "strconv.ErrRange" = some 5 := by kernel_rfl
theorem var_block {w : World} {n : String} {g : Nat} {cs : Array Value} (hg : Tryz.prog.globalNamed n = some g) (h : w.var? Tryz.prog n = some cs) : ∃ t fz, w.heap[g]? = some (.cells cs t fz) := by
  unfold World.var? at h
  rw [hg, Option.bind_some] at h
  split at h
  · rename_i cs' t fz hh
    cases h
    exact ⟨t, fz, hh⟩
  · cases h
theorem var_of {w : World} {n : String} {g : Nat} {cs : Array Value} {t : TypeId} {fz : Nat × Nat} (hg : Tryz.prog.globalNamed n = some g) (h : w.heap[g]? = some (.cells cs t fz)) : w.var? Tryz.prog n = some cs := by
  unfold World.var?
  rw [hg, Option.bind_some, h]
theorem var_below {w w' : World} {n : String} {g : Nat} {cs : Array Value} (hg : Tryz.prog.globalNamed n = some g) (h : w.var? Tryz.prog n = some cs) (hk : Below w.heap.size w w') : w'.var? Tryz.prog n = some cs := by
  obtain ⟨t, fz, hh⟩ := var_block hg h
  have hlt : g < w.heap.size := (Array.getElem?_eq_some_iff.1 hh).1
  exact var_of hg ((hk.block g hlt).trans hh)
/-- the package variables hold what the program's text lays -/
structure St (w : World) : Prop where
  lt : ∃ b o cp, Lt w b o cp
  dig : sha.Tabs w
  tab : Lib.TabIs Tryz.prog w "internal/strconv.uint64pow10" .u64 Lib.pow10Tab
  syn : ∃ t p, w.var? Tryz.prog "strconv.ErrSyntax" = some #[.iface t p]
  rng : ∃ t p, w.var? Tryz.prog "strconv.ErrRange" = some #[.iface t p]
theorem St.below {w w' : World} (h : St w) (hk : Below w.heap.size w w') : St w' := by
  obtain ⟨b, o, cp, h0⟩ := h.lt
  obtain ⟨t1, p1, h1⟩ := h.syn
  obtain ⟨t2, p2, h2⟩ := h.rng
  exact ⟨⟨b, o, cp, h0.below hk⟩, h.dig.below hk, var_below g_tab h.tab hk, ⟨t1, p1, var_below g_syn h1 hk⟩, ⟨t2, p2, var_below g_rng h2 hk⟩⟩
theorem demand_yes (n : Int) (w : World) : Calls Tryz.prog 10 #[.bool true, .int .i64 n] w fun e w' => e = .returned (.tuple #[]) ∧ w = w' := by
  go_enter Tryz.func10, Tryz.ntmps10
  go_wp2_with fail
  go_end0
  exact ⟨rfl, rfl⟩
theorem demand_no (n : Int) (w : World) : Calls Tryz.prog 10 #[.bool false, .int .i64 n] w fun e w' => e = .panicked [{ v := .iface 46 (.agg #[.int .i64 n]), recovered := false }] ∧ w = w' := by
  go_enter Tryz.func10, Tryz.ntmps10
  go_wp2
  exact ⟨rfl, rfl, rfl⟩
set_option maxRecDepth 100000 in
set_option maxHeartbeats 2000000 in
theorem right_c (t : Tk) (w : World) (ht : St w) :
    Calls Tryz.prog 22 #[tok t] w fun e w' => e = .returned (.bool (decide (Rt t))) ∧ Below w.heap.size w w' := by
  obtain ⟨b, o, cp, hl⟩ := ht.lt
  clear ht
  have HLT := Lib.hid hl
  have HK := Lib.hid (fun w h => isKind_c t.k w (b := b) (o := o) (cp := cp) h)
  have HF := Lib.hid (fun w => isFamily_c t.f w)
  have HS := Lib.hid (fun w => isSerial_c t.n w)
  have HE : Hid (decide (Rt t) = (kB t.k && (fB t.f && sB t.n))) := rt_dec t
  obtain ⟨R, hR⟩ : ∃ R, decide (Rt t) = R := ⟨_, rfl⟩
  rw [hR] at HE ⊢
  clear hR hl
  cases t with
  | mk k f n =>
    simp only at HK HF HS HE
    unfold tok txt at *
    obtain ⟨kb, hkb⟩ : ∃ kb, kB k = kb := ⟨_, rfl⟩
    obtain ⟨fb, hfb⟩ : ∃ fb, fB f = fb := ⟨_, rfl⟩
    obtain ⟨sb, hsb⟩ : ∃ sb, sB n = sb := ⟨_, rfl⟩
    rw [hkb] at HK HE
    rw [hfb] at HF HE
    rw [hsb] at HS HE
    obtain ⟨S, hS⟩ : ∃ S, (⟨f.toArray⟩ : ByteArray) = S := ⟨_, rfl⟩
    simp only [hS] at HF ⊢
    clear hkb hfb hsb hS
    cases kb <;> cases fb <;>
    · go_enter Tryz.func22, Tryz.ntmps22
      go_wp2_with (first
        | (go_at_call 36; refine (HK.out _ (HLT.out.below ((Below.refl _ _).alloc (Nat.le_refl _) _))).mono ?_; rintro e w' ⟨rfl, rfl⟩)
        | (go_at_call 37; refine (HF.out _).mono ?_; rintro e w' ⟨rfl, rfl⟩)
        | (go_at_call 38; refine (HS.out _).mono ?_; rintro e w' ⟨rfl, rfl⟩))
      go_ret
      exact ⟨ret_bool (by rw [HE.out]; try simp), (Below.refl _ _).alloc (Nat.le_refl _) _⟩
/-- what kindOf turns out: the kind, or it throws -/
def KE (k : Option Int) (e : Ending) : Prop := match k with
  | some k => e = .returned (.int .i64 k)
  | none => e = .panicked [{ v := .iface 46 (.agg #[.int .i64 3]), recovered := false }]
set_option maxRecDepth 100000 in
set_option maxHeartbeats 4000000 in
theorem kindOf_c (l : T) (w : World) (ht : St w) :
    Calls Tryz.prog 20 #[txt l] w fun e w' => KE (kindP l) e ∧ w = w' := by
  obtain ⟨b, o, cp, hl⟩ := ht.lt
  clear ht
  have hv := hl.v
  have c0 := hl.c0
  have c1 := hl.c1
  have c2 := hl.c2
  clear hl
  by_cases h1 : l = [99]
  · subst h1
    have HR : Hid (kindP [99] = some 1) := by show _ = _; decide
    unfold txt
    go_enter Tryz.func20, Tryz.ntmps20
    go_wp2_with fail
    refine wp_loop_rounds 4 ?_
    rw [rounds_succ]
    go_wp2
    go_ret
    exact ⟨by rw [HR.out]; rfl, rfl⟩
  · have b1 : ([99] == l) = false := by simpa using fun h => h1 h.symm
    by_cases h2 : l = [97]
    · subst h2
      have HR : Hid (kindP [97] = some 2) := by show _ = _; decide
      unfold txt
      go_enter Tryz.func20, Tryz.ntmps20
      go_wp2_with fail
      refine wp_loop_rounds 4 ?_
      rw [rounds_succ]
      go_wp2
      rw [rounds_succ]
      go_wp2
      go_ret
      exact ⟨by rw [HR.out]; rfl, rfl⟩
    · have b2 : ([97] == l) = false := by simpa using fun h => h2 h.symm
      by_cases h3 : l = [114]
      · subst h3
        have HR : Hid (kindP [114] = some 3) := by show _ = _; decide
        unfold txt
        go_enter Tryz.func20, Tryz.ntmps20
        go_wp2_with fail
        refine wp_loop_rounds 4 ?_
        rw [rounds_succ]
        go_wp2
        rw [rounds_succ]
        go_wp2
        rw [rounds_succ]
        go_wp2
        go_ret
        exact ⟨by rw [HR.out]; rfl, rfl⟩
      · have b3 : ([114] == l) = false := by simpa using fun h => h3 h.symm
        have HR : Hid (kindP l = none) := by show _ = _; unfold kindP; rw [if_neg h1, if_neg h2, if_neg h3]
        clear h1 h2 h3
        unfold txt
        go_enter Tryz.func20, Tryz.ntmps20
        go_wp2_with fail
        refine wp_loop_rounds 4 ?_
        rw [rounds_succ]
        go_wp2
        rw [rounds_succ]
        go_wp2
        rw [rounds_succ]
        go_wp2
        rw [rounds_succ]
        go_wp2
        exact ⟨rfl, by rw [HR.out]; rfl, rfl⟩
/-- what Atoi answers: the number and no error, or an error -/
theorem atoi_any (d : List UInt8) (hd : d.length ≤ 281474976710656) (w : World) (ht : St w) :
    Calls Tryz.prog 35 #[.string ⟨d.toArray⟩] w fun e w' => (∃ (v : Int) (x : Value), e = .returned (.tuple #[.int .i64 v, x]) ∧ (match Lib.atoiAll d with | .ok u => v = u ∧ x = .nilIface | _ => ∃ t p, x = .iface t p)) ∧ Below w.heap.size w w' := by
  have hz : (⟨d.toArray⟩ : ByteArray).size = d.length := List.size_toArray
  have hm : (⟨d.toArray⟩ : ByteArray).data.toList = d := rfl
  rcases h : Lib.atoiAll d with u | _ | _
  · refine (sh.atoi_ok ⟨d.toArray⟩ (by rw [hz]; omega) u (by rw [hm]; exact h) w).mono ?_
    rintro e w' ⟨rfl, hw⟩
    refine ⟨⟨u, .nilIface, rfl, rfl, rfl⟩, ?_⟩
    rcases hw with rfl | ⟨t, rfl⟩
    · exact Below.refl _ _
    · exact Joins.below_bytesWorld _ _ _ _ (Nat.le_refl _)
  · obtain ⟨t, p, hv⟩ := ht.syn
    have hc := World.var?_cell g_syn hv 0
    refine (sh.atoi_syntax ⟨d.toArray⟩ (by rw [hz]; exact hd) (by rw [hm]; exact h) (.iface t p) w (by simpa using hc) (Or.inr ⟨t, p, rfl⟩)).mono ?_
    rintro e w' ⟨N, rfl, _, _, hb⟩
    exact ⟨⟨_, _, rfl, _, _, rfl⟩, hb⟩
  · obtain ⟨t, p, hv⟩ := ht.rng
    have hc := World.var?_cell g_rng hv 0
    refine (sh.atoi_range ⟨d.toArray⟩ (by rw [hz]; exact hd) (by rw [hm]; exact h) (.iface t p) w (by simpa using hc) (Or.inr ⟨t, p, rfl⟩)).mono ?_
    rintro e w' ⟨N, rfl, _, _, hb⟩
    exact ⟨⟨_, _, rfl, _, _, rfl⟩, hb⟩
set_option maxRecDepth 100000 in
set_option maxHeartbeats 4000000 in
theorem serialOf_c (l : T) (w : World) (ht : St w) (hl : l.length ≤ 140737488355328) :
    Calls Tryz.prog 21 #[txt l] w fun e w' => KE (serP l) e ∧ Below w.heap.size w w' := by
  have hsz : (⟨l.toArray⟩ : ByteArray).size = l.length := List.size_toArray
  have HD1 := Lib.hid (fun n w => demand_yes n w)
  have HD0 := Lib.hid (fun n w => demand_no n w)
  by_cases h13 : 13 < l.length
  · have HR : Hid (serP l = none) := by show _ = _; unfold serP; rw [if_pos h13]
    have i1 : ¬ ((⟨l.toArray⟩ : ByteArray).size : Int) ≤ 13 := by omega
    unfold txt
    obtain ⟨S, hS⟩ : ∃ S, (⟨l.toArray⟩ : ByteArray) = S := ⟨_, rfl⟩
    rw [hS] at i1 ⊢
    clear ht hl h13 hsz hS
    go_enter Tryz.func21, Tryz.ntmps21
    go_wp2_with (go_at_call 10; refine (HD0.out _ _).mono ?_; rintro e w' ⟨rfl, rfl⟩)
    rw [HR.out]
    exact ⟨rfl, rfl, Below.refl _ _⟩
  · have i1 : ((⟨l.toArray⟩ : ByteArray).size : Int) ≤ 13 := by omega
    have HR : Hid (serP l = okI (Lib.atoiAll l)) := by show _ = _; unfold serP; rw [if_neg h13]
    have HA := Lib.hid (atoi_any l (by omega) w ht)
    unfold txt
    obtain ⟨S, hS⟩ : ∃ S, (⟨l.toArray⟩ : ByteArray) = S := ⟨_, rfl⟩
    rw [hS] at i1 HA ⊢
    clear ht hl h13 hsz hS
    go_enter Tryz.func21, Tryz.ntmps21
    go_wp2_with (go_at_call 10; refine (HD1.out _ _).mono ?_; rintro e w' ⟨rfl, rfl⟩)
    refine HA.out.mono ?_
    rintro e w1 ⟨⟨v, x, rfl, hx⟩, hb⟩
    have HB := Lib.hid hb
    clear hb HA
    rcases ha : Lib.atoiAll l with u | _ | _
    · rw [ha] at HR hx
      obtain ⟨rfl, rfl⟩ := hx
      clear ha
      go_wp2_with (go_at_call 10; refine (HD1.out _ _).mono ?_; rintro e w' ⟨rfl, rfl⟩)
      go_ret
      rw [HR.out]
      exact ⟨rfl, HB.out⟩
    · rw [ha] at HR hx
      obtain ⟨t, p, rfl⟩ := hx
      clear ha
      go_wp2_with (go_at_call 10; refine (HD0.out _ _).mono ?_; rintro e w' ⟨rfl, rfl⟩)
      rw [HR.out]
      exact ⟨rfl, rfl, HB.out⟩
    · rw [ha] at HR hx
      obtain ⟨t, p, rfl⟩ := hx
      clear ha
      go_wp2_with (go_at_call 10; refine (HD0.out _ _).mono ?_; rintro e w' ⟨rfl, rfl⟩)
      rw [HR.out]
      exact ⟨rfl, rfl, HB.out⟩
end Go.Proofs.YtjadginnaogjoaaGreatDoor.sea
