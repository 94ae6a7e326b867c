/- The contracts of the developers' members and object. Texts of at most 16384 bytes; JT. -/
import Derived.Test.YtbgnoobgnpebdaaDoorJdv9
namespace Go.Proofs.YtbgnoobgnpebdaaDoor.jdv
open Go.RowKit
open Go.Proofs.YtbgnoobgnpebdaaDoor.oct Go.Proofs.YtbgnoobgnpebdaaDoor.ref Go.Proofs.YtbgnoobgnpebdaaDoor.rows Go.Proofs.YtbgnoobgnpebdaaDoor.rowg Go.Proofs.YtbgnoobgnpebdaaDoor.jsn
open Go.Lib (byteCells hasPrefix trimPrefix)

/-- v is a row of the call's own, from block B on, that holds these members -/
def RowV (w : World) (B : Nat) (ms : List Mem) (v : Value) : Prop := w.ownsRow B 38 5 v ms.length (cells menc ms)
theorem RowV.rk {w w' : World} {B b : Nat} {ms : List Mem} {v : Value} (h : RowV w B ms v) (hk : RK b w w') (hb : b < B) : RowV w' B ms v := by
  refine ⟨h.1, ?_⟩
  rcases h.2 with h2 | ⟨g, cap, cur, h1, h2, h3, h4⟩
  · exact Or.inl h2
  · exact Or.inr ⟨g, cap, cur, h1, h2, (hk.block g (Array.getElem?_eq_some_iff.1 h3).1 (by omega)).trans h3, h4⟩
theorem RowV.below {w w' : World} {B : Nat} {ms : List Mem} {v : Value} (h : RowV w B ms v) (hb : Below w.heap.size w w') : RowV w' B ms v := own_belowG h hb
theorem RowV.base {w : World} {B B' : Nat} {ms : List Mem} {v : Value} (h : RowV w B ms v) (hb : B' ≤ B) : RowV w B' ms v := by
  refine ⟨h.1, ?_⟩
  rcases h.2 with h2 | ⟨g, cap, cur, h1, h2, h3⟩
  · exact Or.inl h2
  · exact Or.inr ⟨g, cap, cur, h1, Nat.le_trans hb h2, h3⟩
theorem RowV.shape {w : World} {B : Nat} {ms : List Mem} {v : Value} (h : RowV w B ms v) : ∃ p c, v = .slice p ms.length c ∧ ms.length ≤ c ∧ (p = none → c = 0) ∧ InM w p ms := own_g menc_len (by decide) h
def MemsV (b : Nat) (w w' : World) (o : Option (List Mem × List UInt8)) (e : Ending) : Prop :=
  RK b w w' ∧ match o with | some y => (∃ v, e = .returned v ∧ RowV w' w.heap.size y.1 v) ∧ Rd w' b y.2 | none => e = .panicked [{ v := .iface 23 (.int .i64 3), recovered := false }]
theorem MemsV.mk_yes {b : Nat} {w w' : World} {o : Option (List Mem × List UInt8)} {ms : List Mem} {r : List UInt8} {v : Value} (ho : o = some (ms, r)) (h1 : RK b w w') (h2 : RowV w' w.heap.size ms v) (h3 : Rd w' b r) : MemsV b w w' o (.returned v) := by
  subst ho
  exact ⟨h1, ⟨v, rfl, h2⟩, h3⟩
theorem MemsV.mk_no {b : Nat} {w w' : World} {o : Option (List Mem × List UInt8)} (ho : o = none) (h1 : RK b w w') : MemsV b w w' o (.panicked [{ v := .iface 23 (.int .i64 3), recovered := false }]) := by
  subst ho
  exact ⟨h1, rfl⟩
theorem MemsV.yes {b : Nat} {w w' : World} {o : Option (List Mem × List UInt8)} {e : Ending} {ms : List Mem} {r : List UInt8} (h : MemsV b w w' o e) (ho : o = some (ms, r)) : ∃ v, e = .returned v ∧ RowV w' w.heap.size ms v ∧ RK b w w' ∧ Rd w' b r := by
  subst ho
  obtain ⟨h1, ⟨v, h2, h3⟩, h4⟩ := h
  exact ⟨v, h2, h3, h1, h4⟩
theorem MemsV.no {b : Nat} {w w' : World} {o : Option (List Mem × List UInt8)} {e : Ending} (h : MemsV b w w' o e) (ho : o = none) : e = .panicked [{ v := .iface 23 (.int .i64 3), recovered := false }] ∧ RK b w w' := by
  subst ho
  exact ⟨h.2, h.1⟩
theorem memP_le {l r : List UInt8} {m : Mem} (h : memP l = some (m, r)) : r.length ≤ l.length := by
  rw [(memP_sound h).1, List.length_append]; omega
theorem infoM : ∃ i0, Tryd.prog.info? 38 = some i0 ∧ i0.zero = some (.agg #[.string ⟨#[]⟩, .int .i64 0, .string ⟨#[]⟩, .int .i64 0, .bool false]) ∧ i0.size = 5 ∧ i0.bytes = 56 := info_parts infoMem2
theorem rowV_one (w : World) (m : Mem) : RowV (w.alloc (.cells #[.string ⟨m.name.toArray⟩, .int .i64 m.kind, .string ⟨m.text.toArray⟩, .int .i64 m.n, .bool m.b] 38)) w.heap.size [m] (.slice (some ⟨w.heap.size, 0, none⟩) 1 1) :=
  ⟨by rw [cells_one]; rfl, Or.inr ⟨w.heap.size, 1, _, rfl, Nat.le_refl _, heap_alloc_new w _, Nat.le_refl _, by unfold maxLen; omega, rfl, by rw [cells_one]; rfl⟩⟩
set_option maxRecDepth 100000 in
set_option maxHeartbeats 8000000 in
theorem members_c (b : Nat) (l : List UInt8) (w : World) (hr : Rd w b l) (hl : l.length ≤ 16384) (ht : JT w) :
    Calls Tryd.prog 41 #[.pointer (some ⟨b, 0, none⟩)] w fun e w' => MemsV b w w' (memsP l) e := by
  have c0 := hr.cell
  have hbB := hr.lt
  have HR := Lib.hid hr
  have HT := Lib.hid ht
  have HP := Lib.hid (fun w => hasPre l [125] w)
  have HMC := Lib.hid (member_c b l w hr hl ht)
  clear hr ht
  by_cases h0 : hasPrefix l [125] = true
  · have HV : Hid (memsP l = some ([], l)) := by show _ = _; unfold memsP; rw [if_pos h0]
    rw [h0] at HP
    clear h0 HMC
    go_enter Tryd.func41, Tryd.ntmps41
    go_wp2_with fail
    refine (HP.out _).mono ?_
    rintro e w1 ⟨rfl, rfl⟩
    go_wp2_with fail
    go_ret
    exact MemsV.mk_yes HV.out (RK.refl _ _) (World.ownsRow_nil _ _ _ _) HR.out
  · rw [show hasPrefix l [125] = false by simpa using h0] at HP
    have HMS : Hid (memsP l = match memP l with | none => none | some (m, r) => moreP 63 [m] r) := by show _ = _; unfold memsP; rw [if_neg h0]; rfl
    clear h0
    cases h1 : memP l with
    | none =>
      have HV : Hid (memsP l = none) := by show _ = _; rw [HMS.out, h1]
      have HC := Lib.hid (HMC.out.mono fun e w' h => h.no h1)
      clear h1 HMC
      go_enter Tryd.func41, Tryd.ntmps41
      go_wp2_with fail
      refine (HP.out _).mono ?_
      rintro e w1 ⟨rfl, rfl⟩
      go_wp2_with fail
      refine HC.out.mono ?_
      rintro e w1 ⟨rfl, hk1⟩
      go_wp2_with fail
      exact ⟨rfl, MemsV.mk_no HV.out hk1⟩
    | some y =>
      obtain ⟨m, r⟩ := y
      have HMV : Hid (memsP l = moreP 63 [m] r) := by show _ = _; rw [HMS.out, h1]
      have hrl := memP_le h1
      have HC := Lib.hid (HMC.out.mono fun e w' h => h.yes h1)
      have HROW := Lib.hid (fun w => rowV_one w m)
      obtain ⟨x0, x1, x2, x3, x4⟩ := m
      unfold mv tx at HC
      clear h1 HMC HMS
      go_enter Tryd.func41, Tryd.ntmps41
      go_wp2_with fail
      refine (HP.out _).mono ?_
      rintro e w1 ⟨rfl, rfl⟩
      go_wp2_with fail
      refine HC.out.mono ?_
      rintro e w2 ⟨rfl, hk2, hr2⟩
      have HK2 := Lib.hid hk2
      have HR2 := Lib.hid hr2
      have hs2 := hk2.size
      clear hk2 hr2 HC HP c0
      go_wp2_with fail
      go_loopg [3] 63 (fun g s3 wx => ∃ (acc : List Mem) (cur : List UInt8), acc.length + g = 64 ∧ cur.length ≤ 16384 ∧ Hid (memsP l = moreP g acc cur) ∧ Hid (RowV wx w.heap.size acc s3) ∧ Hid (RK b w wx) ∧ Hid (Rd wx b cur))
      case atStart => exact ⟨[⟨x0, x1, x2, x3, x4⟩], r, rfl, by omega, HMV, (HROW.out w2).base hs2, HK2.out.step ((Below.refl _ _).alloc (Nat.le_refl _) _) hs2, HR2.out.below ((Below.refl _ _).alloc (Nat.le_refl _) _)⟩
      case round =>
        obtain ⟨acc, cur, hag, hcl, HM, HRW, HK, HRX⟩ := hrel
        obtain ⟨p, c, rfl, _, _, _⟩ := HRW.out.shape
        have hsw := HK.out.size
        by_cases h2 : hasPrefix cur [44] = true
        · have HTK := Lib.hid (took_yes b cur [44] wr HRX.out h2)
          have hdl : (cur.drop 1).length ≤ 16384 := by rw [List.length_drop]; omega
          rcases gk with _ | g
          · have HV : Hid (memsP l = none) := by show _ = _; rw [HM.out, moreP_full _ _ h2]
            have h64 : ((acc.length : Int) == 64) = true := by rw [beq_iff_eq]; omega
            clear h2 HM hag
            go_wp2_with (first | ((with_reducible refine HTK.out.mono ?_); rintro e w3 ⟨rfl, hk3, hr3⟩) | (go_at_call 42; refine (giveUp_c _).mono ?_; rintro e w5 ⟨rfl, rfl⟩))
            exact ⟨rfl, MemsV.mk_no HV.out (HK.out.trans hk3)⟩
          · have h64 : ((acc.length : Int) == 64) = false := by rw [beq_eq_false_iff_ne]; omega
            cases h3 : memP (cur.drop 1) with
            | none =>
              have HV : Hid (memsP l = none) := by show _ = _; rw [HM.out, moreP_none _ _ _ h2 h3]
              have HME := Lib.hid (fun w hr ht => (member_c b (cur.drop 1) w hr hdl ht).mono fun e w' h => h.no h3)
              clear h2 h3 HM hag
              go_wp2_with ((with_reducible refine HTK.out.mono ?_); rintro e w3 ⟨rfl, hk3, hr3⟩)
              refine (HME.out w3 hr3 (HT.out.rk HR.out (HK.out.trans hk3))).mono ?_
              rintro e w4 ⟨rfl, hk4⟩
              go_wp2_with fail
              exact ⟨rfl, MemsV.mk_no HV.out ((HK.out.trans hk3).trans hk4)⟩
            | some y =>
              obtain ⟨m, r2⟩ := y
              have hrl2 := memP_le h3
              have HV : Hid (memsP l = moreP g (acc ++ [m]) r2) := by show _ = _; rw [HM.out, moreP_some g acc cur m r2 h2 h3]
              have HME := Lib.hid (fun w hr ht => (member_c b (cur.drop 1) w hr hdl ht).mono fun e w' h => h.yes h3)
              have hsn : cells menc (acc ++ [m]) = cells menc acc ++ menc m := by rw [cells_append, cells_one]
              have hlen : (acc ++ [m]).length = acc.length + 1 := by simp
              obtain ⟨y0, y1, y2, y3, y4⟩ := m
              unfold mv tx at HME
              have HSN := Lib.hid hsn
              have HLN := Lib.hid hlen
              obtain ⟨i0, hi0, hz0, hz1, hz2⟩ := infoM
              clear h2 h3 HM hsn hlen
              go_wp2_with ((with_reducible refine HTK.out.mono ?_); rintro e w3 ⟨rfl, hk3, hr3⟩)
              refine (HME.out w3 hr3 (HT.out.rk HR.out (HK.out.trans hk3))).mono ?_
              rintro e w4 ⟨rfl, hk4, hr4⟩
              have HK4 := Lib.hid ((HK.out.trans hk3).trans hk4)
              have HR4 := Lib.hid hr4
              have hrow4 : w4.ownsRow w.heap.size 38 5 (.slice p acc.length c) acc.length (cells menc acc) := (HRW.out.rk hk3 hbB).rk hk4 hbB
              have hs4 := HK4.out.size
              have HRW4 := Lib.hid hrow4
              clear hk3 hr3 hk4 hr4 hrow4 HTK HRW HRX HK
              go_wp2_with (at_builtin; refine wpList_append_own _ rfl (.tmp 18) (.tmp 21) 22 rfl w.heap.size 38 i0 (.agg #[.string ⟨#[]⟩, .int .i64 0, .string ⟨#[]⟩, .int .i64 0, .bool false]) 5 56 Tryd.underlying22 hi0 hz0 hz1 hz2 rfl (by decide) _ acc.length (cells menc acc) rfl (HRW4.out.alloc _) _ 1 1 (menc ⟨y0, y1, y2, y3, y4⟩) rfl rfl (new_cellsG _ _ _ (by simp) _) (menc_one _) (by unfold maxLen; omega) (by omega) (by simp; omega) ?_; intro v7 w7 hn7 hg7 _)
              have hb7 : Below w.heap.size w4 w7 := ((Below.refl _ w4).alloc hs4 _).grown hg7 (by simp; omega) (fun k hk => (HRW4.out.lt k hk).1)
              have HB7 := Lib.hid hb7
              clear hb7 hg7
              go_roundg g
              case measure => omega
              case rel => exact ⟨acc ++ [⟨y0, y1, y2, y3, y4⟩], r2, by rw [HLN.out]; omega, by omega, HV, (by show World.ownsRow _ _ _ _ _ _ _; rw [HLN.out, HSN.out]; exact hn7), HK4.out.step HB7.out (Nat.le_refl _), HR4.out.step HB7.out hbB⟩
        · have h2' : hasPrefix cur [44] = false := by simpa using h2
          have HV : Hid (memsP l = some (acc, cur)) := by show _ = _; rw [HM.out, moreP_stop _ _ _ h2']
          have HTK := Lib.hid (took_no b cur [44] wr HRX.out h2')
          clear h2 h2' HM hag
          go_wp2_with ((with_reducible refine HTK.out.mono ?_); rintro e w3 ⟨rfl, hk3, hr3⟩)
          go_ret
          exact MemsV.mk_yes HV.out (HK.out.trans hk3) (HRW.out.rk hk3 hbB) hr3
end Go.Proofs.YtbgnoobgnpebdaaDoor.jdv
