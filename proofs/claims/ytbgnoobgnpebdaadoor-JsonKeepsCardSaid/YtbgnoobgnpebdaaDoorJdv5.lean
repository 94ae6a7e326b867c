/- Builders beside the developers' reader; the contract of text. Texts of up to 2^47 - 4096 bytes. -/
import Derived.Test.YtbgnoobgnpebdaaDoorJdv4
namespace Go.Proofs.YtbgnoobgnpebdaaDoor.jdv
open Go.RowKit
open Go.Proofs.YtbgnoobgnpebdaaDoor.oct Go.Proofs.YtbgnoobgnpebdaaDoor.ref Go.Proofs.YtbgnoobgnpebdaaDoor.rows Go.Proofs.YtbgnoobgnpebdaaDoor.rowg Go.Proofs.YtbgnoobgnpebdaaDoor.jsn
open Go.Lib (byteCells hasPrefix trimPrefix)

abbrev IsB (B b : Nat) (l : List UInt8) (w : World) : Prop := Lib.IsBuilderF 50 5 B b (byteCells l) w
/-- the frame of a builder's call: what lay below B, and every block that is neither the builder's nor a row of bytes -/
structure BK (B b : Nat) (w w' : World) : Prop where
  below : Below B w w'
  others : Lib.OthersKept 5 (some b) w w'
theorem BK.refl (B b : Nat) (w : World) : BK B b w w := ⟨Below.refl _ _, Lib.OthersKept.refl _ _ _⟩
theorem BK.trans {B b : Nat} {u v w : World} (h : BK B b u v) (k : BK B b v w) : BK B b u w := ⟨h.below.trans k.below, h.others.trans k.others⟩
theorem BK.size {B b : Nat} {u v : World} (h : BK B b u v) : u.heap.size ≤ v.heap.size := h.below.size
/-- a block of another type than bytes, not the builder's, stands -/
theorem BK.blk {B b k : Nat} {u v : World} {c : Array Value} {T : TypeId} {fz : Nat × Nat} (h : BK B b u v) (hk : u.heap[k]? = some (.cells c T fz)) (hb : k ≠ b) (hT : T ≠ 5) : v.heap[k]? = some (.cells c T fz) :=
  h.others k _ hk (fun e => hb (by injection e)) (fun c' fz' e => hT (by injection e))
theorem new_builder (w : World) : (w.alloc (.cells #[.pointer none, .slice none 0 0] 50)).heap[w.heap.size]? = some (.cells #[.pointer none, .slice none 0 0] 50 (0, 0)) := heap_alloc_new w _
theorem isB_new (w : World) : IsB w.heap.size w.heap.size [] (w.alloc (.cells #[.pointer none, .slice none 0 0] 50)) :=
  Lib.IsBuilderF.of (Or.inl ⟨Nat.le_refl _, _, new_builder w, World.ownsRow_nil _ _ _ _, by simp [Value.ownBlock]⟩)
theorem isB_write (B b : Nat) (l : List UInt8) (c : UInt8) (w : World) (h : IsB B b l w) (hlen : l.length + 1 ≤ 140737488355328) (hBw : B ≤ w.heap.size) :
    Calls Tryd.prog 47 #[.pointer (some ⟨b, 0, none⟩), .int .u8 (c.toNat : Int)] w fun e w' => e = .returned .nilIface ∧ IsB B b (l ++ [c]) w' ∧ BK B b w w' :=
  (sh.bwrite B b _ (c.toNat : Int) w h (by rw [byteCells_len]; exact hlen) hBw).mono fun e w' ⟨h1, h2, h3, h4⟩ => ⟨h1, Or.inr (by rw [byteCells_snoc]; exact h2), h3, h4⟩
theorem strCells_mk (l : List UInt8) : Lib.strCells ⟨l.toArray⟩ = byteCells l := by
  simp [Lib.strCells, byteCells]
theorem isB_writeS (B b : Nat) (l m : List UInt8) (w : World) (h : IsB B b l w) (hlen : l.length + m.length ≤ 140737488355328) (hBw : B ≤ w.heap.size) :
    Calls Tryd.prog 23 #[.pointer (some ⟨b, 0, none⟩), .string ⟨m.toArray⟩] w fun e w' => e = .returned (.tuple #[.int .i64 (m.length : Nat), .nilIface]) ∧ IsB B b (l ++ m) w' ∧ BK B b w w' :=
  (sh.bwriteS B b _ ⟨m.toArray⟩ w h (by rw [byteCells_len, size_mk]; exact hlen) hBw).mono fun e w' ⟨h1, h2, h3, h4⟩ => ⟨by rw [h1, size_mk], Or.inr (by rw [byteCells_append, ← strCells_mk m]; exact h2), h3, h4⟩
theorem isB_rk {B b br : Nat} {l : List UInt8} {w w' : World} (h : IsB B b l w) (hk : RK br w w') (hbr : br < B) : IsB B b l w' := by
  have hg : w.grownBy w' (some br) := ⟨hk.os, hk.tape, hk.output, hk.size, fun k h1 h2 => hk.block k h1 (fun e => h2 (by rw [e]))⟩
  have go : ∀ p, Lib.BuilderAtF 50 5 B b p (byteCells l) w → Lib.BuilderAtF 50 5 B b p (byteCells l) w' := by
    intro p h
    have hlt := h.lt
    obtain ⟨hB, v, hb, hown, hne⟩ := h
    refine ⟨hB, v, (hk.block b hlt (by omega)).trans hb, hown.kept hg ?_, hne⟩
    cases hv : v.ownBlock with
    | none => exact Or.inl rfl
    | some g =>
      refine Or.inr (fun e => ?_)
      have := (hown.lt g hv).1
      have e2 : g = br := by injection e
      omega
  rcases h with h | h
  · exact Or.inl (go _ h)
  · exact Or.inr (go _ h)
theorem RK.step {b B : Nat} {w u v : World} (h : RK b w u) (hb : Below B u v) (hB : w.heap.size ≤ B) : RK b w v :=
  ⟨hb.os.trans h.os, hb.tape.trans h.tape, hb.output.trans h.output, Nat.le_trans h.size hb.size, fun k hk hkb => (hb.block k (by omega)).trans (h.block k hk hkb)⟩
theorem Rd.step {b B : Nat} {u v : World} {l : List UInt8} (h : Rd u b l) (hb : Below B u v) (hB : b < B) : Rd v b l := (hb.block b hB).trans h
/-- what a step of the reader answers: as the plain one says, or it gives up -/
def RdV (b : Nat) (w w' : World) {α : Type} (o : Option (α × List UInt8)) (f : α → Value) (e : Ending) : Prop :=
  RK b w w' ∧ match o with | some y => e = .returned (f y.1) ∧ Rd w' b y.2 | none => e = .panicked [{ v := .iface 23 (.int .i64 3), recovered := false }]
theorem RdV.yes {b : Nat} {w w' : World} {α : Type} {o : Option (α × List UInt8)} {f : α → Value} {e : Ending} {a : α} {r : List UInt8} (h : RdV b w w' o f e) (ho : o = some (a, r)) : e = .returned (f a) ∧ RK b w w' ∧ Rd w' b r := by
  subst ho
  exact ⟨h.2.1, h.1, h.2.2⟩
theorem RdV.no {b : Nat} {w w' : World} {α : Type} {o : Option (α × List UInt8)} {f : α → Value} {e : Ending} (h : RdV b w w' o f e) (ho : o = none) : e = .panicked [{ v := .iface 23 (.int .i64 3), recovered := false }] ∧ RK b w w' := by
  subst ho
  exact ⟨h.2, h.1⟩
theorem RdV.mk_yes {b : Nat} {w w' : World} {α : Type} {o : Option (α × List UInt8)} {f : α → Value} {a : α} {r : List UInt8} (ho : o = some (a, r)) (h1 : RK b w w') (h2 : Rd w' b r) : RdV b w w' o f (.returned (f a)) := by
  subst ho
  exact ⟨h1, rfl, h2⟩
theorem RdV.mk_no {b : Nat} {w w' : World} {α : Type} {o : Option (α × List UInt8)} {f : α → Value} (ho : o = none) (h1 : RK b w w') : RdV b w w' o f (.panicked [{ v := .iface 23 (.int .i64 3), recovered := false }]) := by
  subst ho
  exact ⟨h1, rfl⟩
theorem bodyP_eq (f : Nat) (l : List UInt8) : bodyP (f + 1) l = if hasPrefix l [34] = true then some ([], l.drop 1) else match octP l with
    | none => none
    | some (c, r) => (bodyP f r).map (fun y => (c :: y.1, y.2)) := rfl
theorem bodyP_end (f : Nat) (l : List UInt8) (h : hasPrefix l [34] = true) : bodyP (f + 1) l = some ([], l.drop 1) := by
  rw [bodyP_eq, if_pos h]
theorem bodyP_none (f : Nat) (l : List UInt8) (h : hasPrefix l [34] = false) (h2 : octP l = none) : bodyP (f + 1) l = none := by
  rw [bodyP_eq, if_neg (by rw [h]; decide), h2]
theorem bodyP_some (f : Nat) (l r : List UInt8) (c : UInt8) (h : hasPrefix l [34] = false) (h2 : octP l = some (c, r)) : bodyP (f + 1) l = (bodyP f r).map (fun y => (c :: y.1, y.2)) := by
  rw [bodyP_eq, if_neg (by rw [h]; decide), h2]
abbrev txv (t : List UInt8) : Value := .string ⟨t.toArray⟩
set_option maxRecDepth 100000 in
set_option maxHeartbeats 4000000 in
theorem text_c (b : Nat) (l : List UInt8) (w : World) (hr : Rd w b l) (hl : l.length ≤ 140737488351232) :
    Calls Tryd.prog 58 #[.pointer (some ⟨b, 0, none⟩)] w fun e w' => RdV b w w' (textP l) txv e := by
  by_cases h0 : hasPrefix l [34] = true
  · have HTX : Hid (textP l = bodyP l.length (l.drop 1)) := by show _ = _; unfold textP; rw [if_pos h0]
    have H0 := Lib.hid (take_yes b l [34] w hr h0)
    have hdl : (l.drop 1).length < l.length := by
      obtain ⟨r, rfl⟩ := (hp1 _ _).1 h0
      simp
    have hb := hr.lt
    have HD := Lib.hid hdl
    clear hr h0 hdl
    go_enter Tryd.func58, Tryd.ntmps58
    go_wp2_with fail
    refine H0.out.mono ?_
    rintro e w1 ⟨rfl, hk1, hr1⟩
    have hs1 := hk1.size
    have HK1 := Lib.hid hk1
    have HR1 := Lib.hid hr1
    have HN := Lib.hid (isB_new w1)
    clear H0 hk1 hr1
    go_wp2_with fail
    go_loopg [7, 8, 9, 10] l.length (fun g _ _ _ _ wx => ∃ (acc cur : List UInt8), cur.length < g ∧ acc.length + cur.length ≤ l.length ∧ Hid (bodyP l.length (l.drop 1) = (bodyP g cur).map (fun y => (acc ++ y.1, y.2))) ∧ Hid (Rd wx b cur) ∧ Hid (IsB w1.heap.size w1.heap.size acc wx) ∧ Hid (RK b w wx) ∧ w1.heap.size ≤ wx.heap.size)
    case atStart => exact ⟨[], l.drop 1, HD.out, by have := HD.out; simp, by show _ = _; simp, (HR1.out).below ((Below.refl _ _).alloc (Nat.le_refl _) _), HN, HK1.out.step ((Below.refl _ _).alloc (Nat.le_refl _) _) hs1, by simp⟩
    case round =>
      obtain ⟨acc, cur, hg, hsz, HB, HR, HN, HK, hsx⟩ := hrel
      rcases gk with _ | g
      · omega
      · have hcl : cur.length ≤ 140737488351232 := by omega
        have hbs : b < w1.heap.size := by omega
        by_cases h1 : hasPrefix cur [34] = true
        · have HV : Hid (textP l = some (acc, cur.drop 1)) := by
            show _ = _
            rw [HTX.out, HB.out, bodyP_end g cur h1]
            simp
          have H1 := Lib.hid (took_yes b cur [34] wr HR.out h1)
          clear HB h1
          go_wp2_with fail
          refine H1.out.mono ?_
          rintro e w2 ⟨rfl, hk2, hr2⟩
          have HN2 := Lib.hid (isB_rk HN.out hk2 hbs)
          have HK2 := Lib.hid (HK.out.trans hk2)
          have HR2 := Lib.hid hr2
          have hs2 := hk2.size
          have H2 := Lib.hid (sh.bstring w1.heap.size w1.heap.size acc w2 HN2.out (by omega))
          clear hk2 hr2 H1
          go_wp2_with fail
          refine H2.out.mono ?_
          rintro e w3 ⟨rfl, _, hb3, _⟩
          have HB3 := Lib.hid hb3
          clear hb3 H2
          go_wp2_with fail
          go_ret
          exact RdV.mk_yes HV.out (HK2.out.step HB3.out hs1) (HR2.out.step HB3.out hbs)
        · have h1' : hasPrefix cur [34] = false := by simpa using h1
          have H1 := Lib.hid (took_no b cur [34] wr HR.out h1')
          cases ho : octP cur with
          | none =>
            have HV : Hid (textP l = none) := by
              show _ = _
              rw [HTX.out, HB.out, bodyP_none g cur h1' ho]
              rfl
            have HO := Lib.hid (fun w hr => octet_no b cur w hr hcl ho)
            clear HB h1 h1' ho
            go_wp2_with fail
            refine H1.out.mono ?_
            rintro e w2 ⟨rfl, hk2, hr2⟩
            have H2 := Lib.hid (HO.out w2 hr2)
            have HK2 := Lib.hid (HK.out.trans hk2)
            clear hk2 hr2 H1 HO
            go_wp2_with fail
            refine H2.out.mono ?_
            rintro e w3 ⟨rfl, hk3⟩
            have HK3 := Lib.hid (HK2.out.trans hk3)
            clear hk3
            go_wp2_with fail
            exact ⟨rfl, RdV.mk_no HV.out HK3.out⟩
          | some y =>
            obtain ⟨c, r⟩ := y
            have hrl := octP_len ho
            have HV : Hid (bodyP l.length (l.drop 1) = (bodyP g r).map (fun y => ((acc ++ [c]) ++ y.1, y.2))) := by
              show _ = _
              rw [HB.out, bodyP_some g cur r c h1' ho, Option.map_map]
              congr 1
              funext y
              simp
            have HO := Lib.hid (fun w hr => octet_yes b cur r c w hr hcl ho)
            clear HB h1 h1' ho
            go_wp2_with fail
            refine H1.out.mono ?_
            rintro e w2 ⟨rfl, hk2, hr2⟩
            have H2 := Lib.hid (HO.out w2 hr2)
            have HK2 := Lib.hid (HK.out.trans hk2)
            have HN2 := Lib.hid (isB_rk HN.out hk2 hbs)
            have hs2 := hk2.size
            clear hk2 hr2 H1 HO
            go_wp2_with fail
            refine H2.out.mono ?_
            rintro e w3 ⟨rfl, hk3, hr3⟩
            have HK3 := Lib.hid (HK2.out.trans hk3)
            have HN3 := Lib.hid (isB_rk HN2.out hk3 hbs)
            have HR3 := Lib.hid hr3
            have hs3 := hk3.size
            have H3 := Lib.hid (isB_write w1.heap.size w1.heap.size acc c w3 HN3.out (by omega) (by omega))
            clear hk3 hr3 H2
            go_wp2_with fail
            refine H3.out.mono ?_
            rintro e w4 ⟨rfl, hn4, hb4⟩
            have HN4 := Lib.hid hn4
            have hs4 := hb4.size
            have HB4 := Lib.hid hb4.below
            clear hn4 hb4 H3
            go_wp2_with fail
            go_roundg g
            case measure => omega
            case rel => exact ⟨acc ++ [c], r, by omega, by rw [List.length_append, List.length_singleton]; omega, HV, HR3.out.step HB4.out hbs, HN4, HK3.out.step HB4.out hs1, by omega⟩
  · have HTX : Hid (textP l = none) := by show _ = _; unfold textP; rw [if_neg h0]
    have H0 := Lib.hid (take_no b l [34] w hr (by simpa using h0))
    clear hr h0 hl
    go_enter Tryd.func58, Tryd.ntmps58
    go_wp2_with fail
    refine H0.out.mono ?_
    rintro e w1 ⟨rfl, hk1⟩
    go_wp2_with fail
    exact ⟨rfl, RdV.mk_no HTX.out hk1⟩
end Go.Proofs.YtbgnoobgnpebdaaDoor.jdv
