/- behind's iterator: the regions of all points, as these come behind a key's place; what a round must keep (KR). Condition: package variables (RT). -/
import Derived.Test.YtkababeeikhifaaDoorRi8
import Derived.RangeFuncNested
import Derived.LoopIn
import Derived.OwnWalkIn
import Derived.RangeFuncBox
import Derived.RangeFuncCalls
import Derived.RangeFuncLeaves
import Derived.TacticsInMore
import Derived.Maps.AppendAt
import Derived.Stop.RegionWithIn
import Derived.RangeFuncBound
namespace Go.Proofs.YtkababeeikhifaaDoor.rng
open Go.RowKit
open Go.Proofs.YtkababeeikhifaaDoor.oct Go.Proofs.YtkababeeikhifaaDoor.ref Go.Proofs.YtkababeeikhifaaDoor.rows Go.Proofs.YtkababeeikhifaaDoor.rowg Go.Proofs.YtkababeeikhifaaDoor.trn
open Go.Proofs.YtkababeeikhifaaDoor.scp (tx senc senc_len InS ins_below ins_cell)
attribute [local go_sem] Oper.semAt_some

/-- what a round keeps: whatever lay below m, but for block b -/
def KR (m b : Nat) (W W' : World) : Prop := ∀ k, k < m → k ≠ b → W'.heap[k]? = W.heap[k]?
theorem KR.cell {m b : Nat} {W W' : World} (h : KR m b W W') {k o : Nat} (h1 : k < m) (h2 : k ≠ b) : W'.cell? ⟨k, o, none⟩ = W.cell? ⟨k, o, none⟩ := World.cell?_of_block (w := W) (h k h1 h2)
theorem KR.refl (m b : Nat) (W : World) : KR m b W W := fun _ _ _ => rfl
theorem KR.trans {m b : Nat} {A B C : World} (h : KR m b A B) (k : KR m b B C) : KR m b A C := fun i h1 h2 => (k i h1 h2).trans (h i h1 h2)
theorem KR.put {m b : Nat} (W : World) (l : Nat) (o o' : Obj) (hl : m ≤ l) (_ : W.heap[l]? = some o) (_ : o.isCells = false) (_ : o.isWalk = false) : KR m b W (W.putObj l o') := fun k h1 _ => (grownBy_putObj' W l o').block k (by have := (Array.getElem?_eq_some_iff.1 ‹W.heap[l]? = some o›).1; omega) (fun e => by cases e; omega)
/-- what the iterator reads between two rounds -/
structure It (m b B1 g pb C : Nat) (l : List Pn) (W : World) : Prop where
  c1 : W.cell? ⟨B1, 0, none⟩ = some (.pointer (some ⟨g, 0, none⟩))
  c2 : W.cell? ⟨g, 2, none⟩ = some (.slice (some ⟨pb, 0, none⟩) l.length C)
  pts : InG pnc 2 W (some ⟨pb, 0, none⟩) l
  n1 : B1 < m ∧ B1 ≠ b
  n2 : g < m ∧ g ≠ b
  n3 : pb < m ∧ pb ≠ b
theorem It.kr {m b B1 g pb C : Nat} {l : List Pn} {W W' : World} (h : It m b B1 g pb C l W) (k : KR m b W W') : It m b B1 g pb C l W' := by
  refine ⟨(k.cell h.n1.1 h.n1.2).trans h.c1, (k.cell h.n2.1 h.n2.2).trans h.c2, fun h0 => ?_, h.n1, h.n2, h.n3⟩
  obtain ⟨b', o', e, hc⟩ := h.pts h0
  cases e
  exact ⟨_, _, rfl, fun i hi j hj => (k.cell h.n3.1 h.n3.2).trans (hc i hi j hj)⟩
theorem It.below {m b B1 g pb C : Nat} {l : List Pn} {W W' : World} (h : It m b B1 g pb C l W) (k : Below W.heap.size W W') : It m b B1 g pb C l W' :=
  ⟨(k.cell (p := ⟨B1, 0, none⟩) (cell_lt h.c1)).trans h.c1, (k.cell (p := ⟨g, 2, none⟩) (cell_lt h.c2)).trans h.c2, InG.below pnc_len (by decide) h.pts k, h.n1, h.n2, h.n3⟩
theorem below_grown {W W' : World} (h : Below W.heap.size W W') : W.grownBy W' none := ⟨h.os, h.tape, h.output, h.size, fun k hk _ => h.block k hk⟩
structure After1 (p q : Prop) : Prop where
  t : p
  f : q
set_option maxRecDepth 100000 in
set_option maxHeartbeats 4000000 in
theorem behind1_in (n : Nat) (hn : 1 ≤ n) (yl m b B1 B2 g pb C : Nat) (l : List Pn) (key : T) (J Jx : List Nat → World → Prop) (B : Nat) (hJ : AbidesFrom B J)
    (hY : ∀ pre x W, J pre W → pre.length < l.length → YieldAt Fence.wide (n - 1) Tryd.prog yl #[.int .i64 (x : Nat)] W fun e W' =>
      (e = .returned (.bool true) ∧ J (pre ++ [x]) W' ∧ KR m b W W') ∨ (e = .returned (.bool false) ∧ Jx (pre ++ [x]) W'))
    (W : World) (hI : It m b B1 g pb C l W) (hB2 : W.cell? ⟨B2, 0, none⟩ = some (tx key)) (hT : RT W) (hs : aLe l) (hl : l.length ≤ 600) (hk : key.length ≤ 140737488354500) (h0 : J [] W) :
    CallsIn Fence.wide n Tryd.prog 50 #[.func (.yield yl) #[] #[], .pointer (some ⟨B1, 0, none⟩), .pointer (some ⟨B2, 0, none⟩)] W fun e W' => (∃ v, e = .returned v) ∧
      ((∃ ys, ys = behR l (plc key) ∧ J ys W') ∨ (∃ pre, pre <+: behR l (plc key) ∧ Jx pre W')) := by
  have c1 := hI.c1
  have c2 := hI.c2
  have HPL : Hid (∀ y : After W, Calls Tryd.prog 25 #[tx key] y.v fun e w'' => e = .returned (.int .u64 (plc key : Nat)) ∧ ∃ z : After W, w'' = z.v) := Lib.hid fun y => after_of y (place_c key y.v (hT.below y.below).dig hk)
  have HIH := Lib.hid hI
  have d1 : ∀ y : After W, y.v.cell? ⟨B1, 0, none⟩ = some (.pointer (some ⟨g, 0, none⟩)) := fun y => (hI.below y.below).c1
  have d2 : ∀ y : After W, y.v.cell? ⟨g, 2, none⟩ = some (.slice (some ⟨pb, 0, none⟩) l.length C) := fun y => (hI.below y.below).c2
  have d3 : ∀ y : After W, y.v.cell? ⟨B2, 0, none⟩ = some (tx key) := fun y => (y.below.cell (p := ⟨B2, 0, none⟩) (cell_lt hB2)).trans hB2
  have HFD : Hid (∀ y : After W, Calls Tryd.prog 51 #[.slice (some ⟨pb, 0, none⟩) l.length C, .int .u64 (plc key : Nat), .func (.func 52) #[] #[]] y.v fun e w' => e = .returned (.tuple #[.int .i64 ((l.countP (fun x => decide (x.a < plc key)) : Nat) : Int), .bool (fndB l (plc key))]) ∧ ∃ z : After W, w' = z.v) := Lib.hid fun y => after_of y (find_c pb 0 C l.length l (plc key) y.v ((hI.below y.below).pts) hs rfl (by omega))
  obtain ⟨N, hN⟩ : ∃ N, l.length = N := ⟨_, rfl⟩
  obtain ⟨p, hp⟩ : ∃ p, plc key = p := ⟨_, rfl⟩
  have HAT : Hid (∀ k, k < N → ∃ (h1 : (l.countP (fun x => decide (x.a < p)) + k) % N < l.length) (h2 : k < (behR l p).length), (behR l p)[k] = l[(l.countP (fun x => decide (x.a < p)) + k) % N].r) := Lib.hid fun k hk2 => by
    subst hN
    exact behR_at hs p k hk2
  have hRl := behR_len l p hs
  have hcn := List.countP_le_length (p := fun x : Pn => decide (x.a < p)) (l := l)
  rw [hN] at d2 HFD hRl hcn hl hY c2
  rw [hp] at HPL HFD ⊢
  obtain ⟨R, hR⟩ : ∃ R, behR l p = R := ⟨_, rfl⟩
  rw [hR] at HAT hRl ⊢
  obtain ⟨cn, hcq⟩ : ∃ cn, l.countP (fun x => decide (x.a < p)) = cn := ⟨_, rfl⟩
  rw [hcq] at HAT HFD hcn
  obtain ⟨fd, hfd⟩ : ∃ fd, fndB l p = fd := ⟨_, rfl⟩
  rw [hfd] at HFD
  have HN := Lib.hid hN
  have HRL := Lib.hid hRl
  have HY := Lib.hid hY
  have HJ := Lib.hid hJ
  have H0 := Lib.hid h0
  clear hN hp hR hcq hfd hY hT hs hI hJ h0 hRl hB2
  unfold tx at *
  refine callsIn_of_wp Tryd.func50 rfl trivial ?_ rfl
  simp only [Tryd.ntmps50, List.size_toArray, List.length_cons, List.length_nil, Nat.reduceAdd, Nat.reduceSub, Array.replicate_succ, Array.replicate_zero, List.push_toArray, List.append_toArray, List.nil_append, List.cons_append]
  gi_wp2
  refine wpIn_wide.2 ?_
  refine wp_region_after (by kernel_rfl) (by kernel_rfl) ?_
  repeat (go_big_quiet_step (first
    | (rename_i y; go_at_call 25; with_reducible exact HPL.out y)
    | (rename_i y; go_at_call 51; with_reducible exact HFD.out y)))
  refine wpQuiet_nil ?_
  rintro ⟨W1, hb1⟩
  dsimp only
  have HI1 := Lib.hid (HIH.out.below hb1)
  have HJ1 : Hid (J [] W1) := Lib.hid (HJ.out _ _ _ none H0.out (below_grown hb1) (fun r e => by cases e))
  clear hb1 HPL HFD d1 d2 d3 c1 c2 HIH H0
  have c1 := HI1.out.c1
  have c2 := HI1.out.c2
  rw [HN.out] at c2
  gi_wp2
  clear c1 c2
  gi_loopw [24] (fun s24 wr => ∃ k : Nat, s24 = .int .i64 (k : Int) ∧ k ≤ N ∧ Hid (It m b B1 g pb C l wr) ∧ Hid (J (R.take k) wr)) (fun s24 _ => N - (intOf s24).toNat)
  case atStart => exact ⟨0, rfl, Nat.zero_le _, HI1, HJ1⟩
  case round =>
    clear HI1 HJ1
    obtain ⟨k, rfl, hkN, HI, HJK⟩ := hrel
    by_cases hlt : k < N
    · have hltI : (k : Int) < (N : Int) := by omega
      obtain ⟨q, hq⟩ : ∃ q, (cn + k) % N = q := ⟨_, rfl⟩
      obtain ⟨a1, a2, a3⟩ := HAT.out k hlt
      have hqN : q < N := by rw [← hq]; exact Nat.mod_lt _ (by omega)
      have hx : ∃ x, R[k] = x := ⟨_, rfl⟩
      obtain ⟨x, hx⟩ := hx
      have hql : q < l.length := by rw [HN.out]; exact hqN
      obtain ⟨b', o', e', e1, e2⟩ := point_at HI.out.pts q hql
      cases e'
      have e3 : (l[q]).r = x := by
        rw [← hx, a3]
        congr 1
        simp only [hq]
      rw [e3, Nat.zero_add] at e2
      have c1 := HI.out.c1
      have c2 := HI.out.c2
      rw [HN.out] at c2
      have i1 : IntKind.i64.wrap ((cn : Int) + (k : Int)) = ((cn + k : Nat) : Int) := by rw [IntKind.wrap_i64]; omega
      have i2 : (((cn + k : Nat) : Int)).tmod (N : Int) = (q : Int) := by rw [← hq]; exact (Int.ofNat_tmod _ _).symm
      have i4 : ((cn : Int) + (k : Int)).tmod (N : Int) = (q : Int) := by rw [← i2]; congr 1
      have i5 : ¬ N = 0 := by omega
      have i3 : ((N : Int) == 0) = false := by rw [beq_eq_false_iff_ne]; omega
      have hqI : (q : Int) < (N : Int) := by omega
      have HTK : Hid (R.take (k + 1) = R.take k ++ [x]) := Lib.hid (by rw [List.take_succ_eq_append_getElem a2, hx])
      have hYK := HY.out (R.take k) x wr.drew (HJ.out _ _ _ none HJK.out (below_grown (Below.refl _ _).drew) (fun r e => by cases e)) (by rw [List.length_take, HRL.out]; omega)
      obtain ⟨fn, tmps, assign, body, hy, hR⟩ := hYK
      have HRR : Hid (RoundIn Fence.wide (n - 1) Tryd.prog yl fn tmps assign body wr.drew fun e W' => ∃ bb, e = .returned (.bool bb) ∧ After1 (bb = true → J (R.take k ++ [x]) W' ∧ KR m b wr.drew W') (bb = false → Jx (R.take k ++ [x]) W')) := Lib.hid (hR.mono fun e W' h => by
        rcases h with ⟨h1, h2, h3⟩ | ⟨h1, h2⟩
        · exact ⟨true, h1, ⟨fun _ => ⟨h2, h3⟩, (fun e => by cases e)⟩⟩
        · exact ⟨false, h1, ⟨(fun e => by cases e), fun _ => h2⟩⟩)
      clear hR hx a3 hql hq e3 a1 a2 e1
      gi_wp2
      gi_region_with (refine HRR.out.mono ?_; rintro e W3 ⟨bb, rfl, hpost⟩; have HPO := Lib.hid hpost; clear hpost)
      all_goals
        cases bb with
        | true =>
          have h1 := HPO.out.t rfl
          have HJ3 : Hid (J (R.take (k + 1)) W3) := Lib.hid (by rw [HTK.out]; exact h1.1)
          have HI3 : Hid (It m b B1 g pb C l W3) := Lib.hid ((HI.out.below (Below.refl _ _).drew).kr h1.2)
          clear h1 HPO c1 c2 e2
          gi_wp2
          go_roundw
          case rel => exact ⟨k + 1, by go_num, by omega, HI3, HJ3⟩
          case measure => simp [intOf]; omega
        | false =>
          have h1 := HPO.out.f rfl
          rw [← HTK.out] at h1
          have HX := Lib.hid h1
          clear h1 HPO c1 c2 e2
          gi_wp2
          refine bodyPost_ret (results_none rfl _ _ _) rfl ?_
          exact ⟨⟨_, rfl⟩, .inr ⟨R.take (k + 1), List.take_prefix _ _, HX.out⟩⟩
    · obtain rfl : k = N := by omega
      have HJ3 : Hid (J R wr) := Lib.hid (by
        have h := HJK.out
        rwa [List.take_of_length_le (by rw [HRL.out]; exact Nat.le_refl _)] at h)
      gi_wp2
      go_end0
      exact ⟨⟨_, rfl⟩, .inl ⟨R, rfl, HJ3.out⟩⟩
end Go.Proofs.YtkababeeikhifaaDoor.rng
