/- The reference's lane in memory (RA); its node, Own, At, Open, Next, Link, Heal. -/
import Derived.Test.YtdjgafemmihlgaaLan9
namespace Go.Proofs.Ytdjgafemmihlgaa.lan
open Go.RowKit
open Go.Proofs.Ytdjgafemmihlgaa.oct Go.Proofs.Ytdjgafemmihlgaa.ref Go.Proofs.Ytdjgafemmihlgaa.rows Go.Proofs.Ytdjgafemmihlgaa.rowg Go.Proofs.Ytdjgafemmihlgaa.trn
open Go.Lib (byteCells)

def shc (f : Nat → Nat → Bool) : List Value := (List.range 1024).map fun i => .bool (f (i / 32) (i % 32))
/-- the cells of the reference's lane -/
def rcells (n : Nat) (v : Value) (f : Nat → Nat → Bool) : List Value := .int .i64 (n : Nat) :: v :: shc f
theorem rcells_len (n : Nat) (v : Value) (f : Nat → Nat → Bool) : (rcells n v f).length = 1026 := by simp [rcells, shc]
theorem rcells_at (n : Nat) (v : Value) (f : Nat → Nat → Bool) {a b : Nat} (ha : a < 32) (hb : b < 32) : (rcells n v f)[2 + a * 32 + b]? = some (.bool (f a b)) := by
  unfold rcells shc
  rw [show 2 + a * 32 + b = (a * 32 + b) + 1 + 1 by omega, List.getElem?_cons_succ, List.getElem?_cons_succ, List.getElem?_map, List.getElem?_range (by omega), Option.map_some, show (a * 32 + b) / 32 = a by omega, show (a * 32 + b) % 32 = b by omega]
def updF (f : Nat → Nat → Bool) (a b : Nat) (x : Bool) (i j : Nat) : Bool := if i = a ∧ j = b then x else f i j
theorem shc_set (f : Nat → Nat → Bool) {a b : Nat} (hb : b < 32) (x : Bool) : (shc f).set (a * 32 + b) (.bool x) = shc (updF f a b x) := by
  unfold shc
  apply List.ext_getElem?
  intro i
  by_cases hi : i < 1024
  · by_cases e : a * 32 + b = i
    · rw [e, List.getElem?_set_self (by rw [List.length_map, List.length_range]; exact hi), List.getElem?_map, List.getElem?_range hi, Option.map_some]
      unfold updF
      rw [if_pos (by omega)]
    · rw [List.getElem?_set_ne e, List.getElem?_map, List.getElem?_map, List.getElem?_range hi, Option.map_some, Option.map_some]
      unfold updF
      rw [if_neg (by omega)]
  · rw [List.getElem?_eq_none (by rw [List.length_set, List.length_map, List.length_range]; omega), List.getElem?_eq_none (by rw [List.length_map, List.length_range]; omega)]
theorem set_two (x y v : Value) (l : List Value) (k : Nat) : (x :: y :: l).set (k + 1 + 1) v = x :: y :: l.set k v := by rw [List.set_cons_succ, List.set_cons_succ]
theorem rcells_set (n : Nat) (v : Value) (f : Nat → Nat → Bool) {a b : Nat} (hb : b < 32) (x : Bool) : (rcells n v f).set (2 + a * 32 + b) (.bool x) = rcells n v (updF f a b x) := by
  unfold rcells
  rw [show 2 + a * 32 + b = (a * 32 + b) + 1 + 1 by omega, set_two, shc_set f hb x]
theorem upd_link (f : Nat → Nat → Bool) (a b : Nat) (x : Bool) : updF (updF f a b x) b a x = linkS f a b x := by
  funext i j
  unfold updF linkS
  by_cases h1 : i = b ∧ j = a
  · rw [if_pos h1, if_pos (Or.inr h1)]
  · rw [if_neg h1]
    by_cases h2 : i = a ∧ j = b
    · rw [if_pos h2, if_pos (Or.inl h2)]
    · rw [if_neg h2, if_neg (by rintro (h | h); exact h2 h; exact h1 h)]
theorem rcells_set1 (n : Nat) (v v2 : Value) (f : Nat → Nat → Bool) : (rcells n v f).set 1 v2 = rcells n v2 f := rfl
/-- block g is the reference's lane, part by part -/
structure RM (w : World) (R : Nat → Prop) (g : Nat) (v : Value) (qs : List Qk) (n : Nat) (f : Nat → Nat → Bool) : Prop where
  mem : R g
  lt : ∀ k, R k → k < w.heap.size
  blk : Blk w g 33 (rcells n v f)
  way : WayM w R v qs
def RA (w : World) (R : Nat → Prop) (g : Nat) (s : LS) : Prop := ∃ v qs, RM w R g v qs s.n s.sh ∧ qs.map Qk.f = s.ps
theorem RM.turn {S R : Nat → Prop} {w w' : World} {g n : Nat} {v : Value} {qs : List Qk} {f : Nat → Nat → Bool} (h : RM w R g v qs n f) (ht : Turn S w w') (hd : ∀ k, R k → ¬ S k) : RM w' R g v qs n f :=
  ⟨h.mem, fun k hk => Nat.lt_of_lt_of_le (h.lt k hk) ht.size, blk_turn h.blk ht (hd g h.mem), h.way.turn ht hd⟩
theorem RA.turn {S R : Nat → Prop} {w w' : World} {g : Nat} {s : LS} (h : RA w R g s) (ht : Turn S w w') (hd : ∀ k, R k → ¬ S k) : RA w' R g s := by
  obtain ⟨v, qs, h1, h2⟩ := h
  exact ⟨v, qs, h1.turn ht hd, h2⟩
theorem RA.below {R : Nat → Prop} {w w' : World} {g : Nat} {s : LS} (h : RA w R g s) (hb : Below w.heap.size w w') : RA w' R g s := h.turn (Turn.of_below (S := fun _ => False) hb) fun _ _ => id
theorem RA.lt {R : Nat → Prop} {w : World} {g : Nat} {s : LS} (h : RA w R g s) : ∀ k, R k → k < w.heap.size := by
  obtain ⟨_, _, h1, _⟩ := h
  exact h1.lt
def RTo (w w' : World) (R : Nat → Prop) (g : Nat) (s : LS) : Prop := ∃ R', RA w' R' g s ∧ Turn R w w' ∧ Grown R R' w
theorem RTo.refl {w : World} {R : Nat → Prop} {g : Nat} {s : LS} (h : RA w R g s) : RTo w w R g s := ⟨R, h, Turn.refl R w, Grown.refl R w⟩
theorem RTo.same {w w' : World} {R : Nat → Prop} {g : Nat} {s : LS} (h : RA w R g s) (hb : Below w.heap.size w w') : RTo w w' R g s := ⟨R, h.below hb, Turn.of_below hb, Grown.refl R w⟩
theorem RTo.next {w w1 w2 : World} {R : Nat → Prop} {g : Nat} {s : LS} (hb : Below w.heap.size w w1) (h : RTo w1 w2 R g s) : RTo w w2 R g s := by
  obtain ⟨R', h1, h2, h3⟩ := h
  exact ⟨R', h1, (Turn.of_below hb).next h2, fun k hk => (h3 k hk).imp id fun e => Nat.le_trans hb.size e⟩
theorem RA.cells {w : World} {R : Nat → Prop} {g : Nat} {s : LS} (h : RA w R g s) : ∃ p c, w.cell? ⟨g, 0, none⟩ = some (.int .i64 (s.n : Nat)) ∧ w.cell? ⟨g, 1, none⟩ = some (.slice p s.ps.length c) ∧ ∀ a b : Nat, a < 32 → b < 32 → w.cell? ⟨g, 2 + a * 32 + b, none⟩ = some (.bool (s.sh a b)) := by
  obtain ⟨v, qs, h1, h2⟩ := h
  obtain ⟨p, c, rfl, _⟩ := h1.way.at
  rw [map_len h2] at h1
  exact ⟨p, c, h1.blk.cell 0, h1.blk.cell 1, fun a b ha hb => (h1.blk.cell _).trans (rcells_at _ _ _ ha hb)⟩
theorem RA.pk {w : World} {R : Nat → Prop} {g : Nat} {s : LS} (h : RA w R g s) {i : Nat} (hi : i < s.ps.length) : ∃ (b c : Nat) (x : Qk), w.cell? ⟨g, 1, none⟩ = some (.slice (some ⟨b, 0, none⟩) s.ps.length c) ∧ s.ps.length ≤ c ∧ s.ps.getD i zeroPk = x.f ∧ QOK w R x ∧ w.cell? ⟨b, i * 3, none⟩ = some (.int .i64 (x.a : Nat)) ∧ w.cell? ⟨b, i * 3 + 1, none⟩ = some (.int .i64 (x.b : Nat)) ∧ w.cell? ⟨b, i * 3 + 2, none⟩ = some (.slice x.p x.d.length x.c) ∧ b < w.heap.size ∧ g < w.heap.size := by
  obtain ⟨v, qs, h1, h2⟩ := h
  obtain ⟨p, c, rfl, hc, _, hat⟩ := h1.way.at
  have hl := map_len h2
  obtain ⟨b, rfl, c0, c1, c2, _⟩ := hat i (by omega)
  refine ⟨b, c, qs[i], ?_, by omega, map_at h2 (by omega), h1.way.each _ (List.getElem_mem _), c0, c1, c2, cell_lt c0, h1.blk.lt⟩
  rw [← hl]
  exact h1.blk.cell 1
set_option maxHeartbeats 1000000 in
theorem rnode_c {w : World} {R : Nat → Prop} {g : Nat} {s : LS} (h : RA w R g s) (hw : Wf s) (x : Int) (hx : I64 x) :
    Calls Try.prog 46 #[ptr g, .int .i64 x] w fun e w' => e = .returned (.bool (inN s.n x)) ∧ w = w' := by
  obtain ⟨p, c, c0, _, _⟩ := h.cells
  have b1 := hw.hi
  have a1 := hx.1
  have a2 := hx.2
  obtain ⟨n, hn⟩ : ∃ n, s.n = n := ⟨_, rfl⟩
  rw [hn] at c0 b1 ⊢
  clear h hw hn hx
  unfold inN
  by_cases h0 : 0 ≤ x
  · rw [decide_eq_true h0]
    go_enter Try.func46, Try.ntmps46
    go_wp2_with fail
    go_ret
    exact ⟨by simp, rfl⟩
  · rw [decide_eq_false h0]
    go_enter Try.func46, Try.ntmps46
    go_wp2_with fail
    go_ret
    exact ⟨by simp, rfl⟩
set_option maxRecDepth 100000 in
set_option maxHeartbeats 4000000 in
theorem ropen_c {w : World} {R : Nat → Prop} {g : Nat} {s : LS} (h : RA w R g s) (hw : Wf s) (a b : Int) (ha : I64 a) (hb : I64 b) :
    Calls Try.prog 36 #[ptr g, .int .i64 a, .int .i64 b] w fun e w' => e = .returned (.bool (openP s a b)) ∧ w = w' := by
  have HA := Lib.hid (rnode_c h hw a ha)
  have HB := Lib.hid (rnode_c h hw b hb)
  obtain ⟨p, c, _, _, hsh⟩ := h.cells
  have b1 := hw.hi
  unfold openP
  clear h hw
  cases h1 : inN s.n a with
  | false =>
    rw [h1] at HA
    clear h1 ha hb hsh
    go_enter Try.func36, Try.ntmps36
    go_wp2_with fail
    refine HA.out.mono ?_
    rintro e w1 ⟨rfl, rfl⟩
    go_wp2_with fail
    go_ret
    exact ⟨rfl, rfl⟩
  | true =>
    rw [h1] at HA
    cases h2 : inN s.n b with
    | false =>
      rw [h2] at HB
      clear h1 h2 ha hb hsh
      go_enter Try.func36, Try.ntmps36
      go_wp2_with fail
      refine HA.out.mono ?_
      rintro e w1 ⟨rfl, rfl⟩
      go_wp2_with fail
      refine HB.out.mono ?_
      rintro e w1 ⟨rfl, rfl⟩
      go_wp2_with fail
      go_ret
      exact ⟨rfl, rfl⟩
    | true =>
      rw [h2] at HB
      have hA := inN_iff.1 h1
      have hB := inN_iff.1 h2
      obtain ⟨x, rfl⟩ : ∃ x : Nat, a = x := ⟨a.toNat, by omega⟩
      obtain ⟨y, rfl⟩ : ∃ y : Nat, b = y := ⟨b.toNat, by omega⟩
      have hc := hsh x y (by omega) (by omega)
      have i1 : (x : Int) < 32 := by omega
      have i2 : (y : Int) < 32 := by omega
      rw [Int.toNat_natCast, Int.toNat_natCast]
      obtain ⟨v, hv⟩ : ∃ v, s.sh x y = v := ⟨_, rfl⟩
      rw [hv] at hc ⊢
      clear h1 h2 ha hb hsh hA hB hv
      go_enter Try.func36, Try.ntmps36
      go_wp2_with fail
      refine HA.out.mono ?_
      rintro e w1 ⟨rfl, rfl⟩
      go_wp2_with fail
      refine HB.out.mono ?_
      rintro e w1 ⟨rfl, rfl⟩
      go_wp2_with fail
      go_ret
      exact ⟨rfl, rfl⟩
set_option maxRecDepth 100000 in
set_option maxHeartbeats 4000000 in
theorem rnext_c {w : World} {R : Nat → Prop} {g : Nat} {s : LS} (h : RA w R g s) (hw : Wf s) :
    Calls Try.prog 29 #[ptr g] w fun e w' => e = .returned (.int .i64 (nextP s)) ∧ ∃ n, w' = w.drewN n := by
  have HH := Lib.hid h
  have HW := Lib.hid hw
  have b2 := hw.few
  obtain ⟨p, c, _, c1, hsh⟩ := h.cells
  have HSH := Lib.hid hsh
  clear h hw hsh
  go_enter Try.func29, Try.ntmps29
  go_wp2_with fail
  go_loopg [3] s.ps.length (fun gk s3 wx => ∃ j : Nat, j + gk = s.ps.length ∧ s3 = .int .i64 (j : Int) ∧ Hid (∀ x ∈ s.ps.take j, freeP s x = false) ∧ ∃ n, wx = w.drewN n)
  case atStart => exact ⟨0, by omega, rfl, (by show ∀ x ∈ _, _; simp), 0, rfl⟩
  case round =>
    obtain ⟨j, hjg, rfl, HX, nd, rfl⟩ := hrel
    rcases gk with _ | gk
    · have HE : Hid (nextP s = -1) := next_none (by have h := HX.out; rwa [show j = s.ps.length by omega, List.take_length] at h)
      have hjI : ¬ ((j : Int) < s.ps.length) := by omega
      go_wp2_with fail
      go_ret
      exact ⟨by rw [HE.out]; rfl, nd, rfl⟩
    · have hj : j < s.ps.length := by omega
      have hjI : (j : Int) < s.ps.length := by omega
      obtain ⟨b, c', x, c1', hlc, hxf, hqo, d0, d1, d2, hb, hg⟩ := HH.out.pk hj
      have hx := HW.out.getD hj
      have hn := HW.out.hi
      rw [hxf] at hx
      have hxa : x.a < 32 := by have := hx.1; dsimp only [Qk.f] at this; omega
      have hxb : x.b < 32 := by have := hx.2.1; dsimp only [Qk.f] at this; omega
      have hc := HSH.out x.a x.b hxa hxb
      have hxaI : (x.a : Int) < 32 := by omega
      have hxbI : (x.b : Int) < 32 := by omega
      have hfr : freeP s (s.ps.getD j zeroPk) = !s.sh x.a x.b := by rw [hxf]; rfl
      cases hv : s.sh x.a x.b with
      | false =>
        rw [hv] at hc hfr
        have HE : Hid (nextP s = (j : Int)) := next_hit hj HX.out hfr
        clear hxf hqo hx hv hfr c1
        go_wp2_with fail
        go_quiet (fail)
        go_wp2_with fail
        go_ret
        exact ⟨by rw [HE.out]; rfl, _, World.drewN_drewN _ _ _⟩
      | true =>
        rw [hv] at hc hfr
        have HE : Hid (∀ x ∈ s.ps.take (j + 1), freeP s x = false) := take_more hj HX.out hfr
        clear hxf hqo hx hv hfr c1
        go_wp2_with fail
        go_quiet (fail)
        go_wp2_with fail
        go_roundg gk
        case measure => omega
        case rel => exact ⟨j + 1, by omega, by go_num, HE, _, rfl⟩
end Go.Proofs.Ytdjgafemmihlgaa.lan
