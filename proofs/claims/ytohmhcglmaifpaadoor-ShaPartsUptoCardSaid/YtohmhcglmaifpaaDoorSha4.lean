/- The contract of the reference's take: a block taken with eight words. -/
import Derived.Test.YtohmhcglmaifpaaDoorSha3
import Derived.Test.YtohmhcglmaifpaaDoorAfter
namespace Go.Proofs.YtohmhcglmaifpaaDoor.sha
open Go.RowKit
open Go.Proofs.YtohmhcglmaifpaaDoor.oct Go.Proofs.YtohmhcglmaifpaaDoor.ref Go.Proofs.YtohmhcglmaifpaaDoor.rows
open Go.Lib (byteCells)

theorem info8 : (Tryd.prog.info? 46).map (·.size) = some 8 := by kernel_rfl
/-- the words of a state, by number -/
def St.at (v : St) (j : Nat) : Nat := v.list.getD j 0
theorem st_row (v : St) : wcells v.list = wcells (row 8 v.at) := rfl
theorem st_len (v : St) : (wcells v.list).length = 8 := rfl

theorem st_at {v : St} (h : v.ok) (i : Nat) (hi : i < 8) : v.at i < 4294967296 := by
  obtain ⟨h1, h2, h3, h4, h5, h6, h7, h8⟩ := h
  match i, hi with
  | 0, _ => exact h1
  | 1, _ => exact h2
  | 2, _ => exact h3
  | 3, _ => exact h4
  | 4, _ => exact h5
  | 5, _ => exact h6
  | 6, _ => exact h7
  | 7, _ => exact h8
theorem plus_at (v u : St) (j : Nat) (hj : j < 8) : (plus v u).at j = (v.at j + u.at j) % 4294967296 := by
  match j, hj with
  | 0, _ => rfl
  | 1, _ => rfl
  | 2, _ => rfl
  | 3, _ => rfl
  | 4, _ => rfl
  | 5, _ => rfl
  | 6, _ => rfl
  | 7, _ => rfl
theorem add32m {a b : Nat} (_ha : a < 4294967296) (_hb : b < 4294967296) : ∃ c : Nat, ((a : Int) + (b : Int)) % 4294967296 = (c : Int) ∧ c < 4294967296 ∧ c = (a + b) % 4294967296 :=
  ⟨(a + b) % 4294967296, by omega, Nat.mod_lt _ (by decide), rfl⟩
theorem and_u32 (a b : Nat) (ha : a < 2 ^ 32) (hb : b < 2 ^ 32) : bits .and .u32 (a : Int) (b : Int) = ((a &&& b : Nat) : Int) := by
  have ha' : a % 2 ^ 32 = a := Nat.mod_eq_of_lt ha
  have hb' : b % 2 ^ 32 = b := Nat.mod_eq_of_lt hb
  have hk : IntKind.u32.bits = 32 := rfl
  simp only [bits, BitVec.ofInt_natCast, BitVec.toNat_and, BitVec.toNat_ofNat, hk, ha', hb']
  exact wraps_u32 _ (Int.natCast_nonneg _) (by have := a32 (b := b) (show a < 4294967296 from ha); omega)
theorem ch_val (e f g : Nat) (he : e < 4294967296) (hf : f < 4294967296) (hg : g < 4294967296) :
    bits .xor .u32 (bits .and .u32 (e : Int) (f : Int)) (bits .and .u32 (4294967295 - (e : Int)) (g : Int)) = ((ch e f g : Nat) : Int) := by
  rw [show (4294967295 - (e : Int)) = ((4294967295 - e : Nat) : Int) from by omega, and_u32 e f he hf, and_u32 _ g (by omega) hg, xor_u32 _ _ (a32 he) (a32 (by omega))]
  rfl
theorem maj_val (a b c : Nat) (ha : a < 4294967296) (hb : b < 4294967296) (hc : c < 4294967296) :
    bits .xor .u32 (bits .xor .u32 (bits .and .u32 (a : Int) (b : Int)) (bits .and .u32 (a : Int) (c : Int))) (bits .and .u32 (b : Int) (c : Int)) = ((maj a b c : Nat) : Int) := by
  rw [and_u32 a b ha hb, and_u32 a c ha hc, and_u32 b c hb hc, xor3 _ _ _ (a32 ha) (a32 ha) (a32 hb)]
  rfl
theorem turn_i (x n : Nat) (m : Int) (hm : m = n) (hx : x < 4294967296) (hn : n ≤ 64) (w : World) :
    Calls Tryd.prog 34 #[.int .u32 x, .int .i64 m] w fun e w' => e = .returned (.int .u32 (rotN n x : Nat)) ∧ w = w' := by
  subst hm; exact turn_c x n hx hn w

set_option maxRecDepth 8000 in
set_option maxHeartbeats 2000000 in
theorem take_c (v : St) (hv : v.ok) (p : Option Addr) (cp : Nat) (l : List UInt8) (w : World) (hp : In8 w p l) (hl : l.length = 64) :
    Calls Tryd.prog 27 #[.agg (wcells v.list).toArray, .slice p 64 cp] w fun e w' => e = .returned (.agg (wcells (takeB v l).list).toArray) ∧ Below w.heap.size w w' := by
  have HP := Lib.hid hp
  have HL := Lib.hid hl
  have HI : Hid ((Tryd.prog.info? 57).map (·.size) = some 64) := info64
  have HJ : Hid ((Tryd.prog.info? 46).map (·.size) = some 8) := info8
  clear hp hl
  obtain ⟨X, hX⟩ : ∃ X, wcells v.list = X := ⟨_, rfl⟩
  have hXl : X.length = 8 := by rw [← hX]; rfl
  have h1 : ∀ u ∈ X, u.oneCell' = true := by rw [← hX]; exact wcells_one _
  rw [hX]
  go_enter Tryd.func27, Tryd.ntmps27
  go_wp2_with fail
  have hB2 : Blk (w.alloc (.cells X.toArray 46)) w.heap.size 46 X := blk_new w _ _ _ rfl
  have hB4 : Blk ((w.alloc (.cells X.toArray 46)).alloc (.cells (wcells (row 8 fun _ => 0)).toArray 46)) (w.heap.size + 1) 46 (wcells (row 8 fun _ => 0)) := by
    have := blk_new (w.alloc (.cells X.toArray 46)) _ 46 (wcells (row 8 fun _ => 0)) rfl
    simpa using this
  have hb : Below w.heap.size w ((w.alloc (.cells X.toArray 46)).alloc (.cells (wcells (row 8 fun _ => 0)).toArray 46)) := ((Below.refl _ _).alloc (Nat.le_refl _) _).alloc (by simp) _
  have hB2' := blk_old hB2 (.cells (wcells (row 8 fun _ => 0)).toArray 46)
  refine (words_c p cp l ((w.alloc (.cells X.toArray 46)).alloc (.cells (wcells (row 8 fun _ => 0)).toArray 46)) (HP.out.below hb) HL.out).mono ?_
  rintro e w1 ⟨rfl, hb1⟩
  have hC2 := Lib.hid (hB2'.below hb1)
  have hC4 := Lib.hid (hB4.below hb1)
  have hBb := Lib.hid (bnext hb hb1)
  clear hB2 hB4 hb hB2' hb1
  have hWl := row_len 64 (wd l)
  have hW1 := row_one 64 (wd l)
  have hWi : Hid ((Tryd.prog.info? 57).map (·.size) = some (wcells (row 64 (wd l))).length) := by show _ = _; rw [hWl]; exact info64
  have hXi : Hid ((Tryd.prog.info? 46).map (·.size) = some X.length) := by show _ = _; rw [hXl]; exact info8
  obtain ⟨W, hWe⟩ : ∃ W, wcells (row 64 (wd l)) = W := ⟨_, rfl⟩
  rw [hWe] at hWl hW1 hWi ⊢
  have HWE := Lib.hid hWe
  have HXE := Lib.hid hX
  clear hWe hX
  go_wp2_with (first
    | (with_reducible refine wpList_store_new rfl 57 (.tmp 5) (.tmp 14) rfl W 57 _ rfl rfl hWi.out (Eq.trans (by decide) hWl.symm) hW1 ?_; intro wA hA hAb hz; clear hz; have hA2 := hC2.out.below hAb)
    | (with_reducible refine wpList_load_blk rfl 46 (.tmp 2) rfl w.heap.size X 46 hA2 rfl _ Tryd.underlying46 rfl hXi.out ?_)
    | (with_reducible refine wpList_store_new rfl 46 (.tmp 6) (.tmp 15) rfl X 46 _ rfl rfl hXi.out (Eq.trans (by decide) hXl.symm) h1 ?_; intro wB hB hBb2 hz; clear hz))
  have hD2 := hA2.below hBb2
  have hD4 := (hC4.out.below hAb).below hBb2
  have hD5 := hA.below hBb2
  have hbx := bnext (bnext hBb.out hAb) hBb2
  have HN : Hid (w.heap.size + 1 < w1.heap.size ∧ w1.heap.size < wA.heap.size) := ⟨hC4.out.lt, hA.lt⟩
  obtain ⟨g5, hg5⟩ : ∃ g5, g5 = w1.heap.size := ⟨_, rfl⟩
  obtain ⟨g6, hg6⟩ : ∃ g6, g6 = wA.heap.size := ⟨_, rfl⟩
  rw [← hg5] at hD5 HN ⊢
  rw [← hg6] at hB HN ⊢
  rw [← HXE.out] at hB hD2
  clear hC2 hC4 hBb hA2 hAb hBb2 hA hg5 hg6 hWi hXi hWl hW1 hXl h1
  go_wp2_with fail
  go_loopg [7] 64 (fun g s7 wy => ∃ t : Nat, t + g = 64 ∧ s7 = .int .i64 t ∧ Blk wy g6 46 (wcells (rnds v l t).list) ∧ Blk wy g5 57 W ∧ Blk wy w.heap.size 46 (wcells v.list) ∧ Blk wy (w.heap.size + 1) 46 (wcells (row 8 fun _ => 0)) ∧ Below w.heap.size w wy)
  case atStart => exact ⟨0, rfl, rfl, hB, hD5, hD2, hD4, hbx⟩
  case round =>
    clear hB hD5 hD2 hD4 hbx
    obtain ⟨t, htg, rfl, hB, hD5, hD2, hD4, hbx⟩ := hrel
    rcases gk with _ | g
    · obtain rfl : t = 64 := by omega
      have hv2 := rnds_ok hv l 64
      obtain ⟨u, hu⟩ : ∃ u, rnds v l 64 = u := ⟨_, rfl⟩
      rw [hu] at hB hv2
      have HT : Hid (takeB v l = plus v u) := by show _ = _; rw [← hu]; rfl
      clear hu
      rw [st_row] at hB hD2
      have HD5 := Lib.hid hD5
      clear hD5
      go_wp2_with fail
      go_loopg [12] 8 (fun g s12 wy => ∃ (i : Nat) (f : Nat → Nat), i + g = 8 ∧ s12 = .int .i64 i ∧ Hid ((∀ j, j < i → f j = (v.at j + u.at j) % 4294967296) ∧ (∀ j, i ≤ j → f j = v.at j)) ∧ Blk wy w.heap.size 46 (wcells (row 8 f)) ∧ Blk wy g6 46 (wcells (row 8 u.at)) ∧ Blk wy (w.heap.size + 1) 46 (wcells (row 8 fun _ => 0)) ∧ Below w.heap.size w wy)
      case atStart => exact ⟨0, v.at, rfl, rfl, ⟨fun j h => by omega, fun j _ => rfl⟩, hD2, hB, hD4, hbx⟩
      case round =>
        clear hB hD2 hD4 hbx
        obtain ⟨i, f, hig, rfl, HF, hD2, hB, hD4, hbx⟩ := hrel
        rcases gk with _ | g
        · obtain rfl : i = 8 := by omega
          have he : row 8 f = row 8 (takeB v l).at := by
            rw [HT.out]
            refine row_eq fun j hj => ?_
            rw [HF.out.1 j hj, plus_at v u j hj]
          rw [he] at hD2
          have hXl := row_len 8 (takeB v l).at
          have h1 := row_one 8 (takeB v l).at
          have hYi : Hid ((Tryd.prog.info? 46).map (·.size) = some (wcells (row 8 (takeB v l).at)).length) := by show _ = _; rw [hXl]; exact info8
          have hO : (wcells (row 8 fun _ => 0)).length = (wcells (row 8 (takeB v l).at)).length := by rw [row_len, row_len]
          have HD2 := Lib.hid hD2
          have HD4 := Lib.hid hD4
          obtain ⟨Y, hYe⟩ : ∃ Y, wcells (row 8 (takeB v l).at) = Y := ⟨_, rfl⟩
          rw [hYe] at HD2 h1 hYi hO
          have HYE := Lib.hid hYe
          generalize wcells (row 8 fun _ => 0) = O at HD4 hO
          clear hD2 hD4 hB he HF hXl hYe
          go_wp2_with (first
            | (with_reducible refine wpList_load_blk rfl 46 (.tmp 2) rfl w.heap.size Y 46 HD2.out rfl _ Tryd.underlying46 rfl hYi.out ?_)
            | (with_reducible refine wpList_store_blk rfl 46 (.tmp 4) (.tmp 117) rfl (w.heap.size + 1) Y O 46 HD4.out rfl rfl hYi.out hO h1 ?_; intro wf hR hW))
          refine bodyPost_ret (v := .agg Y.toArray) (results_blk Tryd.results27 _ _ (w.heap.size + 1) 46 Y _ rfl hR Tryd.underlying46 rfl hYi.out) rfl ⟨by rw [← HYE.out, ← st_row], hW.below _ _ hbx (by omega)⟩
        · have hiI : (i : Int) < 8 := by omega
          have hi8 : i < 8 := by omega
          have c1 := (hD2.cell i).trans (row_at f hi8)
          have c2 := (hB.cell i).trans (row_at u.at hi8)
          have f1 := hD2.frozen i
          rw [HF.out.2 i (Nat.le_refl _)] at c1
          have k1 := st_at hv i hi8
          have k2 := st_at hv2 i hi8
          have hne : w.heap.size ≠ g6 := by have := HN.out; omega
          have HS : Hid (∀ j, j < i + 1 → upd f i ((v.at i + u.at i) % 4294967296) j = (v.at j + u.at j) % 4294967296) := by
            intro j hj
            by_cases he : j = i
            · rw [he, upd_at]
            · rw [upd_ne he]; exact HF.out.1 j (by omega)
          have HS2 : Hid (∀ j, i + 1 ≤ j → upd f i ((v.at i + u.at i) % 4294967296) j = v.at j) := fun j hj => by rw [upd_ne (by omega)]; exact HF.out.2 j (by omega)
          obtain ⟨a, ha⟩ : ∃ a, v.at i = a := ⟨_, rfl⟩
          obtain ⟨b, hb⟩ : ∃ b, u.at i = b := ⟨_, rfl⟩
          rw [ha] at c1 k1 HS HS2
          rw [hb] at c2 k2 HS HS2
          obtain ⟨A, q, hA⟩ := add32 k1 k2
          rw [← hA.2] at HS HS2
          clear ha hb hA
          have HSET : Hid (Blk (wr.drew.setCell ⟨w.heap.size, i, none⟩ (.int .u32 (A : Int))) w.heap.size 46 (wcells (row 8 (upd f i A)))) := by
            have h := Blk.set (w := wr.drew) hD2 i (.int .u32 (A : Int))
            rw [row_set] at h
            exact h
          have HB2 : Hid (Blk (wr.drew.setCell ⟨w.heap.size, i, none⟩ (.int .u32 (A : Int))) g6 46 (wcells (row 8 u.at))) := Blk.set_other (w := wr.drew) hB hne i _
          have HB4 : Hid (Blk (wr.drew.setCell ⟨w.heap.size, i, none⟩ (.int .u32 (A : Int))) (w.heap.size + 1) 46 (wcells (row 8 fun _ => 0))) := Blk.set_other (w := wr.drew) hD4 (by omega) i _
          have HBX : Hid (Below w.heap.size w (wr.drew.setCell ⟨w.heap.size, i, none⟩ (.int .u32 (A : Int)))) := hbx.drew.setCell (Nat.le_refl _) _
          have d1 : wr.drew.cell? ⟨w.heap.size, i, none⟩ = some (.int .u32 (a : Int)) := c1
          have f3 : wr.drew.frozen? ⟨w.heap.size, i, none⟩ = false := f1
          clear hD2 hB hD4 hbx HF
          go_wp2_with fail
          go_still_tail 9, (by kernel_rfl)
          change wpList _ _ _ _ _ wr.drew
          obtain ⟨wd', hwd⟩ : ∃ wd', wd' = wr.drew := ⟨_, rfl⟩
          rw [← hwd] at HSET HB2 HB4 HBX d1 f3 ⊢
          clear hwd c1 c2 f1
          go_wp2_with fail
          go_roundg g
          case measure => omega
          case rel => exact ⟨i + 1, _, by omega, by go_num, ⟨HS.out, HS2.out⟩, HSET.out, HB2.out, HB4.out, HBX.out⟩
    · have htI : (t : Int) < 64 := by omega
      have hok := rnds_ok hv l t
      have hR : rnds v l (t + 1) = rnd (rnds v l t) (kt.getD t 0) (wd l t) := rfl
      obtain ⟨u, hu⟩ : ∃ u, rnds v l t = u := ⟨_, rfl⟩
      rw [hu] at hok hR hB
      have HR := Lib.hid hR
      clear hR hu
      obtain ⟨a, b, c, d, e, f, g', i'⟩ := u
      obtain ⟨o1, o2, o3, o4, o5, o6, o7, o8⟩ := hok
      simp only at o1 o2 o3 o4 o5 o6 o7 o8
      have c4 : wr.cell? ⟨g6, 4, none⟩ = some (.int .u32 (e : Int)) := hB.cell 4
      have c0 : wr.cell? ⟨g6, 0, none⟩ = some (.int .u32 (a : Int)) := hB.cell 0
      go_wp2_with fail
      have d7 : ∀ x : After wr, x.v.cell? ⟨g6, 7, none⟩ = some (.int .u32 (i' : Int)) := fun x => (hB.below x.below).cell 7
      have d5 : ∀ x : After wr, x.v.cell? ⟨g6, 5, none⟩ = some (.int .u32 (f : Int)) := fun x => (hB.below x.below).cell 5
      have d6 : ∀ x : After wr, x.v.cell? ⟨g6, 6, none⟩ = some (.int .u32 (g' : Int)) := fun x => (hB.below x.below).cell 6
      have dw : ∀ x : After wr, x.v.cell? ⟨g5, t, none⟩ = some (.int .u32 (wd l t : Int)) := fun x => by
        have h := (hD5.below x.below).cell t
        rw [← HWE.out, row_at _ (by omega)] at h
        exact h
      have hk := fun x : After wr => k_c t (by omega) x.v
      have hKl := kt_lt t (by omega)
      have hWl := wd_lt l t
      have HR2 := HR.out
      obtain ⟨K, hK⟩ : ∃ K, kt.getD t 0 = K := ⟨_, rfl⟩
      obtain ⟨Wt, hWt⟩ : ∃ Wt, wd l t = Wt := ⟨_, rfl⟩
      rw [hK] at hKl HR2
      rw [hWt] at hWl HR2
      simp only [hK] at hk
      simp only [hWt] at dw
      clear hK hWt HR
      have x1 := xor3 _ _ _ (rotN_lt 6 o5) (rotN_lt 11 o5) (rotN_lt 25 o5)
      rw [show rotN 6 e ^^^ rotN 11 e ^^^ rotN 25 e = S1 e from rfl] at x1
      have x2 := ch_val e f g' o5 o6 o7
      obtain ⟨A1, m1, b1⟩ := add32m o8 (S1_lt o5)
      obtain ⟨A2, m2, b2⟩ := add32m b1.1 (ch_lt (f := f) (g := g') o5)
      obtain ⟨A3, m3, b3⟩ := add32m b2.1 hKl
      obtain ⟨A4, m4, b4⟩ := add32m b3.1 hWl
      obtain ⟨T2, m5, b5⟩ := add32m (S0_lt o1) (maj_lt (c := c) o1 o2)
      obtain ⟨E4, m6, b6⟩ := add32m o4 b4.1
      obtain ⟨A0, m7, b7⟩ := add32m b4.1 b5.1
      have hone : one ⟨a, b, c, d, e, f, g', i'⟩ K Wt = A4 := by
        show (i' + S1 e + ch e f g' + K + Wt) % 4294967296 = A4
        rw [b4.2, b3.2, b2.2, b1.2]; omega
      have htwo : two ⟨a, b, c, d, e, f, g', i'⟩ = T2 := b5.2.symm
      have HFIN : Hid ((rnds v l (t + 1)).list = [A0, a, b, c, E4, e, f, g']) := by
        show _ = _
        rw [HR2]
        unfold rnd
        rw [hone, htwo, b6.2, b7.2]
        rfl
      clear hone htwo HR2 b1 b2 b3 b4 b5 b6 b7
      have C1 := Lib.hid (fun x : After wr => after_same x (turn_i e 6 6 rfl o5 (by decide) x.v))
      have C2 := Lib.hid (fun x : After wr => after_same x (turn_i e 11 11 rfl o5 (by decide) x.v))
      have C3 := Lib.hid (fun x : After wr => after_same x (turn_i e 25 25 rfl o5 (by decide) x.v))
      have C4 := Lib.hid (fun x : After wr => after_of x (hk x))
      clear hk
      refine wp_region_after (by kernel_rfl) (by kernel_rfl) ?_
      repeat (go_big_quiet_step (first
        | (rename_i x; go_at_call 34; with_reducible exact C1.out x)
        | (rename_i x; go_at_call 34; with_reducible exact C2.out x)
        | (rename_i x; go_at_call 34; with_reducible exact C3.out x)
        | (rename_i x; go_at_call 35; with_reducible exact C4.out x)))
      refine wpQuiet_nil ?_
      rintro ⟨wq, hxb⟩
      dsimp only
      have hBq := hB.below hxb
      have hD5q := hD5.below hxb
      have hD2q := hD2.below hxb
      have hD4q := hD4.below hxb
      have hbq := bnext hbx hxb
      clear hB hD5 hD2 hD4 hbx hxb d7 d5 d6 dw x1 x2 C1 C2 C3 C4 c4 c0
      go_wp2_with fail
      have d1 : ∀ x : After wq, x.v.cell? ⟨g6, 1, none⟩ = some (.int .u32 (b : Int)) := fun x => (hBq.below x.below).cell 1
      have d2 : ∀ x : After wq, x.v.cell? ⟨g6, 2, none⟩ = some (.int .u32 (c : Int)) := fun x => (hBq.below x.below).cell 2
      have y1 := xor3 _ _ _ (rotN_lt 2 o1) (rotN_lt 13 o1) (rotN_lt 22 o1)
      rw [show rotN 2 a ^^^ rotN 13 a ^^^ rotN 22 a = S0 a from rfl] at y1
      have y2 := maj_val a b c o1 o2 o3
      have C5 := Lib.hid (fun x : After wq => after_same x (turn_i a 2 2 rfl o1 (by decide) x.v))
      have C6 := Lib.hid (fun x : After wq => after_same x (turn_i a 13 13 rfl o1 (by decide) x.v))
      have C7 := Lib.hid (fun x : After wq => after_same x (turn_i a 22 22 rfl o1 (by decide) x.v))
      refine wp_region_after (by kernel_rfl) (by kernel_rfl) ?_
      repeat (go_big_quiet_step (first
        | (rename_i x; go_at_call 34; with_reducible exact C5.out x)
        | (rename_i x; go_at_call 34; with_reducible exact C6.out x)
        | (rename_i x; go_at_call 34; with_reducible exact C7.out x)))
      refine wpQuiet_nil ?_
      rintro ⟨wv, hxb⟩
      dsimp only
      have hBv := hBq.below hxb
      have hD5v := hD5q.below hxb
      have hD2v := hD2q.below hxb
      have hD4v := hD4q.below hxb
      have hbv := bnext hbq hxb
      clear hBq hD5q hD2q hD4q hbq hxb d1 d2 y1 y2 C5 C6 C7
      have e0 : wv.cell? ⟨g6, 0, none⟩ = some (.int .u32 (a : Int)) := hBv.cell 0
      have e1 : wv.cell? ⟨g6, 1, none⟩ = some (.int .u32 (b : Int)) := hBv.cell 1
      have e2 : wv.cell? ⟨g6, 2, none⟩ = some (.int .u32 (c : Int)) := hBv.cell 2
      have e3 : wv.cell? ⟨g6, 3, none⟩ = some (.int .u32 (d : Int)) := hBv.cell 3
      have e4 : wv.cell? ⟨g6, 4, none⟩ = some (.int .u32 (e : Int)) := hBv.cell 4
      have e5 : wv.cell? ⟨g6, 5, none⟩ = some (.int .u32 (f : Int)) := hBv.cell 5
      have e6 : wv.cell? ⟨g6, 6, none⟩ = some (.int .u32 (g' : Int)) := hBv.cell 6
      have e7 : wv.cell? ⟨g6, 7, none⟩ = some (.int .u32 (i' : Int)) := hBv.cell 7
      have f0 := hBv.frozen 0
      have f1 := hBv.frozen 1
      have f2 := hBv.frozen 2
      have f3 := hBv.frozen 3
      have f4 := hBv.frozen 4
      have f5 := hBv.frozen 5
      have f6 := hBv.frozen 6
      have f7 := hBv.frozen 7
      have HBV := Lib.hid hBv
      have HBB := Lib.hid hbv
      have HD : Hid (Blk wv g5 57 W ∧ Blk wv w.heap.size 46 (wcells v.list) ∧ Blk wv (w.heap.size + 1) 46 (wcells (row 8 fun _ => 0))) := ⟨hD5v, hD2v, hD4v⟩
      clear hBv hD5v hD2v hD4v hbv
      go_wp2_with fail
      have hne5 : g6 ≠ g5 := by have := HN.out; omega
      have hne2 : g6 ≠ w.heap.size := by have := HN.out; omega
      have hne4 : g6 ≠ w.heap.size + 1 := by have := HN.out; omega
      have hle : w.heap.size ≤ g6 := by have := HN.out; omega
      have hS := (((((((HBV.out.set 7 (.int .u32 (g' : Int))).set 6 (.int .u32 (f : Int))).set 5 (.int .u32 (e : Int))).set 4 (.int .u32 (E4 : Int))).set 3 (.int .u32 (c : Int))).set 2 (.int .u32 (b : Int))).set 1 (.int .u32 (a : Int))).set 0 (.int .u32 (A0 : Int))
      have hO : ∀ (h ty : Nat) (Y : List Value), g6 ≠ h → Blk wv h ty Y → Blk ((((((((wv.setCell ⟨g6, 7, none⟩ (.int .u32 (g' : Int))).setCell ⟨g6, 6, none⟩ (.int .u32 (f : Int))).setCell ⟨g6, 5, none⟩ (.int .u32 (e : Int))).setCell ⟨g6, 4, none⟩ (.int .u32 (E4 : Int))).setCell ⟨g6, 3, none⟩ (.int .u32 (c : Int))).setCell ⟨g6, 2, none⟩ (.int .u32 (b : Int))).setCell ⟨g6, 1, none⟩ (.int .u32 (a : Int))).setCell ⟨g6, 0, none⟩ (.int .u32 (A0 : Int))) h ty Y :=
        fun h ty Y hn hY => (((((((hY.set_other hn 7 _).set_other hn 6 _).set_other hn 5 _).set_other hn 4 _).set_other hn 3 _).set_other hn 2 _).set_other hn 1 _).set_other hn 0 _
      go_roundg g
      case measure => omega
      case rel =>
        refine ⟨t + 1, by omega, by go_num, ?_, hO _ _ _ hne5 HD.out.1, hO _ _ _ hne2 HD.out.2.1, hO _ _ _ hne4 HD.out.2.2, ?_⟩
        · rw [HFIN.out]; exact hS
        · exact (((((((HBB.out.setCell (p := ⟨g6, 7, none⟩) hle _).setCell (p := ⟨g6, 6, none⟩) hle _).setCell (p := ⟨g6, 5, none⟩) hle _).setCell (p := ⟨g6, 4, none⟩) hle _).setCell (p := ⟨g6, 3, none⟩) hle _).setCell (p := ⟨g6, 2, none⟩) hle _).setCell (p := ⟨g6, 1, none⟩) hle _).setCell (p := ⟨g6, 0, none⟩) hle _
end Go.Proofs.YtohmhcglmaifpaaDoor.sha
