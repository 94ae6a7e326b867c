/- What names a ring may have: the developers' mayBe and the reference's Right; names cloned into memory of their own. No condition but lengths within the reach. -/
import Derived.Test.YtkababeeikhifaaDoorRi2
import Derived.Test.YtkababeeikhifaaDoorClnS
namespace Go.Proofs.YtkababeeikhifaaDoor.rng
open Go.RowKit
open Go.Proofs.YtkababeeikhifaaDoor.oct Go.Proofs.YtkababeeikhifaaDoor.ref Go.Proofs.YtkababeeikhifaaDoor.rows Go.Proofs.YtkababeeikhifaaDoor.rowg
open Go.Proofs.YtkababeeikhifaaDoor.scp (tx senc senc_len InS ins_below ins_cell)

def OkN (x : T) : Prop := 1 ≤ x.length ∧ x.length ≤ 64
instance (x : T) : Decidable (OkN x) := by unfold OkN; infer_instance
/-- what names may be -/
structure Good (ms : List T) : Prop where
  lo : 1 ≤ ms.length
  hi : ms.length ≤ 8
  ok : ∀ x ∈ ms, OkN x
  nd : ms.Nodup
instance (ms : List T) : Decidable (Good ms) := decidable_of_iff (1 ≤ ms.length ∧ ms.length ≤ 8 ∧ (∀ x ∈ ms, OkN x) ∧ ms.Nodup) ⟨fun h => ⟨h.1, h.2.1, h.2.2.1, h.2.2.2⟩, fun h => ⟨h.lo, h.hi, h.ok, h.nd⟩⟩
def goodB (ms : List T) : Bool := decide (Good ms)
theorem goodB_iff (ms : List T) : goodB ms = true ↔ Good ms := decide_eq_true_iff
theorem goodB_no {ms : List T} (h : ¬ Good ms) : goodB ms = false := decide_eq_false h
/-- the first k may be -/
structure GoodTo (ms : List T) (k : Nat) : Prop where
  ok : ∀ x ∈ ms.take k, OkN x
  nd : (ms.take k).Nodup
theorem GoodTo.zero (ms : List T) : GoodTo ms 0 := ⟨fun x hx => by simp at hx, by simp⟩
theorem GoodTo.next {ms : List T} {k : Nat} (h : GoodTo ms k) (hk : k < ms.length) (h1 : OkN ms[k]) (h2 : ms[k] ∉ ms.take k) : GoodTo ms (k + 1) := by
  have e := List.take_succ_eq_append_getElem hk
  constructor
  · rw [e]
    intro x hx
    rcases List.mem_append.1 hx with hx | hx
    · exact h.ok x hx
    · rw [List.mem_singleton.1 hx]; exact h1
  · rw [e, List.nodup_append]
    refine ⟨h.nd, by simp, fun a ha b hb e => ?_⟩
    rw [List.mem_singleton.1 hb] at e
    rw [e] at ha
    exact h2 ha
theorem good_ok {ms : List T} {k : Nat} (hk : k < ms.length) (h : ¬ OkN ms[k]) : goodB ms = false := goodB_no fun g => h (g.ok _ (List.getElem_mem hk))
theorem good_twice {ms : List T} {k : Nat} (hk : k < ms.length) (h : ms[k] ∈ ms.take k) : goodB ms = false := goodB_no fun g => by
  have := g.nd
  rw [← List.take_append_drop k ms, List.nodup_append] at this
  refine this.2.2 _ h ms[k] ?_ rfl
  rw [List.drop_eq_getElem_cons hk]
  exact List.mem_cons_self
theorem GoodTo.all {ms : List T} (h : GoodTo ms ms.length) (h1 : 1 ≤ ms.length) (h2 : ms.length ≤ 8) : goodB ms = true := by
  rw [goodB_iff]
  have a := h.ok
  have b := h.nd
  rw [List.take_length] at a b
  exact ⟨h1, h2, a, b⟩
theorem ins_take {w : World} {P : Option Addr} {ms : List T} (h : InS w P ms) (k : Nat) : InS w P (ms.take k) := by
  intro h0
  rw [List.length_take] at h0
  obtain ⟨b, o, e, hc⟩ := h (by omega)
  refine ⟨b, o, e, fun i hi j hj => ?_⟩
  rw [List.length_take] at hi
  rw [hc i (by omega) j hj, List.getElem_take]
set_option maxRecDepth 100000 in
set_option maxHeartbeats 8000000 in
theorem maybe_c (P : Option Addr) (C : Nat) (ms : List T) (w : World) (hp : InS w P ms) (hl : ms.length ≤ 140737488355328) (hC : ms.length ≤ C) :
    Calls Tryd.prog 23 #[.slice P ms.length C] w fun e w' => e = .returned (.bool (goodB ms)) ∧ w = w' := by
  by_cases h0 : ms.length = 0
  · have HG : Hid (goodB ms = false) := Lib.hid (goodB_no fun g => by have := g.lo; omega)
    have i0 : ((ms.length : Int) == 0) = true := by rw [h0]; rfl
    obtain ⟨n, hn⟩ : ∃ n, ms.length = n := ⟨_, rfl⟩
    rw [hn] at i0 ⊢
    clear hp hn h0
    go_enter Tryd.func23, Tryd.ntmps23
    go_wp2_with fail
    go_ret
    exact ⟨ret_bool HG.out.symm, rfl⟩
  · by_cases h8 : 8 < ms.length
    · have HG : Hid (goodB ms = false) := Lib.hid (goodB_no fun g => by have := g.hi; omega)
      have i0 : ((ms.length : Int) == 0) = false := by rw [beq_eq_false_iff_ne]; omega
      have i1 : decide ((8 : Int) < (ms.length : Int)) = true := decide_eq_true (by omega)
      have i2 : decide (8 < ms.length) = true := decide_eq_true (by omega)
      obtain ⟨n, hn⟩ : ∃ n, ms.length = n := ⟨_, rfl⟩
      rw [hn] at i0 i1 i2 ⊢
      clear hp hn h0 h8
      go_enter Tryd.func23, Tryd.ntmps23
      go_wp2_with fail
      go_ret
      exact ⟨ret_bool HG.out.symm, rfl⟩
    · have i0 : ((ms.length : Int) == 0) = false := by rw [beq_eq_false_iff_ne]; omega
      have i1 : decide ((8 : Int) < (ms.length : Int)) = false := decide_eq_false (by omega)
      have i2 : decide (8 < ms.length) = false := decide_eq_false (by omega)
      have HALL : Hid (GoodTo ms ms.length → goodB ms = true) := Lib.hid fun h => h.all (by omega) (by omega)
      obtain ⟨n, hn⟩ : ∃ n, ms.length = n := ⟨_, rfl⟩
      rw [hn] at i0 i1 i2 hl hC HALL ⊢
      have HN := Lib.hid hn
      have HP := Lib.hid hp
      have hn8 : n ≤ 8 := by omega
      clear hp hn h0 h8
      go_enter Tryd.func23, Tryd.ntmps23
      go_wp2_with fail
      go_loopg [15] n (fun g s15 wx => ∃ k : Nat, k + g = n ∧ s15 = .int .i64 k ∧ Hid (GoodTo ms k) ∧ wx = w)
      case atStart => exact ⟨0, by omega, rfl, Lib.hid (GoodTo.zero ms), rfl⟩
      case round =>
        obtain ⟨k, hkg, rfl, HG, rfl⟩ := hrel
        rcases gk with _ | g
        · obtain rfl : k = n := by omega
          have HR := Lib.hid (HALL.out HG.out)
          clear HG
          go_wp2_with fail
          go_ret
          exact ⟨ret_bool HR.out.symm, rfl⟩
        · have hk : k < ms.length := by rw [HN.out]; omega
          have hkI : (k : Int) < (n : Int) := by omega
          have hkC : k ≤ C := by omega
          have hkl : (ms.take k).length = k := by rw [List.length_take]; omega
          obtain ⟨b, o, hq, c0⟩ := ins_cell HP.out k hk
          have HC := Lib.hid (shas_c P C k (ms.take k) ms[k] wr (ins_take HP.out k) hkl (by omega))
          subst hq
          have H1 : Hid (¬ OkN ms[k] → goodB ms = false) := Lib.hid (good_ok hk)
          have H2 : Hid (ms[k] ∈ ms.take k → goodB ms = false) := Lib.hid (good_twice hk)
          have H3 : Hid (OkN ms[k] → ms[k] ∉ ms.take k → GoodTo ms (k + 1)) := Lib.hid (HG.out.next hk)
          obtain ⟨x0, hm⟩ : ∃ m, ms[k] = m := ⟨_, rfl⟩
          rw [hm] at c0 HC H1 H2 H3
          clear hm hk hkl HG
          unfold tx at HC
          by_cases hx0 : x0.length = 0
          · have HR := Lib.hid (H1.out fun h => by have := h.1; omega)
            obtain rfl : x0 = [] := List.eq_nil_of_length_eq_zero hx0
            clear H1 H2 H3 HC hx0
            go_wp2_with fail
            go_ret
            exact ⟨ret_bool HR.out.symm, rfl⟩
          · have e1 : x0.isEmpty = false := by cases x0 with | nil => exact absurd rfl hx0 | cons c r => rfl
            have e2 : (x0 == []) = false := by cases x0 with | nil => exact absurd rfl hx0 | cons c r => rfl
            by_cases hx6 : 64 < x0.length
            · have HR := Lib.hid (H1.out fun h => by have := h.2; omega)
              have j1 : decide ((64 : Int) < (x0.length : Int)) = true := decide_eq_true (by omega)
              have j2 : decide (64 < x0.length) = true := decide_eq_true (by omega)
              clear H1 H2 H3 HC hx0 hx6
              go_wp2_with fail
              go_ret
              exact ⟨ret_bool HR.out.symm, rfl⟩
            · have j1 : decide ((64 : Int) < (x0.length : Int)) = false := decide_eq_false (by omega)
              have j2 : decide (64 < x0.length) = false := decide_eq_false (by omega)
              by_cases hin : x0 ∈ ms.take k
              · have HR := Lib.hid (H2.out hin)
                rw [(memZ_iff _ _).2 hin] at HC
                clear H1 H2 H3 hx0 hx6 hin
                go_wp2_with (go_at_call 39; refine HC.out.mono ?_; rintro e w' ⟨rfl, rfl⟩)
                go_ret
                exact ⟨ret_bool HR.out.symm, rfl⟩
              · have HR := Lib.hid (H3.out ⟨by omega, by omega⟩ hin)
                rw [memZ_no hin] at HC
                clear H1 H2 H3 hx0 hx6 hin
                go_wp2_with (go_at_call 39; refine HC.out.mono ?_; rintro e w' ⟨rfl, rfl⟩)
                go_roundg g
                case measure => omega
                case rel => exact ⟨k + 1, by omega, by go_num, HR, rfl⟩
/-- a row of texts of which some are laid -/
def trow (n : Nat) (ws : List T) : List Value := cells senc ws ++ List.replicate (n - ws.length) (.string ⟨#[]⟩)
theorem trow_zero (n : Nat) : trow n [] = List.replicate n (.string ⟨#[]⟩) := by unfold trow; simp [cells]
theorem trow_full {n : Nat} {ws : List T} (h : ws.length = n) : trow n ws = cells senc ws := by unfold trow; simp [h]
theorem trow_set {n : Nat} {ws : List T} (x : T) (h : ws.length < n) : (trow n ws).set ws.length (.string ⟨x.toArray⟩) = trow n (ws ++ [x]) := by
  unfold trow
  have hc : (cells senc ws).length = ws.length := by rw [cells_len senc_len]; omega
  obtain ⟨m, hm⟩ : ∃ m, n - ws.length = m + 1 := ⟨n - ws.length - 1, by omega⟩
  rw [hm, List.replicate_succ, List.set_append_right _ _ (by omega), hc, Nat.sub_self, List.set_cons_zero, cells_append, List.length_append, List.length_singleton, show n - (ws.length + 1) = m by omega, List.append_assoc]
  rfl
theorem trow_at {n k : Nat} {ws : List T} (h : ws.length = k) (hk : k < n) : (trow n ws)[k]? = some (.string ⟨#[]⟩) := by
  unfold trow
  have hc : (cells senc ws).length = k := by rw [cells_len senc_len]; omega
  rw [List.getElem?_append_right (by omega), hc, Nat.sub_self, h]
  obtain ⟨m, hm⟩ : ∃ m, n - k = m + 1 := ⟨n - k - 1, by omega⟩
  rw [hm, List.replicate_succ]
  rfl
theorem made_texts (n : Nat) : (madeCells (Value.string ⟨#[]⟩).cells (n * 1)).toList = trow n [] := by
  rw [trow_zero]
  apply List.ext_getElem
  · rw [Array.length_toList, size_madeCells, List.length_replicate]; omega
  · intro i h1 h2
    simp [madeCells, Value.cells, Nat.mod_one]
theorem infoStr : (Tryd.prog.info? 9).map (fun i => (i.zero, i.size, i.bytes)) = some (some (.string ⟨#[]⟩), 1, 16) := by kernel_rfl
set_option maxRecDepth 100000 in
set_option maxHeartbeats 8000000 in
theorem cloned_c (P : Option Addr) (C n : Nat) (ms : List T) (w : World) (hp : InS w P ms) (hn : ms.length = n) (hl : n ≤ 1048576) (hs : ∀ x ∈ ms, x.length ≤ 1048576) :
    Calls Tryd.prog 24 #[.slice P n C] w fun e w' => ∃ v, e = .returned v ∧ w'.ownsRow w.heap.size 9 1 v n (cells senc ms) ∧ Below w.heap.size w w' := by
  have HN := Lib.hid hn
  have HP := Lib.hid hp
  have HS := Lib.hid hs
  obtain ⟨j0, hj, hy0, hy1, hy2⟩ := info_parts infoStr
  clear hp hs hn
  go_enter Tryd.func24, Tryd.ntmps24
  go_wp2_with (at_make; refine wpList_make_full _ rfl _ _ 22 rfl w.heap.size 9 j0 (.string ⟨#[]⟩) 1 Tryd.underlying22 hj hy0 hy1 .i64 .i64 _ _ n rfl rfl rfl rfl (by rw [hy2]; omega) (by unfold maxLen; omega) (Nat.le_refl _) ?_; intro w2 hown hgrow)
  rw [made_texts] at hown
  have hB0 : Blk w2 w.heap.size 9 (trow n []) := by
    obtain ⟨g0, e0, _, hg⟩ := own_whole hown (by simp)
    injection e0 with e0
    injection e0 with e0
    rw [e0]
    exact hg
  have hS2 : Below w.heap.size w w2 := (Below.refl _ w).grown hgrow (Nat.le_refl _) (fun k hk => by cases hk)
  have HB0 := Lib.hid hB0
  have HS2 := Lib.hid hS2
  obtain ⟨gl, hgl⟩ : ∃ gl, w.heap.size = gl := ⟨_, rfl⟩
  rw [hgl] at HB0 ⊢
  have HGL := Lib.hid hgl
  clear hown hgrow hB0 hS2 hgl
  go_loopg [11] n (fun gk s11 wx => ∃ k : Nat, k + gk = n ∧ s11 = .int .i64 (k : Int) ∧ Hid (Blk wx gl 9 (trow n (ms.take k))) ∧ Hid (Below w.heap.size w wx))
  case atStart => exact ⟨0, by omega, rfl, HB0, HS2⟩
  case round =>
    obtain ⟨k, hkg, rfl, HB, HW⟩ := hrel
    clear HB0 HS2
    rcases gk with _ | gk
    · obtain rfl : k = n := by omega
      go_wp2_with fail
      go_ret
      have hb := HB.out
      have e : ms.take k = ms := List.take_of_length_le (by rw [HN.out]; exact Nat.le_refl _)
      rw [e, trow_full HN.out] at hb
      have h := own_of_block (B := w.heap.size) (xs := cells senc ms) (by rw [HGL.out]; exact Nat.le_refl _) hb (by unfold maxLen; rw [cells_len senc_len, HN.out]; omega)
      rw [cells_len senc_len, Nat.mul_one, HN.out] at h
      exact ⟨_, rfl, h, HW.out⟩
    · have hk : k < ms.length := by rw [HN.out]; omega
      have hkn : k < n := by omega
      have hkI : (k : Int) < (n : Int) := by omega
      obtain ⟨b, o, rfl, c0⟩ := ins_cell (ins_below HP.out HW.out) k hk
      have htl : (ms.take k).length = k := by rw [List.length_take]; omega
      have HTS := Lib.hid (trow_set ms[k] (n := n) (ws := ms.take k) (by rw [htl]; exact hkn))
      rw [htl, ← List.take_succ_eq_append_getElem hk] at HTS
      have HTA := Lib.hid (trow_at htl hkn)
      have HSC := Lib.hid (fun W => cln.sclone_c ⟨(ms[k]).toArray⟩ W (by have := HS.out ms[k] (List.getElem_mem hk); show (ms[k]).toArray.size ≤ _; rw [List.size_toArray]; omega))
      obtain ⟨x0, hm⟩ : ∃ m, ms[k] = m := ⟨_, rfl⟩
      rw [hm] at c0 HTS HSC
      clear hm hk htl
      go_wp2_with fail
      refine (HSC.out _).mono ?_
      rintro e w3 ⟨rfl, hb3⟩
      have hB3 := HB.out.below hb3
      have HW3 := Lib.hid (bnext HW.out hb3)
      have HB3 := Lib.hid hB3
      have f0 := hB3.frozen k
      have hlt3 := hB3.lt
      have c1 : w3.cell? ⟨gl, k, none⟩ = some (.string ⟨#[]⟩) := by
        rw [hB3.cell k]
        exact HTA.out
      have hset := hB3.set k (.string ⟨x0.toArray⟩)
      rw [HTS.out] at hset
      have HSET := Lib.hid hset
      have HBS : Hid (Below w.heap.size w (w3.setCell ⟨gl, k, none⟩ (.string ⟨x0.toArray⟩))) := Lib.hid (HW3.out.setCell (p := ⟨gl, k, none⟩) (by rw [HGL.out]; exact Nat.le_refl _) _)
      clear hb3 hB3 hset HSC HTS HTA
      go_wp2_with fail
      go_roundg gk
      case measure => omega
      case rel => exact ⟨k + 1, by omega, by go_num, HSET, HBS⟩
def rightB (n : Int) (ms : List T) : Bool := decide (1 ≤ n) && decide (n ≤ 64) && goodB ms
theorem right_no {n : Int} {ms : List T} (h : goodB ms = false) : rightB n ms = false := by unfold rightB; rw [h, Bool.and_false]
theorem right_n {n : Int} (ms : List T) (h : n < 1 ∨ 64 < n) : rightB n ms = false := by
  unfold rightB
  rcases h with h | h
  · rw [decide_eq_false (by omega), Bool.false_and, Bool.false_and]
  · rw [decide_eq_false (p := n ≤ 64) (by omega), Bool.and_false, Bool.false_and]
theorem right_yes {n : Int} {ms : List T} (h1 : 1 ≤ n) (h2 : n ≤ 64) (h : goodB ms = true) : rightB n ms = true := by unfold rightB; rw [decide_eq_true h1, decide_eq_true h2, h]; rfl
set_option maxRecDepth 100000 in
set_option maxHeartbeats 8000000 in
theorem right_c (n : Int) (P : Option Addr) (C : Nat) (ms : List T) (w : World) (hp : InS w P ms) (hl : ms.length ≤ 140737488355328) :
    Calls Tryd.prog 11 #[.int .i64 n, .slice P ms.length C] w fun e w' => e = .returned (.bool (rightB n ms)) ∧ ∃ nd, w' = w.drewN nd := by
  by_cases hn1 : n < 1
  · have HG := Lib.hid (right_n (n := n) ms (Or.inl hn1))
    have i1 : decide (n < 1) = true := decide_eq_true hn1
    obtain ⟨m, hm⟩ : ∃ m, ms.length = m := ⟨_, rfl⟩
    rw [hm]
    clear hm hp hl
    go_enter Tryd.func11, Tryd.ntmps11
    go_wp2_with fail
    go_ret
    exact ⟨ret_bool HG.out.symm, 0, rfl⟩
  have i1 : decide (n < 1) = false := decide_eq_false hn1
  by_cases hn2 : 64 < n
  · have HG := Lib.hid (right_n (n := n) ms (Or.inr hn2))
    have i2 : decide (64 < n) = true := decide_eq_true hn2
    obtain ⟨m, hm⟩ : ∃ m, ms.length = m := ⟨_, rfl⟩
    rw [hm]
    clear hm hp hl
    go_enter Tryd.func11, Tryd.ntmps11
    go_wp2_with fail
    go_ret
    exact ⟨ret_bool HG.out.symm, 0, rfl⟩
  have i2 : decide (64 < n) = false := decide_eq_false hn2
  by_cases h0 : ms.length < 1
  · have HG : Hid (rightB n ms = false) := Lib.hid (right_no (goodB_no fun g => by have := g.lo; omega))
    have i3 : decide ((ms.length : Int) < 1) = true := decide_eq_true (by omega)
    have i4 : decide (ms.length < 1) = true := decide_eq_true h0
    obtain ⟨m, hm⟩ : ∃ m, ms.length = m := ⟨_, rfl⟩
    rw [hm] at i3 i4 ⊢
    clear hm hp hl h0
    go_enter Tryd.func11, Tryd.ntmps11
    go_wp2_with fail
    go_ret
    exact ⟨ret_bool HG.out.symm, 0, rfl⟩
  have i3 : decide ((ms.length : Int) < 1) = false := decide_eq_false (by omega)
  have i4 : decide (ms.length < 1) = false := decide_eq_false h0
  by_cases h8 : 8 < ms.length
  · have HG : Hid (rightB n ms = false) := Lib.hid (right_no (goodB_no fun g => by have := g.hi; omega))
    have i5 : decide ((8 : Int) < (ms.length : Int)) = true := decide_eq_true (by omega)
    have i6 : decide (8 < ms.length) = true := decide_eq_true h8
    obtain ⟨m, hm⟩ : ∃ m, ms.length = m := ⟨_, rfl⟩
    rw [hm] at i3 i4 i5 i6 ⊢
    clear hm hp hl h0 h8
    go_enter Tryd.func11, Tryd.ntmps11
    go_wp2_with fail
    go_ret
    exact ⟨ret_bool HG.out.symm, 0, rfl⟩
  have i5 : decide ((8 : Int) < (ms.length : Int)) = false := decide_eq_false (by omega)
  have i6 : decide (8 < ms.length) = false := decide_eq_false h8
  have HALL : Hid (GoodTo ms ms.length → rightB n ms = true) := Lib.hid fun h => right_yes (by omega) (by omega) (h.all (by omega) (by omega))
  have HNO : Hid (goodB ms = false → rightB n ms = false) := Lib.hid right_no
  obtain ⟨R, hR⟩ : ∃ R, rightB n ms = R := ⟨_, rfl⟩
  rw [hR] at HALL HNO ⊢
  obtain ⟨m, hm⟩ : ∃ m, ms.length = m := ⟨_, rfl⟩
  rw [hm] at i3 i4 i5 i6 HALL ⊢
  have HN := Lib.hid hm
  have HP := Lib.hid hp
  have hn8 : m ≤ 8 := by omega
  clear hp hm h0 h8 hR hl
  go_enter Tryd.func11, Tryd.ntmps11
  go_wp2_with fail
  go_loopg [5] m (fun g s5 wx => ∃ k : Nat, k + g = m ∧ s5 = .int .i64 k ∧ Hid (GoodTo ms k) ∧ ∃ nd, wx = w.drewN nd)
  case atStart => exact ⟨0, by omega, rfl, Lib.hid (GoodTo.zero ms), 0, rfl⟩
  case round =>
    obtain ⟨k, hkg, rfl, HG, nd, hwy⟩ := hrel
    have HWY := Lib.hid hwy
    clear hwy
    rcases gk with _ | g
    · obtain rfl : k = m := by omega
      have HR := Lib.hid (HALL.out HG.out)
      clear HG
      go_wp2_with fail
      go_ret
      exact ⟨ret_bool HR.out.symm, nd, HWY.out⟩
    · have hk : k < ms.length := by rw [HN.out]; omega
      have hkI : (k : Int) < (m : Int) := by omega
      have HPA : Hid (∀ j, j < m → ∃ b o, P = some ⟨b, o, none⟩ ∧ ∀ nd, (w.drewN nd).cell? ⟨b, o + j, none⟩ = some (.string ⟨(ms.getD j []).toArray⟩)) := Lib.hid fun j hj => by
        have hj2 : j < ms.length := by rw [HN.out]; exact hj
        obtain ⟨b, o, e, hc⟩ := ins_cell HP.out j hj2
        exact ⟨b, o, e, fun _ => by rw [show ms.getD j [] = ms[j] by simp [List.getD, List.getElem?_eq_getElem hj2]]; exact hc⟩
      obtain ⟨b, o, hq, cw⟩ := HPA.out k (by omega)
      have c0 := cw nd
      rw [← HWY.out] at c0
      have CW := Lib.hid cw
      clear cw
      subst hq
      have hgd : ms.getD k [] = ms[k] := by simp [List.getD, List.getElem?_eq_getElem hk]
      have H1 : Hid (¬ OkN (ms.getD k []) → R = false) := Lib.hid fun h => HNO.out (good_ok hk (by rw [hgd] at h; exact h))
      have H2 : Hid (ms.getD k [] ∈ ms.take k → R = false) := Lib.hid fun h => HNO.out (good_twice hk (by rw [hgd] at h; exact h))
      have H3 : Hid (OkN (ms.getD k []) → ms.getD k [] ∉ ms.take k → GoodTo ms (k + 1)) := Lib.hid fun h1 h2 => by rw [hgd] at h1 h2; exact HG.out.next hk h1 h2
      obtain ⟨x0, hx⟩ : ∃ x0, ms.getD k [] = x0 := ⟨_, rfl⟩
      rw [hx] at c0 H1 H2 H3 CW
      clear hx hk hgd HG
      by_cases hx0 : x0.length < 1
      · have HR := Lib.hid (H1.out fun h => by have := h.1; omega)
        have j1 : decide ((x0.length : Int) < 1) = true := decide_eq_true (by omega)
        have j2 : decide (x0.length < 1) = true := decide_eq_true (by omega)
        clear H1 H2 H3 hx0
        go_wp2_with fail
        go_ret
        exact ⟨ret_bool HR.out.symm, nd, HWY.out⟩
      have j1 : decide ((x0.length : Int) < 1) = false := decide_eq_false (by omega)
      have j2 : decide (x0.length < 1) = false := decide_eq_false (by omega)
      by_cases hx6 : 64 < x0.length
      · have HR := Lib.hid (H1.out fun h => by have := h.2; omega)
        have j3 : decide ((64 : Int) < (x0.length : Int)) = true := decide_eq_true (by omega)
        have j4 : decide (64 < x0.length) = true := decide_eq_true (by omega)
        clear H1 H2 H3 hx0 hx6
        go_wp2_with fail
        go_ret
        exact ⟨ret_bool HR.out.symm, nd, HWY.out⟩
      have j3 : decide ((64 : Int) < (x0.length : Int)) = false := decide_eq_false (by omega)
      have j4 : decide (64 < x0.length) = false := decide_eq_false (by omega)
      have HOK : Hid (OkN x0) := Lib.hid ⟨by omega, by omega⟩
      clear H1 hx0 hx6
      go_wp2_with fail
      go_loopg [6] k (fun gg s6 wx => ∃ j : Nat, j + gg = k ∧ s6 = .int .i64 j ∧ Hid (x0 ∉ ms.take j) ∧ ∃ nd, wx = w.drewN nd)
      case atStart => exact ⟨0, by omega, rfl, Lib.hid (by simp), nd, HWY.out⟩
      case round =>
        obtain ⟨j, hjg, rfl, HNI, nd2, hwy⟩ := hrel
        have HWZ := Lib.hid hwy
        clear hwy
        rcases gk with _ | gj
        · obtain rfl : j = k := by omega
          have HR := Lib.hid (H3.out HOK.out HNI.out)
          clear H2 H3 HPA CW c0
          go_wp2_with fail
          go_roundg g
          case measure => omega
          case rel => exact ⟨j + 1, by omega, by go_num, HR, nd2, HWZ.out⟩
        · have hjk : j < k := by omega
          have hjI : (j : Int) < (k : Int) := by omega
          obtain ⟨b2, o2, hq, cw⟩ := HPA.out j (by omega)
          cases hq
          have d0 := cw nd2
          have c1 := CW.out nd2
          rw [← HWZ.out] at d0 c1
          have hj2 : j < ms.length := by rw [HN.out]; omega
          have hgd : ms.getD j [] = ms[j] := by simp [List.getD, List.getElem?_eq_getElem hj2]
          have hin : ms[j] ∈ ms.take k := by
            have h : (ms.take k)[j]? = some ms[j] := by rw [List.getElem?_take_of_lt hjk, List.getElem?_eq_getElem hj2]
            exact List.mem_of_getElem? h
          have H4 : Hid (ms.getD j [] = x0 → R = false) := Lib.hid fun e => H2.out (by rw [← e, hgd]; exact hin)
          have H5 : Hid (ms.getD j [] ≠ x0 → x0 ∉ ms.take (j + 1)) := Lib.hid fun e => take_no hj2 HNI.out (by rw [← hgd]; exact fun h => e h.symm)
          obtain ⟨y0, hy⟩ : ∃ y0, ms.getD j [] = y0 := ⟨_, rfl⟩
          rw [hy] at d0 H4 H5
          clear hy hgd hin cw hj2 c0
          by_cases he : y0 = x0
          · have HR := Lib.hid (H4.out he)
            have b0 : (y0 == x0) = true := by simpa using he
            clear H4 H5 he H2 H3
            go_wp2_with fail
            go_quiet (fail)
            go_wp2_with fail
            go_ret
            exact ⟨ret_bool HR.out.symm, nd2 + nq, by rw [HWZ.out]; exact scp.drewN_add w nd2 nq⟩
          · have HR := Lib.hid (H5.out he)
            have b0 : (y0 == x0) = false := by simpa using he
            clear H4 H5 he H2 H3
            go_wp2_with fail
            go_quiet (fail)
            go_wp2_with fail
            go_roundg gj
            case measure => omega
            case rel => exact ⟨j + 1, by omega, by go_num, HR, nd2 + nq, by rw [HWZ.out]; exact scp.drewN_add w nd2 nq⟩
end Go.Proofs.YtkababeeikhifaaDoor.rng
