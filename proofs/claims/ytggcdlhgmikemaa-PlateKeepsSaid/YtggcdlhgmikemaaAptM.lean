/- Several texts in one: R1Room, R1Kept, R1Apart, R1ApT. Conditions: as each theorem says. -/
import Derived.Test.YtggcdlhgmikemaaMem
import Derived.Test.YtggcdlhgmikemaaR1Same
import Derived.Test.YtggcdlhgmikemaaRows2
import Derived.WalkSmall
import Derived.Test.YtggcdlhgmikemaaTurn
namespace Go.Proofs.Ytggcdlhgmikemaa.ref
open Go.RowKit
open Go.Proofs.Ytggcdlhgmikemaa.oct
open Go.Lib (byteCells)

set_option maxRecDepth 20000 in
set_option maxHeartbeats 1000000 in
theorem room_c (p : Option Addr) (cp : Nat) (l : List UInt8) (w : World) (hp : In8 w p l) (hl : l.length ≤ 140737488351232) :
    Calls Try.prog 24 #[.slice p l.length cp] w fun e w' =>
      e = .returned (.slice (some ⟨w.heap.size, 0, none⟩) l.length (l.length + 3)) ∧ Blk w' w.heap.size 5 (byteCells l ++ seven 3) ∧ Below w.heap.size w w' := by
  obtain ⟨j0, hj, hy0, hy1, hy2⟩ := info_parts infoByte
  have HP := Lib.hid hp
  have HSZ : Hid ((Try.prog.info? 5).map (·.size) = some 1) := by show _ = _; rw [hj]; simp [hy1]
  clear hp
  go_enter Try.func24, Try.ntmps24
  go_wp2_with (first
    | (at_make; refine wpList_make_full _ rfl _ _ 33 rfl w.heap.size 5 j0 (.int .u8 0) 1 Try.underlying33 hj hy0 hy1 .i64 .i64 _ _ (l.length + 3) rfl rfl (by simp) (by simp) (by rw [hy2]; omega) (by unfold maxLen; omega) (Nat.le_refl _) ?_; intro w1 hown hgrow; obtain ⟨Z, HZL, HBK, hb1⟩ := made_whole hown hgrow; clear hown hgrow)
    | (with_reducible refine wpList_copy_splice rfl (.tmp 9) (.tmp 10) 33 33 rfl 5 Try.underlying33 HSZ.out (some ⟨w.heap.size, 0, none⟩) p (l.length + 3) (l.length + 3) l.length cp rfl rfl w.heap.size 0 Z 5 HBK.out (byteCells l) (by rw [byteCells_len]; exact (Nat.min_eq_left (by omega)).symm) (copy_src (HP.out.below hb1)) (by rw [byteCells_len, HZL.out]; omega) (byteCells_one l) w.heap.size w hb1 (Nat.le_refl _) ?_; intro w2 hb2 hbl2))
  have hT : ∃ T : List Value, T.length = 3 ∧ Blk w2 w.heap.size 5 (byteCells l ++ T) := by
    refine ⟨Z.drop l.length, by rw [List.length_drop, HZL.out]; omega, ?_⟩
    have h := hb2.out
    rwa [show splice Z 0 (byteCells l) = byteCells l ++ Z.drop l.length from by unfold splice; rw [List.take_zero, List.nil_append, Nat.zero_add, byteCells_len]] at h
  obtain ⟨T0, hT0, hB0⟩ := hT
  clear hb2 hb1 HBK HZL
  go_loopg [4] 3 (fun g s4 wy => ∃ (j : Nat) (T : List Value), j + g = 3 ∧ T.length = g ∧ s4 = .int .i64 ((l.length + j : Nat) : Int) ∧ Blk wy w.heap.size 5 ((byteCells l ++ seven j) ++ T) ∧ Below w.heap.size w wy)
  case atStart => exact ⟨0, T0, rfl, hT0, rfl, by simpa [seven] using hB0, hbl2⟩
  case round =>
    clear hB0 hbl2
    obtain ⟨j, T, hjg, hTl, rfl, hB, hbx⟩ := hrel
    cases gk with
    | zero =>
      obtain rfl : j = 3 := by omega
      obtain rfl : T = [] := List.eq_nil_of_length_eq_zero hTl
      rw [List.append_nil] at hB
      have HB := Lib.hid hB
      clear hB
      go_wp2_with fail
      go_ret
      exact ⟨rfl, HB.out, hbx⟩
    | succ g =>
      rcases T with _ | ⟨x, T⟩
      · simp at hTl
      have hlen : (byteCells l ++ seven j).length = l.length + j := by simp [byteCells_len, seven]
      have hc := hB.cell (l.length + j)
      have hf := hB.frozen (l.length + j)
      rw [← hlen, List.getElem?_append_right (Nat.le_refl _), Nat.sub_self, hlen] at hc
      simp only [List.getElem?_cons_zero] at hc
      have hset := hB.set (l.length + j) (.int .u8 77)
      rw [← hlen, set_at, hlen] at hset
      have HSET := Lib.hid hset
      have hj3 : j < 3 := by omega
      clear hB hset hlen
      go_wp2_with fail
      go_roundg g
      case measure => omega
      case rel =>
        refine ⟨j + 1, T, by omega, by simpa using hTl, by go_num, ?_, hbx.setCell (Nat.le_refl _) _⟩
        have h := HSET.out
        rwa [show (byteCells l ++ seven j) ++ Value.int .u8 77 :: T = (byteCells l ++ seven (j + 1)) ++ T from by simp [seven, List.replicate_succ', List.append_assoc]] at h
end Go.Proofs.Ytggcdlhgmikemaa.ref

namespace Go.Proofs.Ytggcdlhgmikemaa.ref
open Go.RowKit
open Go.Proofs.Ytggcdlhgmikemaa.oct
open Go.Lib (byteCells)

set_option maxRecDepth 20000 in
set_option maxHeartbeats 1000000 in
theorem kept_c (g : Nat) (q : Option Addr) (cq : Nat) (l : List UInt8) (w : World) (hB : Blk w g 5 (byteCells l ++ seven 3)) (hq : In8 w q l) (hl : l.length ≤ 140737488351232) :
    Calls Try.prog 26 #[.slice (some ⟨g, 0, none⟩) l.length (l.length + 3), .slice q l.length cq] w fun e w' => e = .returned (.bool true) ∧ ∃ n, w' = w.drewN n := by
  have HS := Lib.hid (rsame_c (some ⟨g, 0, none⟩) q (l.length + 3) cq l l w (in8_blk hB) hq (by omega))
  have h0 := blk_seven hB 0 (by omega)
  have h1 := blk_seven hB 1 (by omega)
  have h2 := blk_seven hB 2 (by omega)
  rw [Nat.add_zero] at h0
  clear hB hq
  go_enter Try.func26, Try.ntmps26
  go_wp2_with (go_at_call 19; refine HS.out.mono ?_; rintro e w2 ⟨rfl, nd, rfl⟩; rw [show decide (l = l) = true from by simp])
  go_ret
  exact ⟨rfl, nd, rfl⟩
end Go.Proofs.Ytggcdlhgmikemaa.ref

namespace Go.Proofs.Ytggcdlhgmikemaa.apt
open Go.RowKit
open Go.Proofs.Ytggcdlhgmikemaa.oct Go.Proofs.Ytggcdlhgmikemaa.ref Go.Proofs.Ytggcdlhgmikemaa.rows
open Go.Lib (byteCells)

theorem below_drewN {B : Nat} {w w' : World} (h : Below B w w') (n : Nat) : Below B w (w'.drewN n) := ⟨h.os, h.tape, h.output, h.size, h.block⟩
/-- a row: its block, if it has one; how many; how much room -/
structure Lst where
  blk : Option Nat
  n : Nat
  cap : Nat
def Lst.val (x : Lst) : Value := .slice (x.blk.map fun g => ⟨g, 0, none⟩) x.n x.cap
def Lst.ok (x : Lst) : Prop := (x.blk = none → x.n = 0 ∧ x.cap = 0) ∧ x.n ≤ x.cap ∧ x.cap ≤ maxLen
/-- unlike rows lie in unlike blocks -/
def Split (L : List Lst) : Prop := ∀ (i j : Nat) (x y : Lst) (g : Nat), L[i]? = some x → L[j]? = some y → x.blk = some g → y.blk = some g → i = j
/-- the rows' cells: those before i written over with their numbers -/
def Over (w : World) (L : List Lst) (i : Nat) : Prop := ∀ (j : Nat) (x : Lst) (g : Nat), L[j]? = some x → x.blk = some g → ∃ X, Blk w g 5 X ∧ X.length = x.cap ∧ (j < i → ∀ k, k < x.cap → X[k]? = some (.int .u8 ((j + 1 : Nat) : Int)))

theorem Over.next {w : World} {L : List Lst} {i : Nat} (h : Over w L i) (hn : ∀ x g, L[i]? = some x → x.blk = some g → ∃ X, Blk w g 5 X ∧ X.length = x.cap ∧ ∀ k, k < x.cap → X[k]? = some (.int .u8 ((i + 1 : Nat) : Int))) : Over w L (i + 1) := by
  intro j x g hj hx
  by_cases hji : j = i
  · subst hji
    obtain ⟨X, h1, h2, h3⟩ := hn x g hj hx
    exact ⟨X, h1, h2, fun _ => h3⟩
  · obtain ⟨X, h1, h2, h3⟩ := h j x g hj hx
    exact ⟨X, h1, h2, fun hlt => h3 (by omega)⟩

/-- nothing but block g has turned -/
def Only (g : Nat) (w w' : World) : Prop := ∀ b, b ≠ g → w'.heap[b]? = w.heap[b]?
theorem Only.set {g : Nat} {w w' : World} (h : Only g w w') (k : Nat) (v : Value) : Only g w (w'.setCell ⟨g, k, none⟩ v) := fun b hb => by
  rw [Below.heap_setCell _ _ _ _ (by exact hb)]; exact h b hb
theorem Over.other {w w' : World} {L : List Lst} {i g : Nat} {x : Lst} (h : Over w L i) (hs : Split L) (hx : L[i]? = some x) (hg : x.blk = some g) (ho : Only g w w') {X : List Value} (hX : Blk w' g 5 X) (hl : X.length = x.cap) (hk : ∀ k, k < x.cap → X[k]? = some (.int .u8 ((i + 1 : Nat) : Int))) : Over w' L (i + 1) := by
  intro j y g' hj hy
  by_cases hji : j = i
  · subst hji
    rw [hx] at hj
    cases hj
    rw [hg] at hy
    cases hy
    exact ⟨X, hX, hl, fun _ => hk⟩
  · obtain ⟨Y, h1, h2, h3⟩ := h j y g' hj hy
    refine ⟨Y, ?_, h2, fun hlt => h3 (by omega)⟩
    have hne : g' ≠ g := fun e => hji (hs j i y x g' hj hx hy (by rw [e]; exact hg))
    exact (ho g' hne).trans h1

set_option maxRecDepth 20000 in
set_option maxHeartbeats 4000000 in
theorem apartN_c (N : Nat) (hN : N ≤ 100) (gl : Nat) (L : List Lst) (w : World) (hL : L.length = N) (hok : ∀ x ∈ L, x.ok) (hsp : Split L) (hB : Blk w gl 33 (L.map Lst.val)) (hO : Over w L 0) (B : Nat) (hbl : ∀ x ∈ L, ∀ g, x.blk = some g → B ≤ g ∧ g ≠ gl) :
    Calls Try.prog 27 #[.slice (some ⟨gl, 0, none⟩) N N] w fun e w' => e = .returned (.bool true) ∧ Below B w w' := by
  go_enter Try.func27, Try.ntmps27
  have HOK := Lib.hid hok
  have HSP := Lib.hid hsp
  have HBL := Lib.hid hbl
  have HL := Lib.hid hL
  clear hok hsp hbl hL
  go_wp2_with fail
  go_loopg [3, 4, 5] N (fun g s3 s4 s5 wx => ∃ i : Nat, i + g = N ∧ s3 = .int .i64 i ∧ Blk wx gl 33 (L.map Lst.val) ∧ Over wx L i ∧ Below B w wx)
  case atStart => exact ⟨0, by omega, rfl, hB, hO, Below.refl _ _⟩
  case round =>
    clear hB hO
    obtain ⟨i, hig, rfl, hB, hO, hbx⟩ := hrel
    cases gk with
    | zero =>
      obtain rfl : N = i := by omega
      go_wp2_with fail
      go_loopg [6, 7, 8] N (fun g s6 s7 s8 wx => ∃ i : Nat, i + g = N ∧ s6 = .int .i64 i ∧ Blk wx gl 33 (L.map Lst.val) ∧ Over wx L N ∧ Below B w wx)
      case atStart => exact ⟨0, by omega, rfl, hB, hO, hbx⟩
      case round =>
        clear hB hO hbx
        obtain ⟨i, hig, rfl, hB, hO, hbx⟩ := hrel
        cases gk with
        | zero =>
          obtain rfl : N = i := by omega
          clear hB hO
          go_wp2_with fail
          go_ret
          exact ⟨rfl, hbx⟩
        | succ g =>
          have hi2 : i < N := by omega
          obtain ⟨x, hx⟩ : ∃ x, L[i]? = some x := ⟨_, List.getElem?_eq_getElem (by rw [HL.out]; exact hi2)⟩
          have hxok := HOK.out x (List.mem_of_getElem? hx)
          have hcell := hB.cell i
          rw [List.getElem?_map, hx, Option.map_some] at hcell
          rcases hxb : x.blk with _ | gx
          · obtain ⟨hn0, hc0⟩ := hxok.1 hxb
            have hv : x.val = .slice none 0 0 := by unfold Lst.val; rw [hxb, hn0, hc0]; rfl
            rw [hv] at hcell
            have HB := Lib.hid hB
            have HO := Lib.hid hO
            clear hx hxok hn0 hc0 hv hB hO
            go_wp2_with fail
            go_quiet (fail)
            go_wp2_with fail
            refine wp_loop_rounds 1 ?_
            rw [rounds_succ]
            go_wp2_with fail
            go_roundg g
            case measure => omega
            case rel => exact ⟨i + 1, by omega, by go_num, HB.out, HO.out, below_drewN hbx _⟩
          · have hv : x.val = .slice (some ⟨gx, 0, none⟩) x.n x.cap := by unfold Lst.val; rw [hxb]; rfl
            rw [hv] at hcell
            obtain ⟨X, hX, hXl, hXk⟩ := hO i x gx hx hxb
            have HK := Lib.hid (hXk hi2)
            have hcb : x.cap ≤ 9223372036854775807 := by have := hxok.2.2; unfold maxLen at this; omega
            have hnc : x.n ≤ x.cap := hxok.2.1
            obtain ⟨n, hn⟩ : ∃ n, x.n = n := ⟨_, rfl⟩
            obtain ⟨c, hc⟩ : ∃ c, x.cap = c := ⟨_, rfl⟩
            rw [hn, hc] at hcell
            rw [hc] at hcb hXl hnc HK
            rw [hn] at hnc
            have HB := Lib.hid hB
            have HO := Lib.hid hO
            clear hx hv hxb hxok hn hc hB hO hXk
            go_wp2_with fail
            go_quiet (fail)
            go_wp2_with fail
            go_loopg [8] c (fun g2 s8 wy => ∃ k : Nat, k + g2 = c ∧ s8 = .int .i64 k ∧ Blk wy gx 5 X ∧ Blk wy gl 33 (L.map Lst.val) ∧ Over wy L N ∧ Below B w wy)
            case atStart => exact ⟨0, by omega, rfl, hX, HB.out, HO.out, below_drewN hbx _⟩
            case round =>
              clear hX hbx
              obtain ⟨k, hkc, rfl, hX, hB, hO, hbx⟩ := hrel
              cases gk with
              | zero =>
                obtain rfl : k = c := by omega
                have HB2 := Lib.hid hB
                have HO2 := Lib.hid hO
                clear hX hB hO
                go_wp2_with fail
                go_roundg g
                case measure => omega
                case rel => exact ⟨i + 1, by omega, by go_num, HB2.out, HO2.out, hbx⟩
              | succ g2 =>
                have hkc2 : k < c := by omega
                have hck := hX.cell k
                rw [HK.out k hkc2] at hck
                have HX2 := Lib.hid hX
                have HB2 := Lib.hid hB
                have HO2 := Lib.hid hO
                have hb : (((i + 1 : Nat) : Int) != ((i : Int) + 1)) = false := by simp
                clear hX hB hO
                go_wp2_with fail
                go_roundg g2
                case measure => omega
                case rel => exact ⟨k + 1, by omega, by go_num, HX2.out, HB2.out, HO2.out, hbx⟩
    | succ g =>
      have hi2 : i < N := by omega
      obtain ⟨x, hx⟩ : ∃ x, L[i]? = some x := ⟨_, List.getElem?_eq_getElem (by rw [HL.out]; exact hi2)⟩
      have hxok := HOK.out x (List.mem_of_getElem? hx)
      have hcell := hB.cell i
      rw [List.getElem?_map, hx, Option.map_some] at hcell
      rcases hxb : x.blk with _ | gx
      · obtain ⟨hn0, hc0⟩ := hxok.1 hxb
        have hv : x.val = .slice none 0 0 := by unfold Lst.val; rw [hxb, hn0, hc0]; rfl
        rw [hv] at hcell
        have HN : Over wr L (i + 1) := hO.next fun y g hy hg => by
          rw [hx] at hy; cases hy; rw [hxb] at hg; cases hg
        have HB := Lib.hid hB
        clear hx hxok hn0 hc0 hv hB hO
        go_wp2_with fail
        go_quiet (fail)
        go_wp2_with fail
        refine wp_loop_rounds 1 ?_
        rw [rounds_succ]
        go_wp2_with fail
        go_roundg g
        case measure => omega
        case rel => exact ⟨i + 1, by omega, by go_num, HB.out, HN, below_drewN hbx _⟩
      · have hv : x.val = .slice (some ⟨gx, 0, none⟩) x.n x.cap := by unfold Lst.val; rw [hxb]; rfl
        rw [hv] at hcell
        obtain ⟨X0, hX0, hXl, _⟩ := hO i x gx hx hxb
        have hcb : x.cap ≤ 9223372036854775807 := by have := hxok.2.2; unfold maxLen at this; omega
        have hnc : x.n ≤ x.cap := hxok.2.1
        obtain ⟨n, hn⟩ : ∃ n, x.n = n := ⟨_, rfl⟩
        obtain ⟨c, hc⟩ : ∃ c, x.cap = c := ⟨_, rfl⟩
        rw [hn, hc] at hcell
        rw [hc] at hcb hXl hnc
        rw [hn] at hnc
        have HV := Lib.hid hv
        have HXB := Lib.hid hxb
        have HX := Lib.hid hx
        have HC := Lib.hid hc
        clear hv hxb hx hxok hn hc
        have HB := Lib.hid hB
        have HO := Lib.hid hO
        have hgB : B ≤ gx ∧ gx ≠ gl := HBL.out x (List.mem_of_getElem? HX.out) gx HXB.out
        clear hB hO
        go_wp2_with fail
        go_quiet (fail)
        go_wp2_with fail
        go_loopg [5] c (fun g2 s5 wy => ∃ (k : Nat) (X : List Value), k + g2 = c ∧ s5 = .int .i64 k ∧ Blk wy gx 5 X ∧ X.length = c ∧ Hid (∀ k', k' < k → X[k']? = some (.int .u8 ((i + 1 : Nat) : Int))) ∧ Only gx wr wy ∧ Below B w wy)
        case atStart => exact ⟨0, X0, by omega, rfl, hX0, hXl, fun k' h => by omega, fun b _ => rfl, below_drewN hbx _⟩
        case round =>
          clear hX0 hXl hbx
          obtain ⟨k, X, hkc, rfl, hX, hXl, HK, hon, hbx⟩ := hrel
          cases gk with
          | zero =>
            obtain rfl : k = c := by omega
            have HN : Over wr L (i + 1) := HO.out.other HSP.out HX.out HXB.out hon hX (by rw [hXl, HC.out]) (fun k' hk' => HK.out k' (by rw [← HC.out]; exact hk'))
            have HBN : Hid (Blk wr gl 33 (L.map Lst.val)) := (hon gl (fun e => hgB.2 e.symm)).trans HB.out
            clear hX hXl hon
            go_wp2_with fail
            go_roundg g
            case measure => omega
            case rel => exact ⟨i + 1, by omega, by go_num, HBN.out, HN, hbx⟩
          | succ g2 =>
            have hkc2 : k < c := by omega
            obtain ⟨u, hu⟩ : ∃ u, X[k]? = some u := ⟨_, List.getElem?_eq_getElem (by omega)⟩
            have hck := hX.cell k
            rw [hu] at hck
            have hfk := hX.frozen k
            have HSET := Lib.hid (hX.set k (.int .u8 ((i + 1 : Nat) : Int)))
            have HXL := Lib.hid hXl
            have HON := Lib.hid (hon.set k (.int .u8 ((i + 1 : Nat) : Int)))
            have HBX := Lib.hid (hbx.setCell (p := ⟨gx, k, none⟩) hgB.1 (.int .u8 ((i + 1 : Nat) : Int)))
            clear hX hXl hu hon hbx
            go_wp2_with fail
            go_roundg g2
            case measure => omega
            case rel => exact ⟨k + 1, X.set k (.int .u8 ((i + 1 : Nat) : Int)), by omega, by go_num, HSET.out, by rw [List.length_set]; exact HXL.out, fun k' h => by
              by_cases he : k' = k
              · subst he; rw [List.getElem?_set_self (by rw [HXL.out]; exact hkc2)]
              · rw [List.getElem?_set_ne (fun e => he e.symm)]; exact HK.out k' (by omega), HON.out, HBX.out⟩
end Go.Proofs.Ytggcdlhgmikemaa.apt

namespace Go.Proofs.Ytggcdlhgmikemaa.apt
open Go.RowKit
open Go.Proofs.Ytggcdlhgmikemaa.oct Go.Proofs.Ytggcdlhgmikemaa.ref Go.Proofs.Ytggcdlhgmikemaa.rows Go.Proofs.Ytggcdlhgmikemaa.trn
open Go.Lib (byteCells)

theorem turn_drewN {S : Nat → Prop} {w w' : World} (h : Turn S w w') (n : Nat) : Turn S w (w'.drewN n) := ⟨h.os, h.tape, h.output, h.size, h.block⟩
set_option maxRecDepth 20000 in
set_option maxHeartbeats 4000000 in
theorem apartT_c (N : Nat) (hN : N ≤ 100) (gl : Nat) (L : List Lst) (w : World) (hL : L.length = N) (hok : ∀ x ∈ L, x.ok) (hsp : Split L) (hB : Blk w gl 33 (L.map Lst.val)) (hO : Over w L 0) (S : Nat → Prop) (hbl : ∀ x ∈ L, ∀ g, x.blk = some g → S g ∧ g ≠ gl) :
    Calls Try.prog 27 #[.slice (some ⟨gl, 0, none⟩) N N] w fun e w' => e = .returned (.bool true) ∧ Turn S w w' := by
  go_enter Try.func27, Try.ntmps27
  have HOK := Lib.hid hok
  have HSP := Lib.hid hsp
  have HBL := Lib.hid hbl
  have HL := Lib.hid hL
  clear hok hsp hbl hL
  go_wp2_with fail
  go_loopg [3, 4, 5] N (fun g s3 s4 s5 wx => ∃ i : Nat, i + g = N ∧ s3 = .int .i64 i ∧ Blk wx gl 33 (L.map Lst.val) ∧ Over wx L i ∧ Turn S w wx)
  case atStart => exact ⟨0, by omega, rfl, hB, hO, Turn.refl _ _⟩
  case round =>
    clear hB hO
    obtain ⟨i, hig, rfl, hB, hO, hbx⟩ := hrel
    cases gk with
    | zero =>
      obtain rfl : N = i := by omega
      go_wp2_with fail
      go_loopg [6, 7, 8] N (fun g s6 s7 s8 wx => ∃ i : Nat, i + g = N ∧ s6 = .int .i64 i ∧ Blk wx gl 33 (L.map Lst.val) ∧ Over wx L N ∧ Turn S w wx)
      case atStart => exact ⟨0, by omega, rfl, hB, hO, hbx⟩
      case round =>
        clear hB hO hbx
        obtain ⟨i, hig, rfl, hB, hO, hbx⟩ := hrel
        cases gk with
        | zero =>
          obtain rfl : N = i := by omega
          clear hB hO
          go_wp2_with fail
          go_ret
          exact ⟨rfl, hbx⟩
        | succ g =>
          have hi2 : i < N := by omega
          obtain ⟨x, hx⟩ : ∃ x, L[i]? = some x := ⟨_, List.getElem?_eq_getElem (by rw [HL.out]; exact hi2)⟩
          have hxok := HOK.out x (List.mem_of_getElem? hx)
          have hcell := hB.cell i
          rw [List.getElem?_map, hx, Option.map_some] at hcell
          rcases hxb : x.blk with _ | gx
          · obtain ⟨hn0, hc0⟩ := hxok.1 hxb
            have hv : x.val = .slice none 0 0 := by unfold Lst.val; rw [hxb, hn0, hc0]; rfl
            rw [hv] at hcell
            have HB := Lib.hid hB
            have HO := Lib.hid hO
            clear hx hxok hn0 hc0 hv hB hO
            go_wp2_with fail
            go_quiet (fail)
            go_wp2_with fail
            refine wp_loop_rounds 1 ?_
            rw [rounds_succ]
            go_wp2_with fail
            go_roundg g
            case measure => omega
            case rel => exact ⟨i + 1, by omega, by go_num, HB.out, HO.out, turn_drewN hbx _⟩
          · have hv : x.val = .slice (some ⟨gx, 0, none⟩) x.n x.cap := by unfold Lst.val; rw [hxb]; rfl
            rw [hv] at hcell
            obtain ⟨X, hX, hXl, hXk⟩ := hO i x gx hx hxb
            have HK := Lib.hid (hXk hi2)
            have hcb : x.cap ≤ 9223372036854775807 := by have := hxok.2.2; unfold maxLen at this; omega
            have hnc : x.n ≤ x.cap := hxok.2.1
            obtain ⟨n, hn⟩ : ∃ n, x.n = n := ⟨_, rfl⟩
            obtain ⟨c, hc⟩ : ∃ c, x.cap = c := ⟨_, rfl⟩
            rw [hn, hc] at hcell
            rw [hc] at hcb hXl hnc HK
            rw [hn] at hnc
            have HB := Lib.hid hB
            have HO := Lib.hid hO
            clear hx hv hxb hxok hn hc hB hO hXk
            go_wp2_with fail
            go_quiet (fail)
            go_wp2_with fail
            go_loopg [8] c (fun g2 s8 wy => ∃ k : Nat, k + g2 = c ∧ s8 = .int .i64 k ∧ Blk wy gx 5 X ∧ Blk wy gl 33 (L.map Lst.val) ∧ Over wy L N ∧ Turn S w wy)
            case atStart => exact ⟨0, by omega, rfl, hX, HB.out, HO.out, turn_drewN hbx _⟩
            case round =>
              clear hX hbx
              obtain ⟨k, hkc, rfl, hX, hB, hO, hbx⟩ := hrel
              cases gk with
              | zero =>
                obtain rfl : k = c := by omega
                have HB2 := Lib.hid hB
                have HO2 := Lib.hid hO
                clear hX hB hO
                go_wp2_with fail
                go_roundg g
                case measure => omega
                case rel => exact ⟨i + 1, by omega, by go_num, HB2.out, HO2.out, hbx⟩
              | succ g2 =>
                have hkc2 : k < c := by omega
                have hck := hX.cell k
                rw [HK.out k hkc2] at hck
                have HX2 := Lib.hid hX
                have HB2 := Lib.hid hB
                have HO2 := Lib.hid hO
                have hb : (((i + 1 : Nat) : Int) != ((i : Int) + 1)) = false := by simp
                clear hX hB hO
                go_wp2_with fail
                go_roundg g2
                case measure => omega
                case rel => exact ⟨k + 1, by omega, by go_num, HX2.out, HB2.out, HO2.out, hbx⟩
    | succ g =>
      have hi2 : i < N := by omega
      obtain ⟨x, hx⟩ : ∃ x, L[i]? = some x := ⟨_, List.getElem?_eq_getElem (by rw [HL.out]; exact hi2)⟩
      have hxok := HOK.out x (List.mem_of_getElem? hx)
      have hcell := hB.cell i
      rw [List.getElem?_map, hx, Option.map_some] at hcell
      rcases hxb : x.blk with _ | gx
      · obtain ⟨hn0, hc0⟩ := hxok.1 hxb
        have hv : x.val = .slice none 0 0 := by unfold Lst.val; rw [hxb, hn0, hc0]; rfl
        rw [hv] at hcell
        have HN : Over wr L (i + 1) := hO.next fun y g hy hg => by
          rw [hx] at hy; cases hy; rw [hxb] at hg; cases hg
        have HB := Lib.hid hB
        clear hx hxok hn0 hc0 hv hB hO
        go_wp2_with fail
        go_quiet (fail)
        go_wp2_with fail
        refine wp_loop_rounds 1 ?_
        rw [rounds_succ]
        go_wp2_with fail
        go_roundg g
        case measure => omega
        case rel => exact ⟨i + 1, by omega, by go_num, HB.out, HN, turn_drewN hbx _⟩
      · have hv : x.val = .slice (some ⟨gx, 0, none⟩) x.n x.cap := by unfold Lst.val; rw [hxb]; rfl
        rw [hv] at hcell
        obtain ⟨X0, hX0, hXl, _⟩ := hO i x gx hx hxb
        have hcb : x.cap ≤ 9223372036854775807 := by have := hxok.2.2; unfold maxLen at this; omega
        have hnc : x.n ≤ x.cap := hxok.2.1
        obtain ⟨n, hn⟩ : ∃ n, x.n = n := ⟨_, rfl⟩
        obtain ⟨c, hc⟩ : ∃ c, x.cap = c := ⟨_, rfl⟩
        rw [hn, hc] at hcell
        rw [hc] at hcb hXl hnc
        rw [hn] at hnc
        have HV := Lib.hid hv
        have HXB := Lib.hid hxb
        have HX := Lib.hid hx
        have HC := Lib.hid hc
        clear hv hxb hx hxok hn hc
        have HB := Lib.hid hB
        have HO := Lib.hid hO
        have hgB : S gx ∧ gx ≠ gl := HBL.out x (List.mem_of_getElem? HX.out) gx HXB.out
        clear hB hO
        go_wp2_with fail
        go_quiet (fail)
        go_wp2_with fail
        go_loopg [5] c (fun g2 s5 wy => ∃ (k : Nat) (X : List Value), k + g2 = c ∧ s5 = .int .i64 k ∧ Blk wy gx 5 X ∧ X.length = c ∧ Hid (∀ k', k' < k → X[k']? = some (.int .u8 ((i + 1 : Nat) : Int))) ∧ Only gx wr wy ∧ Turn S w wy)
        case atStart => exact ⟨0, X0, by omega, rfl, hX0, hXl, fun k' h => by omega, fun b _ => rfl, turn_drewN hbx _⟩
        case round =>
          clear hX0 hXl hbx
          obtain ⟨k, X, hkc, rfl, hX, hXl, HK, hon, hbx⟩ := hrel
          cases gk with
          | zero =>
            obtain rfl : k = c := by omega
            have HN : Over wr L (i + 1) := HO.out.other HSP.out HX.out HXB.out hon hX (by rw [hXl, HC.out]) (fun k' hk' => HK.out k' (by rw [← HC.out]; exact hk'))
            have HBN : Hid (Blk wr gl 33 (L.map Lst.val)) := (hon gl (fun e => hgB.2 e.symm)).trans HB.out
            clear hX hXl hon
            go_wp2_with fail
            go_roundg g
            case measure => omega
            case rel => exact ⟨i + 1, by omega, by go_num, HBN.out, HN, hbx⟩
          | succ g2 =>
            have hkc2 : k < c := by omega
            obtain ⟨u, hu⟩ : ∃ u, X[k]? = some u := ⟨_, List.getElem?_eq_getElem (by omega)⟩
            have hck := hX.cell k
            rw [hu] at hck
            have hfk := hX.frozen k
            have HSET := Lib.hid (hX.set k (.int .u8 ((i + 1 : Nat) : Int)))
            have HXL := Lib.hid hXl
            have HON := Lib.hid (hon.set k (.int .u8 ((i + 1 : Nat) : Int)))
            have HBX := Lib.hid (hbx.next (Turn.set wr gx k (.int .u8 ((i + 1 : Nat) : Int)) hgB.1))
            clear hX hXl hu hon hbx
            go_wp2_with fail
            go_roundg g2
            case measure => omega
            case rel => exact ⟨k + 1, X.set k (.int .u8 ((i + 1 : Nat) : Int)), by omega, by go_num, HSET.out, by rw [List.length_set]; exact HXL.out, fun k' h => by
              by_cases he : k' = k
              · subst he; rw [List.getElem?_set_self (by rw [HXL.out]; exact hkc2)]
              · rw [List.getElem?_set_ne (fun e => he e.symm)]; exact HK.out k' (by omega), HON.out, HBX.out⟩
end Go.Proofs.Ytggcdlhgmikemaa.apt
