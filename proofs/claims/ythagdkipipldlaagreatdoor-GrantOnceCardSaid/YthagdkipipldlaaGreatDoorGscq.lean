/- Several texts in one: Scq1, Scq2, ShScpA, ShScpB, Scq3, Scq4, Scq5. Conditions: as each theorem says. -/
import Derived.Test.YthagdkipipldlaaGreatDoorGscp
import Derived.Maps.OwnSet
import Derived.Maps.AppendAt
import Derived.Shelf.Strings.Split
import Derived.Shelf.Strings.OnBuilder
import Derived.Shelf.Strconv.Clone
import Derived.Shelf.Small.Strs
import Derived.Test.YthagdkipipldlaaGreatDoorProg
import Derived.Shelf.SlIter.Nil
import Derived.Shelf.SortM.Plain
import Derived.Shelf.SortM.SortNone
import Derived.Deep.DeepBigQuietO
import Derived.Maps.RangeWalk
import Derived.Laws.IdiomRangeMap
namespace Go.Proofs.YthagdkipipldlaaGreatDoor.scp
open Go.RowKit
open Go.Proofs.YthagdkipipldlaaGreatDoor.oct Go.Proofs.YthagdkipipldlaaGreatDoor.ref Go.Proofs.YthagdkipipldlaaGreatDoor.rows Go.Proofs.YthagdkipipldlaaGreatDoor.rowg

set_option maxRecDepth 100000 in
set_option maxHeartbeats 8000000 in
theorem isSign_c (c : UInt8) (w : World) : Calls Tryz.prog 154 #[.int .u8 (c.toNat : Int)] w fun e w' => e = .returned (.bool (okC c)) ∧ w = w' := by
  have HOK : Hid (okC c = (decide (c.toNat = 33) || (decide (35 ≤ c.toNat) && decide (c.toNat ≤ 91)) || (decide (93 ≤ c.toNat) && decide (c.toNat ≤ 126)))) := rfl
  have hcl := c.toNat_lt
  obtain ⟨n, hn⟩ : ∃ n, c.toNat = n := ⟨_, rfl⟩
  rw [hn] at hcl HOK ⊢
  clear hn
  have hr := HOK.out
  obtain ⟨r, hrr⟩ : ∃ r, okC c = r := ⟨_, rfl⟩
  rw [hrr] at hr ⊢
  clear HOK hrr
  by_cases h1 : 33 ≤ n
  · by_cases h2 : n ≤ 126
    · by_cases h3 : n = 34
      · subst h3
        have HR : Hid (r = false) := by rw [hr]; rfl
        clear hr hcl h1 h2
        go_enter Tryz.func154, Tryz.ntmps154
        go_wp2_with fail
        go_ret
        exact ⟨ret_bool HR.out.symm, rfl⟩
      · by_cases h4 : n = 92
        · subst h4
          have HR : Hid (r = false) := by rw [hr]; rfl
          clear hr hcl h1 h2 h3
          go_enter Tryz.func154, Tryz.ntmps154
          go_wp2_with fail
          go_ret
          exact ⟨ret_bool HR.out.symm, rfl⟩
        · have HR : Hid (r = true) := by
            show _ = _
            rw [hr]
            simp only [Bool.or_eq_true, Bool.and_eq_true, decide_eq_true_eq]
            omega
          have i1 : decide ((33 : Int) ≤ (n : Int)) = true := decide_eq_true (by omega)
          have i2 : decide ((n : Int) ≤ 126) = true := decide_eq_true (by omega)
          have i3 : ((n : Int) != 34) = true := by rw [bne_iff_ne]; omega
          have i4 : ((n : Int) != 92) = true := by rw [bne_iff_ne]; omega
          clear hr hcl h1 h2 h3 h4
          go_enter Tryz.func154, Tryz.ntmps154
          go_wp2_with fail
          go_ret
          exact ⟨ret_bool HR.out.symm, rfl⟩
    · have HR : Hid (r = false) := by
        show _ = _
        rw [hr]
        have : ¬ (n = 33 ∨ (35 ≤ n ∧ n ≤ 91) ∨ (93 ≤ n ∧ n ≤ 126)) := by omega
        simpa [Bool.or_assoc] using this
      have i1 : decide ((33 : Int) ≤ (n : Int)) = true := decide_eq_true (by omega)
      have i2 : decide ((n : Int) ≤ 126) = false := decide_eq_false (by omega)
      clear hr hcl h1 h2
      go_enter Tryz.func154, Tryz.ntmps154
      go_wp2_with fail
      go_ret
      exact ⟨ret_bool HR.out.symm, rfl⟩
  · have HR : Hid (r = false) := by
      show _ = _
      rw [hr]
      have : ¬ (n = 33 ∨ (35 ≤ n ∧ n ≤ 91) ∨ (93 ≤ n ∧ n ≤ 126)) := by omega
      simpa [Bool.or_assoc] using this
    have i1 : decide ((33 : Int) ≤ (n : Int)) = false := decide_eq_false (by omega)
    clear hr hcl h1
    go_enter Tryz.func154, Tryz.ntmps154
    go_wp2_with fail
    go_ret
    exact ⟨ret_bool HR.out.symm, rfl⟩
set_option maxRecDepth 100000 in
set_option maxHeartbeats 8000000 in
theorem word_c (s : ByteArray) (w : World) :
    Calls Tryz.prog 130 #[.string s] w fun e w' => e = .returned (.bool (wordB s.data.toList)) ∧ w = w' := by
  have HSL : Hid (s.data.toList.length = s.size) := by show _ = _; rw [Array.length_toList]; rfl
  by_cases h0 : 1 ≤ s.size
  · have he : s.toList.isEmpty = false := by
      cases h : s.toList with
      | nil => exfalso; have h2 := HSL.out; rw [show s.data.toList = s.toList from (Lib.toList_data s).symm, h] at h2; simp at h2; omega
      | cons _ _ => rfl
    by_cases h64 : s.size ≤ 64
    · have HW : Hid (wordB s.data.toList = s.data.toList.all okC) := by
        show _ = _
        unfold wordB
        rw [HSL.out, decide_eq_true h0, decide_eq_true h64]; rfl
      have i64 : ¬ ((s.size : Int) > 64) := by omega
      go_enter Tryz.func130, Tryz.ntmps130
      go_wp2_with fail
      go_loopg [3, 13] s.size (fun g _ s6 wx => ∃ k : Nat, k + g = s.size ∧ s6 = .int .i64 k ∧ Hid ((s.data.toList.take k).all okC = true) ∧ wx = w)
      case atStart => exact ⟨0, by omega, rfl, rfl, rfl⟩
      case round =>
        obtain ⟨k, hkg, rfl, HN, rfl⟩ := hrel
        rcases gk with _ | g
        · obtain rfl : k = s.size := by omega
          have HR : Hid (wordB s.data.toList = true) := by
            have h := HN.out
            rw [List.take_of_length_le (by rw [HSL.out]; exact Nat.le_refl _)] at h
            show _ = _
            rw [HW.out]; exact h
          go_wp2_with fail
          go_ret
          exact ⟨ret_bool HR.out.symm, rfl⟩
        · have hk : k < s.size := by omega
          have hkI : (k : Int) < (s.size : Int) := by omega
          obtain ⟨h1, h2⟩ := okC_text s k hk HN.out
          rw [← HW.out] at h2
          obtain ⟨c, hc⟩ : ∃ c, s[k] = c := ⟨_, rfl⟩
          have hcc : (s[k].toNat : Int) = (c.toNat : Int) := by rw [hc]
          rw [hc] at h1 h2
          have H1 := Lib.hid h1
          have H2 := Lib.hid h2
          have HC := Lib.hid (isSign_c c wr)
          clear h1 h2 hc
          by_cases hok : okC c = true
          · have HR := Lib.hid (H1.out hok)
            rw [hok] at HC
            clear H1 H2 hok
            go_wp2_with (go_at_call 154; refine HC.out.mono ?_; rintro e w' ⟨rfl, rfl⟩)
            go_roundg g
            case measure => omega
            case rel => exact ⟨k + 1, by omega, by go_num, HR, rfl⟩
          · have hok' : okC c = false := by simpa using hok
            have HR := Lib.hid (H2.out hok')
            rw [hok'] at HC
            clear H1 H2 hok hok'
            go_wp2_with (go_at_call 154; refine HC.out.mono ?_; rintro e w' ⟨rfl, rfl⟩)
            go_ret
            exact ⟨ret_bool HR.out.symm, rfl⟩
    · have HW : Hid (wordB s.data.toList = false) := by
        show _ = _
        unfold wordB
        rw [HSL.out, decide_eq_true h0, decide_eq_false h64]; rfl
      have i64 : (s.size : Int) > 64 := by omega
      go_enter Tryz.func130, Tryz.ntmps130
      go_wp2_with fail
      go_ret
      exact ⟨ret_bool HW.out.symm, rfl⟩
  · have HW : Hid (wordB s.data.toList = false) := by
      show _ = _
      unfold wordB
      rw [HSL.out, decide_eq_false h0]; rfl
    have he : s.toList.isEmpty = true := by
      rw [Lib.toList_data]
      have : s.data.toList = [] := List.length_eq_zero_iff.1 (by rw [HSL.out]; omega)
      rw [this]; rfl
    go_enter Tryz.func130, Tryz.ntmps130
    go_wp2_with fail
    go_ret
    exact ⟨ret_bool HW.out.symm, rfl⟩
theorem wordT_c (x : T) (w : World) : Calls Tryz.prog 130 #[tx x] w fun e w' => e = .returned (.bool (wordB x)) ∧ w = w' := word_c ⟨x.toArray⟩ w
end Go.Proofs.YthagdkipipldlaaGreatDoor.scp

namespace Go.Proofs.YthagdkipipldlaaGreatDoor.scp
open Go.RowKit
open Go.Proofs.YthagdkipipldlaaGreatDoor.oct Go.Proofs.YthagdkipipldlaaGreatDoor.ref Go.Proofs.YthagdkipipldlaaGreatDoor.rows Go.Proofs.YthagdkipipldlaaGreatDoor.rowg

theorem skeyed : Maps.Keyed Tryz.prog 9 := Maps.string_keyed Tryz.underlying9
/-- what a map says of a list: its keys are the list's words -/
def IsSet (D : DataW Unit) (L : List T) : Prop := ∀ s : T, Maps.has D (.string s) = true ↔ (s ∈ L ∧ wordB s = true)
/-- a map in memory that holds the words of a list; laid with at most m turns -/
def SetAt (w : World) (b m : Nat) (L : List T) : Prop := ∃ n D, n ≤ m ∧ w.ownsMap Tryz.prog 9 unitElem b n D ∧ IsSet D L
def SetM (w : World) (b : Nat) (L : List T) : Prop := ∃ n D, w.ownsMap Tryz.prog 9 unitElem b n D ∧ IsSet D L
theorem isSet_nil : IsSet (.map []) [] := fun s => by
  show Maps.has (.map []) _ = true ↔ _
  simp [Maps.has]
theorem isSet_skip {D : DataW Unit} {L : List T} {x : T} (h : IsSet D L) (hx : wordB x = false) : IsSet D (L ++ [x]) := fun s => by
  rw [h s, List.mem_append, List.mem_singleton]
  constructor
  · exact fun ⟨h1, h2⟩ => ⟨Or.inl h1, h2⟩
  · rintro ⟨h1 | rfl, h2⟩
    · exact ⟨h1, h2⟩
    · rw [hx] at h2; cases h2
theorem isSet_put {D : DataW Unit} {L : List T} {x : T} (hD : Maps.IsMap D) (h : IsSet D L) (hx : wordB x = true) : IsSet (D.put (.string x) (.agg [])) (L ++ [x]) := fun s => by
  rw [List.mem_append, List.mem_singleton]
  by_cases e : s = x
  · subst e
    rw [Maps.has_put_same hD (show WideAt.IsKeyLit (.string s) from trivial)]
    exact ⟨fun _ => ⟨Or.inr rfl, hx⟩, fun _ => rfl⟩
  · rw [Maps.has_put_other (fun h2 => e (Lit.string.inj h2))]
    rw [h s]
    constructor
    · exact fun ⟨h1, h2⟩ => ⟨Or.inl h1, h2⟩
    · rintro ⟨h1 | h1, h2⟩
      · exact ⟨h1, h2⟩
      · exact absurd h1 e
theorem isSet_words {D : DataW Unit} {L M : List T} (h : IsSet D L) (he : ∀ s, wordB s = true → (s ∈ L ↔ s ∈ M)) : IsSet D M := fun s => by
  rw [h s]
  exact ⟨fun ⟨h1, h2⟩ => ⟨(he s h2).1 h1, h2⟩, fun ⟨h1, h2⟩ => ⟨(he s h2).2 h1, h2⟩⟩
def flatK (ls : List Lst) (k : Nat) : List T := ((ls.take k).map (·.2.2)).flatten
theorem flatK_succ (ls : List Lst) (k : Nat) (h : k < ls.length) : flatK ls (k + 1) = flatK ls k ++ (ls[k]).2.2 := by
  unfold flatK
  rw [List.take_succ_eq_append_getElem h, List.map_append, List.flatten_append, List.map_cons, List.map_nil, List.flatten_cons, List.flatten_nil, List.append_nil]
theorem flatK_le (ls : List Lst) (k : Nat) : (flatK ls k).length ≤ ((ls.map (·.2.2)).flatten).length := by
  unfold flatK
  conv => rhs; rw [← List.take_append_drop k ls]
  rw [List.map_append, List.flatten_append, List.length_append]
  omega
theorem lenc_len : ∀ a, (lenc a).length = 1 := fun _ => rfl
theorem wordS_c (x : T) (w : World) : Calls Tryz.prog 130 #[.string ⟨x.toArray⟩] w fun e w' => e = .returned (.bool (wordB x)) ∧ w = w' := wordT_c x w
set_option maxRecDepth 100000 in
set_option maxHeartbeats 8000000 in
theorem gathered_c (P : Option Addr) (C : Nat) (ls : List Lst) (w : World) (hp : InG lenc 1 w P ls) (hl : ls.length ≤ 4194304) (hg : ∀ x ∈ ls, GoodL w x) (hf : (ls.map (·.2.2)).flatten.length ≤ 4194304) :
    Calls Tryz.prog 103 #[.slice P ls.length C] w fun e w' => e = .returned (.map (some w.heap.size)) ∧ SetM w' w.heap.size (ls.map (·.2.2)).flatten ∧ Below w.heap.size w w' := by
  have HP := Lib.hid hp
  have HG := Lib.hid hg
  have hmm := @run_makeMap Tryz.prog
  have HFL := Lib.hid (flatK_le ls)
  have HFS := Lib.hid (flatK_succ ls)
  have HAL : Hid (flatK ls ls.length = (ls.map (·.2.2)).flatten) := by show _ = _; unfold flatK; rw [List.take_length]
  obtain ⟨F, hF⟩ : ∃ F, (ls.map (·.2.2)).flatten = F := ⟨_, rfl⟩
  rw [hF] at hf HFL HAL ⊢
  have HF := Lib.hid hf
  clear hp hg hF hf
  go_enter Tryz.func103, Tryz.ntmps103
  go_wp2_with fail
  go_loopg [5, 7, 11] ls.length (fun g _ _ s11 wx => ∃ k : Nat, k + g = ls.length ∧ s11 = .int .i64 k ∧ Hid (SetAt wx w.heap.size (flatK ls k).length (flatK ls k)) ∧ Hid (Below w.heap.size w wx))
  case atStart => exact ⟨0, by omega, rfl, ⟨0, .map [], Nat.zero_le _, World.ownsMap_made _ _ _ _, isSet_nil⟩, (Below.refl _ _).alloc (Nat.le_refl _) _⟩
  case round =>
    obtain ⟨k, hkg, rfl, HM, HB⟩ := hrel
    rcases gk with _ | g
    · obtain rfl : k = ls.length := by omega
      go_wp2_with fail
      go_ret
      obtain ⟨n, D, _, h1, h2⟩ := HM.out
      rw [HAL.out] at h2
      exact ⟨rfl, ⟨n, D, h1, h2⟩, HB.out⟩
    · have hk : k < ls.length := by omega
      have hkI : (k : Int) < (ls.length : Int) := by omega
      obtain ⟨b, o, rfl, hc⟩ := InG.cells (InG.below lenc_len (by decide) HP.out HB.out) k hk
      have c0 := hc 0 (by decide)
      rw [Nat.mul_one, Nat.add_zero] at c0
      have HST := Lib.hid (HFS.out k hk)
      have HGX := Lib.hid (HG.out _ (List.getElem_mem hk))
      have HLE := Lib.hid (HFL.out (k + 1))
      obtain ⟨x, hx⟩ : ∃ x, ls[k] = x := ⟨_, rfl⟩
      rw [hx] at c0 HST HGX
      rw [HST.out] at HLE
      obtain ⟨p, cx, l⟩ := x
      have c1 : wr.cell? ⟨b, o + k, none⟩ = some (.slice p l.length cx) := c0
      have hxl : l.length ≤ 4194304 := HGX.out.few
      clear hx hc c0
      go_wp2_with fail
      go_loopg [7, 17] l.length (fun g2 _ s17 wx => ∃ j : Nat, j + g2 = l.length ∧ s17 = .int .i64 j ∧ Hid (SetAt wx w.heap.size (flatK ls k ++ l.take j).length (flatK ls k ++ l.take j)) ∧ Hid (Below w.heap.size w wx))
      case atStart =>
        refine ⟨0, by omega, rfl, ?_, HB.out⟩
        show SetAt _ _ _ _
        rw [List.take_zero, List.append_nil]
        exact HM.out
      case round =>
        obtain ⟨j, hjg, rfl, HMJ, HBJ⟩ := hrel
        rcases gk with _ | g2
        · obtain rfl : j = l.length := by omega
          go_wp2_with fail
          go_roundg g
          case measure => omega
          case rel =>
            refine ⟨k + 1, by omega, by go_num, ?_, HBJ.out⟩
            show SetAt _ _ _ _
            rw [HST.out]
            have h := HMJ.out
            rw [List.take_length] at h
            exact h
        · have hj : j < l.length := by omega
          have hjI : (j : Int) < (l.length : Int) := by omega
          obtain ⟨b2, o2, rfl, d0⟩ := ins_cell (HGX.out.below HBJ.out).row j hj
          have HTK := Lib.hid (List.take_succ_eq_append_getElem hj)
          have hfit : (l[j]).length ≤ 140737488351232 := HGX.out.fit _ (List.getElem_mem hj)
          dsimp only at d0
          obtain ⟨y, hy⟩ : ∃ y, l[j] = y := ⟨_, rfl⟩
          rw [hy] at d0 HTK hfit
          have HW := Lib.hid (fun W => wordS_c y W)
          have hkey : keyOf Tryz.prog 9 (.string ⟨y.toArray⟩) = some (.string y) := WideMaps.keyOf_string_mk (P := Tryz.prog) Tryz.underlying9 (s := ⟨y.toArray⟩) (by rw [show (⟨y.toArray⟩ : ByteArray).size = y.length from List.size_toArray]; unfold maxLen; omega)
          have HKY := Lib.hid hkey
          clear hy hkey hfit
          by_cases hw : wordB y = true
          · rw [hw] at HW
            obtain ⟨n, D, hn, hom, hset⟩ := HMJ.out
            have hD := hom.isMap
            have HPUT : Hid (IsSet (D.put (.string y) (.agg [])) (flatK ls k ++ l.take (j + 1))) := by
              show IsSet _ _
              rw [HTK.out, ← List.append_assoc]
              exact isSet_put hD hset hw
            have HNL : Hid (n + 1 ≤ (flatK ls k ++ l.take (j + 1)).length) := by
              show _ ≤ _
              rw [HTK.out, ← List.append_assoc, List.length_append, List.length_singleton]
              omega
            have hnb : n < maxLen := by
              have h1 := HLE.out
              have h2 := HF.out
              rw [List.length_append] at hn h1
              rw [List.length_take] at hn
              unfold maxLen
              omega
            have HOM := Lib.hid hom
            clear hw hn hom hset hD HMJ
            go_wp2_with (first
              | (go_at_call 130; refine (HW.out _).mono ?_; rintro e w' ⟨rfl, rfl⟩)
              | (at_mapUpdate; refine wpList_mapUpdate_own _ rfl _ _ _ 131 rfl 9 161 skeyed Tryz.underlying131 (unitElem (H := Unit)) w.heap.size n _ rfl HOM.out hnb _ _ _ rfl rfl HKY.out _ [] unitElem_mk ?_; intro w1 hown1 hgrow1; have HO1 := Lib.hid hown1; have HG1 := Lib.hid hgrow1; clear hown1 hgrow1))
            go_roundg g2
            case measure => omega
            case rel =>
              exact ⟨j + 1, by omega, by go_num, ⟨n + 1, _, HNL.out, HO1.out, HPUT.out⟩, HBJ.out.grown HG1.out HBJ.out.size (fun j hj => by cases hj; exact Nat.le_refl _)⟩
          · have hwf : wordB y = false := by simpa using hw
            rw [hwf] at HW
            obtain ⟨n, D, hn, hom, hset⟩ := HMJ.out
            have HNX : Hid (SetAt wr w.heap.size (flatK ls k ++ l.take (j + 1)).length (flatK ls k ++ l.take (j + 1))) := by
              refine ⟨n, D, ?_, hom, ?_⟩
              · rw [HTK.out, ← List.append_assoc, List.length_append]; omega
              · rw [HTK.out, ← List.append_assoc]; exact isSet_skip hset hwf
            clear hw hwf hn hom hset HMJ
            go_wp2_with (go_at_call 130; refine (HW.out _).mono ?_; rintro e w' ⟨rfl, rfl⟩)
            go_roundg g2
            case measure => omega
            case rel => exact ⟨j + 1, by omega, by go_num, HNX, HBJ⟩
end Go.Proofs.YthagdkipipldlaaGreatDoor.scp

namespace Go.Proofs.YthagdkipipldlaaGreatDoor.sh
open Go.Shelf
def lays217_ren : Go.Shelf.Ren := ⟨fun | 217 => 98 | 266 => 127 | n => n, fun | 3 => 3 | 5 => 5 | 9 => 9 | n => n, fun  | n => n⟩
theorem lays217 : Go.Proofs.Lays.n217 Tryz.prog lays217_ren := {
  mixed := by kernel_rfl
  f217 := Tryz.func98.trans (congrArg some (by kernel_rfl))
  f266 := Tryz.func127.trans (congrArg some (by kernel_rfl))
  t3 := Tryz.underlying3
  a3 := Tryz.isAgg3
  z3 := Tryz.sizeOf3
  v3 := Tryz.zeroValue3
  t5 := Tryz.underlying5
  a5 := Tryz.isAgg5
  z5 := Tryz.sizeOf5
  v5 := Tryz.zeroValue5
  t9 := Tryz.underlying9
  a9 := Tryz.isAgg9
  z9 := Tryz.sizeOf9
  v9 := Tryz.zeroValue9 }
def lays156_ren : Go.Shelf.Ren := ⟨fun | 156 => 105 | 165 => 133 | 166 => 134 | 169 => 135 | 240 => 157 | 241 => 158 | 276 => 174 | 277 => 175 | n => n, fun | 0 => 0 | 3 => 3 | 4 => 4 | 5 => 5 | 9 => 9 | 20 => 20 | 31 => 35 | 37 => 125 | 70 => 166 | 72 => 168 | 75 => 170 | 76 => 171 | 80 => 173 | 127 => 126 | 164 => 207 | n => n, fun  | n => n⟩
theorem lays156 : Go.Proofs.Lays.n156 Tryz.prog lays156_ren := {
  mixed := by kernel_rfl
  f156 := Tryz.func105.trans (congrArg some (by kernel_rfl))
  f165 := Tryz.func133.trans (congrArg some (by kernel_rfl))
  f166 := Tryz.func134.trans (congrArg some (by kernel_rfl))
  f169 := Tryz.func135.trans (congrArg some (by kernel_rfl))
  f240 := Tryz.func157.trans (congrArg some (by kernel_rfl))
  f241 := Tryz.func158.trans (congrArg some (by kernel_rfl))
  f276 := Tryz.func174.trans (congrArg some (by kernel_rfl))
  f277 := Tryz.func175.trans (congrArg some (by kernel_rfl))
  t0 := Tryz.underlying0
  a0 := Tryz.isAgg0
  z0 := Tryz.sizeOf0
  v0 := Tryz.zeroValue0
  t3 := Tryz.underlying3
  a3 := Tryz.isAgg3
  z3 := Tryz.sizeOf3
  v3 := Tryz.zeroValue3
  t4 := Tryz.underlying4
  a4 := Tryz.isAgg4
  z4 := Tryz.sizeOf4
  v4 := Tryz.zeroValue4
  t9 := Tryz.underlying9
  a9 := Tryz.isAgg9
  z9 := Tryz.sizeOf9
  v9 := Tryz.zeroValue9
  t20 := Tryz.underlying20
  a20 := Tryz.isAgg20
  z20 := Tryz.sizeOf20
  v20 := Tryz.zeroValue20
  t31 := Tryz.underlying35
  a31 := Tryz.isAgg35
  z31 := Tryz.sizeOf35
  v31 := Tryz.zeroValue35
  t37 := Tryz.underlying125
  a37 := Tryz.isAgg125
  z37 := Tryz.sizeOf125
  v37 := Tryz.zeroValue125
  t70 := Tryz.underlying166
  a70 := Tryz.isAgg166
  z70 := Tryz.sizeOf166
  v70 := Tryz.zeroValue166
  t72 := Tryz.underlying168
  a72 := Tryz.isAgg168
  z72 := Tryz.sizeOf168
  v72 := Tryz.zeroValue168
  t75 := Tryz.underlying170
  a75 := Tryz.isAgg170
  z75 := Tryz.sizeOf170
  v75 := Tryz.zeroValue170
  t76 := Tryz.underlying171
  a76 := Tryz.isAgg171
  z76 := Tryz.sizeOf171
  v76 := Tryz.zeroValue171
  t127 := Tryz.underlying126
  a127 := Tryz.isAgg126
  z127 := Tryz.sizeOf126
  v127 := Tryz.zeroValue126
  t164 := Tryz.underlying207
  a164 := Tryz.isAgg207
  z164 := Tryz.sizeOf207
  v164 := Tryz.zeroValue207 }
theorem extra156 : Builder.Extra Tryz.prog lays156_ren := {
  sizeBuilder := by kernel_rfl
  liesBuilder := by kernel_rfl
  t5 := Tryz.underlying5
  a5 := Tryz.isAgg5
  z5 := Tryz.sizeOf5
  v5 := Tryz.zeroValue5
  infoByte := by kernel_rfl
  cellsByte := by kernel_rfl
  sizeByte := by kernel_rfl
  neB5 := by decide }
def lays316_ren : Go.Shelf.Ren := ⟨fun | 316 => 74 | n => n, fun | 0 => 0 | 3 => 3 | 4 => 4 | 5 => 5 | 9 => 9 | 37 => 125 | 127 => 126 | n => n, fun  | n => n⟩
theorem lays316 : Go.Proofs.Lays.n316 Tryz.prog lays316_ren := {
  mixed := by kernel_rfl
  f316 := Tryz.func74.trans (congrArg some (by kernel_rfl))
  t0 := Tryz.underlying0
  a0 := Tryz.isAgg0
  z0 := Tryz.sizeOf0
  v0 := Tryz.zeroValue0
  t3 := Tryz.underlying3
  a3 := Tryz.isAgg3
  z3 := Tryz.sizeOf3
  v3 := Tryz.zeroValue3
  t4 := Tryz.underlying4
  a4 := Tryz.isAgg4
  z4 := Tryz.sizeOf4
  v4 := Tryz.zeroValue4
  t9 := Tryz.underlying9
  a9 := Tryz.isAgg9
  z9 := Tryz.sizeOf9
  v9 := Tryz.zeroValue9
  t37 := Tryz.underlying125
  a37 := Tryz.isAgg125
  z37 := Tryz.sizeOf125
  v37 := Tryz.zeroValue125
  t127 := Tryz.underlying126
  a127 := Tryz.isAgg126
  z127 := Tryz.sizeOf126
  v127 := Tryz.zeroValue126 }
theorem laysM316 : Go.Proofs.LaysM.n316 Tryz.prog lays316_ren := { lays316 with
  t5 := Tryz.underlying5
  a5 := Tryz.isAgg5
  z5 := Tryz.sizeOf5
  v5 := Tryz.zeroValue5
  i0 := by kernel_rfl
  i3 := by kernel_rfl
  i4 := by kernel_rfl
  i5 := by kernel_rfl
  i9 := by kernel_rfl
  i37 := by kernel_rfl
  i127 := by kernel_rfl }
open Go.RowKit in
theorem sclone (s : ByteArray) (w : World) (hlim : s.size ≤ 281474976710656) :
    Calls Tryz.prog 74 #[.string s] w fun e w' => e = .returned (.string s) ∧ Below w.heap.size w w' := Any.stringslite_Clone laysM316 s w hlim
open Go.RowKit in
theorem sindexByte (s : ByteArray) (c : Int) (w : World) :
    Calls Tryz.prog 98 #[.string s, .int .u8 c] w fun e w' => e = .returned (.int .i64 (Lib.indexByte s.data.toList c.toNat.toUInt8)) ∧ w' = w := Any.stringslite_IndexByte lays217 s c w
open Go.RowKit in
theorem join_none (a : Option Addr) (c : Nat) (sep : ByteArray) (w : World) :
    Calls Tryz.prog 105 #[.slice a 0 c, .string sep] w fun e w' => e = .returned (.string ⟨#[]⟩) ∧ w' = w := Any.strings_Join_none lays156 extra156 a c sep w
open Go.RowKit in
theorem join_one (bk o c : Nat) (x sep : ByteArray) (w : World) (hc : w.cell? ⟨bk, o, none⟩ = some (.string x)) :
    Calls Tryz.prog 105 #[.slice (some ⟨bk, o, none⟩) 1 c, .string sep] w fun e w' => e = .returned (.string x) ∧ w' = w := Any.strings_Join_one lays156 extra156 bk o c x sep w hc
open Go.RowKit in
theorem join_many (bk o c : Nat) (xs : List ByteArray) (sep : ByteArray) (w : World)
    (hcells : ∀ (j : Nat) x, xs[j]? = some x → w.cell? ⟨bk, o + j, none⟩ = some (.string x))
    (hbk : bk < w.heap.size) (h2 : 2 ≤ xs.length) (hN : xs.length ≤ 140737488355328) (hcap : xs.length ≤ c)
    (hlen : (Lib.join (xs.map (·.data.toList)) sep.data.toList).length ≤ 140737488355328) :
    Calls Tryz.prog 105 #[.slice (some ⟨bk, o, none⟩) xs.length c, .string sep] w fun e w' => e = .returned (.string ⟨(Lib.join (xs.map (·.data.toList)) sep.data.toList).toArray⟩) ∧ Below w.heap.size w w' := Any.strings_Join_many lays156 extra156 bk o c xs sep w hcells hbk h2 hN hcap hlen
end Go.Proofs.YthagdkipipldlaaGreatDoor.sh

namespace Go.Proofs.YthagdkipipldlaaGreatDoor.sh
open Go.Shelf
def laysZ7_ren : Go.Shelf.Ren := ⟨fun | 7 => 132 | 10 => 156 | n => n, fun | 0 => 0 | 3 => 161 | 4 => 4 | 23 => 131 | 26 => 9 | 27 => 163 | 28 => 164 | 33 => 93 | n => n, fun  | n => n⟩
theorem laysZ7 : Go.Proofs.SlLaysZ.n7 Tryz.prog laysZ7_ren := {
  mixed := by kernel_rfl
  f7 := ⟨Tryz.f132.name, (by decide), Tryz.func132.trans (congrArg some (by kernel_rfl))⟩
  f10 := ⟨Tryz.f156.name, (by decide), Tryz.func156.trans (congrArg some (by kernel_rfl))⟩
  t0 := Tryz.underlying0
  a0 := Tryz.isAgg0
  z0 := Tryz.sizeOf0
  v0 := Tryz.zeroValue0
  t4 := Tryz.underlying4
  a4 := Tryz.isAgg4
  z4 := Tryz.sizeOf4
  v4 := Tryz.zeroValue4
  t23 := Tryz.underlying131
  a23 := Tryz.isAgg131
  z23 := Tryz.sizeOf131
  v23 := Tryz.zeroValue131
  t26 := Tryz.underlying9
  a26 := Tryz.isAgg9
  z26 := Tryz.sizeOf9
  v26 := Tryz.zeroValue9
  t27 := Tryz.underlying163
  a27 := Tryz.isAgg163
  z27 := Tryz.sizeOf163
  v27 := Tryz.zeroValue163
  t28 := Tryz.underlying164
  a28 := Tryz.isAgg164
  z28 := Tryz.sizeOf164
  v28 := Tryz.zeroValue164
  t33 := Tryz.underlying93
  a33 := Tryz.isAgg93
  z33 := Tryz.sizeOf93
  v33 := Tryz.zeroValue93 }
def laysZ6_ren : Go.Shelf.Ren := ⟨fun | 6 => 131 | 8 => 155 | 9 => 70 | 11 => 173 | n => n, fun | 0 => 0 | 24 => 35 | 26 => 9 | 28 => 164 | 33 => 93 | n => n, fun  | n => n⟩
theorem laysZ6 : Go.Proofs.SlLaysZ.n6 Tryz.prog laysZ6_ren := {
  mixed := by kernel_rfl
  f6 := ⟨Tryz.f131.name, (by decide), Tryz.func131.trans (congrArg some (by kernel_rfl))⟩
  f8 := ⟨Tryz.f155.name, (by decide), Tryz.func155.trans (congrArg some (by kernel_rfl))⟩
  f11 := ⟨Tryz.f173.name, (by decide), Tryz.func173.trans (congrArg some (by kernel_rfl))⟩
  t0 := Tryz.underlying0
  a0 := Tryz.isAgg0
  z0 := Tryz.sizeOf0
  v0 := Tryz.zeroValue0
  t24 := Tryz.underlying35
  a24 := Tryz.isAgg35
  z24 := Tryz.sizeOf35
  v24 := Tryz.zeroValue35
  t26 := Tryz.underlying9
  a26 := Tryz.isAgg9
  z26 := Tryz.sizeOf9
  v26 := Tryz.zeroValue9
  t28 := Tryz.underlying164
  a28 := Tryz.isAgg164
  z28 := Tryz.sizeOf164
  v28 := Tryz.zeroValue164
  i26 := by kernel_rfl }
def laysSort_ren : Go.Shelf.Ren := ⟨fun | 6 => 70 | 8 => 97 | 9 => 96 | 19 => 125 | 20 => 126 | 21 => 116 | 22 => 117 | 23 => 118 | 24 => 119 | 25 => 120 | 26 => 121 | 27 => 122 | 28 => 123 | 29 => 124 | 31 => 146 | 32 => 147 | 36 => 145 | 37 => 148 | 38 => 149 | 39 => 150 | 41 => 169 | n => n, fun | 0 => 0 | 3 => 3 | 4 => 4 | 5 => 5 | 9 => 9 | 26 => 35 | 27 => 35 | 29 => 9 | 32 => 88 | 35 => 145 | 36 => 146 | 41 => 150 | 44 => 153 | 46 => 66 | 53 => 182 | 57 => 186 | 63 => 203 | 64 => 204 | n => n, fun  | n => n⟩
theorem laysSort : Go.Proofs.SlLaysM.n6 Tryz.prog laysSort_ren := {
  mixed := by kernel_rfl
  f6 := ⟨Tryz.f70.name, (by decide), Tryz.func70.trans (congrArg some (by kernel_rfl))⟩
  f8 := Tryz.func97.trans (congrArg some (by kernel_rfl))
  f9 := ⟨Tryz.f96.name, (by decide), Tryz.func96.trans (congrArg some (by kernel_rfl))⟩
  f19 := Tryz.func125.trans (congrArg some (by kernel_rfl))
  f20 := Tryz.func126.trans (congrArg some (by kernel_rfl))
  f21 := ⟨Tryz.f116.name, (by decide), Tryz.func116.trans (congrArg some (by kernel_rfl))⟩
  f22 := ⟨Tryz.f117.name, (by decide), Tryz.func117.trans (congrArg some (by kernel_rfl))⟩
  f23 := ⟨Tryz.f118.name, (by decide), Tryz.func118.trans (congrArg some (by kernel_rfl))⟩
  f24 := ⟨Tryz.f119.name, (by decide), Tryz.func119.trans (congrArg some (by kernel_rfl))⟩
  f25 := ⟨Tryz.f120.name, (by decide), Tryz.func120.trans (congrArg some (by kernel_rfl))⟩
  f26 := ⟨Tryz.f121.name, (by decide), Tryz.func121.trans (congrArg some (by kernel_rfl))⟩
  f27 := ⟨Tryz.f122.name, (by decide), Tryz.func122.trans (congrArg some (by kernel_rfl))⟩
  f28 := ⟨Tryz.f123.name, (by decide), Tryz.func123.trans (congrArg some (by kernel_rfl))⟩
  f29 := ⟨Tryz.f124.name, (by decide), Tryz.func124.trans (congrArg some (by kernel_rfl))⟩
  f31 := Tryz.func146.trans (congrArg some (by kernel_rfl))
  f32 := Tryz.func147.trans (congrArg some (by kernel_rfl))
  f36 := ⟨Tryz.f145.name, (by decide), Tryz.func145.trans (congrArg some (by kernel_rfl))⟩
  f37 := ⟨Tryz.f148.name, (by decide), Tryz.func148.trans (congrArg some (by kernel_rfl))⟩
  f38 := ⟨Tryz.f149.name, (by decide), Tryz.func149.trans (congrArg some (by kernel_rfl))⟩
  f39 := ⟨Tryz.f150.name, (by decide), Tryz.func150.trans (congrArg some (by kernel_rfl))⟩
  f41 := ⟨Tryz.f169.name, (by decide), Tryz.func169.trans (congrArg some (by kernel_rfl))⟩
  t0 := Tryz.underlying0
  a0 := Tryz.isAgg0
  z0 := Tryz.sizeOf0
  v0 := Tryz.zeroValue0
  t3 := Tryz.underlying3
  a3 := Tryz.isAgg3
  z3 := Tryz.sizeOf3
  v3 := Tryz.zeroValue3
  t4 := Tryz.underlying4
  a4 := Tryz.isAgg4
  z4 := Tryz.sizeOf4
  v4 := Tryz.zeroValue4
  t5 := Tryz.underlying5
  a5 := Tryz.isAgg5
  z5 := Tryz.sizeOf5
  v5 := Tryz.zeroValue5
  t9 := Tryz.underlying9
  a9 := Tryz.isAgg9
  z9 := Tryz.sizeOf9
  v9 := Tryz.zeroValue9
  t26 := Tryz.underlying35
  a26 := Tryz.isAgg35
  z26 := Tryz.sizeOf35
  v26 := Tryz.zeroValue35
  t27 := Tryz.underlying35
  a27 := Tryz.isAgg35
  z27 := Tryz.sizeOf35
  v27 := Tryz.zeroValue35
  t29 := Tryz.underlying9
  a29 := Tryz.isAgg9
  z29 := Tryz.sizeOf9
  v29 := Tryz.zeroValue9
  t32 := Tryz.underlying88
  a32 := Tryz.isAgg88
  z32 := Tryz.sizeOf88
  v32 := Tryz.zeroValue88
  t35 := Tryz.underlying145
  a35 := Tryz.isAgg145
  z35 := Tryz.sizeOf145
  v35 := Tryz.zeroValue145
  t36 := Tryz.underlying146
  a36 := Tryz.isAgg146
  z36 := Tryz.sizeOf146
  v36 := Tryz.zeroValue146
  t41 := Tryz.underlying150
  a41 := Tryz.isAgg150
  z41 := Tryz.sizeOf150
  v41 := Tryz.zeroValue150
  t44 := Tryz.underlying153
  a44 := Tryz.isAgg153
  z44 := Tryz.sizeOf153
  v44 := Tryz.zeroValue153
  t46 := Tryz.underlying66
  a46 := Tryz.isAgg66
  z46 := Tryz.sizeOf66
  v46 := Tryz.zeroValue66
  t53 := Tryz.underlying182
  a53 := Tryz.isAgg182
  z53 := Tryz.sizeOf182
  v53 := Tryz.zeroValue182
  t57 := Tryz.underlying186
  a57 := Tryz.isAgg186
  z57 := Tryz.sizeOf186
  v57 := Tryz.zeroValue186
  t63 := Tryz.underlying203
  a63 := Tryz.isAgg203
  z63 := Tryz.sizeOf203
  v63 := Tryz.zeroValue203
  t64 := Tryz.underlying204
  a64 := Tryz.isAgg204
  z64 := Tryz.sizeOf204
  v64 := Tryz.zeroValue204 }
open Go.RowKit Go.Maps Go.Sort in
/-- slices.Sort's two contracts, at the fence that asks nothing. -/
theorem sortsIn (m : Nat) : AnyZ.SortsIn Tryz.prog laysZ6_ren Fence.wide m :=
  ⟨fun blk off cap ss W hH hblk hsz => callsIn_wide.2 (AnyM.slices_Sort_string laysSort blk off cap ss W hH hblk hsz),
   fun p cap W => callsIn_wide.2 (AnyM.slices_Sort_string_none laysSort p cap W)⟩
end Go.Proofs.YthagdkipipldlaaGreatDoor.sh

namespace Go.Proofs.YthagdkipipldlaaGreatDoor.scp
open Go.RowKit
open Go.Proofs.YthagdkipipldlaaGreatDoor.oct Go.Proofs.YthagdkipipldlaaGreatDoor.ref Go.Proofs.YthagdkipipldlaaGreatDoor.rows Go.Proofs.YthagdkipipldlaaGreatDoor.rowg

/-- what a cell holds, stored into it, turns nothing -/
theorem setCell_same {w : World} {g i : Nat} {v : Value} (h : w.cell? ⟨g, i, none⟩ = some v) : w.setCell ⟨g, i, none⟩ v = w := by
  have hh : (w.setCell ⟨g, i, none⟩ v).heap = w.heap := by
    apply Array.ext_getElem?
    intro k
    by_cases hk : k = g
    · subst hk
      unfold World.cell? at h
      simp only [World.setCell, Array.getElem?_modify, if_true]
      cases ho : w.heap[k]? with
      | none => rfl
      | some o =>
        rw [ho] at h
        cases o with
        | cells c t fz =>
          simp only at h
          simp only [Option.map_some]
          congr 2
          apply Array.ext_getElem?
          intro j
          have h' : c[i]? = some v := by simpa using h
          by_cases hj : j = i
          · subst hj
            rw [h']
            simp [(Array.getElem?_eq_some_iff.1 h').1]
          · simp [Ne.symm hj]
        | _ => rfl
    · exact Below.heap_setCell _ _ _ _ hk
  cases w
  simp only [World.setCell] at hh ⊢
  rw [hh]
set_option maxRecDepth 100000 in
theorem clone_c (s : ByteArray) (w : World) (hs : s.size ≤ 281474976710656) : Calls Tryz.prog 43 #[.string s] w fun e w' => e = .returned (.string s) ∧ Below w.heap.size w w' := by
  have HI := Lib.hid (sh.sclone s w hs)
  go_enter Tryz.func43, Tryz.ntmps43
  go_wp2_with (go_at_call 74; refine HI.out.mono ?_; rintro e w' ⟨rfl, hb⟩)
  go_ret
  exact ⟨rfl, hb⟩
theorem setM_below {w w' : World} {b : Nat} {L : List T} (h : SetM w b L) (hb : Below w.heap.size w w') : SetM w' b L := by
  obtain ⟨n, D, hom, hset⟩ := h
  have hl := hom.lt
  obtain ⟨es, clock, hh, F, hs, hD⟩ := hom
  exact ⟨n, D, ⟨es, clock, (hb.block b hl).trans hh, F, hs, hD⟩, hset⟩
theorem key_txt (y : T) (h : y.length ≤ 140737488351232) : keyOf Tryz.prog 9 (.string ⟨y.toArray⟩) = some (.string y) :=
  WideMaps.keyOf_string_mk (P := Tryz.prog) Tryz.underlying9 (s := ⟨y.toArray⟩) (by rw [show (⟨y.toArray⟩ : ByteArray).size = y.length from List.size_toArray]; unfold maxLen; omega)
set_option maxRecDepth 100000 in
set_option maxHeartbeats 4000000 in
/-- is a word one of a set's -/
theorem has_c (b : Nat) (L : List T) (y : T) (w : World) (h : SetM w b L) (hy : wordB y = true) :
    Calls Tryz.prog 136 #[.map (some b), .string ⟨y.toArray⟩] w fun e w' => e = .returned (.bool (hasB L y)) ∧ Below w.heap.size w w' := by
  obtain ⟨n, D, hom, hset⟩ := h
  have HB0 := Lib.hid ((Below.refl w.heap.size w).alloc (Nat.le_refl _) (.cells #[] 161))
  have HKY := Lib.hid (key_txt y (by have := (word_len hy).2; omega))
  have HR : Hid (Maps.has D (.string y) = hasB L y) := by
    show _ = _
    rw [Bool.eq_iff_iff, hset y, hasB_iff]
    exact ⟨fun h => h.1, fun h => ⟨h, hy⟩⟩
  have HOM := Lib.hid hom
  clear hom hset hy
  go_enter Tryz.func136, Tryz.ntmps136
  go_wp2_with (at_lookup; refine wpList_lookup_own_unit _ rfl _ _ 131 rfl 9 161 skeyed Tryz.underlying131 (Tryz.zeroValue161 _) b n D rfl HOM.out _ _ rfl HKY.out ?_)
  go_ret
  exact ⟨ret_bool HR.out, HB0.out⟩
theorem enc_cells (l : List T) : l.map Go.Proofs.encStr = cells senc l := by
  unfold cells
  induction l with
  | nil => rfl
  | cons x r ih => rw [List.map_cons, List.flatMap_cons, ih]; rfl
theorem le_of_lt {a b : T} (h : lt a b = true) : Go.leB a b = true := by
  have h2 : a < b := by
    have h3 : Go.Op.bytesLess a b = true := h
    rw [Go.Proofs.bytesLess_eq] at h3
    simpa using h3
  show decide (a ≤ b) = true
  exact decide_eq_true (List.le_of_lt h2)
/-- whatever the order in which a set's keys come: sorted they are the list's set; and how many they are -/
theorem set_keys {w : World} {b n : Nat} {D : DataW Unit} {L : List T} (hom : w.ownsMap Tryz.prog 9 unitElem b n D) (hset : IsSet D L) :
    (∀ ss : List T, ss.Perm (Go.strKeys D) → ss.mergeSort Go.leB = setP L ∧ ss.length = (setP L).length) ∧ Maps.size D = (setP L).length := by
  obtain ⟨es, hD, hpw, _⟩ := hom.entries skeyed
  obtain ⟨es', hD', hko⟩ := hom.keysOf
  obtain rfl : es = es' := by rw [hD] at hD'; simpa using hD'
  subst hD
  have hp := Go.perm_strKeys hpw (fun p hp => by obtain ⟨v, hv⟩ := hko p hp; obtain ⟨x, _, hx, _⟩ := Go.Maps.keyOf_str Tryz.underlying9 hv; exact ⟨x, hx⟩) (srt_nodup (setP_srt L)) (fun x => (setP_mem L x).trans (hset x).symm)
  refine ⟨fun ss hss => ?_, ?_⟩
  · have h1 := hss.trans hp.symm
    refine ⟨?_, h1.length_eq⟩
    rw [Go.mergeSort_of_perm h1]
    exact List.mergeSort_of_pairwise ((setP_srt L).imp fun {a b} h => le_of_lt h)
  · have h2 := hp.length_eq
    rw [h2]
    show es.length = (es.map fun p => Go.strOf p.1).length
    rw [List.length_map]
theorem keys_c (b : Nat) (W : World) : Calls Tryz.prog 132 #[.map (some b)] W fun e w' => e = .returned (.func (.func 156) #[] #[.pointer (some ⟨W.heap.size, 0, none⟩)]) ∧ w' = W.alloc (.cells #[.map (some b)] 131) :=
  (callsIn_wide (n := 6)).1 (AnyZ.keys_in sh.laysZ7 Fence.wide 6 trivial rfl (some b) W)
set_option maxHeartbeats 1000000 in
theorem skeys_c (b : Nat) (L : List T) (w : World) (h : SetM w b L) (hL : L.length ≤ 4194304) :
    Calls Tryz.prog 131 #[.func (.func 156) #[] #[.pointer (some ⟨w.heap.size, 0, none⟩)]] (w.alloc (.cells #[.map (some b)] 131)) fun e w' => RowA w w' (setP L) e := by
  obtain ⟨n, D, hom, hset⟩ := h
  obtain ⟨hk, hsz⟩ := set_keys hom hset
  have hsl := setP_len L
  have hbl := hom.lt
  have hseq : SeqGives Fence.wide 2 Tryz.prog 156 #[.pointer (some ⟨w.heap.size, 0, none⟩)] encStr (fun ss => ss.Perm (Go.strKeys D)) (Maps.size D) (w.alloc (.cells #[.map (some b)] 131)) :=
    AnyZ.keys_gives (ρ := sh.laysZ7_ren) { sh.laysZ7 with } Fence.wide _ trivial rfl (by omega) w.heap.size b n D _ (by simp) (by simp) (by
      obtain ⟨es, clock, hb, Ft, hs, hD⟩ := hom
      exact ⟨es, clock, (Below.heap_alloc _ _ b hbl).trans hb, Ft, hs, hD⟩)
  have cS := AnyZ.sorted_in sh.laysZ6 Fence.wide 5 trivial trivial trivial trivial rfl (by omega) (sh.sortsIn _) (enters_of Tryz.func70 (by kernel_rfl) rfl) 156 #[.pointer (some ⟨w.heap.size, 0, none⟩)] trivial (enters_of Tryz.func156 (by kernel_rfl) rfl) _ _ (by rw [hsz]; unfold maxLen; omega) (by rw [hsz]; omega) _ hseq
  refine ((callsIn_wide (n := 5)).1 cS).mono ?_
  rintro e w' ⟨v, ss, rfl, hS, hrow, _, hb⟩
  obtain ⟨h1, h2⟩ := hk ss hS
  have hrow' : w'.ownsRow w.heap.size 9 1 v (setP L).length (cells senc (setP L)) := by
    rw [← enc_cells, ← h1, List.length_mergeSort]
    exact ownsRow_base_a hrow (by simp)
  exact ⟨v, rfl, hrow', ((Below.refl _ w).alloc (Nat.le_refl _) _).trans (hb.mono (by simp))⟩
theorem own_blk {w : World} {B e k n : Nat} {v : Value} {xs : List Value} (h : w.ownsRow B e k v n xs) : v = .slice none 0 0 ∨ ∃ g X, v.ownBlock = some g ∧ Blk w g e X := by
  rcases h.2 with ⟨h1, _⟩ | ⟨g, cap, cur, h1, h2, h3, h4⟩
  · exact Or.inl h1
  · refine Or.inr ⟨g, cur.toList, by rw [h1]; rfl, ?_⟩
    unfold Blk
    rw [h3]
set_option maxRecDepth 100000 in
set_option maxHeartbeats 8000000 in
theorem sorted_c (b : Nat) (L : List T) (w : World) (h : SetM w b L) (hL : L.length ≤ 4194304) :
    Calls Tryz.prog 104 #[.map (some b)] w fun e w' => RowA w w' (setP L) e := by
  have HK := Lib.hid (keys_c b w)
  have HS := Lib.hid (skeys_c b L w h hL)
  have hlen : (setP L).length ≤ 4194304 := by have := setP_len L; omega
  have HFT := Lib.hid (fit_set L)
  obtain ⟨l, hl⟩ : ∃ l, setP L = l := ⟨_, rfl⟩
  rw [hl] at HS hlen HFT ⊢
  clear h hL hl
  go_enter Tryz.func104, Tryz.ntmps104
  go_wp2_with (first
    | (go_at_call 132; refine HK.out.mono ?_; rintro e w' ⟨rfl, rfl⟩)
    | (go_at_call 131; refine HS.out.mono ?_; rintro e w1 ⟨v, rfl, hown, hb1⟩; have HBK := Lib.hid (own_blk hown); have HOW := Lib.hid hown; have HB1 := Lib.hid hb1; obtain ⟨p, c, hv, hcc, hnn, hin⟩ := own_g senc_len (by decide) hown; subst hv; have HIN := Lib.hid hin; clear hown hb1 hin hnn hcc))
  have HAT : Hid (∀ k (h : k < l.length), ∃ g, p = some ⟨g, 0, none⟩ ∧ (∀ x : After w1, x.v.cell? ⟨g, k, none⟩ = some (.string ⟨(l[k]).toArray⟩)) ∧ (∀ x : After w1, x.v.frozen? ⟨g, k, none⟩ = false)) := fun k h => by
    obtain ⟨b2, o2, e, _⟩ := ins_cell HIN.out k h
    rcases HBK.out with hn | ⟨g, X, hg, hX⟩
    · injection hn with h1 _ _; rw [e] at h1; cases h1
    · rw [e] at hg
      injection hg with hg
      have hgb : b2 = g := hg
      subst hgb
      have ho2 : o2 = 0 := by
        rcases HOW.out.2 with ⟨h1, _⟩ | ⟨g3, cap, cur, h1, _⟩
        · injection h1 with h1 _ _; rw [e] at h1; cases h1
        · injection h1 with h1 _ _; rw [e] at h1; injection h1 with h1; injection h1
      subst ho2
      refine ⟨b2, e, fun x => ?_, fun x => (hX.below x.below).frozen k⟩
      obtain ⟨b3, o3, e3, hc⟩ := ins_cell (ins_below HIN.out x.below) k h
      rw [e] at e3
      injection e3 with e3
      injection e3 with e4 e5 _
      subst e4
      subst e5
      rw [Nat.zero_add] at hc
      exact hc
  clear HIN HBK HS HK
  go_wp2_with fail
  go_loopg [4, 5, 11] l.length (fun g _ _ s11 wx => ∃ k : Nat, k + g = l.length ∧ s11 = .int .i64 k ∧ Hid (Below w1.heap.size w1 wx))
  case atStart => exact ⟨0, by omega, rfl, Below.refl _ _⟩
  case round =>
    obtain ⟨k, hkg, rfl, HB⟩ := hrel
    rcases gk with _ | g
    · obtain rfl : k = l.length := by omega
      go_wp2_with fail
      go_ret
      exact ⟨_, rfl, own_belowG HOW.out HB.out, bnext HB1.out HB.out⟩
    · have hk : k < l.length := by omega
      have hkI : (k : Int) < (l.length : Int) := by omega
      obtain ⟨gb, rfl, hc, hz⟩ := HAT.out k hk
      have hfit := HFT.out _ (List.getElem_mem hk)
      obtain ⟨y, hy⟩ : ∃ y, l[k] = y := ⟨_, rfl⟩
      rw [hy] at hc hfit
      have HCL := Lib.hid (fun W => clone_c ⟨y.toArray⟩ W (by rw [show (⟨y.toArray⟩ : ByteArray).size = y.length from List.size_toArray]; omega))
      have c0 := hc ⟨wr, HB.out⟩
      dsimp only at c0
      have e0 : ∀ x : After wr, x.v.cell? ⟨gb, k, none⟩ = some (.string ⟨y.toArray⟩) := fun x => hc ⟨x.v, bnext HB.out x.below⟩
      have g0 : ∀ x : After wr, x.v.frozen? ⟨gb, k, none⟩ = false := fun x => hz ⟨x.v, bnext HB.out x.below⟩
      clear hc hz hy hfit
      obtain ⟨S0, hS0⟩ : ∃ S0, (⟨y.toArray⟩ : ByteArray) = S0 := ⟨_, rfl⟩
      rw [hS0] at c0 e0 HCL
      have E0 := Lib.hid e0
      have G0 := Lib.hid g0
      clear hS0 e0 g0
      go_wp2_with fail
      refine (HCL.out _).mono ?_
      rintro e w2 ⟨rfl, hb2⟩
      have d0 := E0.out ⟨w2, hb2⟩
      have z0 := G0.out ⟨w2, hb2⟩
      dsimp only at d0 z0
      have s0 := setCell_same d0
      have HB2 := Lib.hid (bnext HB.out hb2)
      clear hb2 c0
      go_wp2_with fail
      go_roundg g
      case measure => omega
      case rel => exact ⟨k + 1, by omega, by go_num, HB2⟩
end Go.Proofs.YthagdkipipldlaaGreatDoor.scp

namespace Go.Proofs.YthagdkipipldlaaGreatDoor.scp
open Go.RowKit
open Go.Proofs.YthagdkipipldlaaGreatDoor.oct Go.Proofs.YthagdkipipldlaaGreatDoor.ref Go.Proofs.YthagdkipipldlaaGreatDoor.rows Go.Proofs.YthagdkipipldlaaGreatDoor.rowg

theorem one_list (W : World) (x : Lst) (e : Nat) : InG lenc 1 (W.alloc (.cells #[.slice x.1 x.2.2.length x.2.1] e)) (some ⟨W.heap.size, 0, none⟩) [x] := fun _ =>
  ⟨W.heap.size, 0, rfl, fun i hi j hj => by
    rw [List.length_singleton] at hi
    obtain rfl : i = 0 := by omega
    obtain rfl : j = 0 := by omega
    rw [World.cell?_alloc_at _ _ _ _ rfl]
    rfl⟩
/-- one list, gathered -/
theorem gather1b_c (x : Lst) (w : World) (hx : GoodL w x) :
    Calls Tryz.prog 103 #[.slice (some ⟨w.heap.size, 0, none⟩) (1 : Nat) 1] (w.alloc (.cells #[.slice x.1 x.2.2.length x.2.1] 35)) fun e w' => ∃ b, w.heap.size ≤ b ∧ e = .returned (.map (some b)) ∧ SetM w' b x.2.2 ∧ Below w.heap.size w w' := by
  have hA := (Below.refl w.heap.size w).alloc (Nat.le_refl _) (.cells #[.slice x.1 x.2.2.length x.2.1] 35)
  have hfl : (([x] : List Lst).map (·.2.2)).flatten = x.2.2 := by simp
  have h := gathered_c (some ⟨w.heap.size, 0, none⟩) 1 [x] (w.alloc (.cells #[.slice x.1 x.2.2.length x.2.1] 35)) (one_list w x _) (by rw [List.length_singleton]; omega) (fun y hy => by rw [List.mem_singleton.1 hy]; exact hx.below hA) (by rw [hfl]; exact hx.few)
  rw [hfl] at h
  exact h.mono fun e w' ⟨h1, h2, h3⟩ => ⟨_, by simp, h1, h2, bnext hA h3⟩
theorem gather1_c (x : Lst) (w : World) (hx : GoodL w x) :
    Calls Tryz.prog 103 #[.slice (some ⟨w.heap.size, 0, none⟩) (1 : Nat) 1] (w.alloc (.cells #[.slice x.1 x.2.2.length x.2.1] 35)) fun e w' => ∃ b, e = .returned (.map (some b)) ∧ SetM w' b x.2.2 ∧ Below w.heap.size w w' :=
  (gather1b_c x w hx).mono fun _ _ ⟨b, _, h1, h2, h3⟩ => ⟨b, h1, h2, h3⟩
set_option maxRecDepth 100000 in
set_option maxHeartbeats 4000000 in
theorem set_c (x : Lst) (w : World) (hx : GoodL w x) : Calls Tryz.prog 85 #[lval x] w fun e w' => RowA w w' (setP x.2.2) e := by
  have HG := Lib.hid (gather1_c x w hx)
  have hfew := hx.few
  obtain ⟨p, c, l⟩ := x
  unfold lval
  dsimp only at HG hfew ⊢
  clear hx
  go_enter Tryz.func85, Tryz.ntmps85
  go_wp2_with fail
  refine HG.out.mono ?_
  rintro e w2 ⟨b, rfl, hset, hb2⟩
  have HS := Lib.hid (sorted_c b l w2 hset hfew)
  have HB := Lib.hid hb2
  clear hset hb2 HG
  go_wp2_with fail
  refine HS.out.mono ?_
  rintro e w3 ⟨v, rfl, hown, hb3⟩
  go_wp2_with fail
  go_ret
  exact ⟨v, rfl, hown.mono HB.out.size, bnext HB.out hb3⟩
theorem join_eq : ∀ l : List T, Lib.join l [32] = joinP l
  | [] => rfl
  | [x] => by rw [Lib.join_one]; rfl
  | x :: y :: r => by
    have h := join_eq (y :: r)
    rw [Lib.join_cons] at h ⊢
    rw [joinP, ← h]
    simp [Lib.joinTail]
theorem join_len (l : List T) (hw : ∀ x ∈ l, wordB x = true) : (joinP l).length ≤ 65 * l.length := by
  rcases l with _ | ⟨x, r⟩
  · simp [joinP]
  · have h := joinP_len (x :: r) (by simp)
    have h2 : ∀ m : List T, (∀ y ∈ m, wordB y = true) → (m.map (fun x => x.length + 1)).sum ≤ 65 * m.length := by
      intro m
      induction m with
      | nil => intro _; simp
      | cons y m ih =>
        intro hm
        have h3 := ih (fun z hz => hm z (by simp [hz]))
        have h4 := (word_len (hm y (by simp))).2
        simp only [List.map_cons, List.sum_cons, List.length_cons]
        omega
    have h5 := h2 _ hw
    omega
theorem join_c (p : Option Addr) (c : Nat) (ps : List T) (w : World) (hin : InS w p ps) (hw : ∀ x ∈ ps, wordB x = true) (hc : ps.length ≤ c) (hl : ps.length ≤ 4194304) :
    Calls Tryz.prog 105 #[.slice p ps.length c, .string ⟨#[32]⟩] w fun e w' => e = .returned (tx (joinP ps)) ∧ Below w.heap.size w w' := by
  rcases ps with _ | ⟨x, _ | ⟨y, r⟩⟩
  · exact (sh.join_none p c ⟨#[32]⟩ w).mono fun _ _ ⟨h1, h2⟩ => ⟨h1, by subst h2; exact Below.refl _ _⟩
  · obtain ⟨b, o, rfl, hcell⟩ := ins_cell hin 0 (by simp)
    exact (sh.join_one b o c ⟨x.toArray⟩ ⟨#[32]⟩ w hcell).mono fun _ _ ⟨h1, h2⟩ => ⟨h1, by subst h2; exact Below.refl _ _⟩
  · obtain ⟨b, o, rfl, hcell⟩ := ins_cell hin 0 (by simp)
    have hlen := join_len _ hw
    obtain ⟨ps, hps⟩ : ∃ ps, x :: y :: r = ps := ⟨_, rfl⟩
    have h2 : 2 ≤ ps.length := by rw [← hps]; simp
    rw [hps] at hin hw hc hl hlen ⊢
    have hd : ((ps.map fun l => (⟨l.toArray⟩ : ByteArray)).map (·.data.toList)) = ps := by rw [List.map_map]; exact (List.map_congr_left (fun a _ => rfl)).trans (List.map_id ps)
    have h := sh.join_many b o c (ps.map fun l => ⟨l.toArray⟩) ⟨#[32]⟩ w (fun j z hz => by
        rw [List.getElem?_map, Option.map_eq_some_iff] at hz
        obtain ⟨t, ht, rfl⟩ := hz
        obtain ⟨hj, rfl⟩ := List.getElem?_eq_some_iff.1 ht
        obtain ⟨b2, o2, e, hh⟩ := ins_cell hin j hj
        injection e with e
        injection e with e1 e2 _
        subst e1
        subst e2
        exact hh) (cell_lt hcell) (by rw [List.length_map]; exact h2) (by rw [List.length_map]; omega) (by rw [List.length_map]; exact hc) (by rw [hd, show (⟨#[32]⟩ : ByteArray).data.toList = [32] from rfl, join_eq]; omega)
    rw [hd, show (⟨#[32]⟩ : ByteArray).data.toList = [32] from rfl, join_eq, List.length_map] at h
    exact h
set_option maxRecDepth 100000 in
set_option maxHeartbeats 4000000 in
theorem print_c (x : Lst) (w : World) (hx : GoodL w x) : Calls Tryz.prog 86 #[lval x] w fun e w' => e = .returned (tx (printP x.2.2)) ∧ Below w.heap.size w w' := by
  have HS := Lib.hid (set_c x w hx)
  have hlen := setP_len x.2.2
  have hfew := hx.few
  have HWD := Lib.hid (fun y hy => ((setP_mem x.2.2 y).1 hy).2)
  unfold printP
  obtain ⟨l, hl⟩ : ∃ l, setP x.2.2 = l := ⟨_, rfl⟩
  rw [hl] at HS hlen HWD ⊢
  clear hx hl
  go_enter Tryz.func86, Tryz.ntmps86
  go_wp2_with fail
  refine HS.out.mono ?_
  rintro e w2 ⟨v, rfl, hown, hb2⟩
  obtain ⟨p, c, rfl, hcc, _, hin⟩ := own_g senc_len (by decide) hown
  have HJ := Lib.hid (join_c p c l w2 hin HWD.out hcc (by omega))
  have HB := Lib.hid hb2
  clear hown hin hb2 HS
  go_wp2_with fail
  refine HJ.out.mono ?_
  rintro e w3 ⟨rfl, hb3⟩
  unfold tx
  go_wp2_with fail
  go_ret
  exact ⟨rfl, bnext HB.out hb3⟩
end Go.Proofs.YthagdkipipldlaaGreatDoor.scp

namespace Go.Proofs.YthagdkipipldlaaGreatDoor.scp
open Go.RowKit
open Go.Proofs.YthagdkipipldlaaGreatDoor.oct Go.Proofs.YthagdkipipldlaaGreatDoor.ref Go.Proofs.YthagdkipipldlaaGreatDoor.rows Go.Proofs.YthagdkipipldlaaGreatDoor.rowg

theorem grown_of_below {w w' : World} (h : Below w.heap.size w w') : w.grownBy w' none := ⟨h.os, h.tape, h.output, h.size, fun i hi _ => h.block i hi⟩
/-- how far a range over a set has come: what is gone has been found -/
structure Gone (D : DataW Unit) (left : Lit → Bool) (B : List T) : Prop where
  sub : ∀ z, left z = true → Maps.has D z = true
  found : ∀ s : T, Maps.has D (.string s) = true → left (.string s) = false → s ∈ B
theorem gone_start (D : DataW Unit) (B : List T) : Gone D (Maps.has D) B := ⟨fun _ h => h, fun s h1 h2 => by rw [h1] at h2; cases h2⟩
theorem gone_step {D : DataW Unit} {left : Lit → Bool} {B : List T} {y : T} (h : Gone D left B) (hy : hasB B y = true) : Gone D (fun z => left z && !z.sameKey (.string y)) B :=
  ⟨fun z hz => by rw [Bool.and_eq_true] at hz; exact h.sub z hz.1, fun s h1 h2 => by
    by_cases e : s = y
    · subst e; exact (hasB_iff _ _).1 hy
    · refine h.found s h1 ?_
      have h3 : (Lit.string s).sameKey (.string y) = false := Maps.sameKey_ne (fun h4 => e (Lit.string.inj h4))
      rw [h3] at h2
      simpa using h2⟩
theorem gone_end {D : DataW Unit} {left : Lit → Bool} {A B : List T} (h : Gone D left B) (hs : IsSet D A) (hl : ∀ kl, left kl = false) : withinP A B = true :=
  (within_iff A B).2 fun x hx hw => h.found x ((hs x).2 ⟨hx, hw⟩) (hl _)
theorem gone_word {D : DataW Unit} {left : Lit → Bool} {A B : List T} {y : T} (h : Gone D left B) (hs : IsSet D A) (hl : left (.string y) = true) : y ∈ A ∧ wordB y = true := (hs y).1 (h.sub _ hl)
theorem gone_miss {A B : List T} {y : T} (h : y ∈ A ∧ wordB y = true) (hb : hasB B y = false) : withinP A B = false := by
  cases hw : withinP A B with
  | false => rfl
  | true => rw [(hasB_iff B y).2 ((within_iff A B).1 hw y h.1 h.2)] at hb; cases hb
set_option maxRecDepth 100000 in
set_option maxHeartbeats 8000000 in
theorem within_c (x y : Lst) (w : World) (hx : GoodL w x) (hy : GoodL w y) : Calls Tryz.prog 106 #[lval x, lval y] w fun e w' => e = .returned (.bool (withinP x.2.2 y.2.2)) ∧ Below w.heap.size w w' := by
  have HG := Lib.hid (gather1_c y w hy)
  have HX := Lib.hid hx
  obtain ⟨p, c, A⟩ := x
  obtain ⟨q, d, B⟩ := y
  unfold lval
  dsimp only at HG ⊢
  clear hx hy
  go_enter Tryz.func106, Tryz.ntmps106
  go_wp2_with fail
  refine HG.out.mono ?_
  rintro e w1 ⟨b1, rfl, hset1, hb1⟩
  have HG2 := Lib.hid (gather1_c (p, c, A) w1 (HX.out.below hb1))
  dsimp only at HG2
  have HB1 := Lib.hid hb1
  have HS1 := Lib.hid hset1
  clear hset1 hb1 HG HX
  go_wp2_with fail
  refine HG2.out.mono ?_
  rintro e w2 ⟨b2, rfl, hset2, hb2⟩
  have HB2 := Lib.hid (bnext HB1.out hb2)
  have HSB := Lib.hid (setM_below HS1.out hb2)
  obtain ⟨n, D, hom, hset⟩ := hset2
  have HOM := Lib.hid hom
  have HST := Lib.hid hset
  clear hom hset hb2 HG2 HS1 HB1
  go_wp2_with (first
    | (at_range; refine wpList_range_own _ rfl _ 131 rfl 9 161 skeyed Tryz.underlying131 (unitElem (H := Unit)) b2 n D rfl HOM.out ?_; intro w3 hrg3 hg3 hs3)
    | go_in)
  go_frame
  go_loopw [6] (fun _ wr => ∃ (left : Lit → Bool) (cnt : Nat), wr.ranges Tryz.prog 9 (unitElem (H := Unit)) b2 w2.heap.size n D left cnt ∧ Hid (Gone D left B) ∧ Hid (Below w2.heap.size w2 wr))
    (fun _ wr => wr.rangeLeft b2 w2.heap.size)
  case atStart => exact ⟨_, _, hrg3, gone_start D B, (Below.refl _ _).grown hg3 (Nat.le_refl _) (fun j hj => by cases hj)⟩
  case round =>
    obtain ⟨left, cnt, hrg, HGN, HB⟩ := hrel
    go_wp2_with (first
      | (at_next; refine wpList_next_ranges _ rfl _ rfl 9 skeyed (unitElem (H := Unit)) encStr (fun _ : Unit => Value.agg #[]) (fun key kl hk => by obtain ⟨x, hx, _⟩ := Go.Maps.keyOf_str Tryz.underlying9 hk; exact ⟨x, hx⟩) (fun v _ hv => ⟨(), (unitElem_inv hv).1⟩) b2 w2.heap.size n _ _ _ rfl hrg ?_ ?_)
      | go_in)
    · intro hc0 hl0
      have HR := Lib.hid (gone_end HGN.out HST.out hl0)
      clear hl0
      go_wp2
      go_ret
      exact ⟨ret_bool HR.out.symm, bnext HB2.out HB.out⟩
    · intro x kl yd yp w4 cnt4 hkey hlk hv hat hrg4 hlt hg4 hs4 hen
      obtain ⟨x', ex, rfl, _⟩ := Go.Maps.keyOf_str Tryz.underlying9 hkey
      obtain rfl : x = x' := Go.encStr_inj ex
      have HIN := Lib.hid (gone_word HGN.out HST.out hlk)
      have hb4 : Below w2.heap.size w2 w4 := HB.out.grown hg4 HB.out.size (fun j hj => by cases hj; exact Nat.le_refl _)
      have HB4 := Lib.hid hb4
      have HHS := Lib.hid (has_c b1 B x w4 (setM_below HSB.out hb4) HIN.out.2)
      have HSTEP := Lib.hid (fun h => gone_step (y := x) HGN.out h)
      have HMISS := Lib.hid (fun h => gone_miss (A := A) (B := B) HIN.out h)
      have HRG4 := Lib.hid hrg4
      have hl4 := hrg.left_eq
      clear hs4 hb4 hkey hlk hv hat hg4 ex hrg4
      cases hc : hasB B x <;> rw [hc] at HHS
      · have HR := Lib.hid (HMISS.out hc)
        clear hc HSTEP HMISS
        go_wp2_with (first
          | (go_at_call 136; refine HHS.out.mono ?_; rintro e w5 ⟨rfl, hb5⟩)
          | go_in)
        go_ret
        exact ⟨ret_bool HR.out.symm, bnext (bnext HB2.out HB4.out) hb5⟩
      · have HR := Lib.hid (HSTEP.out hc)
        clear hc HSTEP HMISS
        go_wp2_with (first
          | (go_at_call 136; refine HHS.out.mono ?_; rintro e w5 ⟨rfl, hb5⟩; have hrg5 := HRG4.out.kept (grown_of_below hb5) (by simp) (by simp); have HB5 := Lib.hid (bnext HB4.out hb5); clear hb5)
          | go_in)
        go_roundw
        case rel => exact ⟨_, cnt4, hrg5, HR, HB5⟩
        case measure => rw [hrg5.left_eq, hl4]; exact hlt
end Go.Proofs.YthagdkipipldlaaGreatDoor.scp
