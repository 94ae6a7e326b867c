/- Sets of words as maps in memory (SetM); the contract of the developers' gathered. Lists of at most 4194304 texts in all. -/
import Derived.Test.YtcklbbbplbboaaaDoorScq1
import Derived.Test.YtcklbbbplbboaaaDoorScpApi
import Derived.Maps.OwnSet
import Derived.Maps.AppendAt
namespace Go.Proofs.YtcklbbbplbboaaaDoor.scp
open Go.RowKit
open Go.Proofs.YtcklbbbplbboaaaDoor.oct Go.Proofs.YtcklbbbplbboaaaDoor.ref Go.Proofs.YtcklbbbplbboaaaDoor.rows Go.Proofs.YtcklbbbplbboaaaDoor.rowg

theorem skeyed : Maps.Keyed Tryd.prog 9 := Maps.string_keyed Tryd.underlying9
/-- what a map says of a list: its keys are the list's words -/
def IsSet (D : DataW Unit) (L : List T) : Prop := ∀ s : T, Maps.has D (.string s) = true ↔ (s ∈ L ∧ wordB s = true)
/-- a map in memory that holds the words of a list; laid with at most m turns -/
def SetAt (w : World) (b m : Nat) (L : List T) : Prop := ∃ n D, n ≤ m ∧ w.ownsMap Tryd.prog 9 unitElem b n D ∧ IsSet D L
def SetM (w : World) (b : Nat) (L : List T) : Prop := ∃ n D, w.ownsMap Tryd.prog 9 unitElem b n D ∧ IsSet D L
theorem isSet_nil : IsSet (.map []) [] := fun s => by
  show Maps.has (.map []) _ = true ↔ _
  simp [Maps.has]
theorem isSet_skip {D : DataW Unit} {L : List T} {x : T} (h : IsSet D L) (hx : wordB x = false) : IsSet D (L ++ [x]) := fun s => by
  rw [h s, List.mem_append, List.mem_singleton]
  constructor
  · exact fun ⟨h1, h2⟩ => ⟨Or.inl h1, h2⟩
  · rintro ⟨h1 | rfl, h2⟩
    · exact ⟨h1, h2⟩
    · rw [hx] at h2; cases h2
theorem isSet_put {D : DataW Unit} {L : List T} {x : T} (hD : Maps.IsMap D) (h : IsSet D L) (hx : wordB x = true) : IsSet (D.put (.string x) (.agg [])) (L ++ [x]) := fun s => by
  rw [List.mem_append, List.mem_singleton]
  by_cases e : s = x
  · subst e
    rw [Maps.has_put_same hD (show WideAt.IsKeyLit (.string s) from trivial)]
    exact ⟨fun _ => ⟨Or.inr rfl, hx⟩, fun _ => rfl⟩
  · rw [Maps.has_put_other (fun h2 => e (Lit.string.inj h2))]
    rw [h s]
    constructor
    · exact fun ⟨h1, h2⟩ => ⟨Or.inl h1, h2⟩
    · rintro ⟨h1 | h1, h2⟩
      · exact ⟨h1, h2⟩
      · exact absurd h1 e
theorem isSet_words {D : DataW Unit} {L M : List T} (h : IsSet D L) (he : ∀ s, wordB s = true → (s ∈ L ↔ s ∈ M)) : IsSet D M := fun s => by
  rw [h s]
  exact ⟨fun ⟨h1, h2⟩ => ⟨(he s h2).1 h1, h2⟩, fun ⟨h1, h2⟩ => ⟨(he s h2).2 h1, h2⟩⟩
def flatK (ls : List Lst) (k : Nat) : List T := ((ls.take k).map (·.2.2)).flatten
theorem flatK_succ (ls : List Lst) (k : Nat) (h : k < ls.length) : flatK ls (k + 1) = flatK ls k ++ (ls[k]).2.2 := by
  unfold flatK
  rw [List.take_succ_eq_append_getElem h, List.map_append, List.flatten_append, List.map_cons, List.map_nil, List.flatten_cons, List.flatten_nil, List.append_nil]
theorem flatK_le (ls : List Lst) (k : Nat) : (flatK ls k).length ≤ ((ls.map (·.2.2)).flatten).length := by
  unfold flatK
  conv => rhs; rw [← List.take_append_drop k ls]
  rw [List.map_append, List.flatten_append, List.length_append]
  omega
theorem lenc_len : ∀ a, (lenc a).length = 1 := fun _ => rfl
theorem wordS_c (x : T) (w : World) : Calls Tryd.prog 11 #[.string ⟨x.toArray⟩] w fun e w' => e = .returned (.bool (wordB x)) ∧ w = w' := wordT_c x w
set_option maxRecDepth 100000 in
set_option maxHeartbeats 8000000 in
theorem gathered_c (P : Option Addr) (C : Nat) (ls : List Lst) (w : World) (hp : InG lenc 1 w P ls) (hl : ls.length ≤ 4194304) (hg : ∀ x ∈ ls, GoodL w x) (hf : (ls.map (·.2.2)).flatten.length ≤ 4194304) :
    Calls Tryd.prog 27 #[.slice P ls.length C] w fun e w' => e = .returned (.map (some w.heap.size)) ∧ SetM w' w.heap.size (ls.map (·.2.2)).flatten ∧ Below w.heap.size w w' := by
  have HP := Lib.hid hp
  have HG := Lib.hid hg
  have hmm := @run_makeMap Tryd.prog
  have HFL := Lib.hid (flatK_le ls)
  have HFS := Lib.hid (flatK_succ ls)
  have HAL : Hid (flatK ls ls.length = (ls.map (·.2.2)).flatten) := by show _ = _; unfold flatK; rw [List.take_length]
  obtain ⟨F, hF⟩ : ∃ F, (ls.map (·.2.2)).flatten = F := ⟨_, rfl⟩
  rw [hF] at hf HFL HAL ⊢
  have HF := Lib.hid hf
  clear hp hg hF hf
  go_enter Tryd.func27, Tryd.ntmps27
  go_wp2_with fail
  go_loopg [5, 7, 11] ls.length (fun g _ _ s11 wx => ∃ k : Nat, k + g = ls.length ∧ s11 = .int .i64 k ∧ Hid (SetAt wx w.heap.size (flatK ls k).length (flatK ls k)) ∧ Hid (Below w.heap.size w wx))
  case atStart => exact ⟨0, by omega, rfl, ⟨0, .map [], Nat.zero_le _, World.ownsMap_made _ _ _ _, isSet_nil⟩, (Below.refl _ _).alloc (Nat.le_refl _) _⟩
  case round =>
    obtain ⟨k, hkg, rfl, HM, HB⟩ := hrel
    rcases gk with _ | g
    · obtain rfl : k = ls.length := by omega
      go_wp2_with fail
      go_ret
      obtain ⟨n, D, _, h1, h2⟩ := HM.out
      rw [HAL.out] at h2
      exact ⟨rfl, ⟨n, D, h1, h2⟩, HB.out⟩
    · have hk : k < ls.length := by omega
      have hkI : (k : Int) < (ls.length : Int) := by omega
      obtain ⟨b, o, rfl, hc⟩ := InG.cells (InG.below lenc_len (by decide) HP.out HB.out) k hk
      have c0 := hc 0 (by decide)
      rw [Nat.mul_one, Nat.add_zero] at c0
      have HST := Lib.hid (HFS.out k hk)
      have HGX := Lib.hid (HG.out _ (List.getElem_mem hk))
      have HLE := Lib.hid (HFL.out (k + 1))
      obtain ⟨x, hx⟩ : ∃ x, ls[k] = x := ⟨_, rfl⟩
      rw [hx] at c0 HST HGX
      rw [HST.out] at HLE
      obtain ⟨p, cx, l⟩ := x
      have c1 : wr.cell? ⟨b, o + k, none⟩ = some (.slice p l.length cx) := c0
      have hxl : l.length ≤ 4194304 := HGX.out.few
      clear hx hc c0
      go_wp2_with fail
      go_loopg [7, 17] l.length (fun g2 _ s17 wx => ∃ j : Nat, j + g2 = l.length ∧ s17 = .int .i64 j ∧ Hid (SetAt wx w.heap.size (flatK ls k ++ l.take j).length (flatK ls k ++ l.take j)) ∧ Hid (Below w.heap.size w wx))
      case atStart =>
        refine ⟨0, by omega, rfl, ?_, HB.out⟩
        show SetAt _ _ _ _
        rw [List.take_zero, List.append_nil]
        exact HM.out
      case round =>
        obtain ⟨j, hjg, rfl, HMJ, HBJ⟩ := hrel
        rcases gk with _ | g2
        · obtain rfl : j = l.length := by omega
          go_wp2_with fail
          go_roundg g
          case measure => omega
          case rel =>
            refine ⟨k + 1, by omega, by go_num, ?_, HBJ.out⟩
            show SetAt _ _ _ _
            rw [HST.out]
            have h := HMJ.out
            rw [List.take_length] at h
            exact h
        · have hj : j < l.length := by omega
          have hjI : (j : Int) < (l.length : Int) := by omega
          obtain ⟨b2, o2, rfl, d0⟩ := ins_cell (HGX.out.below HBJ.out).row j hj
          have HTK := Lib.hid (List.take_succ_eq_append_getElem hj)
          have hfit : (l[j]).length ≤ 140737488351232 := HGX.out.fit _ (List.getElem_mem hj)
          dsimp only at d0
          obtain ⟨y, hy⟩ : ∃ y, l[j] = y := ⟨_, rfl⟩
          rw [hy] at d0 HTK hfit
          have HW := Lib.hid (fun W => wordS_c y W)
          have hkey : keyOf Tryd.prog 9 (.string ⟨y.toArray⟩) = some (.string y) := WideMaps.keyOf_string_mk (P := Tryd.prog) Tryd.underlying9 (s := ⟨y.toArray⟩) (by rw [show (⟨y.toArray⟩ : ByteArray).size = y.length from List.size_toArray]; unfold maxLen; omega)
          have HKY := Lib.hid hkey
          clear hy hkey hfit
          by_cases hw : wordB y = true
          · rw [hw] at HW
            obtain ⟨n, D, hn, hom, hset⟩ := HMJ.out
            have hD := hom.isMap
            have HPUT : Hid (IsSet (D.put (.string y) (.agg [])) (flatK ls k ++ l.take (j + 1))) := by
              show IsSet _ _
              rw [HTK.out, ← List.append_assoc]
              exact isSet_put hD hset hw
            have HNL : Hid (n + 1 ≤ (flatK ls k ++ l.take (j + 1)).length) := by
              show _ ≤ _
              rw [HTK.out, ← List.append_assoc, List.length_append, List.length_singleton]
              omega
            have hnb : n < maxLen := by
              have h1 := HLE.out
              have h2 := HF.out
              rw [List.length_append] at hn h1
              rw [List.length_take] at hn
              unfold maxLen
              omega
            have HOM := Lib.hid hom
            clear hw hn hom hset hD HMJ
            go_wp2_with (first
              | (go_at_call 11; refine (HW.out _).mono ?_; rintro e w' ⟨rfl, rfl⟩)
              | (at_mapUpdate; refine wpList_mapUpdate_own _ rfl _ _ _ 42 rfl 9 48 skeyed Tryd.underlying42 (unitElem (H := Unit)) w.heap.size n _ rfl HOM.out hnb _ _ _ rfl rfl HKY.out _ [] unitElem_mk ?_; intro w1 hown1 hgrow1; have HO1 := Lib.hid hown1; have HG1 := Lib.hid hgrow1; clear hown1 hgrow1))
            go_roundg g2
            case measure => omega
            case rel =>
              exact ⟨j + 1, by omega, by go_num, ⟨n + 1, _, HNL.out, HO1.out, HPUT.out⟩, HBJ.out.grown HG1.out HBJ.out.size (fun j hj => by cases hj; exact Nat.le_refl _)⟩
          · have hwf : wordB y = false := by simpa using hw
            rw [hwf] at HW
            obtain ⟨n, D, hn, hom, hset⟩ := HMJ.out
            have HNX : Hid (SetAt wr w.heap.size (flatK ls k ++ l.take (j + 1)).length (flatK ls k ++ l.take (j + 1))) := by
              refine ⟨n, D, ?_, hom, ?_⟩
              · rw [HTK.out, ← List.append_assoc, List.length_append]; omega
              · rw [HTK.out, ← List.append_assoc]; exact isSet_skip hset hwf
            clear hw hwf hn hom hset HMJ
            go_wp2_with (go_at_call 11; refine (HW.out _).mono ?_; rintro e w' ⟨rfl, rfl⟩)
            go_roundg g2
            case measure => omega
            case rel => exact ⟨j + 1, by omega, by go_num, HNX, HBJ⟩
end Go.Proofs.YtcklbbbplbboaaaDoor.scp
