/- bytes.Clone; rows that are new; keys of text. Lengths of at most 2^47. -/
import Derived.Test.YtggcdlhgmikemaaTurn
namespace Go.Proofs.Ytggcdlhgmikemaa.cln
open Go.RowKit
open Go.Proofs.Ytggcdlhgmikemaa.oct Go.Proofs.Ytggcdlhgmikemaa.ref Go.Proofs.Ytggcdlhgmikemaa.rowg Go.Proofs.Ytggcdlhgmikemaa.trn
open Go.Lib (byteCells)

theorem own_slice {w : World} {B e k n : Nat} {v : Value} {xs : List Value} (h : w.ownsRow B e k v n xs) : ∃ p c, v = .slice p n c := by
  rcases h.2 with ⟨h1, h2⟩ | ⟨g, cap, cur, h1, _⟩
  · exact ⟨none, 0, by rw [h1, h2]⟩
  · exact ⟨_, _, h1⟩
theorem own_base {w : World} {B B2 e k n : Nat} {v : Value} {xs : List Value} (h : w.ownsRow B e k v n xs) (hb : B2 ≤ B) : w.ownsRow B2 e k v n xs := by
  refine ⟨h.1, ?_⟩
  rcases h.2 with h2 | ⟨g, cap, cur, h1, h2, h3⟩
  · exact Or.inl h2
  · exact Or.inr ⟨g, cap, cur, h1, Nat.le_trans hb h2, h3⟩
theorem own_raise {w : World} {B B2 e k n : Nat} {v : Value} {xs : List Value} (h : w.ownsRow B e k v n xs) (hb : ∀ b, v.ownBlock = some b → B2 ≤ b) : w.ownsRow B2 e k v n xs := by
  refine ⟨h.1, ?_⟩
  rcases h.2 with h2 | ⟨g, cap, cur, h1, h2, h3⟩
  · exact Or.inl h2
  · exact Or.inr ⟨g, cap, cur, h1, hb g (by rw [h1]; rfl), h3⟩
theorem own_lt {w : World} {B e k n : Nat} {v : Value} {xs : List Value} (h : w.ownsRow B e k v n xs) {b : Nat} (hb : v.ownBlock = some b) : B ≤ b ∧ b < w.heap.size := h.lt b hb
/-- new bytes -/
def NewB (w w' : World) (d : List UInt8) (v : Value) : Prop := w'.ownsRow w.heap.size 5 1 v d.length (byteCells d) ∧ Below w.heap.size w w'
set_option maxHeartbeats 4000000 in
theorem clone_c (w : World) (p : Option Addr) (c : Nat) (d : List UInt8) (hp : In8 w p d) (hn : p = none → c = 0) (hd : d.length ≤ 140737488355328) :
    Calls Try.prog 36 #[.slice p d.length c] w fun e w' => ∃ v, e = .returned v ∧ NewB w w' d v := by
  rcases p with _ | ad
  · obtain rfl := in8_nil hp
    obtain rfl := hn rfl
    have heq : ∀ w : World, (binOp .eql 33 (.slice none 0 0) (.slice none 0 0)).run Try.prog w = .ok (.bool true) w := fun w => by kernel_rfl
    clear hp hn
    go_enter Try.func36, Try.ntmps36
    go_wp2_with fail
    go_ret
    exact ⟨_, rfl, ⟨by simp [byteCells], Or.inl ⟨rfl, rfl⟩⟩, Below.refl _ _⟩
  · have H8 := Lib.hid hp
    have heq : ∀ w : World, (binOp .eql 33 (.slice (some ad) d.length c) (.slice none 0 0)).run Try.prog w = .ok (.bool false) w := fun w => Lib.run_eql_slice_nil w 33 5 _ _ _ 0 0 Try.underlying33
    have hb0 : Below w.heap.size w (w.alloc (.cells #[] 5)) := (Below.refl _ w).alloc (Nat.le_refl _) _
    have HB0 := Lib.hid hb0
    clear hp hb0 hn
    go_enter Try.func36, Try.ntmps36
    go_wp2_with (at_builtin; refine wpList_append_in8 rfl (.tmp 5) (.tmp 6) rfl w.heap.size _ 0 [] rfl (own_nil w) (some ad) d.length c d rfl (H8.out.below HB0.out) rfl (fun h => by cases h) (by omega) HB0.out.size ?_; intro v1 w1 hown hbb; have hb1 := hbb w HB0.out (Nat.le_refl _); have HO := Lib.hid hown; have HB := Lib.hid hb1; clear hown hbb hb1)
    go_ret
    refine ⟨_, rfl, ?_, HB.out⟩
    have h := HO.out
    rw [Nat.zero_add, List.nil_append] at h
    exact h
theorem key_txt (y : List UInt8) (h : y.length ≤ 140737488351232) : keyOf Try.prog 9 (.string ⟨y.toArray⟩) = some (.string y) :=
  WideMaps.keyOf_string_mk (P := Try.prog) Try.underlying9 (s := ⟨y.toArray⟩) (by rw [show (⟨y.toArray⟩ : ByteArray).size = y.length from List.size_toArray]; unfold maxLen; omega)
theorem skeyed : Maps.Keyed Try.prog 9 := Maps.string_keyed Try.underlying9
end Go.Proofs.Ytggcdlhgmikemaa.cln
