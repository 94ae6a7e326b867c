/- The laws of pkce in the cards' shapes (strings). PkceVerifiers: texts of at most 1048576 bytes. -/
import Derived.Test.YtefdgnlobhdajaaDoorPkcB
namespace Go.Proofs.YtefdgnlobhdajaaDoor.pkc
open Go.RowKit

theorem txt_of (s : ByteArray) : Value.string s = txt s.data.toList := by unfold txt; simp
theorem len_of (s : ByteArray) : s.data.toList.length = s.size := by rw [Array.length_toList]; rfl
theorem g_verifiers {T' : World → Prop} (X : PApi T') (s m : ByteArray) (w : World) (hs : s.size ≤ 1048576) (hm : m.size ≤ 1048576) (ht : T' w) :
    Calls Tryd.prog 3 #[.string s, .string m] w fun e w' => e = .returned (.bool true) ∧ Below w.heap.size w w' := by
  rw [txt_of s, txt_of m]
  exact law_verifiers X _ _ w (by rw [len_of]; exact hs) (by rw [len_of]; omega) ht
theorem g_challenges {T' : World → Prop} (X : PApi T') (s m : ByteArray) (w : World) (hs : s.size ≤ 140737488351232) (hm : m.size ≤ 140737488351232) (ht : T' w) :
    Calls Tryd.prog 4 #[.string s, .string m] w fun e w' => e = .returned (.bool true) ∧ Below w.heap.size w w' := by
  rw [txt_of s, txt_of m]
  exact law_challenges X _ _ w (by rw [len_of]; exact hs) (by rw [len_of]; exact hm) ht
theorem g_checks {T' : World → Prop} (X : PApi T') (c m v : ByteArray) (w : World) (hc : c.size ≤ 140737488351232) (hm : m.size ≤ 140737488351232) (hv : v.size ≤ 140737488351232) (ht : T' w) :
    Calls Tryd.prog 5 #[.string c, .string m, .string v] w fun e w' => e = .returned (.bool true) ∧ Below w.heap.size w w' := by
  rw [txt_of c, txt_of m, txt_of v]
  exact law_checks X _ _ _ w (by rw [len_of]; exact hc) (by rw [len_of]; exact hm) (by rw [len_of]; exact hv) ht
theorem g_back {T' : World → Prop} (X : PApi T') (v m o : ByteArray) (w : World) (hv : v.size ≤ 140737488351232) (hm : m.size ≤ 140737488351232) (ho : o.size ≤ 140737488351232) (ht : T' w) :
    Calls Tryd.prog 6 #[.string v, .string m, .string o] w fun e w' => e = .returned (.bool true) ∧ Below w.heap.size w w' := by
  rw [txt_of v, txt_of m, txt_of o]
  exact law_back X _ _ _ w (by rw [len_of]; exact hv) (by rw [len_of]; exact hm) (by rw [len_of]; exact ho) ht
end Go.Proofs.YtefdgnlobhdajaaDoor.pkc
