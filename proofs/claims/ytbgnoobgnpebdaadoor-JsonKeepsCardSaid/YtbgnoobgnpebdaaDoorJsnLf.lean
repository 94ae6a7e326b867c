/- The seven laws in the cards' shapes, by JApi. -/
import Derived.Test.YtbgnoobgnpebdaaDoorJsnLc
import Derived.Test.YtbgnoobgnpebdaaDoorJsnLd
import Derived.Test.YtbgnoobgnpebdaaDoorJsnLe
namespace Go.Proofs.YtbgnoobgnpebdaaDoor.jsn
open Go.RowKit
open Go.Proofs.YtbgnoobgnpebdaaDoor.oct Go.Proofs.YtbgnoobgnpebdaaDoor.ref Go.Proofs.YtbgnoobgnpebdaaDoor.rows

theorem ba_list (s : ByteArray) : (⟨s.data.toList.toArray⟩ : ByteArray) = s := by simp
theorem ba_len (s : ByteArray) : s.data.toList.length = s.size := by rw [Array.length_toList]; rfl
theorem g_prints {T : World → Prop} (X : JApi T) (P : Option Addr) (C : Nat) (ms : List Mem) (w : World) (hp : InM w P ms) (hl : ms.length ≤ 2513169434900) (hc : ms.length ≤ C) (hn : P = none → C = 0) (hf : FitM ms) (ht : T w) :
    Calls Tryd.prog 3 #[.slice P ms.length C] w fun e w' => e = .returned (.bool true) ∧ Below w.heap.size w w' := law_prints X P C ms w hp (by omega) hc hn hf ht
theorem g_parses {T : World → Prop} (X : JApi T) (s : ByteArray) (w : World) (hs : s.size ≤ 140737488351232) (ht : T w) :
    Calls Tryd.prog 4 #[.string s] w fun e w' => e = .returned (.bool true) ∧ Below w.heap.size w w' := by
  have h := law_parses X s.data.toList w (by rw [ba_len]; exact hs) ht
  rwa [ba_list] at h
theorem g_back {T : World → Prop} (X : JApi T) (P : Option Addr) (C : Nat) (ms : List Mem) (w : World) (hp : InM w P ms) (hl : ms.length ≤ 2513169434900) (hc : ms.length ≤ C) (hn : P = none → C = 0) (hf : FitM ms) (ht : T w) :
    Calls Tryd.prog 5 #[.slice P ms.length C] w fun e w' => e = .returned (.bool true) ∧ Below w.heap.size w w' := law_back X P C ms w hp (by omega) hc hn hf ht
theorem g_forth {T : World → Prop} (X : JApi T) (s : ByteArray) (w : World) (hs : s.size ≤ 140737488351232) (ht : T w) :
    Calls Tryd.prog 6 #[.string s] w fun e w' => e = .returned (.bool true) ∧ Below w.heap.size w w' := by
  have h := law_forth X s.data.toList w (by rw [ba_len]; exact hs) ht
  rwa [ba_list] at h
theorem g_unlike {T : World → Prop} (X : JApi T) (s t : ByteArray) (w : World) (hs : s.size ≤ 140737488351232) (hs2 : t.size ≤ 140737488351232) (ht : T w) :
    Calls Tryd.prog 7 #[.string s, .string t] w fun e w' => e = .returned (.bool true) ∧ Below w.heap.size w w' := by
  have h := law_unlike X s.data.toList t.data.toList w (by rw [ba_len]; exact hs) (by rw [ba_len]; exact hs2) ht
  rwa [ba_list, ba_list] at h
theorem g_makes {T : World → Prop} (X : JApi T) (s t : ByteArray) (n : Int) (b : Bool) (P : Option Addr) (C : Nat) (ms : List Mem) (w : World) (hs : s.size ≤ 140737488351232) (hs2 : t.size ≤ 140737488351232) (_hn : (Lit.int .i64 n).wf = true) (hp : InM w P ms) (hl : ms.length ≤ 2513169434900) (hc : ms.length ≤ C) (hn : P = none → C = 0) (hf : FitM ms) (ht : T w) :
    Calls Tryd.prog 8 #[.string s, .string t, .int .i64 n, .bool b, .slice P ms.length C] w fun e w' => e = .returned (.bool true) ∧ Below w.heap.size w w' := by
  have h := law_makes X s.data.toList t.data.toList n b P C ms w hp (by omega) hc hn hf (by rw [ba_len]; exact hs) (by rw [ba_len]; exact hs2) ht
  rwa [ba_list, ba_list] at h
theorem g_keeps {T : World → Prop} (X : JApi T) (P : Option Addr) (C : Nat) (ms : List Mem) (s : ByteArray) (w : World) (hp : InM w P ms) (hl : ms.length ≤ 2513169434900) (hc : ms.length ≤ C) (hn : P = none → C = 0) (hf : FitM ms) (hs : s.size ≤ 140737488351232) (ht : T w) :
    Calls Tryd.prog 9 #[.slice P ms.length C, .string s] w fun e w' => e = .returned (.bool true) ∧ Below w.heap.size w w' := by
  have h := law_keeps X P C ms s.data.toList w hp hl hc hn hf (by rw [ba_len]; exact hs) ht
  rwa [ba_list] at h
end Go.Proofs.YtbgnoobgnpebdaaDoor.jsn
