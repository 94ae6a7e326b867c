/- The nine laws in the cards' shapes, by FApi. -/
import Derived.Test.YtfgenbmobfbifaaFldC
import Derived.Test.YtfgenbmobfbifaaFldD
namespace Go.Proofs.Ytfgenbmobfbifaa.fld
open Go.RowKit
open Go.Proofs.Ytfgenbmobfbifaa.oct Go.Proofs.Ytfgenbmobfbifaa.ref Go.Proofs.Ytfgenbmobfbifaa.rows

theorem ba_list (s : ByteArray) : (⟨s.data.toList.toArray⟩ : ByteArray) = s := by simp
theorem ba_len (s : ByteArray) : s.data.toList.length = s.size := by rw [Array.length_toList]; rfl
theorem g_quotes {T : World → Prop} (X : FApi T) (s : ByteArray) (w : World) (hs : s.size ≤ 1048576) (ht : T w) :
    Calls Try.prog 3 #[.string s] w fun e w' => e = .returned (.bool true) ∧ Below w.heap.size w w' := by
  have h := law_quotes X s.data.toList w (by rw [ba_len]; exact hs) ht
  rwa [ba_list] at h
theorem g_unquotes {T : World → Prop} (X : FApi T) (s : ByteArray) (w : World) (hs : s.size ≤ 140737488351232) (ht : T w) :
    Calls Try.prog 4 #[.string s] w fun e w' => e = .returned (.bool true) ∧ Below w.heap.size w w' := by
  have h := law_unquotes X s.data.toList w (by rw [ba_len]; omega) ht
  rwa [ba_list] at h
theorem g_prints {T : World → Prop} (X : FApi T) (P : Option Addr) (C : Nat) (ps : List Pr) (w : World) (hp : InPr w P ps) (hl : ps.length ≤ 1048576) (hc : ps.length ≤ C) (hn : P = none → C = 0) (hs : Small ps) (ht : T w) :
    Calls Try.prog 5 #[.slice P ps.length C] w fun e w' => e = .returned (.bool true) ∧ Below w.heap.size w w' := law_prints X P C ps w hp hl hc hn hs ht
theorem g_parses {T : World → Prop} (X : FApi T) (s : ByteArray) (w : World) (hs : s.size ≤ 140737488351232) (ht : T w) :
    Calls Try.prog 6 #[.string s] w fun e w' => e = .returned (.bool true) ∧ Below w.heap.size w w' := by
  have h := law_parses X s.data.toList w (by rw [ba_len]; exact hs) ht
  rwa [ba_list] at h
theorem g_gets {T : World → Prop} (X : FApi T) (P : Option Addr) (C : Nat) (ps : List Pr) (s : ByteArray) (w : World) (hp : InPr w P ps) (hl : ps.length ≤ 4398046511104) (hc : ps.length ≤ C) (hn : P = none → C = 0) (hs : Small ps) (_hs2 : s.size ≤ 140737488351232) (ht : T w) :
    Calls Try.prog 7 #[.slice P ps.length C, .string s] w fun e w' => e = .returned (.bool true) ∧ Below w.heap.size w w' := by
  have h := law_gets X P C ps s.data.toList w hp hl hc hn (vals_small hs) ht
  rwa [ba_list] at h
theorem g_getsF {T : World → Prop} (X : FApi T) (P : Option Addr) (C : Nat) (ps : List Pr) (s : ByteArray) (w : World) (hp : InPr w P ps) (hl : ps.length ≤ 4398046511104) (hc : ps.length ≤ C) (hn : P = none → C = 0) (hv : Fit ps) (_hs2 : s.size ≤ 140737488351232) (ht : T w) :
    Calls Try.prog 7 #[.slice P ps.length C, .string s] w fun e w' => e = .returned (.bool true) ∧ Below w.heap.size w w' := by
  have h := law_gets X P C ps s.data.toList w hp hl hc hn (vals_fit hv) ht
  rwa [ba_list] at h
theorem g_back {T : World → Prop} (X : FApi T) (s : ByteArray) (P : Option Addr) (C : Nat) (ps : List Pr) (w : World) (hs : s.size ≤ 1048576) (hp : InPr w P ps) (hl : ps.length ≤ 1048576) (hc : ps.length ≤ C) (hn : P = none → C = 0) (hsm : Small ps) (ht : T w) :
    Calls Try.prog 8 #[.string s, .slice P ps.length C] w fun e w' => e = .returned (.bool true) ∧ Below w.heap.size w w' := by
  have h := law_back X s.data.toList P C ps w (by rw [ba_len]; exact hs) hp hl hc hn hsm ht
  rwa [ba_list] at h
theorem g_forth {T : World → Prop} (X : FApi T) (s : ByteArray) (w : World) (hs : s.size ≤ 140737488351232) (ht : T w) :
    Calls Try.prog 9 #[.string s] w fun e w' => e = .returned (.bool true) ∧ Below w.heap.size w w' := by
  have h := law_forth X s.data.toList w (by rw [ba_len]; exact hs) ht
  rwa [ba_list] at h
theorem g_joins {T : World → Prop} (X : FApi T) (a b n : ByteArray) (w : World) (ha : a.size ≤ 140737488351232) (hb : b.size ≤ 140737488351232) (_hn : n.size ≤ 140737488351232) (ht : T w) :
    Calls Try.prog 10 #[.string a, .string b, .string n] w fun e w' => e = .returned (.bool true) ∧ Below w.heap.size w w' := by
  have h := law_joins X a.data.toList b.data.toList n.data.toList w (by rw [ba_len]; exact ha) (by rw [ba_len]; exact hb) ht
  rwa [ba_list, ba_list, ba_list] at h
theorem g_keeps {T : World → Prop} (X : FApi T) (P : Option Addr) (C : Nat) (ps : List Pr) (s : ByteArray) (w : World) (hp : InPr w P ps) (hl : ps.length ≤ 1048576) (hc : ps.length ≤ C) (hn : P = none → C = 0) (hsm : Small ps) (hs : s.size ≤ 1048576) (ht : T w) :
    Calls Try.prog 11 #[.slice P ps.length C, .string s] w fun e w' => e = .returned (.bool true) ∧ Below w.heap.size w w' := by
  have h := law_keeps X P C ps s.data.toList w hp (by omega) hc hn (fit_small hsm) (by rw [ba_len]; omega) ht
  rwa [ba_list] at h
theorem g_keepsF {T : World → Prop} (X : FApi T) (P : Option Addr) (C : Nat) (ps : List Pr) (s : ByteArray) (w : World) (hp : InPr w P ps) (hl : ps.length ≤ 4398046510976) (hc : ps.length ≤ C) (hn : P = none → C = 0) (hsm : Fit ps) (hs : s.size ≤ 140737488351232) (ht : T w) :
    Calls Try.prog 11 #[.slice P ps.length C, .string s] w fun e w' => e = .returned (.bool true) ∧ Below w.heap.size w w' := by
  have h := law_keeps X P C ps s.data.toList w hp hl hc hn hsm (by rw [ba_len]; omega) ht
  rwa [ba_list] at h
end Go.Proofs.Ytfgenbmobfbifaa.fld
