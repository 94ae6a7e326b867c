/- What every statement of octet begins with: the fixed question is answered with true. No condition. -/
import Derived.Test.YtddihhpahghajaaDoorOct10
namespace Go.Proofs.YtddihhpahghajaaDoor.oct
open Go.RowKit
open Go.Proofs.YtddihhpahghajaaDoor.pl
open Go.Lib (byteCells)

theorem textT_inj {sg : Nat → UInt8} {wd : Nat} (hw : 0 < wd) (hw8 : wd ≤ 8) (hi : ∀ a b, a < 2 ^ wd → b < 2 ^ wd → sg a = sg b → a = b) {a b : List UInt8} (h : text sg (enc wd a) = text sg (enc wd b)) : a = b := by
  have ta := enc_tells hw a
  have tb := enc_tells hw b
  have e := text_inj hi ta.1 tb.1 h
  rw [← e] at tb
  exact ta.inj hw8 tb
theorem hexT_inj {a b : List UInt8} (h : hexT a = hexT b) : a = b := textT_inj (by decide) (by decide) hexS_inj h
theorem webT_inj {a b : List UInt8} (h : webT a = webT b) : a = b := textT_inj (by decide) (by decide) webS_inj h
theorem basT_inj {a b : List UInt8} (h : basT a = basT b) : a = b := by
  have e := congrArg (fun l => Lib.trimRightB l 61) h
  simp only [basT, trimR_fill _ _ (basB_nofill _)] at e
  exact textT_inj (by decide) (by decide) basS_inj e

theorem ReadT.hit {T : List UInt8 → List UInt8} {o s : List UInt8} {w : World} {e : Ending} {w' : World} (hT : ∀ a b, T a = T b → a = b) (ho : T o = s) (h : ReadT T s w e w') :
    ∃ v, e = .returned (.tuple #[v, .int .i64 0]) ∧ w'.ownsRow w.heap.size 5 1 v o.length (byteCells o) ∧ Below w.heap.size w w' := by
  rcases h with ⟨out, v, h1, h2, h3, h4⟩ | ⟨h1, _⟩
  · obtain rfl : out = o := hT _ _ (h1.trans ho.symm)
    exact ⟨v, h2, h3, h4⟩
  · exact absurd ho (h1 o)

theorem in8_new (w : World) (cs : Array Value) (l : List UInt8) (h : cs = (byteCells l).toArray) : In8 (w.alloc (.cells cs 5)) (some ⟨w.heap.size, 0, none⟩) l := by
  intro _
  refine ⟨w.heap.size, 0, rfl, fun i hi => ?_⟩
  rw [Nat.zero_add, World.cell?_alloc_at _ _ _ _ rfl, h]
  simp [byteCells, List.getD, List.getElem?_eq_getElem hi]

theorem k_hex (w : World) : Calls Tryd.prog 16 #[.slice (some ⟨w.heap.size, 0, none⟩) 2 2] (w.alloc (.cells #[.int .u8 0, .int .u8 171] 5)) fun e w' =>
    e = .returned (.string ⟨#[48, 48, 97, 98]⟩) ∧ Below (w.alloc (.cells #[.int .u8 0, .int .u8 171] 5)).heap.size (w.alloc (.cells #[.int .u8 0, .int .u8 171] 5)) w' := by
  have h := hex_c (some ⟨w.heap.size, 0, none⟩) 2 [0, 171] _ (in8_new w #[.int .u8 0, .int .u8 171] [0, 171] rfl) (by decide)
  rwa [show hexT [0, 171] = [48, 48, 97, 98] by decide +kernel] at h
theorem k_web (w : World) : Calls Tryd.prog 21 #[.slice (some ⟨w.heap.size, 0, none⟩) 1 1] (w.alloc (.cells #[.int .u8 255] 5)) fun e w' =>
    e = .returned (.string ⟨#[95, 119]⟩) ∧ Below (w.alloc (.cells #[.int .u8 255] 5)).heap.size (w.alloc (.cells #[.int .u8 255] 5)) w' := by
  have h := web_c (some ⟨w.heap.size, 0, none⟩) 1 [255] _ (in8_new w #[.int .u8 255] [255] rfl) (by decide)
  rwa [show webT [255] = [95, 119] by decide +kernel] at h
theorem k_bas (w : World) : Calls Tryd.prog 25 #[.slice (some ⟨w.heap.size, 0, none⟩) 1 1] (w.alloc (.cells #[.int .u8 255] 5)) fun e w' =>
    e = .returned (.string ⟨#[47, 119, 61, 61]⟩) ∧ Below (w.alloc (.cells #[.int .u8 255] 5)).heap.size (w.alloc (.cells #[.int .u8 255] 5)) w' := by
  have h := bas_c (some ⟨w.heap.size, 0, none⟩) 1 [255] _ (in8_new w #[.int .u8 255] [255] rfl) (by decide)
  rwa [show basT [255] = [47, 119, 61, 61] by decide +kernel] at h
theorem k_unbas (w : World) : Calls Tryd.prog 27 #[.string ⟨#[89, 87, 73, 61]⟩] w fun e w' =>
    ∃ v, e = .returned (.tuple #[v, .int .i64 0]) ∧ w'.ownsRow w.heap.size 5 1 v 2 (byteCells [97, 98]) ∧ Below w.heap.size w w' :=
  (unbas_c ⟨#[89, 87, 73, 61]⟩ w (by decide)).mono fun _ _ h => h.hit (fun _ _ => basT_inj) (by decide +kernel)

theorem own_below {w w' : World} {B e n : Nat} {v : Value} {xs : List Value} (h : w.ownsRow B e 1 v n xs) (hb : Below w.heap.size w w') : w'.ownsRow B e 1 v n xs := by
  refine ⟨h.1, ?_⟩
  rcases h.2 with h2 | ⟨g, cap, cur, h1, h2, h3, h4⟩
  · exact Or.inl h2
  · refine Or.inr ⟨g, cap, cur, h1, h2, ?_, h4⟩
    rw [hb.block g (Array.getElem?_eq_some_iff.1 h3).1]
    exact h3
theorem k_same (w : World) : Calls Tryd.prog 30 #[.slice (some ⟨w.heap.size, 0, none⟩) 1 1, .slice (some ⟨w.heap.size + 1, 0, none⟩) 1 1] ((w.alloc (.cells #[.int .u8 1] 5)).alloc (.cells #[.int .u8 1] 5)) fun e w' =>
    e = .returned (.bool true) ∧ (w.alloc (.cells #[.int .u8 1] 5)).alloc (.cells #[.int .u8 1] 5) = w' := by
  have h2 := in8_new (w.alloc (.cells #[.int .u8 1] 5)) #[.int .u8 1] [1] rfl
  have h1 := (in8_new w #[.int .u8 1] [1] rfl).below ((Below.refl _ _).alloc (Nat.le_refl _) (.cells #[.int .u8 1] 5))
  have e : (w.alloc (.cells #[.int .u8 1] 5)).heap.size = w.heap.size + 1 := by simp
  rw [e] at h2
  exact same_c _ _ 1 1 [1] [1] _ h1 h2 (by decide)

set_option maxHeartbeats 1000000 in
theorem known_c (w : World) : Calls Tryd.prog 15 #[] w fun e w' => e = .returned (.bool true) ∧ Below w.heap.size w w' := by
  go_enter Tryd.func15, Tryd.ntmps15
  go_wp2_with (first
    | (go_at_call 27; refine (k_unbas _).mono ?_; rintro e w1 ⟨v, rfl, hown, hb1⟩)
    | (go_at_call 16; refine (k_hex _).mono ?_; rintro e w2 ⟨rfl, hb2⟩; have hc2 := ((Below.refl w1.heap.size w1).alloc (Nat.le_refl _) _).trans (hb2.mono (by simp)))
    | (go_at_call 21; refine (k_web _).mono ?_; rintro e w3 ⟨rfl, hb3⟩; have hc3 := ((hc2.alloc hc2.size _).trans (hb3.mono (by have := hc2.size; simp; omega))))
    | (go_at_call 25; refine (k_bas _).mono ?_; rintro e w4 ⟨rfl, hb4⟩; have hc4 := ((hc3.alloc hc3.size _).trans (hb4.mono (by have := hc3.size; simp; omega))); have hcv := conv_own (own_below hown hc4))
    | (go_at_call 30; refine (k_same _).mono ?_; rintro e w5 ⟨rfl, rfl⟩))
  go_ret
  exact ⟨rfl, hb1.trans (((hc4.alloc hc4.size _).alloc (by have := hc4.size; simp; omega) _).mono hb1.size)⟩
end Go.Proofs.YtddihhpahghajaaDoor.oct
