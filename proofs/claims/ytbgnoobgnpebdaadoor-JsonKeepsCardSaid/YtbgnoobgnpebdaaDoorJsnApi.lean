/- What the laws of json ask of the program's calls (JApi: each answers the plain forms; T: what of the package's variables they need); the fixed question. -/
import Derived.Test.YtbgnoobgnpebdaaDoorJsna
namespace Go.Proofs.YtbgnoobgnpebdaaDoor.jsn
open Go.RowKit
open Go.Proofs.YtbgnoobgnpebdaaDoor.oct Go.Proofs.YtbgnoobgnpebdaaDoor.ref Go.Proofs.YtbgnoobgnpebdaaDoor.rows Go.Proofs.YtbgnoobgnpebdaaDoor.rowg
open Go.Lib (byteCells)

structure JApi (T : World → Prop) : Prop where
  tbelow : ∀ w w', T w → Below w.heap.size w w' → T w'
  text : ∀ n l w, T w → n.length ≤ 140737488351232 → l.length ≤ 140737488351232 → Calls Tryd.prog 16 #[tx n, tx l] w fun e w' => e = .returned (mv ⟨n, 0, l, 0, false⟩) ∧ Below w.heap.size w w'
  int : ∀ n (k : Int) w, T w → n.length ≤ 140737488351232 → Calls Tryd.prog 17 #[tx n, .int .i64 k] w fun e w' => e = .returned (mv ⟨n, 1, [], k, false⟩) ∧ Below w.heap.size w w'
  bool : ∀ n b w, T w → n.length ≤ 140737488351232 → Calls Tryd.prog 18 #[tx n, .bool b] w fun e w' => e = .returned (mv ⟨n, 2, [], 0, b⟩) ∧ Below w.heap.size w w'
  print : ∀ P C ms w, T w → InM w P ms → ms.length ≤ 2513169434916 → ms.length ≤ C → (P = none → C = 0) → FitM ms → Calls Tryd.prog 10 #[.slice P ms.length C] w fun e w' => e = .returned (.tuple #[tx (printJ ms).2, .int .i64 ((printJ ms).1 : Nat)]) ∧ Below w.heap.size w w'
  parse : ∀ l w, T w → l.length ≤ 140737488351232 → Calls Tryd.prog 13 #[.string ⟨l.toArray⟩] w fun e w' => ParseV w w' (parseJ l) e
  get : ∀ P C ms n w, T w → InM w P ms → ms.length ≤ 2513169434916 → ms.length ≤ C → (P = none → C = 0) → FitM ms → Calls Tryd.prog 19 #[.slice P ms.length C, tx n] w fun e w' => e = .returned (getV (findM ms n)) ∧ Below w.heap.size w w'

theorem known_print : printJ [⟨[97, 99, 116, 105, 118, 101], 2, [], 0, true⟩, ⟨[110], 1, [], -5, false⟩, ⟨[115], 0, [97, 34], 0, false⟩] = (0, [123, 34, 97, 99, 116, 105, 118, 101, 34, 58, 116, 114, 117, 101, 44, 34, 110, 34, 58, 45, 53, 44, 34, 115, 34, 58, 34, 97, 92, 34, 34, 125]) := by decide +kernel
theorem known_print7 : printJ [⟨[97], 1, [], 7, false⟩] = (0, [123, 34, 97, 34, 58, 55, 125]) := by decide +kernel
theorem known_parse : parseJ [123, 34, 97, 34, 58, 55, 125] = (0, [⟨[97], 1, [], 7, false⟩]) :=
  parse_printed known_print7 (fun m hm => by rcases List.mem_singleton.1 hm with rfl; exact ⟨by decide, by decide⟩)

set_option maxRecDepth 8000 in
set_option maxHeartbeats 2000000 in
theorem jknown_c {T : World → Prop} (X : JApi T) (w : World) (ht : T w) : Calls Tryd.prog 12 #[] w fun e w' => e = .returned (.bool true) ∧ Below w.heap.size w w' := by
  have HT := Lib.hid ht
  have HX := Lib.hid X
  have HK := Lib.hid (X.bool [97, 99, 116, 105, 118, 101] true w ht (by decide))
  clear ht X
  unfold tx mv tx at HK
  go_enter Tryd.func12, Tryd.ntmps12
  go_wp2_with fail
  refine HK.out.mono ?_
  rintro e w1 ⟨rfl, hb1⟩
  have HB1 := Lib.hid hb1
  clear hb1 HK
  have HK := Lib.hid (HX.out.int [110] (-5) w1 (HX.out.tbelow _ _ HT.out HB1.out) (by decide))
  unfold tx mv tx at HK
  go_wp2_with fail
  refine HK.out.mono ?_
  rintro e w2 ⟨rfl, hb2⟩
  have HB2 := Lib.hid (bnext HB1.out hb2)
  clear hb2 HK
  have HK := Lib.hid (HX.out.text [115] [97, 34] w2 (HX.out.tbelow _ _ HT.out HB2.out) (by decide) (by decide))
  unfold tx mv tx at HK
  go_wp2_with fail
  refine HK.out.mono ?_
  rintro e w3 ⟨rfl, hb3⟩
  have HB3 := Lib.hid (bnext HB2.out hb3)
  clear hb3 HK
  have hin : InM (w3.alloc (.cells ([tx [97, 99, 116, 105, 118, 101], .int .i64 2, tx [], .int .i64 0, .bool true, tx [110], .int .i64 1, tx [], .int .i64 (-5), .bool false, tx [115], .int .i64 0, tx [97, 34], .int .i64 0, .bool false]).toArray 38)) (some ⟨w3.heap.size, 0, none⟩) [⟨[97, 99, 116, 105, 118, 101], 2, [], 0, true⟩, ⟨[110], 1, [], -5, false⟩, ⟨[115], 0, [97, 34], 0, false⟩] := by
    intro _
    refine ⟨_, _, rfl, ?_⟩
    intro i hi j hj
    have h := new_cellsG w3 w3.heap.size 38 rfl (cells menc [⟨[97, 99, 116, 105, 118, 101], 2, [], 0, true⟩, ⟨[110], 1, [], -5, false⟩, ⟨[115], 0, [97, 34], 0, false⟩]) (i * 5 + j)
    have hc := cells_at menc_len _ i hi j hj
    have hl : j < (menc ([⟨[97, 99, 116, 105, 118, 101], 2, [], 0, true⟩, ⟨[110], 1, [], -5, false⟩, ⟨[115], 0, [97, 34], 0, false⟩] : List Mem)[i]).length := by rw [menc_len]; exact hj
    rw [List.getElem?_eq_getElem hl] at hc ⊢
    have h2 := h _ hc
    rw [add_none] at h2
    rw [show 0 + i * 5 + j = 0 + (i * 5 + j) by omega]
    exact h2
  have HA := Lib.hid (bnext HB3.out ((Below.refl _ _).alloc (Nat.le_refl _) (.cells ([tx [97, 99, 116, 105, 118, 101], .int .i64 2, tx [], .int .i64 0, .bool true, tx [110], .int .i64 1, tx [], .int .i64 (-5), .bool false, tx [115], .int .i64 0, tx [97, 34], .int .i64 0, .bool false]).toArray 38)))
  have HK := Lib.hid (HX.out.print _ 3 _ _ (HX.out.tbelow _ _ HT.out HA.out) hin (by decide) (by decide) (fun h => by cases h) (fun m hm => by
    simp only [List.mem_cons, List.not_mem_nil, or_false] at hm
    rcases hm with rfl | rfl | rfl <;> exact ⟨by decide, by decide, by decide, by decide⟩))
  rw [known_print] at HK
  unfold tx at HK
  clear hin
  go_wp2_with fail
  refine HK.out.mono ?_
  rintro e w4 ⟨rfl, hb4⟩
  unfold tx at HA
  have HB4 := Lib.hid (bnext HA.out hb4)
  clear hb4 HK HA HB1 HB2 HB3
  have HK := Lib.hid (HX.out.parse [123, 34, 97, 34, 58, 55, 125] w4 (HX.out.tbelow _ _ HT.out HB4.out) (by decide))
  rw [known_parse] at HK
  go_wp2_with fail
  refine HK.out.mono ?_
  rintro e w5 ⟨v, rfl, hown, hb5⟩
  obtain ⟨p, c, rfl, _, _, hin⟩ := own_g menc_len (by decide) hown
  obtain ⟨b, o, rfl, hc⟩ := mem_cells hin 0 (by decide)
  have c1 := hc.2.2.2.1
  dsimp only [List.getElem_cons_zero] at c1
  have HB5 := Lib.hid (bnext HB4.out hb5)
  clear hown hin hc hb5 HK HB4
  go_wp2_with fail
  go_ret
  exact ⟨rfl, HB5.out⟩
end Go.Proofs.YtbgnoobgnpebdaaDoor.jsn
