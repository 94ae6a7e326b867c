/- New's closure that compares two points, in whatever world holds the names; slices.SortFunc by it. No condition. -/
import Derived.Test.YtkababeeikhifaaDoorRi3
import Derived.Test.YtkababeeikhifaaDoorShRnj
import Derived.Test.YtkababeeikhifaaDoorQuT
import Derived.Test.YtkababeeikhifaaDoorBaseA
import Derived.Sort.OwnSorted
namespace Go.Proofs.YtkababeeikhifaaDoor.rng
open Go.RowKit
open Go.Proofs.YtkababeeikhifaaDoor.oct Go.Proofs.YtkababeeikhifaaDoor.ref Go.Proofs.YtkababeeikhifaaDoor.rows Go.Proofs.YtkababeeikhifaaDoor.rowg Go.Proofs.YtkababeeikhifaaDoor.qut Go.Proofs.YtkababeeikhifaaDoor.trn
open Go.Proofs.YtkababeeikhifaaDoor.scp (tx senc senc_len InS ins_below ins_cell lt lt_irrefl lt_trans lt_total lt_asymm lt_cons lt_nil)
open Go.Sort (SWO grow flatK HoldsK putRowK putRow putCells mapBlock onCells PermIn SortedIn)

def pnc (p : Pn) : List Value := [.int .u64 (p.a : Int), .int .i64 (p.r : Int)]
theorem pnc_len : ∀ a, (pnc a).length = 2 := fun _ => rfl
theorem pnc_one : ∀ a : Pn, ∀ u ∈ pnc a, u.oneCell' = true := fun a u hu => by
  rcases List.mem_cons.1 hu with rfl | hu
  · rfl
  · rw [List.mem_singleton.1 hu]; rfl
theorem cmp_lt : ∀ a b : T, Lib.compareBytes a b < 0 ↔ lt a b = true
  | [], [] => by simp [Lib.compareBytes, lt_irrefl]
  | [], _ :: _ => by
    constructor
    · intro _; rfl
    · intro _; simp [Lib.compareBytes]
  | _ :: _, [] => by rw [lt_nil]; simp [Lib.compareBytes]
  | x :: a, y :: b => by
    have ih := cmp_lt a b
    rw [lt_cons]
    unfold Lib.compareBytes
    by_cases h1 : x < y
    · rw [if_pos h1]
      exact ⟨fun _ => Or.inl h1, fun _ => by decide⟩
    · rw [if_neg h1]
      by_cases h2 : y < x
      · rw [if_pos h2]
        constructor
        · intro h; exact absurd h (by decide)
        · rintro (h | ⟨h, _⟩)
          · exact absurd h h1
          · rw [h] at h2; exact absurd h2 (UInt8.lt_irrefl y)
      · rw [if_neg h2, ih]
        have e : x = y := by
          apply UInt8.toNat_inj.1
          rw [UInt8.lt_iff_toNat_lt] at h1 h2
          omega
        exact ⟨fun h => Or.inr ⟨e, h⟩, fun h => h.elim (fun h => absurd h h1) fun h => h.2⟩
/-- what the closure answers -/
def cfN (names : List T) (x y : Pn) : Int := orZ (cmpZ x.a y.a) (Lib.compareBytes (names.getD x.r []) (names.getD y.r []))
theorem cfN_lt (names : List T) (x y : Pn) : cfN names x y < 0 ↔ leN (nm names y) (nm names x) = false := by
  have h2 := cmp_lt (names.getD x.r []) (names.getD y.r [])
  have h3 := leN_iff (nm names y) (nm names x)
  unfold nm at h3
  dsimp only at h3
  unfold cfN orZ cmpZ
  have e : leN (nm names y) (nm names x) = false ↔ ¬ leN (nm names y) (nm names x) = true := by cases leN (nm names y) (nm names x) <;> simp
  rw [e]
  unfold nm
  rw [h3]
  by_cases a1 : x.a < y.a
  · rw [if_pos a1, if_neg (by decide)]
    exact ⟨fun _ h => by omega, fun _ => by decide⟩
  · rw [if_neg a1]
    by_cases a2 : y.a < x.a
    · rw [if_pos a2, if_neg (by decide)]
      exact ⟨fun h => absurd h (by decide), fun h => absurd (Or.inl a2) h⟩
    · rw [if_neg a2, if_pos rfl, h2]
      constructor
      · intro h h4
        rcases h4 with h4 | ⟨_, h4⟩
        · exact a2 h4
        · rw [h] at h4; cases h4
      · intro h
        cases hl : lt (names.getD x.r []) (names.getD y.r []) with
        | true => rfl
        | false => exact absurd (Or.inr ⟨by omega, hl⟩) h
/-- a world that has drawn on -/
structure DrN (w : World) where
  v : World
  q : Nat
  h : v = w.drewN q
instance (w : World) : Nonempty (DrN w) := ⟨⟨w, 0, rfl⟩⟩
theorem DrN.cell {w : World} (x : DrN w) (a : Addr) : x.v.cell? a = w.cell? a := by rw [x.h]; rfl
theorem wp_region_drn {P : Program} {id : Nat} {Q : Exit → Act → World → Prop} {a : Act} {w : World} {l : List Oper} (n : Nat) (hm : P.follows .mixedOrders = true) (hB : Region.lexTailB .any l.toArray n = true)
    (h : wpQuiet P l.toArray (fun w' => ∃ x : DrN w, w' = x.v) (fun a' => ∀ x : DrN w, wpList P l.toArray Q (l.drop n) a' x.v) (l.take n) a) : (Code.region id l.toArray true).wp P Q a w :=
  wp_region_quiet_tail (C := fun w' => ∃ x : DrN w, w' = x.v) n hm hB ⟨⟨_, 1, rfl⟩, rfl⟩ (by
    have e : (fun a' => ∀ x : DrN w, wpList P l.toArray Q (l.drop n) a' x.v) = (fun a' => ∀ w', (∃ x : DrN w, w' = x.v) → wpList P l.toArray Q (l.drop n) a' w') := by
      funext a'
      exact propext ⟨fun h w' ⟨x, hx⟩ => hx ▸ h x, fun h x => h x.v ⟨x, rfl⟩⟩
    rw [e] at h
    exact h)
theorem drn_same {P : Program} {f : FuncId} {args : Array Value} {w : World} {v : Value} (x : DrN w) (h : Calls P f args x.v fun e w' => e = .returned v ∧ x.v = w') :
    Calls P f args x.v fun e w' => e = .returned v ∧ ∃ y : DrN w, w' = y.v := h.mono fun _ _ ⟨he, hw⟩ => ⟨he, x, hw.symm⟩
theorem grow_drew (w : World) (os : Array Obj) (n : Nat) : (grow w os).drewN n = grow (w.drewN n) os := rfl
set_option maxRecDepth 100000 in
set_option maxHeartbeats 8000000 in
theorem less_c (x y : Pn) (B C : Nat) (P : Option Addr) (names : List T) (W : World) (hB : W.cell? ⟨B, 0, none⟩ = some (.slice P names.length C)) (hp : InS W P names) (hx : x.r < names.length) (hy : y.r < names.length) :
    Calls Tryd.prog 28 #[.agg (pnc x).toArray, .agg (pnc y).toArray, .pointer (some ⟨B, 0, none⟩)] W fun e w' => e = .returned (.int .i64 (cfN names x y)) ∧ ∃ q os', w' = grow (W.drewN q) os' := by
  obtain ⟨b, o, hq, c0⟩ := ins_cell hp x.r hx
  obtain ⟨b2, o2, hq2, d0⟩ := ins_cell hp y.r hy
  subst hq
  cases hq2
  have hlb := cell_lt hB
  have hlc := cell_lt c0
  have hld := cell_lt d0
  have ex : names.getD x.r [] = names[x.r] := by simp [List.getD, List.getElem?_eq_getElem hx]
  have ey : names.getD y.r [] = names[y.r] := by simp [List.getD, List.getElem?_eq_getElem hy]
  have HC : Hid (cfN names x y = orZ (cmpZ x.a y.a) (Lib.compareBytes names[x.r] names[y.r])) := by show _ = _; unfold cfN; rw [ex, ey]
  obtain ⟨R, hR⟩ : ∃ R, cfN names x y = R := ⟨_, rfl⟩
  rw [hR] at HC ⊢
  obtain ⟨nx, hnx⟩ : ∃ nx, names[x.r] = nx := ⟨_, rfl⟩
  obtain ⟨ny, hny⟩ : ∃ ny, names[y.r] = ny := ⟨_, rfl⟩
  rw [hnx] at c0 HC
  rw [hny] at d0 HC
  obtain ⟨n, hn⟩ : ∃ n, names.length = n := ⟨_, rfl⟩
  rw [hn] at hB hx hy
  clear hn hnx hny hR hp ex ey
  obtain ⟨xa, xr⟩ := x
  obtain ⟨ya, yr⟩ := y
  dsimp only at *
  have HCM := Lib.hid (fun W => cmpu_c xa ya W)
  have HSC : Hid (∀ W, Calls Tryd.prog 31 #[.string ⟨nx.toArray⟩, .string ⟨ny.toArray⟩] W fun e w' => e = .returned (.int .i64 (Lib.compareBytes nx ny)) ∧ W = w') := Lib.hid fun W => (Any.strings_Compare YtkababeeikhifaaDoor.sh.laysSC ⟨nx.toArray⟩ ⟨ny.toArray⟩ W).mono fun _ _ ⟨he, hw⟩ => ⟨he, hw.symm⟩
  obtain ⟨z1, hz1⟩ : ∃ z1, cmpZ xa ya = z1 := ⟨_, rfl⟩
  obtain ⟨z2, hz2⟩ : ∃ z2, Lib.compareBytes nx ny = z2 := ⟨_, rfl⟩
  rw [hz1] at HCM HC
  rw [hz2] at HSC HC
  clear hz1 hz2
  have hxI : (xr : Int) < (n : Int) := by omega
  have hyI : (yr : Int) < (n : Int) := by omega
  unfold pnc
  obtain ⟨W1, hW1⟩ : ∃ W1, (W.alloc (.cells #[.int .u64 (xa : Int), .int .i64 (xr : Int)] 37)).alloc (.cells #[.int .u64 (ya : Int), .int .i64 (yr : Int)] 37) = W1 := ⟨_, rfl⟩
  have hb1 : Below W.heap.size W W1 := by rw [← hW1]; exact ((Below.refl _ _).alloc (Nat.le_refl _) _).alloc (by simp) _
  have hcx := blk_old (blk_new W #[.int .u64 (xa : Int), .int .i64 (xr : Int)] 37 _ rfl) (.cells #[.int .u64 (ya : Int), .int .i64 (yr : Int)] 37)
  have hcy := blk_new (W.alloc (.cells #[.int .u64 (xa : Int), .int .i64 (xr : Int)] 37)) #[.int .u64 (ya : Int), .int .i64 (yr : Int)] 37 _ rfl
  rw [World.size_alloc] at hcy
  rw [hW1] at hcx hcy
  have f1 : ∀ y : DrN W1, y.v.cell? ⟨W.heap.size, 0, none⟩ = some (.int .u64 (xa : Int)) := fun y => by rw [y.cell, hcx.cell 0]; rfl
  have f2 : ∀ y : DrN W1, y.v.cell? ⟨W.heap.size, 1, none⟩ = some (.int .i64 (xr : Int)) := fun y => by rw [y.cell, hcx.cell 1]; rfl
  have f3 : ∀ y : DrN W1, y.v.cell? ⟨W.heap.size + 1, 0, none⟩ = some (.int .u64 (ya : Int)) := fun y => by rw [y.cell, hcy.cell 0]; rfl
  have f4 : ∀ y : DrN W1, y.v.cell? ⟨W.heap.size + 1, 1, none⟩ = some (.int .i64 (yr : Int)) := fun y => by rw [y.cell, hcy.cell 1]; rfl
  have f5 : ∀ y : DrN W1, y.v.cell? ⟨B, 0, none⟩ = some (.slice (some ⟨b, o, none⟩) n C) := fun y => by rw [y.cell]; exact (hb1.cell (p := ⟨B, 0, none⟩) hlb).trans hB
  have f6 : ∀ y : DrN W1, y.v.cell? ⟨b, o + xr, none⟩ = some (.string ⟨nx.toArray⟩) := fun y => by rw [y.cell]; exact (hb1.cell (p := ⟨b, o + xr, none⟩) hlc).trans c0
  have f7 : ∀ y : DrN W1, y.v.cell? ⟨b, o + yr, none⟩ = some (.string ⟨ny.toArray⟩) := fun y => by rw [y.cell]; exact (hb1.cell (p := ⟨b, o + yr, none⟩) hld).trans d0
  have C1 := Lib.hid (fun y : DrN W1 => drn_same y (HCM.out y.v))
  have C2 := Lib.hid (fun y : DrN W1 => drn_same y (HSC.out y.v))
  have HW1 := Lib.hid hW1
  clear hcx hcy hb1 hB c0 d0 hlb hlc hld HCM HSC
  go_enter Tryd.func28, Tryd.ntmps28
  go_upto_region 1 with fail
  clear hW1
  refine wp_region_drn 16 (by kernel_rfl) (by kernel_rfl) ?_
  simp only [List.take_succ_cons, List.take_zero, List.drop_succ_cons, List.drop_zero]
  repeat (go_big_quiet_step (first
    | (rename_i y; go_at_call 30; with_reducible exact C1.out y)
    | (rename_i y; go_at_call 31; with_reducible exact C2.out y)))
  refine wpQuiet_nil ?_
  rintro ⟨W2, q, hW2⟩
  dsimp only
  have HW2 := Lib.hid hW2
  clear hW2 f1 f2 f3 f4 f5 f6 f7 C1 C2
  have HO := Lib.hid (fun C => or_c z1 z2 W2.heap.size C (W2.alloc (.cells #[.int .i64 z1, .int .i64 z2] 3)) (by rw [World.cell?_alloc_at _ _ _ _ (by simp)]; rfl) (by rw [World.cell?_alloc_at _ _ _ _ (by simp)]; rfl))
  go_wp2_with fail
  refine (HO.out _).mono ?_
  rintro e w' ⟨rfl, rfl⟩
  go_wp2_with fail
  go_ret
  exact ⟨ret_int HC.out.symm, q, _, by rw [HW2.out, ← HW1.out, Sort.alloc_eq_grow, Sort.alloc_eq_grow, Sort.alloc_eq_grow, Sort.grow_grow, grow_drew, Sort.grow_grow]; first | done | rfl⟩
theorem flat_list {α : Type} {enc : α → List Value} {k : Nat} [Inhabited α] (hk : ∀ a, (enc a).length = k) (h0 : 0 < k) (l : List α) : (flatK enc k l.toArray).toList = cells enc l := by
  have hc := cells_len hk l
  apply List.ext_getElem?
  intro t
  by_cases ht : t < l.length * k
  · have hm := Nat.mod_lt t h0
    have hi : t / k < l.length := (Nat.div_lt_iff_lt_mul h0).2 ht
    have h1 := cells_at hk l (t / k) hi (t % k) hm
    rw [show t / k * k + t % k = t by rw [Nat.mul_comm]; exact Nat.div_add_mod t k] at h1
    rw [h1, Array.getElem?_toList]
    have h2 := Sort.get_flatK enc k l.toArray t (by simpa using ht)
    have h3 : t < (flatK enc k l.toArray).size := by rw [Sort.size_flatK]; simpa using ht
    rw [Array.getElem?_eq_getElem h3]
    rw [getElem!_pos _ t h3] at h2
    rw [h2, show l.toArray[t / k]! = l[t / k] by simp [hi]]
    have h4 : t % k < (enc l[t / k]).length := by rw [hk]; exact hm
    rw [List.getElem?_eq_getElem h4, getElem!_pos (enc l[t / k]) (t % k) h4]
  · rw [List.getElem?_eq_none (by rw [Array.length_toList, Sort.size_flatK]; simp; omega), List.getElem?_eq_none (by omega)]
theorem holdsP {α : Type} {enc : α → List Value} {k : Nat} [Inhabited α] (hk : ∀ a, (enc a).length = k) (h0 : 0 < k) {w : World} {g : Nat} {cur : Array Value} {e : TypeId} {l : List α} (hb : w.heap[g]? = some (.cells cur e (0, 0))) (ht : cur.toList.take (l.length * k) = cells enc l) : HoldsK enc k w g 0 l.toArray := by
  intro j hj
  rw [Sort.size_flatK] at hj
  have hj' : j < l.length * k := by simpa using hj
  refine ⟨?_, by simp [World.frozen?, hb]⟩
  have h1 : (cur.toList.take (l.length * k))[j]? = ((flatK enc k l.toArray).toList)[j]? := by rw [ht, flat_list hk h0]
  rw [List.getElem?_take_of_lt hj'] at h1
  simp only [World.cell?, hb, Nat.zero_add]
  simp only [Option.isSome_none, Bool.false_eq_true, if_false]
  rw [← Array.getElem?_toList, h1, Array.getElem?_toList]
  have h3 : j < (flatK enc k l.toArray).size := by rw [Sort.size_flatK]; exact hj
  rw [Array.getElem?_eq_getElem h3, getElem!_pos _ j h3]
  rfl
theorem heapP {α : Type} {enc : α → List Value} {k : Nat} [Inhabited α] {w : World} {g n : Nat} {os : Array Obj} {cur : Array Value} {e : TypeId} {fr : Nat × Nat} (d : Array α) (hb : w.heap[g]? = some (.cells cur e fr)) :
    (sortWorldK enc k w g 0 n d os).heap[g]? = some (.cells (putCells id 0 (flatK enc k d) cur) e fr) := by
  have hg : g < w.heap.size := (Array.getElem?_eq_some_iff.1 hb).1
  unfold sortWorldK putRowK
  rw [Sort.heap_grow_old _ _ (by simpa using hg)]
  simp [putRow, mapBlock, Sort.ahead, Array.getElem?_modify, hb, onCells]
theorem grownP {α : Type} {enc : α → List Value} {k : Nat} [Inhabited α] {w : World} {g n : Nat} {os : Array Obj} (d : Array α) : w.grownBy (sortWorldK enc k w g 0 n d os) (some g) := by
  unfold sortWorldK putRowK
  refine ⟨rfl, rfl, rfl, by simp, fun j hk hne => ?_⟩
  rw [Sort.heap_grow_old _ _ (by simpa using hk)]
  have : g ≠ j := fun e => hne (by rw [e])
  simp [putRow, mapBlock, Sort.ahead, Array.getElem?_modify, this]
theorem takeP {α : Type} {enc : α → List Value} {k : Nat} [Inhabited α] (hk : ∀ a, (enc a).length = k) (h0 : 0 < k) (cur : Array Value) (l : List α) (h : l.length * k ≤ cur.size) : (putCells id 0 (flatK enc k l.toArray) cur).toList.take (l.length * k) = cells enc l := by
  rw [← flat_list hk h0]
  apply List.ext_getElem?
  intro j
  by_cases hj : j < l.length * k
  · have h3 : j < (flatK enc k l.toArray).size := by rw [Sort.size_flatK]; simpa using hj
    rw [List.getElem?_take_of_lt hj, Array.getElem?_toList, Array.getElem?_toList]
    simp [putCells, hj, show j < cur.size by omega]
  · rw [List.getElem?_take_eq_none (by omega), List.getElem?_eq_none (by rw [Array.length_toList, Sort.size_flatK]; simp; omega)]
/-- points whose region is one of m -/
abbrev PS (m : Nat) := { p : Pn // p.r < m }
def penc {m : Nat} (p : PS m) : List Value := pnc p.1
theorem penc_len {m : Nat} : ∀ a : PS m, (penc a).length = 2 := fun _ => rfl
theorem penc_one {m : Nat} : ∀ a : PS m, ∀ u ∈ penc a, u.oneCell' = true := fun a => pnc_one a.1
def cfS (names : List T) (x y : PS names.length) : Int := cfN names x.1 y.1
theorem ltS (names : List T) (x y : PS names.length) : ltOf (cfS names) x y = !leN (nm names y.1) (nm names x.1) := by
  unfold ltOf cfS
  have h := cfN_lt names x.1 y.1
  cases hl : leN (nm names y.1) (nm names x.1) with
  | true => exact decide_eq_false fun h2 => by have := h.1 h2; rw [hl] at this; cases this
  | false => exact decide_eq_true (h.2 hl)
theorem swoS (names : List T) : SWO (ltOf (cfS names)) where
  irrefl x := by
    rw [ltS]
    have := leN_total (nm names x.1) (nm names x.1)
    rw [Bool.or_self] at this
    rw [this]; rfl
  trans x y z h1 h2 := by
    rw [ltS, Bool.not_eq_true'] at *
    cases h : leN (nm names z.1) (nm names x.1) with
    | false => rfl
    | true =>
      have h3 := leN_total (nm names x.1) (nm names y.1)
      rw [h1, Bool.or_false] at h3
      have := leN_trans _ _ _ h h3
      rw [h2] at this; cases this
  ntrans x y z h1 h2 := by
    rw [ltS, Bool.not_eq_false'] at *
    exact leN_trans _ _ _ h2 h1
theorem cells_sub {m : Nat} : ∀ l : List (PS m), cells penc l = cells pnc (l.map (·.1))
  | [] => rfl
  | a :: l => by
    have := cells_sub l
    unfold cells at *
    rw [List.flatMap_cons, List.map_cons, List.flatMap_cons, this]
    rfl
theorem lift_sub {m : Nat} : ∀ l : List Pn, (∀ p ∈ l, p.r < m) → ∃ l2 : List (PS m), l2.map (·.1) = l
  | [], _ => ⟨[], rfl⟩
  | a :: l, h => by
    obtain ⟨l2, e⟩ := lift_sub l fun p hp => h p (List.mem_cons_of_mem _ hp)
    exact ⟨⟨a, h a List.mem_cons_self⟩ :: l2, by rw [List.map_cons, e]⟩
set_option maxHeartbeats 4000000 in
/-- all points, sorted -/
theorem sort_c {w : World} {B n : Nat} {v : Value} {l : List Pn} (B0 C : Nat) (P : Option Addr) (names : List T) (h : w.ownsRow B 37 2 v n (cells pnc l)) (hl : l.length = n) (h1 : 1 ≤ n) (hn : n ≤ 1048576) (hr : ∀ p ∈ l, p.r < names.length)
    (hB : w.cell? ⟨B0, 0, none⟩ = some (.slice P names.length C)) (hp : InS w P names) (hv : v.ownBlock ≠ some B0) (hv2 : ∀ b o x, P = some ⟨b, o, x⟩ → v.ownBlock ≠ some b) :
    Calls Tryd.prog 27 #[v, .func (.func 28) #[] #[.pointer (some ⟨B0, 0, none⟩)]] w fun e w' => e = .returned (.tuple #[]) ∧ ∃ l', l'.Perm l ∧ (l'.map (nm names)).Pairwise (fun x y => leN x y = true) ∧ w'.ownsRow B 37 2 v n (cells pnc l') ∧ w.grownBy w' v.ownBlock := by
  subst hl
  have hm : 0 < names.length := by
    cases l with
    | nil => simp at h1
    | cons a l => have := hr a List.mem_cons_self; omega
  letI : Inhabited (PS names.length) := ⟨⟨⟨0, 0⟩, hm⟩⟩
  obtain ⟨l2, hl2⟩ := lift_sub l hr
  subst hl2
  rw [← cells_sub] at h
  rw [List.length_map] at h h1 hn ⊢
  obtain ⟨h0, hh⟩ := h
  rcases hh with ⟨rfl, hz⟩ | ⟨g, cap, cur, rfl, hB1, hb, h1', h2, h3, h4⟩
  · omega
  · have hg : g < w.heap.size := (Array.getElem?_eq_some_iff.1 hb).1
    have hcmp : CmpLays Tryd.prog 28 #[.pointer (some ⟨B0, 0, none⟩)] penc 2 (cfS names) g 0 l2.toArray.size w := by
      intro m os dk _ x y
      have hgr : w.grownBy (sortWorldK penc 2 w g 0 m dk os) (some g) := grownP dk
      have ht : Turn (fun k => k = g) w (sortWorldK penc 2 w g 0 m dk os) := Turn.of_grown hgr rfl
      refine less_c x.1 y.1 B0 C P names _ ?_ ?_ x.2 y.2
      · rw [cell_turn ht (cell_lt hB) (fun e => hv (by have e : B0 = g := e; rw [e]; rfl))]; exact hB
      · exact ing_turn senc_len (by decide) hp ht (fun b o x e _ e2 => hv2 b o x e (by rw [e2]; rfl))
    have hcon := AnyQ.slices_SortFunc YtkababeeikhifaaDoor.sh.laysSF 2 Tryd.isAgg37 Tryd.sizeOf37 penc penc_len penc_one (cfS names) (swoS names) 28 #[.pointer (some ⟨B0, 0, none⟩)] g 0 cap l2.toArray w (enters_of Tryd.func28 (by kernel_rfl) rfl) hcmp (holdsP penc_len (by decide) hb h4) hg (by simp; omega)
    rw [List.size_toArray] at hcon
    refine hcon.mono ?_
    rintro e w' ⟨rfl, d', m, os, hp, hs, rfl⟩
    obtain ⟨hp1, _, hp3⟩ := hp
    have hp4 : d'.toList.Perm l2 := by
      have e1 : d'.extract 0 l2.length = d' := by
        have : d'.size = l2.length := by simpa using hp1
        rw [← this]; simp
      have e2 : l2.toArray.extract 0 l2.length = l2.toArray := by simp
      rw [e1, e2] at hp3
      exact hp3
    have hlen : d'.toList.length = l2.length := hp4.length_eq
    refine ⟨rfl, d'.toList.map (·.1), hp4.map _, ?_, ?_, grownP d'⟩
    · rw [List.map_map, List.pairwise_iff_getElem]
      intro i j hi hj hij
      rw [List.length_map] at hi hj
      have h5 := hs i j (Nat.zero_le _) hij (by omega)
      rw [ltS, Bool.not_eq_false'] at h5
      rw [Array.length_toList] at hi hj
      rw [getElem!_pos _ j hj, getElem!_pos _ i hi] at h5
      simpa using h5
    · rw [← cells_sub]
      refine ⟨by rw [cells_len penc_len, hlen], Or.inr ⟨g, cap, _, rfl, hB1, heapP d' hb, h1', h2, ?_, ?_⟩⟩
      · simp [putCells, h3]
      · have h5 := takeP penc_len (by decide) cur d'.toList (by rw [hlen, h3]; exact Nat.mul_le_mul_right 2 h1')
        rw [hlen] at h5
        simpa using h5
end Go.Proofs.YtkababeeikhifaaDoor.rng
