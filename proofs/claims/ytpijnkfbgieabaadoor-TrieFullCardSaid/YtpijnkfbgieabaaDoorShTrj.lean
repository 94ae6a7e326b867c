/- strings.Compare laid; byKey; slices.SortFunc over a row of pairs of the call's own. No condition. -/
import Derived.Test.YtpijnkfbgieabaaDoorShTri
import Derived.Test.YtpijnkfbgieabaaDoorTr2
import Derived.Shelf.Small.Strs
import Derived.Shelf.Lay
import Derived.Sort.OwnSorted
namespace Go.Proofs.YtpijnkfbgieabaaDoor.sh
open Go.Shelf
def laysSC_ren : Go.Shelf.Ren := ⟨fun | 106 => 102 | 213 => 121 | 265 => 127 | n => n, fun | 3 => 3 | 9 => 9 | n => n, fun  | n => n⟩
theorem laysSC : Go.Proofs.Lays.n106 Tryd.prog laysSC_ren := {
  mixed := by kernel_rfl
  f106 := Tryd.func102.trans (congrArg some (by kernel_rfl))
  f213 := Tryd.func121.trans (congrArg some (by kernel_rfl))
  f265 := Tryd.func127.trans (congrArg some (by kernel_rfl))
  t3 := Tryd.underlying3
  a3 := Tryd.isAgg3
  z3 := Tryd.sizeOf3
  v3 := Tryd.zeroValue3
  t9 := Tryd.underlying9
  a9 := Tryd.isAgg9
  z9 := Tryd.sizeOf9
  v9 := Tryd.zeroValue9 }
end Go.Proofs.YtpijnkfbgieabaaDoor.sh
namespace Go.Proofs.YtpijnkfbgieabaaDoor.tri
open Go.RowKit
open Go.Proofs.YtpijnkfbgieabaaDoor.oct Go.Proofs.YtpijnkfbgieabaaDoor.ref Go.Proofs.YtpijnkfbgieabaaDoor.rows Go.Proofs.YtpijnkfbgieabaaDoor.rowg Go.Proofs.YtpijnkfbgieabaaDoor.trn
open Go.Sort (SWO grow flatK HoldsK putRowK putRow putCells mapBlock onCells PermIn SortedIn)
open Go.Proofs.YtpijnkfbgieabaaDoor.scp (lt lt_irrefl lt_trans lt_total lt_asymm lt_cons lt_nil)

instance : Inhabited Pr := ⟨⟨[], []⟩⟩
def cmpP (x y : Pr) : Int := Lib.compareBytes x.n y.n
theorem cmp_lt : ∀ a b : T, Lib.compareBytes a b < 0 ↔ lt a b = true
  | [], [] => by simp [Lib.compareBytes, lt_irrefl]
  | [], _ :: _ => by
    constructor
    · intro _; rfl
    · intro _; simp [Lib.compareBytes]
  | _ :: _, [] => by rw [lt_nil]; simp [Lib.compareBytes]
  | x :: a, y :: b => by
    have ih := cmp_lt a b
    rw [lt_cons]
    unfold Lib.compareBytes
    by_cases h1 : x < y
    · rw [if_pos h1]
      exact ⟨fun _ => Or.inl h1, fun _ => by decide⟩
    · rw [if_neg h1]
      by_cases h2 : y < x
      · rw [if_pos h2]
        constructor
        · intro h; exact absurd h (by decide)
        · rintro (h | ⟨h, _⟩)
          · exact absurd h h1
          · rw [h] at h2; exact absurd h2 (UInt8.lt_irrefl y)
      · rw [if_neg h2, ih]
        have e : x = y := by
          apply UInt8.toNat_inj.1
          rw [UInt8.lt_iff_toNat_lt] at h1 h2
          omega
        exact ⟨fun h => Or.inr ⟨e, h⟩, fun h => h.elim (fun h => absurd h h1) fun h => h.2⟩
theorem ltOf_lt (x y : Pr) : ltOf cmpP x y = lt x.n y.n := by
  unfold ltOf cmpP
  have h := cmp_lt x.n y.n
  cases hl : lt x.n y.n with
  | true => exact decide_eq_true (h.2 hl)
  | false => exact decide_eq_false fun h2 => by have := h.1 h2; rw [hl] at this; cases this
theorem swoP : SWO (ltOf cmpP) where
  irrefl x := by rw [ltOf_lt, lt_irrefl]
  trans x y z h1 h2 := by rw [ltOf_lt] at *; exact lt_trans h1 h2
  ntrans x y z h1 h2 := by
    rw [ltOf_lt] at *
    cases h : lt x.n z.n with
    | false => rfl
    | true =>
      cases h3 : lt y.n x.n with
      | true => have := lt_trans h3 h; rw [h2] at this; cases this
      | false =>
        have := lt_total h1 h3
        rw [this, h2] at h; cases h
set_option maxHeartbeats 4000000 in
theorem byKey_c (x y : Pr) (W : World) : Calls Tryd.prog 81 #[.agg (penc x).toArray, .agg (penc y).toArray] W fun e w' => e = .returned (.int .i64 (cmpP x y)) ∧ ∃ q os', w' = grow (W.drewN q) os' := by
  have hcon := fun W' => Any.strings_Compare YtpijnkfbgieabaaDoor.sh.laysSC ⟨x.n.toArray⟩ ⟨y.n.toArray⟩ W'
  change ∀ W', Calls Tryd.prog 102 _ _ _ at hcon
  have e0 : Lib.compareBytes (ByteArray.mk x.n.toArray).data.toList (ByteArray.mk y.n.toArray).data.toList = cmpP x y := rfl
  rw [e0] at hcon
  generalize cmpP x y = r at hcon ⊢
  unfold penc
  go_enter Tryd.func81, Tryd.ntmps81
  go_wp2_with (go_at_call 102; refine (hcon _).mono ?_; rintro e w' ⟨rfl, rfl⟩)
  go_ret
  exact ⟨rfl, 0, _, by rw [Sort.alloc_eq_grow, Sort.alloc_eq_grow, Sort.grow_grow]; rfl⟩
theorem flat_list (l : List Pr) : (flatK penc 2 l.toArray).toList = cells penc l := by
  have hc := cells_len penc_len l
  apply List.ext_getElem?
  intro t
  by_cases ht : t < l.length * 2
  · have hi : t / 2 < l.length := by omega
    have h1 := cells_at penc_len l (t / 2) hi (t % 2) (by omega)
    rw [show t / 2 * 2 + t % 2 = t by omega] at h1
    rw [h1, Array.getElem?_toList]
    have h2 := Sort.get_flatK penc 2 l.toArray t (by simpa using ht)
    have h3 : t < (flatK penc 2 l.toArray).size := by rw [Sort.size_flatK]; simpa using ht
    rw [Array.getElem?_eq_getElem h3]
    rw [getElem!_pos _ t h3] at h2
    rw [h2, show l.toArray[t / 2]! = l[t / 2] by simp [hi]]
    have h4 : t % 2 < (penc l[t / 2]).length := by rw [penc_len]; omega
    rw [List.getElem?_eq_getElem h4, getElem!_pos (penc l[t / 2]) (t % 2) h4]
  · rw [List.getElem?_eq_none (by rw [Array.length_toList, Sort.size_flatK]; simp; omega), List.getElem?_eq_none (by omega)]
theorem holdsP {w : World} {g : Nat} {cur : Array Value} {e : TypeId} {l : List Pr} (hb : w.heap[g]? = some (.cells cur e (0, 0))) (ht : cur.toList.take (l.length * 2) = cells penc l) : HoldsK penc 2 w g 0 l.toArray := by
  intro j hj
  rw [Sort.size_flatK] at hj
  have hj' : j < l.length * 2 := by simpa using hj
  refine ⟨?_, by simp [World.frozen?, hb]⟩
  have h1 : (cur.toList.take (l.length * 2))[j]? = ((flatK penc 2 l.toArray).toList)[j]? := by rw [ht, flat_list]
  rw [List.getElem?_take_of_lt hj'] at h1
  simp only [World.cell?, hb, Nat.zero_add]
  simp only [Option.isSome_none, Bool.false_eq_true, if_false]
  rw [← Array.getElem?_toList, h1, Array.getElem?_toList]
  have h3 : j < (flatK penc 2 l.toArray).size := by rw [Sort.size_flatK]; exact hj
  rw [Array.getElem?_eq_getElem h3, getElem!_pos _ j h3]
  rfl
theorem heapP {w : World} {g n : Nat} {os : Array Obj} {cur : Array Value} {e : TypeId} {fr : Nat × Nat} (d : Array Pr) (hb : w.heap[g]? = some (.cells cur e fr)) :
    (sortWorldK penc 2 w g 0 n d os).heap[g]? = some (.cells (putCells id 0 (flatK penc 2 d) cur) e fr) := by
  have hg : g < w.heap.size := (Array.getElem?_eq_some_iff.1 hb).1
  unfold sortWorldK putRowK
  rw [Sort.heap_grow_old _ _ (by simpa using hg)]
  simp [putRow, mapBlock, Sort.ahead, Array.getElem?_modify, hb, onCells]
theorem grownP {w : World} {g n : Nat} {os : Array Obj} (d : Array Pr) : w.grownBy (sortWorldK penc 2 w g 0 n d os) (some g) := by
  unfold sortWorldK putRowK
  refine ⟨rfl, rfl, rfl, by simp, fun k hk hne => ?_⟩
  rw [Sort.heap_grow_old _ _ (by simpa using hk)]
  have : g ≠ k := fun e => hne (by rw [e])
  simp [putRow, mapBlock, Sort.ahead, Array.getElem?_modify, this]
theorem takeP (cur : Array Value) (l : List Pr) (h : l.length * 2 ≤ cur.size) : (putCells id 0 (flatK penc 2 l.toArray) cur).toList.take (l.length * 2) = cells penc l := by
  rw [← flat_list]
  apply List.ext_getElem?
  intro j
  by_cases hj : j < l.length * 2
  · have h3 : j < (flatK penc 2 l.toArray).size := by rw [Sort.size_flatK]; simpa using hj
    rw [List.getElem?_take_of_lt hj, Array.getElem?_toList, Array.getElem?_toList]
    simp [putCells, hj, show j < cur.size by omega]
  · rw [List.getElem?_take_eq_none (by omega), List.getElem?_eq_none (by rw [Array.length_toList, Sort.size_flatK]; simp; omega)]
/-- sorted by keys -/
theorem sort_c {w : World} {B n : Nat} {v : Value} {l : List Pr} (h : w.ownsRow B 44 2 v n (cells penc l)) (hl : l.length = n) (h1 : 1 ≤ n) (hn : n ≤ 1048576) :
    Calls Tryd.prog 80 #[v, .func (.func 81) #[] #[]] w fun e w' => e = .returned (.tuple #[]) ∧ ∃ l', l'.Perm l ∧ l'.Pairwise (fun x y => lt y.n x.n = false) ∧ w'.ownsRow B 44 2 v n (cells penc l') ∧ w.grownBy w' v.ownBlock := by
  subst hl
  obtain ⟨h0, hh⟩ := h
  rcases hh with ⟨rfl, hz⟩ | ⟨g, cap, cur, rfl, hB, hb, h1, h2, h3, h4⟩
  · omega
  · have hg : g < w.heap.size := (Array.getElem?_eq_some_iff.1 hb).1
    have hcon := AnyQ.slices_SortFunc YtpijnkfbgieabaaDoor.sh.laysSF 2 Tryd.isAgg44 Tryd.sizeOf44 penc penc_len penc_one cmpP swoP 81 #[] g 0 cap l.toArray w (enters_of Tryd.func81 (by kernel_rfl) rfl) (fun _ _ _ _ x y => byKey_c x y _) (holdsP hb h4) hg (by simp; omega)
    rw [List.size_toArray] at hcon
    refine hcon.mono ?_
    rintro e w' ⟨rfl, d', m, os, hp, hs, rfl⟩
    obtain ⟨hp1, _, hp3⟩ := hp
    have hp4 : d'.toList.Perm l := by
      have e1 : d'.extract 0 l.length = d' := by
        have : d'.size = l.length := by simpa using hp1
        rw [← this]; simp
      have e2 : l.toArray.extract 0 l.length = l.toArray := by simp
      rw [e1, e2] at hp3
      exact hp3
    have hlen : d'.toList.length = l.length := hp4.length_eq
    refine ⟨rfl, d'.toList, hp4, ?_, ⟨by rw [cells_len penc_len, hlen], Or.inr ⟨g, cap, _, rfl, hB, heapP d' hb, h1, h2, ?_, ?_⟩⟩, grownP d'⟩
    · rw [List.pairwise_iff_getElem]
      intro i j hi hj hij
      have h5 := hs i j (Nat.zero_le _) hij (by omega)
      rw [ltOf_lt] at h5
      rw [Array.length_toList] at hi hj
      rw [getElem!_pos _ j hj, getElem!_pos _ i hi] at h5
      simpa using h5
    · simp [putCells, h3]
    · have h5 := takeP cur d'.toList (by rw [hlen, h3]; exact Nat.mul_le_mul_right 2 h1)
      rw [hlen] at h5
      simpa using h5
theorem perm_srt {l : List Pr} {l' : List Pr} (hp : l'.Perm l) (hs : l'.Pairwise fun x y => lt y.n x.n = false) (hd : l.Pairwise fun x y => x.n ≠ y.n) : Srt l' := by
  have h2 : l'.Pairwise fun x y => x.n ≠ y.n := (hp.pairwise_iff (fun h e => h e.symm)).2 hd
  exact (hs.and h2).imp fun {a b} h3 => by
    obtain ⟨h1, h2⟩ := h3
    cases h : lt a.n b.n with
    | true => rfl
    | false => exact absurd (lt_total h h1) h2
theorem srt_ext : ∀ {a b : List Pr}, Srt a → Srt b → a.Perm b → a = b := fun ha hb hp =>
  List.Perm.eq_of_pairwise (fun x y _ _ h1 h2 => by rw [lt_asymm h1] at h2; cases h2) ha hb hp
end Go.Proofs.YtpijnkfbgieabaaDoor.tri
