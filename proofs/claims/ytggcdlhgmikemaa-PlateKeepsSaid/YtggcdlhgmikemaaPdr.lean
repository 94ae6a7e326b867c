/- The developers' Names (a range over a map, in whatever order; sorted). No condition. -/
import Derived.Test.YtggcdlhgmikemaaPdj
import Derived.Test.YtggcdlhgmikemaaShSort
import Derived.Maps.RangeWalk
import Derived.Laws.IdiomRangeMap
import Derived.Sort.KeysCollected
namespace Go.Proofs.Ytggcdlhgmikemaa.plt
open Go.RowKit
open Go.Proofs.Ytggcdlhgmikemaa.oct Go.Proofs.Ytggcdlhgmikemaa.ref Go.Proofs.Ytggcdlhgmikemaa.rows Go.Proofs.Ytggcdlhgmikemaa.rowg Go.Proofs.Ytggcdlhgmikemaa.mpt Go.Proofs.Ytggcdlhgmikemaa.cln Go.Proofs.Ytggcdlhgmikemaa.trn
open Go.Proofs.Ytggcdlhgmikemaa.scp (lt lt_irrefl)
open Go.Lib (byteCells)

def tenc (a : T) : List Value := [.string ⟨a.toArray⟩]
theorem tenc_len : ∀ a, (tenc a).length = 1 := fun _ => rfl
theorem tenc_one : ∀ a : T, ∀ u ∈ tenc a, u.oneCell' = true := fun a u hu => by rw [List.mem_singleton.1 hu]; rfl
theorem tenc_cells (l : List T) : l.map Go.Proofs.encStr = cells tenc l := by
  unfold cells
  induction l with
  | nil => rfl
  | cons x r ih => rw [List.map_cons, List.flatMap_cons, ih]; rfl
theorem le_of_ltT {a b : T} (h : lt a b = true) : Go.leB a b = true := by
  have h2 : a < b := by
    have h3 : Go.Op.bytesLess a b = true := h
    rw [Go.Proofs.bytesLess_eq] at h3
    simpa using h3
  show decide (a ≤ b) = true
  exact decide_eq_true (List.le_of_lt h2)
/-- how far a range over the names has come -/
structure Seen (D : DataW Nat) (left : Lit → Bool) (cnt : Nat) (L : List T) : Prop where
  nodup : L.Nodup
  mem : ∀ s : T, s ∈ L ↔ (Maps.has D (.string s) = true ∧ left (.string s) = false)
  few : L.length + cnt ≤ Maps.size D
  sub : ∀ z, left z = true → Maps.has D z = true
theorem seen_start (D : DataW Nat) : Seen D (Maps.has D) (Maps.size D) [] := ⟨List.nodup_nil, fun s => ⟨(fun h => by cases h), fun ⟨h1, h2⟩ => by rw [h1] at h2; cases h2⟩, by simp, fun _ h => h⟩
theorem seen_step {D : DataW Nat} {left : Lit → Bool} {cnt cnt2 : Nat} {L : List T} {y : T} (h : Seen D left cnt L) (hy : left (.string y) = true) (hc : cnt2 < cnt) : Seen D (fun z => left z && !z.sameKey (.string y)) cnt2 (L ++ [y]) := by
  have hd := h.sub _ hy
  have hn : y ∉ L := fun hm => by rw [((h.mem y).1 hm).2] at hy; cases hy
  refine ⟨?_, ?_, ?_, fun z hz => by rw [Bool.and_eq_true] at hz; exact h.sub z hz.1⟩
  · rw [List.nodup_append]
    refine ⟨h.nodup, by simp, fun a ha b hb e => ?_⟩
    rw [List.mem_singleton.1 hb] at e
    exact hn (e ▸ ha)
  · intro s
    rw [List.mem_append, List.mem_singleton, h.mem s]
    by_cases e : s = y
    · subst e
      have h3 : (Lit.string s).sameKey (.string s) = true := WideAt.sameKey_self (show WideAt.IsKeyLit (.string s) from trivial)
      constructor
      · exact fun _ => ⟨hd, by rw [h3]; simp⟩
      · exact fun _ => Or.inr rfl
    · have h3 : (Lit.string s).sameKey (.string y) = false := Maps.sameKey_ne (fun h4 => e (Lit.string.inj h4))
      rw [h3]
      constructor
      · rintro (⟨h1, h2⟩ | h1)
        · exact ⟨h1, by rw [h2]; rfl⟩
        · exact absurd h1 e
      · rintro ⟨h1, h2⟩
        exact Or.inl ⟨h1, by simpa using h2⟩
  · have := h.few
    rw [List.length_append, List.length_singleton]
    omega
theorem srtD_nodup {fl : List DF} (h : SrtD fl) : (fl.map (·.n)).Nodup := by
  unfold List.Nodup
  rw [List.pairwise_map]
  exact h.imp fun {a b} hab e => by rw [e, lt_irrefl] at hab; cases hab
theorem seen_end {D : DataW Nat} {left : Lit → Bool} {cnt : Nat} {L : List T} {fl : List DF} (h : Seen D left cnt L) (hs : SrtD fl) (hm : MapOf D fl) (hl : ∀ kl, left kl = false) : L.mergeSort Go.leB = fl.map (·.n) ∧ L.length = fl.length := by
  have hp : L.Perm (fl.map (·.n)) := by
    refine (List.perm_ext_iff_of_nodup h.nodup (srtD_nodup hs)).2 fun s => ?_
    rw [h.mem s, hm.has, List.mem_map]
    constructor
    · rintro ⟨⟨x, hx, e⟩, _⟩
      exact ⟨x, hx, (Lit.string.inj e).symm⟩
    · rintro ⟨x, hx, rfl⟩
      exact ⟨⟨x, hx, rfl⟩, hl _⟩
  refine ⟨?_, by have := hp.length_eq; rwa [List.length_map] at this⟩
  rw [Go.mergeSort_of_perm hp]
  refine List.mergeSort_of_pairwise ?_
  rw [List.pairwise_map]
  exact hs.imp fun {a b} h => le_of_ltT h
theorem infoStr : (Try.prog.info? 9).map (fun i => (i.zero, i.size, i.bytes)) = some (some (.string ⟨#[]⟩), 1, 16) := by kernel_rfl
theorem str_new (W : World) (x : T) (g : Nat) (hg : g = W.heap.size) : InG tenc 1 (W.alloc (.cells #[.string ⟨x.toArray⟩] 9)) (some ⟨g, 0, none⟩) [x] := fun _ =>
  ⟨g, 0, rfl, fun i hi j hj => by
    subst hg
    rw [List.length_singleton] at hi
    obtain rfl : i = 0 := by omega
    obtain rfl : j = 0 := by omega
    rw [World.cell?_alloc_at _ _ _ _ rfl]
    rfl⟩
/-- a row of names, new since w -/
def NamesA (w w' : World) (l : List T) (e : Ending) : Prop := ∃ v, e = .returned v ∧ w'.ownsRow w.heap.size 9 1 v l.length (cells tenc l) ∧ Below w.heap.size w w'
/-- what stands in a round of Names -/
structure NR (w wx : World) (b r n : Nat) (D : DataW Nat) (L : List T) (v : Value) (left : Lit → Bool) (cnt : Nat) : Prop where
  rg : wx.ranges Try.prog 9 ptrElem b r n D left cnt
  own : wx.ownsRow w.heap.size 9 1 v L.length (cells tenc L)
  bel : Below w.heap.size w wx
theorem row_obj {w : World} {B e z n k : Nat} {v : Value} {xs : List Value} (h : w.ownsRow B e z v n xs) (hk : v.ownBlock = some k) : ∃ X, w.heap[k]? = some (.cells X e (0, 0)) := by
  rcases h.2 with ⟨h1, _⟩ | ⟨g, cap, cur, h1, _, h3, _⟩
  · rw [h1] at hk; cases hk
  · rw [h1] at hk
    injection hk with hk
    subst hk
    exact ⟨_, h3⟩
theorem NR.apart {w wx : World} {b r n : Nat} {D : DataW Nat} {L : List T} {v : Value} {left : Lit → Bool} {cnt : Nat} (h : NR w wx b r n D L v left cnt) : some b ≠ v.ownBlock ∧ some r ≠ v.ownBlock := by
  obtain ⟨es, clock, since, seen, c0, hb, _, _, _, hr, _⟩ := h.rg
  refine ⟨fun e => ?_, fun e => ?_⟩
  · obtain ⟨X, hX⟩ := row_obj h.own e.symm
    rw [hb] at hX
    cases hX
  · obtain ⟨X, hX⟩ := row_obj h.own e.symm
    rw [hr] at hX
    cases hX
theorem NR.below {w wx w2 : World} {b r n : Nat} {D : DataW Nat} {L : List T} {v : Value} {left : Lit → Bool} {cnt : Nat} (h : NR w wx b r n D L v left cnt) (hb : Below wx.heap.size wx w2) : NR w w2 b r n D L v left cnt :=
  ⟨h.rg.kept (row := none) ⟨hb.os, hb.tape, hb.output, hb.size, fun i hi _ => hb.block i hi⟩ (by simp) (by simp), own_belowG h.own hb, bnext h.bel hb⟩
theorem NR.grow {w wx w2 : World} {b r n : Nat} {D : DataW Nat} {L : List T} {v v2 : Value} {left : Lit → Bool} {cnt : Nat} (h : NR w wx b r n D L v left cnt) (hg : wx.grownBy w2 v.ownBlock) (y : T) (ho : w2.ownsRow w.heap.size 9 1 v2 (L.length + 1) (cells tenc L ++ cells tenc [y])) : NR w w2 b r n D (L ++ [y]) v2 left cnt :=
  ⟨h.rg.kept hg h.apart.1 h.apart.2, by rw [cells_append, List.length_append, List.length_singleton]; exact ho, h.bel.grown hg h.bel.size (fun k hk => (h.own.lt k hk).1)⟩
/-- one entry on -/
theorem NR.next {w wx w4 : World} {b r n cnt cnt4 : Nat} {D : DataW Nat} {L : List T} {v : Value} {left left4 : Lit → Bool} (h : NR w wx b r n D L v left cnt) (hw : w.heap.size ≤ r) (hr : w4.ranges Try.prog 9 ptrElem b r n D left4 cnt4) (hg : wx.grownBy w4 (some r)) : NR w w4 b r n D L v left4 cnt4 := by
  refine ⟨hr, ?_, h.bel.grown hg h.bel.size (fun k hk => by cases hk; exact hw)⟩
  refine own_turn h.own (Turn.of_grown (S := fun k => k = r) hg rfl) fun k hk e => ?_
  exact h.apart.2 (by rw [hk, e])
set_option maxRecDepth 100000 in
set_option maxHeartbeats 8000000 in
theorem pnames_c {w : World} {R : Nat → Prop} {g : Nat} {st : PS} (h : PA w R g st) (hw : Wf st) :
    Calls Try.prog 15 #[dptr g] w fun e w' => NamesA w w' (st.fs.map (·.name)) e := by
  obtain ⟨m, D, fl, k, hM, hfs, _⟩ := h
  have c2 : w.cell? ⟨g, 2, none⟩ = some (.map (some m)) := hM.blk.cell 2
  have HOM := Lib.hid hM.map
  have HSAY := Lib.hid hM.says
  have HSRT := Lib.hid hM.srt
  have hlen := hM.len hfs hw
  have HSZ : Hid (Maps.size D ≤ 268435456) := by show _ ≤ _; rw [hM.says.size]; exact hlen
  have HNAM : Hid (fl.map (·.n) = st.fs.map (·.name)) := by show _ = _; rw [← hfs, List.map_map]; rfl
  have HFIT : Hid (∀ s : T, Maps.has D (.string s) = true → s.length ≤ 64) := by
    intro s hs
    obtain ⟨x, hx, e⟩ := (hM.says.has _).1 hs
    cases e
    exact (hw.each x.f (by rw [← hfs]; exact List.mem_map_of_mem hx)).2.2.2
  clear hM hfs hw hlen
  obtain ⟨j0, hj, hy0, hy1, hy2⟩ := info_parts infoStr
  go_enter Try.func15, Try.ntmps15
  go_wp2_with (first
    | (at_range; refine wpList_range_own _ rfl _ 62 rfl 9 70 skeyed Try.underlying62 ptrElem m fl.length D rfl HOM.out ?_; intro w3 hrg3 hg3 hs3)
    | go_in)
  go_frame
  go_loopw [3, 4] (fun s3 _ wr => ∃ (L : List T) (left : Lit → Bool) (cnt : Nat), NR w wr m w.heap.size fl.length D L s3 left cnt ∧ Hid (Seen D left cnt L))
    (fun _ _ wr => wr.rangeLeft m w.heap.size)
  case atStart => exact ⟨[], _, _, ⟨hrg3, World.ownsRow_nil _ _ _ _, (Below.refl _ _).grown hg3 (Nat.le_refl _) (fun j hj => by cases hj)⟩, seen_start D⟩
  case round =>
    obtain ⟨L, left, cnt, hnr, HSN⟩ := hrel
    have HN := Lib.hid hnr
    have hrg := hnr.rg
    have HLF := Lib.hid hrg.left_eq
    clear hnr c2
    go_wp2_with (first
      | (at_next; refine wpList_next_ranges _ rfl _ rfl 9 skeyed ptrElem encStr (fun v : Value => v) (fun key kl hk => by obtain ⟨x, hx, _⟩ := Go.Maps.keyOf_str Try.underlying9 hk; exact ⟨x, hx⟩) (fun v _ _ => ⟨v, rfl⟩) m w.heap.size fl.length _ _ _ rfl hrg ?_ ?_)
      | go_in)
    · intro hc0 hl0
      have HE := Lib.hid (seen_end HSN.out HSRT.out HSAY.out hl0)
      have hlt : L.length < 4611686018427387904 := by have := HSN.out.few; have := HSZ.out; omega
      have HSO := Lib.hid (sh.sort_own (ss := L) (by rw [tenc_cells]; exact HN.out.own) hlt)
      clear hl0 hc0 hrg
      go_wp2_with fail
      refine HSO.out.mono ?_
      rintro e w5 ⟨rfl, ho5, hg5⟩
      have HR : Hid (NamesA w w5 (st.fs.map (·.name)) (.returned u3)) := by
        refine ⟨u3, rfl, ?_, HN.out.bel.grown hg5 HN.out.bel.size (fun k hk => (HN.out.own.lt k hk).1)⟩
        have e1 := HE.out.1
        have e2 := HE.out.2
        rw [← HNAM.out, ← e1, List.length_mergeSort, ← tenc_cells]
        exact ho5
      clear ho5 hg5
      go_wp2_with fail
      go_ret
      exact HR.out
    · intro x c kl yd yp w4 cnt4 hkey hlk hv hat hrg4 hlt hg4 hs4 hen
      obtain ⟨x', ex, rfl, _⟩ := Go.Maps.keyOf_str Try.underlying9 hkey
      obtain rfl : x = x' := Go.encStr_inj ex
      have HS4 := Lib.hid (seen_step HSN.out hlk hlt)
      have hfx := HFIT.out x (HSN.out.sub _ hlk)
      have HN4 := Lib.hid (HN.out.next (Nat.le_refl _) hrg4 hg4)
      have HCL := Lib.hid (fun W => sclone_c ⟨x.toArray⟩ W (by rw [size_mk]; omega))
      have hll : L.length ≤ 268435456 := by have := HSN.out.few; have := HSZ.out; omega
      have HLT := Lib.hid hlt
      clear hs4 hkey hlk hv hat hg4 ex hrg4 hrg hlt
      go_wp2_with (first
        | (go_at_call 37; refine (HCL.out _).mono ?_; rintro e w5 ⟨rfl, hb5⟩; have HN5 := Lib.hid (HN4.out.below hb5); clear hb5)
        | (at_builtin; (refine wpList_append_g tenc_len (by decide) tenc_one rfl (.tmp 16) (.tmp 19) 41 9 rfl Try.underlying41 hj hy0 hy1 hy2 rfl w.heap.size u3 L.length _ rfl (HN5.out.below ((Below.refl _ _).alloc (Nat.le_refl _) _)).own _ 1 1 [x] rfl (str_new w5 x _ rfl) rfl (fun h => by cases h) (by unfold maxLen; omega) (by omega) (HN5.out.below ((Below.refl _ _).alloc (Nat.le_refl _) _)).bel.size ?_; intro v2 w6 q1 q2; have HN6 := Lib.hid ((HN5.out.below ((Below.refl _ _).alloc (Nat.le_refl _) _)).grow q2 x q1); clear q1 q2))
        | go_in)
      refine ⟨⟨L ++ [x], _, cnt4, HN6.out, HS4.out⟩, ?_⟩
      rw [HN6.out.rg.left_eq, HLF.out]
      exact HLT.out
end Go.Proofs.Ytggcdlhgmikemaa.plt
