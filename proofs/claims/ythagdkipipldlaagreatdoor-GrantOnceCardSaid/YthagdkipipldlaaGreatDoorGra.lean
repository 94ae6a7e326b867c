/- The developers' ids (a range over a map, in whatever order; sorted). No condition. -/
import Derived.Test.YthagdkipipldlaaGreatDoorGr9
import Derived.Maps.RangeWalk
import Derived.Laws.IdiomRangeMap
import Derived.Sort.KeysCollected
namespace Go.Proofs.YthagdkipipldlaaGreatDoor.gra
open Go.RowKit
open Go.Proofs.YthagdkipipldlaaGreatDoor.oct Go.Proofs.YthagdkipipldlaaGreatDoor.ref Go.Proofs.YthagdkipipldlaaGreatDoor.rows Go.Proofs.YthagdkipipldlaaGreatDoor.rowg Go.Proofs.YthagdkipipldlaaGreatDoor.mpt Go.Proofs.YthagdkipipldlaaGreatDoor.trn Go.Proofs.YthagdkipipldlaaGreatDoor.krd
open Go.Proofs.YthagdkipipldlaaGreatDoor.scp (tx senc senc_len senc_one InS ins_below ins_cell ins_one lt lt_irrefl Lst lval lenc GoodL FitS RowA own_good infoStr key_txt skeyed enc_cells le_of_lt)

/-- how far a range over the Ids has come -/
structure Seen (D : DataW Nat) (left : Lit → Bool) (cnt : Nat) (L : List T) : Prop where
  nodup : L.Nodup
  mem : ∀ s : T, s ∈ L ↔ (Maps.has D (.string s) = true ∧ left (.string s) = false)
  few : L.length + cnt ≤ Maps.size D
  sub : ∀ z, left z = true → Maps.has D z = true
theorem seen_start (D : DataW Nat) : Seen D (Maps.has D) (Maps.size D) [] := ⟨List.nodup_nil, fun s => ⟨(fun h => by cases h), fun ⟨h1, h2⟩ => by rw [h1] at h2; cases h2⟩, by simp, fun _ h => h⟩
theorem seen_step {D : DataW Nat} {left : Lit → Bool} {cnt cnt2 : Nat} {L : List T} {y : T} (h : Seen D left cnt L) (hy : left (.string y) = true) (hc : cnt2 < cnt) : Seen D (fun z => left z && !z.sameKey (.string y)) cnt2 (L ++ [y]) := by
  have hd := h.sub _ hy
  have hn : y ∉ L := fun hm => by rw [((h.mem y).1 hm).2] at hy; cases hy
  refine ⟨?_, ?_, ?_, fun z hz => by rw [Bool.and_eq_true] at hz; exact h.sub z hz.1⟩
  · rw [List.nodup_append]
    refine ⟨h.nodup, by simp, fun a ha b hb e => ?_⟩
    rw [List.mem_singleton.1 hb] at e
    exact hn (e ▸ ha)
  · intro s
    rw [List.mem_append, List.mem_singleton, h.mem s]
    by_cases e : s = y
    · subst e
      have h3 : (Lit.string s).sameKey (.string s) = true := WideAt.sameKey_self (show WideAt.IsKeyLit (.string s) from trivial)
      constructor
      · exact fun _ => ⟨hd, by rw [h3]; simp⟩
      · exact fun _ => Or.inr rfl
    · have h3 : (Lit.string s).sameKey (.string y) = false := Maps.sameKey_ne (fun h4 => e (Lit.string.inj h4))
      rw [h3]
      constructor
      · rintro (⟨h1, h2⟩ | h1)
        · exact ⟨h1, by rw [h2]; rfl⟩
        · exact absurd h1 e
      · rintro ⟨h1, h2⟩
        exact Or.inl ⟨h1, by simpa using h2⟩
  · have := h.few
    rw [List.length_append, List.length_singleton]
    omega
theorem seen_end {D : DataW Nat} {left : Lit → Bool} {cnt : Nat} {L : List T} {fl : List DF} (h : Seen D left cnt L) (hs : SrtD fl) (hm : MapK kid DF.g D fl) (hl : ∀ kl, left kl = false) : (L.mergeSort fun x y => decide (x ≤ y)) = fl.map kid ∧ L.length = fl.length := by
  have hp : L.Perm (fl.map kid) := by
    refine (List.perm_ext_iff_of_nodup h.nodup (srtK_nodup kid hs)).2 fun s => ?_
    rw [h.mem s, hm.has, List.mem_map]
    constructor
    · rintro ⟨⟨x, hx, e⟩, _⟩
      exact ⟨x, hx, (Lit.string.inj e).symm⟩
    · rintro ⟨x, hx, rfl⟩
      exact ⟨⟨x, hx, rfl⟩, hl _⟩
  refine ⟨?_, by have := hp.length_eq; rwa [List.length_map] at this⟩
  show L.mergeSort Go.leB = _
  rw [Go.mergeSort_of_perm hp]
  refine List.mergeSort_of_pairwise ?_
  rw [List.pairwise_map]
  exact hs.imp fun {a b} h => le_of_lt h
theorem str_new (W : World) (x : T) (g : Nat) (hg : g = W.heap.size) : InG senc 1 (W.alloc (.cells #[.string ⟨x.toArray⟩] 9)) (some ⟨g, 0, none⟩) [x] := by subst hg; exact ins_one W x _
/-- what stands in a round of ids -/
structure NR (w wx : World) (b r n : Nat) (D : DataW Nat) (L : List T) (v : Value) (left : Lit → Bool) (cnt : Nat) : Prop where
  rg : wx.ranges Tryz.prog 9 ptrElem b r n D left cnt
  own : wx.ownsRow w.heap.size 9 1 v L.length (cells senc L)
  bel : Below w.heap.size w wx
theorem NR.apart {w wx : World} {b r n : Nat} {D : DataW Nat} {L : List T} {v : Value} {left : Lit → Bool} {cnt : Nat} (h : NR w wx b r n D L v left cnt) : some b ≠ v.ownBlock ∧ some r ≠ v.ownBlock := by
  obtain ⟨es, clock, since, seen, c0, hb, _, _, _, hr, _⟩ := h.rg
  refine ⟨fun e => ?_, fun e => ?_⟩
  · obtain ⟨X, hX⟩ := row_obj h.own e.symm
    rw [hb] at hX
    cases hX
  · obtain ⟨X, hX⟩ := row_obj h.own e.symm
    rw [hr] at hX
    cases hX
theorem NR.below {w wx w2 : World} {b r n : Nat} {D : DataW Nat} {L : List T} {v : Value} {left : Lit → Bool} {cnt : Nat} (h : NR w wx b r n D L v left cnt) (hb : Below wx.heap.size wx w2) : NR w w2 b r n D L v left cnt :=
  ⟨h.rg.kept (row := none) ⟨hb.os, hb.tape, hb.output, hb.size, fun i hi _ => hb.block i hi⟩ (by simp) (by simp), own_belowG h.own hb, bnext h.bel hb⟩
theorem NR.grow {w wx w2 : World} {b r n : Nat} {D : DataW Nat} {L : List T} {v v2 : Value} {left : Lit → Bool} {cnt : Nat} (h : NR w wx b r n D L v left cnt) (hg : wx.grownBy w2 v.ownBlock) (y : T) (ho : w2.ownsRow w.heap.size 9 1 v2 (L.length + 1) (cells senc L ++ cells senc [y])) : NR w w2 b r n D (L ++ [y]) v2 left cnt :=
  ⟨h.rg.kept hg h.apart.1 h.apart.2, by rw [cells_append, List.length_append, List.length_singleton]; exact ho, h.bel.grown hg h.bel.size (fun k hk => (h.own.lt k hk).1)⟩
/-- one entry on -/
theorem NR.next {w wx w4 : World} {b r n cnt cnt4 : Nat} {D : DataW Nat} {L : List T} {v : Value} {left left4 : Lit → Bool} (h : NR w wx b r n D L v left cnt) (hw : w.heap.size ≤ r) (hr : w4.ranges Tryz.prog 9 ptrElem b r n D left4 cnt4) (hg : wx.grownBy w4 (some r)) : NR w w4 b r n D L v left4 cnt4 := by
  refine ⟨hr, ?_, h.bel.grown hg h.bel.size (fun k hk => by cases hk; exact hw)⟩
  refine own_turn h.own (Turn.of_grown (S := fun k => k = r) hg rfl) fun k hk e => ?_
  exact h.apart.2 (by rw [hk, e])
set_option maxRecDepth 100000 in
set_option maxHeartbeats 8000000 in
theorem ids_c {w : World} {R : Nat → Prop} {g m room : Nat} {D : DataW Nat} {fl : List DF} (h : BM w R g m D fl room) :
    Calls Tryz.prog 40 #[dptr g] w fun e w' => RowA w w' (fl.map kid) e := by
  have c1 : w.cell? ⟨g, 1, none⟩ = some (.map (some m)) := h.blk.cell 1
  have HOM := Lib.hid h.map
  have HSAY := Lib.hid h.says
  have HSRT := Lib.hid h.srt
  have HSZ : Hid (Maps.size D ≤ 256) := by show _ ≤ _; rw [h.says.size]; have := h.few; have := h.most; omega
  have HFIT : Hid (∀ s : T, Maps.has D (.string s) = true → s.length ≤ 32) := by
    intro s hs
    obtain ⟨x, hx, e⟩ := (h.says.has _).1 hs
    cases e
    have hi := (h.right x hx).id
    unfold idB at hi
    simp only [Bool.and_eq_true, decide_eq_true_eq] at hi
    exact hi.1.2
  clear h
  obtain ⟨j0, hj, hy0, hy1, hy2⟩ := info_parts infoStr
  go_enter Tryz.func40, Tryz.ntmps40
  go_wp2_with (first
    | (at_range; refine wpList_range_own _ rfl _ 77 rfl 9 83 skeyed Tryz.underlying77 ptrElem m fl.length D rfl HOM.out ?_; intro w3 hrg3 hg3 hs3)
    | go_in)
  go_frame
  go_loopw [3, 4] (fun s3 _ wr => ∃ (L : List T) (left : Lit → Bool) (cnt : Nat), NR w wr m w.heap.size fl.length D L s3 left cnt ∧ Hid (Seen D left cnt L))
    (fun _ _ wr => wr.rangeLeft m w.heap.size)
  case atStart => exact ⟨[], _, _, ⟨hrg3, World.ownsRow_nil _ _ _ _, (Below.refl _ _).grown hg3 (Nat.le_refl _) (fun j hj => by cases hj)⟩, seen_start D⟩
  case round =>
    obtain ⟨L, left, cnt, hnr, HSN⟩ := hrel
    have HN := Lib.hid hnr
    have hrg := hnr.rg
    have HLF := Lib.hid hrg.left_eq
    clear hnr c1
    go_wp2_with (first
      | (at_next; refine wpList_next_ranges _ rfl _ rfl 9 skeyed ptrElem encStr (fun v : Value => v) (fun key kl hk => by obtain ⟨x, hx, _⟩ := Go.Maps.keyOf_str Tryz.underlying9 hk; exact ⟨x, hx⟩) (fun v _ _ => ⟨v, rfl⟩) m w.heap.size fl.length _ _ _ rfl hrg ?_ ?_)
      | go_in)
    · intro hc0 hl0
      have HE := Lib.hid (seen_end HSN.out HSRT.out HSAY.out hl0)
      have hlt : L.length < 4611686018427387904 := by have := HSN.out.few; have := HSZ.out; omega
      have HSO := Lib.hid (sort_own (ss := L) (by rw [enc_cells]; exact HN.out.own) hlt)
      clear hl0 hc0 hrg
      go_wp2_with fail
      refine HSO.out.mono ?_
      rintro e w5 ⟨rfl, ho5, hg5⟩
      have HR : Hid (RowA w w5 (fl.map kid) (.returned u3)) := by
        refine ⟨u3, rfl, ?_, HN.out.bel.grown hg5 HN.out.bel.size (fun k hk => (HN.out.own.lt k hk).1)⟩
        have e1 := HE.out.1
        rw [← e1, List.length_mergeSort, ← enc_cells]
        exact ho5
      clear ho5 hg5
      go_wp2_with fail
      go_ret
      exact HR.out
    · intro x c kl yd yp w4 cnt4 hkey hlk hv hat hrg4 hlt hg4 hs4 hen
      obtain ⟨x', ex, rfl, _⟩ := Go.Maps.keyOf_str Tryz.underlying9 hkey
      obtain rfl : x = x' := Go.encStr_inj ex
      have HS4 := Lib.hid (seen_step HSN.out hlk hlt)
      have hfx := HFIT.out x (HSN.out.sub _ hlk)
      have HN4 := Lib.hid (HN.out.next (Nat.le_refl _) hrg4 hg4)
      have hll : L.length ≤ 256 := by have := HSN.out.few; have := HSZ.out; omega
      have HLT := Lib.hid hlt
      clear hs4 hkey hlk hv hat hg4 ex hrg4 hrg hlt
      go_wp2_with (first
        | (at_builtin; (refine wpList_append_g senc_len (by decide) senc_one rfl (.tmp 16) (.tmp 18) 35 9 rfl Tryz.underlying35 hj hy0 hy1 hy2 rfl w.heap.size u3 L.length _ rfl (HN4.out.below ((Below.refl _ _).alloc (Nat.le_refl _) _)).own _ 1 1 [x] rfl (str_new w4 x _ rfl) rfl (fun h => by cases h) (by unfold maxLen; omega) (by omega) (HN4.out.below ((Below.refl _ _).alloc (Nat.le_refl _) _)).bel.size ?_; intro v2 w6 q1 q2; have HN6 := Lib.hid ((HN4.out.below ((Below.refl _ _).alloc (Nat.le_refl _) _)).grow q2 x q1); clear q1 q2))
        | go_in)
      refine ⟨⟨L ++ [x], _, cnt4, HN6.out, HS4.out⟩, ?_⟩
      rw [HN6.out.rg.left_eq, HLF.out]
      exact HLT.out
end Go.Proofs.YthagdkipipldlaaGreatDoor.gra
