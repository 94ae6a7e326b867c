/- A book in memory: a family more, another one at its place, one less; lookups; the developers' of, living, Count, Room, isFull, New. Ids of at most 2^47 bytes. -/
import Derived.Test.YthagdkipipldlaaGreatDoorGr8
namespace Go.Proofs.YthagdkipipldlaaGreatDoor.gra
open Go.RowKit
open Go.Proofs.YthagdkipipldlaaGreatDoor.oct Go.Proofs.YthagdkipipldlaaGreatDoor.ref Go.Proofs.YthagdkipipldlaaGreatDoor.rows Go.Proofs.YthagdkipipldlaaGreatDoor.rowg Go.Proofs.YthagdkipipldlaaGreatDoor.mpt Go.Proofs.YthagdkipipldlaaGreatDoor.trn Go.Proofs.YthagdkipipldlaaGreatDoor.krd
open Go.Proofs.YthagdkipipldlaaGreatDoor.scp (tx senc senc_len senc_one InS ins_below ins_cell ins_one lt Lst lval lenc GoodL FitS RowA own_good infoStr key_txt skeyed)

abbrev dptr (g : Nat) : Value := .pointer (some ⟨g, 0, none⟩)
/-- R, and a family's blocks -/
def Rx (R : Nat → Prop) (x : DF) (k : Nat) : Prop := R k ∨ x.has k
theorem FamM.lt {w : World} {R : Nat → Prop} {x : DF} (h : FamM w R x) : ∀ k, x.has k → k < w.heap.size := by
  rintro k (rfl | hk)
  · exact h.blk.lt
  · exact (h.own.lt k hk).2
theorem Rx.lt {R : Nat → Prop} {Q : Nat → Prop} {w w' : World} {x : DF} (h : ∀ k, R k → k < w.heap.size) (hs : w.heap.size ≤ w'.heap.size) (hx : FamM w' Q x) : ∀ k, Rx R x k → k < w'.heap.size := fun k hk => hk.elim (fun h2 => Nat.lt_of_lt_of_le (h k h2) hs) (fun h2 => hx.lt k h2)
theorem owns_tight {w : World} {P : Program} {kt n : Nat} {Q : Value → Option (DataW Nat × List MemPlace)} {b : Nat} {D : DataW Nat} (h : w.ownsMap P kt Q b n D) {j : Nat} (hj : Maps.size D ≤ j) : w.ownsMap P kt Q b j D := by
  obtain ⟨es, clock, hb, F, hs, rfl⟩ := h
  refine ⟨es, clock, hb, F, ?_, rfl⟩
  rw [Maps.size_eq, length_read] at hj
  exact hj
theorem apart_del {fl : List DF} (h : fl.Pairwise fun x y => ∀ k, x.has k → ¬ y.has k) (hs : SrtD fl) (n : T) : (delD fl n).Pairwise fun x y => ∀ k, x.has k → ¬ y.has k := by
  rw [show delD fl n = fl.filter (fun x => !(kid x == n)) from (filtK_ne kid hs n).symm]
  exact List.Pairwise.filter _ h
theorem apart_perm {a b : List DF} (h : a.Pairwise fun x y => ∀ k, x.has k → ¬ y.has k) (hp : a.Perm b) : b.Pairwise fun x y => ∀ k, x.has k → ¬ y.has k := (hp.pairwise_iff (fun {_ _} h k h1 h2 => h k h2 h1)).1 h
theorem apart_ins {fl : List DF} (h : fl.Pairwise fun x y => ∀ k, x.has k → ¬ y.has k) (hs : SrtD fl) (x : DF) (hx : ∀ y ∈ delD fl x.id, ∀ k, x.has k → ¬ y.has k) : (insD fl x).Pairwise fun x y => ∀ k, x.has k → ¬ y.has k :=
  apart_perm (List.pairwise_cons.2 ⟨hx, apart_del h hs x.id⟩) (insK_perm kid fl x).symm
theorem apart_two {fl : List DF} (h : fl.Pairwise fun x y => ∀ k, x.has k → ¬ y.has k) {x y : DF} (hx : x ∈ fl) (hy : y ∈ fl) (hn : x.id ≠ y.id) (k : Nat) (h1 : x.has k) (h2 : y.has k) : False := by
  induction fl with
  | nil => cases hx
  | cons a r ih =>
    have h3 := List.pairwise_cons.1 h
    rcases List.mem_cons.1 hx with rfl | hx2 <;> rcases List.mem_cons.1 hy with rfl | hy2
    · exact hn rfl
    · exact h3.1 y hy2 k h1 h2
    · exact h3.1 x hx2 k h2 h1
    · exact ih h3.2 hx2 hy2
/-- a family more, one that is new (in the place of one of its Id) -/
theorem BM.added {w w1 w2 : World} {R : Nat → Prop} {g m room j : Nat} {D : DataW Nat} {fl : List DF} (h : BM w R g m D fl room) (hb : Below w.heap.size w w1) (x : DF) (hx : FamM w1 (fun i => w.heap.size ≤ i ∧ i < w1.heap.size) x) (hr : RW x.f) (hroom : (insD fl x).length ≤ room)
    (hm : w2.ownsMap Tryz.prog 9 ptrElem m j (D.put (.string x.id) (.held x.g))) (hg : w1.grownBy w2 (some m)) : BM w2 (Rx R x) g m (D.put (.string x.id) (.held x.g)) (insD fl x) room ∧ Turn R w w2 := by
  have t1 : Turn (fun i => i = m) w w1 := Turn.of_below hb
  have t2 : Turn (fun i => i = m) w1 w2 := Turn.of_grown hg rfl
  have ht := t1.next t2
  have hput := h.says.put h.srt x
  have hnew : ∀ i, x.has i → w.heap.size ≤ i ∧ i < w1.heap.size := fun i hi => hx.foot i hi
  have hmlt := h.lt m h.mmem
  have hx2 : FamM w2 (fun i => w.heap.size ≤ i ∧ i < w1.heap.size) x := hx.turn t2 fun i hi e => by have := hnew i hi; omega
  refine ⟨⟨Rx.lt h.lt ht.size hx2, Or.inl h.mem, blk_turn h.blk ht fun e => h.gm e, Or.inl h.mmem, owns_tight hm (by rw [show Maps.size (D.put (.string x.id) (.held x.g)) = _ from hput.size]; exact Nat.le_refl _), hput, insK_srt kid h.srt x, ?_, ?_, ?_, hroom, h.most⟩, ht.mono fun i _ e => e ▸ h.mmem⟩
  · intro y hy
    rcases (insK_mem kid).1 hy with rfl | ⟨hy, _⟩
    · exact ⟨hx2.blk, hx2.own, fun i hi => Or.inr hi⟩
    · exact ((h.fams y hy).turn ht fun i hi e => h.mout hy (e ▸ hi)).mono fun i hi => Or.inl hi
  · refine apart_ins h.apart h.srt x fun y hy i h1 h2 => ?_
    have := hnew i h1
    have := h.lt i ((h.fams y ((delK_mem kid).1 hy).1).foot i h2)
    omega
  · intro y hy
    rcases (insK_mem kid).1 hy with rfl | ⟨hy, _⟩
    · exact hr
    · exact h.right y hy
/-- another family at a family's place -/
theorem BM.changed {w w2 : World} {R : Nat → Prop} {g m room : Nat} {D : DataW Nat} {fl : List DF} (h : BM w R g m D fl room) {x : DF} (hx : x ∈ fl) (y : DF) (hn : y.id = x.id) (hgg : y.g = x.g) (hr : RW y.f)
    (ht : Turn x.has w w2) (hy : FamM w2 (fun i => x.has i ∨ (w.heap.size ≤ i ∧ i < w2.heap.size)) y) : BM w2 (Rx R y) g m D (insD fl y) room ∧ Turn R w w2 := by
  have hf := h.fams x hx
  have hlen : (insD fl y).length = fl.length := by
    have h1 := (h.says.swap (y := y) h.srt hx hn hgg).size
    rw [← h1, h.says.size]
  refine ⟨⟨Rx.lt h.lt ht.size hy, Or.inl h.mem, blk_turn h.blk ht (h.gout hx), Or.inl h.mmem, by rw [hlen]; exact map_turn h.map ht (h.mout hx), h.says.swap h.srt hx hn hgg, insK_srt kid h.srt y, ?_, ?_, ?_, by rw [hlen]; exact h.few, h.most⟩, ht.mono fun i _ e => hf.foot i e⟩
  · intro z hz
    rcases (insK_mem kid).1 hz with rfl | ⟨hz, hzn⟩
    · exact ⟨hy.blk, hy.own, fun i hi => Or.inr hi⟩
    · exact ((h.fams z hz).turn ht fun i hi e => apart_two h.apart hz hx (by rw [← hn]; exact hzn) i hi e).mono fun i hi => Or.inl hi
  · refine apart_ins h.apart h.srt y fun z hz i h1 h2 => ?_
    obtain ⟨hz, hzn⟩ := (delK_mem kid).1 hz
    rcases hy.foot i h1 with e | e
    · exact apart_two h.apart hz hx (by rw [← hn]; exact hzn) i h2 e
    · have := h.lt i ((h.fams z hz).foot i h2)
      omega
  · intro z hz
    rcases (insK_mem kid).1 hz with rfl | ⟨hz, _⟩
    · exact hr
    · exact h.right z hz
/-- a family less -/
theorem BM.gone {w w2 : World} {R : Nat → Prop} {g m room j : Nat} {D : DataW Nat} {fl : List DF} (h : BM w R g m D fl room) (n : T)
    (hm : w2.ownsMap Tryz.prog 9 ptrElem m j (D.del (.string n))) (hg : w.grownBy w2 (some m)) : BM w2 R g m (D.del (.string n)) (delD fl n) room ∧ Turn R w w2 := by
  have ht : Turn (fun i => i = m) w w2 := Turn.of_grown hg rfl
  have hd := h.says.del h.srt n
  exact ⟨⟨fun k hk => Nat.lt_of_lt_of_le (h.lt k hk) ht.size, h.mem, blk_turn h.blk ht fun e => h.gm e, h.mmem, owns_tight hm (by rw [hd.size]; exact Nat.le_refl _), hd, delK_srt kid h.srt n,
    fun y hy => (h.fams y ((delK_mem kid).1 hy).1).turn ht fun i hi e => h.mout ((delK_mem kid).1 hy).1 (e ▸ hi), apart_del h.apart h.srt n, fun y hy => h.right y ((delK_mem kid).1 hy).1, Nat.le_trans (delK_len kid n) h.few, h.most⟩, ht.mono fun i _ e => e ▸ h.mmem⟩
/-- a pointer to a family, or none -/
def optr : Option DF → Value
  | some x => dptr x.g
  | none => .pointer none
theorem look_run {W : World} {m j : Nat} {D : DataW Nat} {fl : List DF} (hm : W.ownsMap Tryz.prog 9 ptrElem m j D) (hs : MapK kid DF.g D fl) (hd : SrtD fl) (n : T) (hn : n.length ≤ 140737488351232) :
    (Instr.lookup 77 (.map (some m)) (.string ⟨n.toArray⟩) false).run Tryz.prog W = .ok (optr (getD fl n)) W := by
  obtain ⟨v, ps, h1, h2⟩ := hm.lookup (t := 77) (e := 83) skeyed Tryz.underlying77 (z := .pointer none) (by kernel_rfl) (zd := .nil) (zp := []) ptrElem_nil (key_txt n hn)
  rw [h1]
  cases hg : getD fl n with
  | none =>
    rw [hs.miss (getK_none kid hg)] at h2
    rw [ptrElem_none h2]; rfl
  | some x =>
    obtain ⟨e1, e2⟩ := getK_some kid hg
    have e3 := hs.hit hd e1 (.nil)
    rw [show kid x = n from e2] at e3
    rw [e3] at h2
    rw [ptrElem_held h2]; rfl
set_option maxRecDepth 100000 in
set_option maxHeartbeats 4000000 in
theorem of_c {w : World} {R : Nat → Prop} {g m room : Nat} {D : DataW Nat} {fl : List DF} (h : BM w R g m D fl room) (n : T) (hn : n.length ≤ 140737488351232) :
    Calls Tryz.prog 42 #[dptr g, .string ⟨n.toArray⟩] w fun e w' => e = .returned (optr (getD fl n)) ∧ w' = w := by
  have c1 : w.cell? ⟨g, 1, none⟩ = some (.map (some m)) := h.blk.cell 1
  have hl := look_run h.map h.says h.srt n hn
  obtain ⟨v, hv⟩ : ∃ v, optr (getD fl n) = v := ⟨_, rfl⟩
  rw [hv] at hl ⊢
  clear h hv
  go_enter Tryz.func42, Tryz.ntmps42
  go_wp2_with fail
  go_ret
  exact ⟨rfl, rfl⟩
/-- the family of an Id that lives -/
def liveD (fl : List DF) (n : T) : Option DF := match getD fl n with
  | some x => if x.rev then none else some x
  | none => none
structure CellsF (w : World) (x : DF) : Prop where
  c0 : w.cell? ⟨x.g, 0, none⟩ = some (tx x.id)
  c1 : w.cell? ⟨x.g, 1, none⟩ = some (tx x.cl)
  c2 : w.cell? ⟨x.g, 2, none⟩ = some (tx x.us)
  c3 : w.cell? ⟨x.g, 3, none⟩ = some (lval x.sc)
  c4 : w.cell? ⟨x.g, 4, none⟩ = some (tx x.re)
  c5 : w.cell? ⟨x.g, 5, none⟩ = some (tx x.ch)
  c6 : w.cell? ⟨x.g, 6, none⟩ = some (tx x.me)
  c7 : w.cell? ⟨x.g, 7, none⟩ = some (.int .i64 x.code)
  c8 : w.cell? ⟨x.g, 8, none⟩ = some x.tv
  c9 : w.cell? ⟨x.g, 9, none⟩ = some (.bool x.rev)
  c10 : w.cell? ⟨x.g, 10, none⟩ = some x.lv
theorem cellsF {w : World} {e : TypeId} {x : DF} (h : Blk w x.g e (fenc x)) : CellsF w x := ⟨h.cell 0, h.cell 1, h.cell 2, h.cell 3, h.cell 4, h.cell 5, h.cell 6, h.cell 7, h.cell 8, h.cell 9, h.cell 10⟩
set_option maxRecDepth 100000 in
set_option maxHeartbeats 4000000 in
theorem living_c {w : World} {R : Nat → Prop} {g m room : Nat} {D : DataW Nat} {fl : List DF} (h : BM w R g m D fl room) (n : T) (hn : n.length ≤ 140737488351232) :
    Calls Tryz.prog 108 #[dptr g, .string ⟨n.toArray⟩] w fun e w' => e = .returned (optr (liveD fl n)) ∧ w' = w := by
  have HO := Lib.hid (of_c h n hn)
  unfold liveD
  cases hg : getD fl n with
  | none =>
    rw [hg] at HO
    unfold optr at *
    dsimp only at *
    clear h hg
    go_enter Tryz.func108, Tryz.ntmps108
    go_wp2_with fail
    refine HO.out.mono ?_
    rintro e w1 ⟨rfl, rfl⟩
    go_wp2_with fail
    go_ret
    exact ⟨rfl, rfl⟩
  | some x =>
    rw [hg] at HO
    have c9 := (cellsF (h.fams x (getK_some kid hg).1).blk).c9
    obtain ⟨gx, hgx⟩ : ∃ gx, x.g = gx := ⟨_, rfl⟩
    unfold optr at *
    dsimp only at *
    rw [hgx] at HO c9
    cases hr : x.rev with
    | true =>
      rw [hr] at c9
      clear h hg hr hgx
      go_enter Tryz.func108, Tryz.ntmps108
      go_wp2_with fail
      refine HO.out.mono ?_
      rintro e w1 ⟨rfl, rfl⟩
      go_wp2_with fail
      go_ret
      exact ⟨rfl, rfl⟩
    | false =>
      rw [hr] at c9
      simp only [Bool.false_eq_true, if_false]
      rw [hgx]
      clear h hg hr hgx
      go_enter Tryz.func108, Tryz.ntmps108
      go_wp2_with fail
      refine HO.out.mono ?_
      rintro e w1 ⟨rfl, rfl⟩
      go_wp2_with fail
      go_ret
      exact ⟨rfl, rfl⟩
set_option maxRecDepth 100000 in
theorem room_c {w : World} {R : Nat → Prop} {g m room : Nat} {D : DataW Nat} {fl : List DF} (h : BM w R g m D fl room) : Calls Tryz.prog 14 #[dptr g] w fun e w' => e = .returned (.int .i64 (room : Nat)) ∧ w' = w := by
  have c0 : w.cell? ⟨g, 0, none⟩ = some (.int .i64 (room : Nat)) := h.blk.cell 0
  clear h
  go_enter Tryz.func14, Tryz.ntmps14
  go_wp2_with fail
  go_ret
  exact ⟨rfl, rfl⟩
set_option maxRecDepth 100000 in
theorem count_c {w : World} {R : Nat → Prop} {g m room : Nat} {D : DataW Nat} {fl : List DF} (h : BM w R g m D fl room) : Calls Tryz.prog 33 #[dptr g] w fun e w' => e = .returned (.int .i64 (fl.length : Nat)) ∧ w' = w := by
  have c1 : w.cell? ⟨g, 1, none⟩ = some (.map (some m)) := h.blk.cell 1
  have HOM := Lib.hid h.map
  have HSZ : Hid (Maps.size D = fl.length) := h.says.size
  obtain ⟨n, hn⟩ : ∃ n, fl.length = n := ⟨_, rfl⟩
  rw [hn] at HSZ HOM ⊢
  clear h hn
  go_enter Tryz.func33, Tryz.ntmps33
  go_wp2_with (at_len; refine wpList_len_own _ rfl _ 77 rfl 9 83 Tryz.underlying77 ptrElem m n _ rfl HOM.out ?_)
  go_ret
  refine ⟨?_, rfl⟩
  rw [← HSZ.out]; rfl
set_option maxRecDepth 100000 in
theorem isFull_c {w : World} {R : Nat → Prop} {g m room : Nat} {D : DataW Nat} {fl : List DF} (h : BM w R g m D fl room) : Calls Tryz.prog 63 #[dptr g] w fun e w' => e = .returned (.bool (decide (room ≤ fl.length))) ∧ w' = w := by
  have H1 := Lib.hid (count_c h)
  have H2 := Lib.hid (room_c h)
  clear h
  go_enter Tryz.func63, Tryz.ntmps63
  go_wp2_with (first
    | (go_at_call 33; (with_reducible refine H1.out.mono ?_); rintro e w1 ⟨rfl, rfl⟩)
    | (go_at_call 14; (with_reducible refine H2.out.mono ?_); rintro e w1 ⟨rfl, rfl⟩))
  go_ret
  exact ⟨rfl, rfl⟩
/-- a new book -/
def NewBk (w w' : World) (room : Nat) (e : Ending) : Prop := ∃ g R, e = .returned (.tuple #[dptr g, .int .i64 0]) ∧ BA w' R g room [] ∧ (∀ k, R k → w.heap.size ≤ k) ∧ Below w.heap.size w w'
set_option maxRecDepth 100000 in
theorem new_c (room : Nat) (w : World) (h1 : 1 ≤ room) (h2 : room ≤ 256) : Calls Tryz.prog 24 #[.int .i64 (room : Nat)] w fun e w' => NewBk w w' room e := by
  have y1 : ¬ (room : Int) < 1 := by omega
  have y2 : ¬ (room : Int) > 256 := by omega
  have hmm := @run_makeMap Tryz.prog
  have HN : Hid (NewBk w ((w.alloc (.map #[] 0)).alloc (.cells #[.int .i64 (room : Nat), .map (some w.heap.size)] 79)) room (.returned (.tuple #[.pointer (some ⟨w.heap.size + 1, 0, none⟩), .int .i64 0]))) := by
    have hs : (w.alloc (.map #[] 0)).heap.size = w.heap.size + 1 := by simp
    have hB := blk_new (w.alloc (.map #[] 0)) #[.int .i64 (room : Nat), .map (some w.heap.size)] 79 [.int .i64 (room : Nat), .map (some w.heap.size)] rfl
    rw [hs] at hB
    have hm := World.ownsMap_made (H := Nat) w Tryz.prog 9 ptrElem
    have hb1 : Below w.heap.size w (w.alloc (.map #[] 0)) := (Below.refl _ _).alloc (Nat.le_refl _) _
    have hb2 := hb1.alloc hb1.size (.cells #[.int .i64 (room : Nat), .map (some w.heap.size)] 79)
    have hm2 := map_turn (S := fun _ => False) hm (Turn.of_below ((Below.refl _ _).alloc (Nat.le_refl _) (.cells #[.int .i64 (room : Nat), .map (some w.heap.size)] 79))) id
    refine ⟨w.heap.size + 1, fun k => k = w.heap.size + 1 ∨ k = w.heap.size, rfl, ⟨w.heap.size, .map [], [], ⟨?_, Or.inl rfl, hB, Or.inr rfl, hm2, mapK_nil, List.Pairwise.nil, (fun _ h => by cases h), List.Pairwise.nil, (fun _ h => by cases h), Nat.zero_le _, h2⟩, rfl, (fun _ h => by cases h)⟩, ?_, hb2⟩
    · rintro k (rfl | rfl) <;> simp <;> omega
    · rintro k (rfl | rfl) <;> omega
  clear h1 h2
  go_enter Tryz.func24, Tryz.ntmps24
  go_wp2_with fail
  go_ret2
  exact HN.out
end Go.Proofs.YthagdkipipldlaaGreatDoor.gra
