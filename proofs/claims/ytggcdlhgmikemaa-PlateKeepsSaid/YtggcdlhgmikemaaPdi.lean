/- The developers' plate in memory: a file more, another one at its place, one less; lookups; of, Synced, Read. Names of at most 2^47 bytes. -/
import Derived.Test.YtggcdlhgmikemaaPdh
namespace Go.Proofs.Ytggcdlhgmikemaa.plt
open Go.RowKit
open Go.Proofs.Ytggcdlhgmikemaa.oct Go.Proofs.Ytggcdlhgmikemaa.ref Go.Proofs.Ytggcdlhgmikemaa.rows Go.Proofs.Ytggcdlhgmikemaa.rowg Go.Proofs.Ytggcdlhgmikemaa.mpt Go.Proofs.Ytggcdlhgmikemaa.cln Go.Proofs.Ytggcdlhgmikemaa.trn
open Go.Proofs.Ytggcdlhgmikemaa.scp (lt lt_irrefl lt_trans lt_total lt_asymm)
open Go.Lib (byteCells)

/-- R, and what is new -/
def Rn (R : Nat → Prop) (w w' : World) (k : Nat) : Prop := R k ∨ (w.heap.size ≤ k ∧ k < w'.heap.size)
theorem Rn.grown (R : Nat → Prop) (w w' : World) : Grown R (Rn R w w') w := fun _ h => h.elim Or.inl fun h => Or.inr h.1
theorem Rn.lt {R : Nat → Prop} {w w' : World} (h : ∀ k, R k → k < w.heap.size) (hs : w.heap.size ≤ w'.heap.size) : ∀ k, Rn R w w' k → k < w'.heap.size := fun k hk => hk.elim (fun h2 => Nat.lt_of_lt_of_le (h k h2) hs) (fun h2 => h2.2)
theorem apart_del {fl : List DF} (h : fl.Pairwise fun x y => ∀ k, x.has k → ¬ y.has k) (hs : SrtD fl) (n : T) : (delD fl n).Pairwise fun x y => ∀ k, x.has k → ¬ y.has k := by
  rw [← filtD_ne hs]
  exact List.Pairwise.filter _ h
theorem apart_perm {a b : List DF} (h : a.Pairwise fun x y => ∀ k, x.has k → ¬ y.has k) (hp : a.Perm b) : b.Pairwise fun x y => ∀ k, x.has k → ¬ y.has k := (hp.pairwise_iff (fun {_ _} h k h1 h2 => h k h2 h1)).1 h
theorem apart_ins {fl : List DF} (h : fl.Pairwise fun x y => ∀ k, x.has k → ¬ y.has k) (hs : SrtD fl) (x : DF) (hx : ∀ y ∈ delD fl x.n, ∀ k, x.has k → ¬ y.has k) : (insD fl x).Pairwise fun x y => ∀ k, x.has k → ¬ y.has k :=
  apart_perm (List.pairwise_cons.2 ⟨hx, apart_del h hs x.n⟩) (insD_perm fl x).symm
/-- any two files of a list in which each is apart -/
theorem apart_two {fl : List DF} (h : fl.Pairwise fun x y => ∀ k, x.has k → ¬ y.has k) {x y : DF} (hx : x ∈ fl) (hy : y ∈ fl) (hn : x.n ≠ y.n) (k : Nat) (h1 : x.has k) (h2 : y.has k) : False := by
  induction fl with
  | nil => cases hx
  | cons a r ih =>
    have h3 := List.pairwise_cons.1 h
    rcases List.mem_cons.1 hx with rfl | hx2 <;> rcases List.mem_cons.1 hy with rfl | hy2
    · exact hn rfl
    · exact h3.1 y hy2 k h1 h2
    · exact h3.1 x hx2 k h2 h1
    · exact ih h3.2 hx2 hy2
/-- a file more, one that is new -/
theorem PM.added {w w1 w2 : World} {R : Nat → Prop} {g m room used j : Nat} {D : DataW Nat} {fl : List DF} {k : Int} {down : Bool} (h : PM w R g m D fl room used k down) (hb : Below w.heap.size w w1) (x : DF) (hx : FileD w1 (fun i => w.heap.size ≤ i ∧ i < w1.heap.size) x)
    (hm : w2.ownsMap Try.prog 9 ptrElem m j (D.put (.string x.n) (.held x.g))) (hg : w1.grownBy w2 (some m)) : PM w2 (Rn R w w2) g m (D.put (.string x.n) (.held x.g)) (insD fl x) room used k down ∧ Turn R w w2 := by
  have t1 : Turn (fun i => i = m) w w1 := Turn.of_below hb
  have t2 : Turn (fun i => i = m) w1 w2 := Turn.of_grown hg rfl
  have ht := t1.next t2
  have hput := h.says.put h.srt x
  have hnew : ∀ i, x.has i → w.heap.size ≤ i ∧ i < w1.heap.size := fun i hi => hx.foot i hi
  have hmlt := h.lt m h.mmem
  refine ⟨⟨Rn.lt h.lt ht.size, Or.inl h.mem, blk_turn h.blk ht fun e => h.gm e, Or.inl h.mmem, owns_tight hm (by rw [hput.size]; exact Nat.le_refl _), hput, insD_srt h.srt x, ?_, ?_⟩, ht.mono fun i _ e => e ▸ h.mmem⟩
  · intro y hy
    rcases insD_mem hy with rfl | ⟨hy, _⟩
    · refine (hx.turn t2 fun i hi e => ?_).mono fun i hi => Or.inr ⟨hi.1, Nat.lt_of_lt_of_le hi.2 t2.size⟩
      have := hnew i hi
      omega
    · exact ((h.files y hy).turn ht fun i hi e => h.mout hy (e ▸ hi)).mono fun i hi => Or.inl hi
  · refine apart_ins h.apart h.srt x fun y hy i h1 h2 => ?_
    have := hnew i h1
    have := h.lt i ((h.files y (delD_mem hy).1).foot i h2)
    omega
/-- another file at a file's place -/
theorem PM.changed {w w2 : World} {R : Nat → Prop} {g m room used : Nat} {D : DataW Nat} {fl : List DF} {k : Int} {down : Bool} (h : PM w R g m D fl room used k down) {x : DF} (hx : x ∈ fl) (y : DF) (hn : y.n = x.n) (hgg : y.g = x.g)
    (ht : Turn x.has w w2) (hy : FileD w2 (fun i => x.has i ∨ (w.heap.size ≤ i ∧ i < w2.heap.size)) y) : PM w2 (Rn R w w2) g m D (insD fl y) room used k down ∧ Turn R w w2 := by
  have hf := h.files x hx
  have hlen : (insD fl y).length = fl.length := by
    have h1 := (h.says.swap h.srt hx hn hgg).size
    rw [← h1, h.says.size]
  refine ⟨⟨Rn.lt h.lt ht.size, Or.inl h.mem, blk_turn h.blk ht (h.gout hx), Or.inl h.mmem, by rw [hlen]; exact map_turn h.map ht (h.mout hx), h.says.swap h.srt hx hn hgg, insD_srt h.srt y, ?_, ?_⟩, ht.mono fun i _ e => hf.foot i e⟩
  · intro z hz
    rcases insD_mem hz with rfl | ⟨hz, hzn⟩
    · exact hy.mono fun i hi => hi.imp (hf.foot i) id
    · exact ((h.files z hz).turn ht fun i hi e => apart_two h.apart hz hx (by rw [← hn]; exact hzn) i hi e).mono fun i hi => Or.inl hi
  · refine apart_ins h.apart h.srt y fun z hz i h1 h2 => ?_
    obtain ⟨hz, hzn⟩ := delD_mem hz
    rcases hy.foot i h1 with e | e
    · exact apart_two h.apart hz hx (by rw [← hn]; exact hzn) i h2 e
    · have := h.lt i ((h.files z hz).foot i h2)
      omega
/-- a file less -/
theorem PM.gone {w w2 : World} {R : Nat → Prop} {g m room used j : Nat} {D : DataW Nat} {fl : List DF} {k : Int} {down : Bool} (h : PM w R g m D fl room used k down) (n : T)
    (hm : w2.ownsMap Try.prog 9 ptrElem m j (D.del (.string n))) (hg : w.grownBy w2 (some m)) : PM w2 R g m (D.del (.string n)) (delD fl n) room used k down ∧ Turn R w w2 := by
  have ht : Turn (fun i => i = m) w w2 := Turn.of_grown hg rfl
  have hd := h.says.del h.srt n
  exact ⟨⟨fun k hk => Nat.lt_of_lt_of_le (h.lt k hk) ht.size, h.mem, blk_turn h.blk ht fun e => h.gm e, h.mmem, owns_tight hm (by rw [hd.size]; exact Nat.le_refl _), hd, delD_srt h.srt n,
    fun y hy => (h.files y (delD_mem hy).1).turn ht fun i hi e => h.mout (delD_mem hy).1 (e ▸ hi), apart_del h.apart h.srt n⟩, ht.mono fun i _ e => e ▸ h.mmem⟩
/-- the file of a name; one without bytes, if it isn't there -/
def atD (fl : List DF) (n : T) : DF := (fl.find? fun x => x.n == n).getD ⟨n, 0, none, 0, [], 0⟩
theorem atD_cases (fl : List DF) (n : T) : (atD fl n ∈ fl ∧ (atD fl n).n = n) ∨ (atD fl n = ⟨n, 0, none, 0, [], 0⟩ ∧ ∀ x ∈ fl, x.n ≠ n) := by
  unfold atD
  cases h : fl.find? (fun x => x.n == n) with
  | none => exact Or.inr ⟨rfl, fun f hf => by have := List.find?_eq_none.1 h f hf; simpa using this⟩
  | some f => exact Or.inl ⟨List.mem_of_find?_eq_some h, by have := List.find?_some h; simpa using this⟩
theorem atD_f {fl : List DF} (h : SrtD fl) (n : T) : getF (fl.map DF.f) n = (atD fl n).f := by
  rcases atD_cases fl n with ⟨h1, h2⟩ | ⟨h1, h2⟩
  · have := getF_hit h h1
    rw [h2] at this
    exact this
  · rw [h1, getF_miss h2]
    rfl
theorem look_hit {W : World} {m j : Nat} {D : DataW Nat} {fl : List DF} (hm : W.ownsMap Try.prog 9 ptrElem m j D) (hs : MapOf D fl) (hd : SrtD fl) {x : DF} (hx : x ∈ fl) (hn : x.n.length ≤ 140737488351232) :
    (Instr.lookup 62 (.map (some m)) (.string ⟨x.n.toArray⟩) false).run Try.prog W = .ok (.pointer (some ⟨x.g, 0, none⟩)) W := by
  obtain ⟨v, ps, h1, h2⟩ := hm.lookup (t := 62) (e := 70) skeyed Try.underlying62 (z := .pointer none) (by kernel_rfl) (zd := .nil) (zp := []) ptrElem_nil (key_txt x.n hn)
  rw [hs.hit (dne hd) hx] at h2
  rw [ptrElem_held h2] at h1
  exact h1
theorem look_miss {W : World} {m j : Nat} {D : DataW Nat} {fl : List DF} (hm : W.ownsMap Try.prog 9 ptrElem m j D) (hs : MapOf D fl) {n : T} (hx : ∀ x ∈ fl, x.n ≠ n) (hn : n.length ≤ 140737488351232) :
    (Instr.lookup 62 (.map (some m)) (.string ⟨n.toArray⟩) false).run Try.prog W = .ok (.pointer none) W := by
  obtain ⟨v, ps, h1, h2⟩ := hm.lookup (t := 62) (e := 70) skeyed Try.underlying62 (z := .pointer none) (by kernel_rfl) (zd := .nil) (zp := []) ptrElem_nil (key_txt n hn)
  rw [hs.miss hx] at h2
  rw [ptrElem_none h2] at h1
  exact h1
theorem infoFl : (Try.prog.info? 72).map (·.size) = some 2 := by kernel_rfl
set_option maxRecDepth 100000 in
set_option maxHeartbeats 4000000 in
theorem of_c {w : World} {R : Nat → Prop} {g m room used : Nat} {D : DataW Nat} {fl : List DF} {k : Int} {down : Bool} (h : PM w R g m D fl room used k down) (n : T) (hn : n.length ≤ 140737488351232) :
    Calls Try.prog 40 #[dptr g, .string ⟨n.toArray⟩] w fun e w' => e = .returned (.agg #[(atD fl n).v, .int .i64 ((atD fl n).s : Nat)]) ∧ Below w.heap.size w w' := by
  have hb0 := (Below.refl w.heap.size w).alloc (Nat.le_refl _) (.cells #[.slice none 0 0, .int .i64 0] 72)
  have hB0 : Blk (w.alloc (.cells #[.slice none 0 0, .int .i64 0] 72)) w.heap.size 72 [.slice none 0 0, .int .i64 0] := blk_new w _ _ _ rfl
  have h2 := h.turn (S := fun _ => False) (Turn.of_below hb0) fun _ _ => id
  have c2 : (w.alloc (.cells #[.slice none 0 0, .int .i64 0] 72)).cell? ⟨g, 2, none⟩ = some (.map (some m)) := h2.blk.cell 2
  have f0 := hB0.frozen 0
  have f1 := hB0.frozen 1
  have b0 := hB0.cell 0
  have b1 := hB0.cell 1
  have HS := Lib.hid (fun u v => (hB0.set 0 u).set 1 v)
  have HB := Lib.hid (fun u v => (hb0.setCell (p := ⟨w.heap.size, 0, none⟩) (Nat.le_refl _) u).setCell (p := ⟨w.heap.size, 1, none⟩) (Nat.le_refl _) v)
  have HB0 := Lib.hid hb0
  have HBX := Lib.hid hB0
  have hlt0 := hB0.lt
  rcases atD_cases fl n with ⟨h1, h3⟩ | ⟨h1, h3⟩
  · have hl := look_hit h2.map h2.says h2.srt h1 (by rw [h3]; exact hn)
    rw [h3] at hl
    have hB := (h2.files _ h1).blk
    have hxg : (atD fl n).g < w.heap.size := (h.files _ h1).blk.lt
    obtain ⟨x, hx⟩ : ∃ x, atD fl n = x := ⟨_, rfl⟩
    rw [hx] at hl hB hxg ⊢
    have d0 : (w.alloc (.cells #[.slice none 0 0, .int .i64 0] 72)).cell? ⟨x.g, 0, none⟩ = some (.slice x.p x.b.length x.c) := hB.cell 0
    have d1 : (w.alloc (.cells #[.slice none 0 0, .int .i64 0] 72)).cell? ⟨x.g, 1, none⟩ = some (.int .i64 (x.s : Nat)) := hB.cell 1
    have hne : x.g ≠ w.heap.size := Nat.ne_of_lt hxg
    have hne2 : w.heap.size ≠ x.g := Nat.ne_of_gt hxg
    unfold DF.v
    clear h h1 h2 h3 hB hx hb0 hB0 hxg
    obtain ⟨w1, hw1⟩ : ∃ w1, (w.alloc (.cells #[.slice none 0 0, .int .i64 0] 72)) = w1 := ⟨_, rfl⟩
    rw [hw1] at hl d0 d1 c2 f0 f1 b0 b1 HS HB HB0 HBX hlt0
    go_enter Try.func40, Try.ntmps40
    go_wp2_with fail
    refine bodyPost_ret (results_blk Try.results40 _ _ w.heap.size 72 [.slice x.p x.b.length x.c, .int .i64 (x.s : Nat)] _ rfl (HS.out _ _) Try.underlying72 rfl infoFl) rfl ?_
    exact ⟨rfl, HB.out _ _⟩
  · have hl := look_miss h2.map h2.says h3 hn
    rw [h1]
    unfold DF.v
    clear h h1 h2 h3 hb0 hB0
    obtain ⟨w1, hw1⟩ : ∃ w1, (w.alloc (.cells #[.slice none 0 0, .int .i64 0] 72)) = w1 := ⟨_, rfl⟩
    rw [hw1] at hl c2 f0 f1 b0 b1 HS HB HB0 HBX hlt0
    go_enter Try.func40, Try.ntmps40
    go_wp2_with fail
    refine bodyPost_ret (results_blk Try.results40 _ _ w.heap.size 72 [.slice none 0 0, .int .i64 0] _ rfl (HS.out _ _) Try.underlying72 rfl infoFl) rfl ?_
    exact ⟨rfl, HB.out _ _⟩
end Go.Proofs.Ytggcdlhgmikemaa.plt
