/- PlateFull: in plain lists; a plate and its copy beside each other. -/
import Derived.Test.YtggcdlhgmikemaaPmB
import Derived.Test.YtggcdlhgmikemaaPdv
namespace Go.Proofs.Ytggcdlhgmikemaa.plt
open Go.RowKit
open Go.Proofs.Ytggcdlhgmikemaa.oct Go.Proofs.Ytggcdlhgmikemaa.ref Go.Proofs.Ytggcdlhgmikemaa.rows Go.Proofs.Ytggcdlhgmikemaa.rowg Go.Proofs.Ytggcdlhgmikemaa.trn
open Go.Lib (byteCells)
open Go.Proofs.Ytggcdlhgmikemaa.opn (SP spenc spenc_len GoodS)

theorem app_room (s : PS) (n b : T) : (appP s n b).2.room = s.room := by
  unfold appP
  split
  · exact (askP_fs s n true).2
  · split
    · exact (askP_fs s n true).2
    · exact (askP_fs s n true).2
theorem syn_room (s : PS) (n : T) : (synP s n).2.room = s.room := by
  unfold synP
  split
  · exact (askP_fs s n true).2
  · exact (askP_fs s n true).2
theorem cut_room (s : PS) (n : T) (k : Int) : (cutP s n k).2.room = s.room := by
  unfold cutP
  split
  · exact (askP_fs s n true).2
  · split
    · exact (askP_fs s n true).2
    · exact (askP_fs s n true).2
theorem arm_room (s : PS) (k : Int) : (armP s k).room = s.room := by
  unfold armP
  split <;> rfl
theorem arm_fs (s : PS) (k : Int) : (armP s k).fs = s.fs := by
  unfold armP
  split <;> rfl
theorem arm_down (s : PS) (k : Int) : (armP s k).down = s.down := by
  unfold armP
  split <;> rfl
theorem do_room (s : PS) (x : SP) : (doP s x).2.room = s.room := by
  unfold doP
  split
  · exact app_room _ _ _
  · split
    · exact syn_room _ _
    · split
      · exact cut_room _ _ _
      · split
        · exact arm_room _ _
        · split
          · rfl
          · split <;> rfl
/-- what an Append has done -/
theorem app_ok {s : PS} (h : Wf s) {n b : T} (h0 : (appP s n b).1 = 0) : usedP (appP s n b).2.fs = usedP s.fs + b.length := by
  unfold appP at h0 ⊢
  split at h0
  · rename_i h1
    exact absurd h0 h1
  · rename_i h1
    rw [if_neg h1]
    split at h0
    · cases h0
    · rename_i h2
      rw [if_neg h2]
      show usedP (layP s.fs ⟨n, (getF s.fs n).b ++ b, (getF s.fs n).safe⟩) = _
      have h3 := used_lay h.srt ⟨n, (getF s.fs n).b ++ b, (getF s.fs n).safe⟩
      dsimp only at h3
      rw [List.length_append] at h3
      omega
theorem app_full {s : PS} {n b : T} (h0 : (appP s n b).1 = 8) : s.room < usedP s.fs + b.length := by
  unfold appP at h0
  split at h0
  · rename_i h1
    exfalso
    unfold askP at h0
    split at h0
    · cases h0
    · split at h0
      · cases h0
      · split at h0
        · cases h0
        · split at h0 <;> cases h0
  · split at h0
    · rename_i h2
      rw [(askP_fs s n true).2] at h2
      exact h2
    · cases h0
theorem app_bad {s : PS} {n b : T} (h0 : (appP s n b).1 ≠ 0) : (appP s n b).2.fs = s.fs := by
  unfold appP at h0 ⊢
  split
  · exact (askP_fs s n true).1
  · rename_i h1
    rw [if_neg h1] at h0
    split at h0
    · rename_i h2
      rw [if_pos h2]
      exact (askP_fs s n true).1
    · exact absurd rfl h0
/-- how much the first i files give when they are read -/
def sumR (s : PS) (i : Nat) : Nat := ((s.fs.take i).map fun f => (readP s f.name).2.length).sum
theorem sumR_zero (s : PS) : sumR s 0 = 0 := by unfold sumR; rw [List.take_zero]; rfl
theorem sumR_succ (s : PS) (i : Nat) (h : i < s.fs.length) : sumR s (i + 1) = sumR s i + (readP s (s.fs[i]).name).2.length := by
  unfold sumR
  rw [List.take_succ_eq_append_getElem h, List.map_append, List.sum_append]
  simp
theorem read_file {s : PS} (h : Wf s) {f : F} (hf : f ∈ s.fs) : readP s f.name = if s.down then (9, []) else (0, f.b) := by
  have h1 := h.each f hf
  have hn : nameOk f.name = true := name_ok.2 ⟨h1.2.2.1, h1.2.2.2⟩
  unfold readP askP
  rw [if_neg (by rw [hn]; simp)]
  cases hd : s.down with
  | true => simp
  | false => simp [getF_mem h.srt hf]
theorem sumR_all {s : PS} (h : Wf s) (hd : s.down = false) : sumR s s.fs.length = usedP s.fs := by
  unfold sumR usedP
  rw [List.take_length]
  congr 1
  refine List.map_congr_left fun f hf => ?_
  rw [read_file h hf, hd]
  rfl
theorem sumR_le {s : PS} (h : Wf s) : ∀ i, sumR s i ≤ usedP s.fs := by
  intro i
  unfold sumR usedP
  have h1 : ((s.fs.take i).map fun f => (readP s f.name).2.length).sum ≤ ((s.fs.take i).map fun f => f.b.length).sum := by
    have : ∀ l : List F, (∀ f ∈ l, f ∈ s.fs) → (l.map fun f => (readP s f.name).2.length).sum ≤ (l.map fun f => f.b.length).sum := by
      intro l
      induction l with
      | nil => exact fun _ => Nat.le_refl _
      | cons a t ih =>
        intro ha
        have h2 := ih fun f hf => ha f (List.mem_cons_of_mem _ hf)
        have h3 : (readP s a.name).2.length ≤ a.b.length := by
          rw [read_file h (ha a List.mem_cons_self)]
          split <;> simp
        simp only [List.map_cons, List.sum_cons]
        omega
    exact this _ fun f hf => List.mem_of_mem_take hf
  have h2 : (s.fs.map fun f => f.b.length).sum = ((s.fs.take i).map fun f => f.b.length).sum + ((s.fs.drop i).map fun f => f.b.length).sum := by
    rw [← List.sum_append, ← List.map_append, List.take_append_drop]
  omega
/-- a call of the first plate's; nothing of Z turns -/
theorem TW.runT {w wy : World} {gp gq : Nat} {sp sq s2 : PS} {Z : Nat → Prop} (h : TW w wy gp gq sp sq Z) (hw : Wf s2) {P : Program} {f : FuncId} {args : Array Value} {Q : Ending → Prop} (hc : ∀ R, (∀ k, R k → w.heap.size ≤ k) → PA wy R gp sp → Wf sp → Calls P f args wy fun e w2 => Q e ∧ To wy w2 R gp s2) :
    Calls P f args wy fun e w2 => Q e ∧ TW w w2 gp gq s2 sq Z ∧ Turn (fun k => ¬ Z k) wy w2 := by
  obtain ⟨Rp, Rq, h⟩ := h
  refine (hc Rp h.plo h.pa h.wp).mono fun e w2 ⟨hq, R', t1, t2, t3⟩ => ⟨hq, ⟨R', Rq, ⟨t1, h.qa.turn t2 fun k hk hr => h.two k hr hk, fun k hk hr => (t3 k hk).elim (fun e => h.two k e hr) fun e => (by have := h.qa.lt k hr; omega),
    fun k hk => (t3 k hk).elim (h.plo k) fun e => Nat.le_trans h.below.size e, h.qlo, fun k hk hr => (t3 k hr).elim (h.pz k hk) fun e => (by have := h.zlt k hk; omega), h.qz, fun k hk => Nat.lt_of_lt_of_le (h.zlt k hk) t2.size, hw, h.wq, t2.below h.below h.plo h.below.size⟩⟩, t2.mono fun k _ hr hz => h.pz k hz hr⟩
/-- the plate alone -/
theorem TW.st {w wy : World} {gp gq : Nat} {sp sq : PS} {Z : Nat → Prop} (h : TW w wy gp gq sp sq Z) : St w wy gp sp := by
  obtain ⟨Rp, Rq, h⟩ := h
  exact ⟨Rp, h.pa, h.plo, h.below, h.wp⟩
/-- a copy of it, behind a block of the law's -/
theorem St.copy {w wr : World} {gp : Nat} {sp : PS} (h : St w wr gp sp) (o : Obj) :
    Calls Try.prog 13 #[dptr gp] (wr.alloc o) fun e w2 => ∃ gq, e = .returned (dptr gq) ∧ TW w w2 gp gq sp sp (fun k => k = wr.heap.size) ∧ Below (wr.alloc o).heap.size (wr.alloc o) w2 := by
  obtain ⟨R, h1, h2, h3, h4⟩ := h
  have b1 := (Below.refl wr.heap.size wr).alloc (Nat.le_refl _) o
  have s1 : (wr.alloc o).heap.size = wr.heap.size + 1 := by simp
  refine (pcopy_c (h1.below b1) h4).mono ?_
  rintro e w2 ⟨g2, R2, e1, e2, e3, e4⟩
  have hs := e4.size
  have hws := h3.size
  refine ⟨g2, e1, ⟨R, R2, ⟨(h1.below b1).below e4, e2, fun k k1 k2 => by have := h1.lt k k1; have := e3 k k2; omega, h2, fun k hk => by have := e3 k hk; omega, fun k hk hr => by have := h1.lt k hr; omega, fun k hk hr => by have := e3 k hr; omega, fun k hk => by omega, h4, h4, bnext h3 (bnext b1 e4)⟩⟩, e4⟩
end Go.Proofs.Ytggcdlhgmikemaa.plt
