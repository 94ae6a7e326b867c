/- What a command comes to in memory (DoA); the developers' begun. No condition beyond what slices and texts are. -/
import Derived.Test.YthagdkipipldlaaGreatDoorGrf
namespace Go.Proofs.YthagdkipipldlaaGreatDoor.gra
open Go.RowKit
open Go.Proofs.YthagdkipipldlaaGreatDoor.oct Go.Proofs.YthagdkipipldlaaGreatDoor.ref Go.Proofs.YthagdkipipldlaaGreatDoor.rows Go.Proofs.YthagdkipipldlaaGreatDoor.rowg Go.Proofs.YthagdkipipldlaaGreatDoor.mpt Go.Proofs.YthagdkipipldlaaGreatDoor.trn Go.Proofs.YthagdkipipldlaaGreatDoor.krd
open Go.Proofs.YthagdkipipldlaaGreatDoor.sha (Tabs)
open Go.Proofs.YthagdkipipldlaaGreatDoor.scp (tx senc senc_len senc_one InS ins_below ins_cell ins_one lt Lst lval lenc GoodL FitS RowA own_good infoStr clone_c key_txt skeyed)

/-- what a command comes to: the families behind it, the answer, whose scope lies apart -/
def DoA (w w' : World) (R : Nat → Prop) (g room : Nat) (r : List FT × AT) (e : Ending) : Prop :=
  ∃ R' p q, e = .returned (ansv r.2 p q) ∧ w'.ownsRow w.heap.size 9 1 (.slice p r.2.sc.length q) r.2.sc.length (cells senc r.2.sc) ∧ (∀ k, (Value.slice p r.2.sc.length q).ownBlock = some k → ¬ R' k) ∧ BA w' R' g room r.1 ∧ Turn R w w' ∧ Grown R R' w
theorem doA_same {w w' : World} {R : Nat → Prop} {g room : Nat} {l : List FT} {a : AT} (h : BA w R g room l) (hb : Below w.heap.size w w') (hs : a.sc = []) : DoA w w' R g room (l, a) (.returned (ansv a none 0)) := by
  refine ⟨R, none, 0, rfl, ?_, (fun k hk => by cases hk), h.below hb, Turn.of_below hb, Grown.refl R w⟩
  dsimp only
  rw [hs]
  exact World.ownsRow_nil _ _ _ _
/-- the family x is another one now -/
theorem doA_fam {w w' : World} {R : Nat → Prop} {g m room : Nat} {D : DataW Nat} {fl : List DF} (h : BM w R g m D fl room) (hall : ∀ x ∈ fl, RT x.f) {x y : DF} {f : FT} {E : Nat → Prop} (hx : x ∈ fl) (hi : IS w w' x y f E) (hr : RT f) (hid : f.id = x.id) (a : AT) (p : Option Addr) (q : Nat)
    (ho : w'.ownsRow w.heap.size 9 1 (.slice p a.sc.length q) a.sc.length (cells senc a.sc)) (hE : ∀ k, (Value.slice p a.sc.length q).ownBlock = some k → E k) : DoA w w' R g room (insG (fl.map DF.f) f, a) (.returned (ansv a p q)) := by
  obtain ⟨b1, b2⟩ := h.changed hx y hi.id hi.g (by rw [hi.f]; exact Or.inl hr) hi.turn hi.fam
  have _ := hid
  refine ⟨Rx R y, p, q, rfl, ho, fun k hk hk2 => ?_, ⟨m, D, insD fl y, b1, ?_, ?_⟩, b2, ?_⟩
  · rcases hk2 with h2 | h2
    · have := h.lt k h2
      have := hi.ge k (hE k hk)
      omega
    · exact hi.ex k (hE k hk) h2
  · rw [f_ins, hi.f]
  · intro z hz
    rcases (insK_mem kid).1 hz with rfl | ⟨hz, _⟩
    · rw [hi.f]; exact hr
    · exact hall z hz
  · rintro k (h2 | h2)
    · exact Or.inl h2
    · rcases hi.fam.foot k h2 with h3 | h3
      · exact Or.inl ((h.fams x hx).foot k h3)
      · exact Or.inr h3.1
/-- small facts of a right family -/
theorem rt_len {f : FT} (h : RT f) : f.id.length ≤ 32 ∧ f.cl.length ≤ 128 ∧ f.us.length ≤ 128 ∧ f.re.length ≤ 128 ∧ f.sc.length ≤ 32 ∧ f.ch.length ≤ 128 ∧ f.me.length ≤ 128 := by
  have h1 := h.id
  have h2 := h.cl
  have h3 := h.us
  have h4 := h.re
  have h5 := h.fit
  unfold idB at h1
  unfold shortB at h2 h3 h4
  unfold fitB at h5
  simp only [Bool.and_eq_true, decide_eq_true_eq] at h1 h2 h3 h4 h5
  have hsh : ∀ c m : T, shownB c m = true → c.length ≤ 128 ∧ m.length ≤ 128 := by
    intro c m hs
    unfold shownB at hs
    by_cases hc : c = []
    · rw [if_pos hc] at hs
      rw [hc, of_decide_eq_true hs]
      exact ⟨Nat.zero_le _, Nat.zero_le _⟩
    · rw [if_neg hc] at hs
      unfold pkc.mayP at hs
      by_cases hm : m = pkc.plainM
      · rw [if_pos hm] at hs
        exact ⟨(pkc.ver_len hs).2, by rw [hm]; decide⟩
      · rw [if_neg hm, Bool.and_eq_true, decide_eq_true_eq] at hs
        refine ⟨?_, by rw [hs.1]; decide⟩
        have h6 := hs.2
        unfold pkc.mayS at h6
        simp only [Bool.and_eq_true, decide_eq_true_eq] at h6
        have h7 := webT_len (unsix true c)
        rw [h6.1, h6.2] at h7
        omega
  have hcm : f.ch.length ≤ 128 ∧ f.me.length ≤ 128 := by
    by_cases h0 : f.code = 0
    · obtain ⟨⟨_, _, a, b⟩, _⟩ := code_z h.code h0
      rw [a, b]; exact ⟨Nat.zero_le _, Nat.zero_le _⟩
    · exact hsh _ _ (code_nz h.code h0).1
  exact ⟨h1.1.2, h2, h3, h4, h5.1.1, hcm.1, hcm.2⟩
/-- the words of a set are short -/
theorem fit_words {l : List T} (h : fitB l = true) : FitS l ∧ l.length ≤ 32 := by
  unfold fitB at h
  simp only [Bool.and_eq_true, decide_eq_true_eq] at h
  refine ⟨?_, h.1.1⟩
  rw [← h.1.2]
  exact scp.fit_set l
theorem fam_good {w : World} {R : Nat → Prop} {x : DF} (h : FamM w R x) (hr : RT x.f) : GoodF w x := by
  obtain ⟨l1, l2, l3, l4, l5, l6, l7⟩ := rt_len hr
  obtain ⟨s1, s2⟩ := fit_words hr.fit
  have htk : x.f.tk.length = x.tk.length := List.length_map ..
  have hfew := hr.few
  have hts : ∀ t ∈ x.tk, FitS t.sc.2.2 ∧ t.sc.2.2.length ≤ 32 := by
    intro t ht
    have h2 := List.all_eq_true.1 hr.toks t.t (List.mem_map_of_mem ht)
    unfold itB at h2
    split at h2
    · simp only [Bool.and_eq_true] at h2
      exact fit_words h2.1.2
    · split at h2
      · have h3 : t.sc.2.2 = x.f.sc := of_decide_eq_true h2
        rw [h3]
        exact ⟨s1, s2⟩
      · cases h2
  have hle : x.le.length ≤ 32 := by
    have h2 := (ris_iff x.f.le).1 hr.le
    have h3 : ∀ (l : List Int) (b : Nat), (∀ e ∈ l, (b : Int) ≤ e ∧ e ≤ 31) → l.Pairwise (· < ·) → l.length + b ≤ 32 ∨ l = [] := by
      intro l
      induction l with
      | nil => exact fun _ _ _ => Or.inr rfl
      | cons a r ih =>
        intro b h4 h5
        have h6 := List.pairwise_cons.1 h5
        have h7 := h4 a List.mem_cons_self
        rcases ih (a.toNat + 1) (fun e he => ⟨by have := h6.1 e he; omega, (h4 e (List.mem_cons_of_mem _ he)).2⟩) h6.2 with h8 | h8
        · left; rw [List.length_cons]; omega
        · left; rw [h8]; simp; omega
    rcases h3 x.f.le 0 (fun e he => by have := h2.1 e he; omega) h2.2 with h4 | h4
    · exact h4
    · show x.f.le.length ≤ 32
      rw [h4]; exact Nat.zero_le _
  obtain ⟨p8, c8, e8, g8, n8, i8⟩ := own_g ienc_len (by decide) h.own.tk
  obtain ⟨p10, c10, e10, g10, n10, i10⟩ := own_g nenc_len (by decide) h.own.le
  unfold DF.tv at e8
  unfold DF.lv at e10
  injection e8 with a1 _ a2
  injection e10 with b1 _ b2
  subst a1 a2 b1 b2
  exact ⟨by have : x.id.length ≤ 32 := l1; omega, by have : x.cl.length ≤ 128 := l2; omega, by have : x.us.length ≤ 128 := l3; omega, by have : x.re.length ≤ 128 := l4; omega, by have : x.ch.length ≤ 128 := l6; omega, by have : x.me.length ≤ 128 := l7; omega,
    own_goodR h.own.sc s1 (by have : x.sc.2.2.length ≤ 32 := s2; omega), i8, g8, n8, by omega, fun t m => own_goodR (h.own.ts t m) (hts t m).1 (by have := (hts t m).2; omega), i10, g10, n10, by omega⟩
theorem getD_in {fl : List DF} {n : T} {x : DF} (h : getD fl n = some x) : x ∈ fl ∧ x.id = n := getK_some kid h
set_option maxRecDepth 100000 in
set_option maxHeartbeats 8000000 in
theorem begun_there {w : World} {R : Nat → Prop} {g m room : Nat} {D : DataW Nat} {fl : List DF} (h : BM w R g m D fl room) (x : DF) (hidl : x.id.length ≤ 140737488351232) (o : DF) (ho : getD fl x.id = some o) :
    Calls Tryz.prog 107 #[dptr g, fval x] w fun e w' => e = .returned (.tuple #[.pointer none, .int .i64 1]) ∧ Below w.heap.size w w' := by
  have hb1 : Below w.heap.size w (w.alloc (.cells (fenc x).toArray 41)) := (Below.refl _ _).alloc (Nat.le_refl _) _
  have hB1 : Blk (w.alloc (.cells (fenc x).toArray 41)) w.heap.size 41 (fenc x) := blk_new w _ _ _ rfl
  have HO := Lib.hid (of_c (h.below hb1) x.id hidl)
  rw [ho] at HO
  obtain ⟨w1, hw1⟩ : ∃ w1, w.alloc (.cells (fenc x).toArray 41) = w1 := ⟨_, rfl⟩
  rw [hw1] at HO hB1 hb1
  have c0 : w1.cell? ⟨w.heap.size, 0, none⟩ = some (.string ⟨x.id.toArray⟩) := hB1.cell 0
  have HB := Lib.hid hb1
  unfold optr at HO
  dsimp only at HO
  obtain ⟨go, hgo⟩ : ∃ go, o.g = go := ⟨_, rfl⟩
  rw [hgo] at HO
  obtain ⟨X, hX⟩ : ∃ X, fenc x = X := ⟨_, rfl⟩
  rw [show fval x = .agg X.toArray by rw [← hX]; rfl]
  rw [hX] at hw1
  clear h ho hX hB1 hb1 hgo
  go_enter Tryz.func107, Tryz.ntmps107
  go_wp2_with fail
  refine HO.out.mono ?_
  rintro e w2 ⟨rfl, rfl⟩
  go_wp2_with fail
  go_ret2
  exact ⟨rfl, HB.out⟩
set_option maxRecDepth 100000 in
set_option maxHeartbeats 8000000 in
theorem begun_full {w : World} {R : Nat → Prop} {g m room : Nat} {D : DataW Nat} {fl : List DF} (h : BM w R g m D fl room) (x : DF) (hidl : x.id.length ≤ 140737488351232) (ho : getD fl x.id = none) (hf : room ≤ fl.length) :
    Calls Tryz.prog 107 #[dptr g, fval x] w fun e w' => e = .returned (.tuple #[.pointer none, .int .i64 7]) ∧ Below w.heap.size w w' := by
  have hb1 : Below w.heap.size w (w.alloc (.cells (fenc x).toArray 41)) := (Below.refl _ _).alloc (Nat.le_refl _) _
  have hB1 : Blk (w.alloc (.cells (fenc x).toArray 41)) w.heap.size 41 (fenc x) := blk_new w _ _ _ rfl
  have HO := Lib.hid (of_c (h.below hb1) x.id hidl)
  have HU := Lib.hid (isFull_c (h.below hb1))
  rw [ho] at HO
  rw [decide_eq_true hf] at HU
  obtain ⟨w1, hw1⟩ : ∃ w1, w.alloc (.cells (fenc x).toArray 41) = w1 := ⟨_, rfl⟩
  rw [hw1] at HO hB1 hb1 HU
  have c0 : w1.cell? ⟨w.heap.size, 0, none⟩ = some (.string ⟨x.id.toArray⟩) := hB1.cell 0
  have HB := Lib.hid hb1
  unfold optr at HO
  dsimp only at HO
  obtain ⟨X, hX⟩ : ∃ X, fenc x = X := ⟨_, rfl⟩
  rw [show fval x = .agg X.toArray by rw [← hX]; rfl]
  rw [hX] at hw1
  clear h ho hX hB1 hb1 hf
  go_enter Tryz.func107, Tryz.ntmps107
  go_wp2_with (first
    | (go_at_call 42; (with_reducible refine HO.out.mono ?_); rintro e w2 ⟨rfl, rfl⟩)
    | (go_at_call 63; (with_reducible refine HU.out.mono ?_); rintro e w2 ⟨rfl, rfl⟩))
  go_ret2
  exact ⟨rfl, HB.out⟩
set_option maxRecDepth 100000 in
set_option maxHeartbeats 8000000 in
theorem begun_new {w : World} {R : Nat → Prop} {g m room : Nat} {D : DataW Nat} {fl : List DF} (h : BM w R g m D fl room) (x : DF) (hx : GoodF w x) (hr : RW x.f) (ho : getD fl x.id = none) (hf : ¬ room ≤ fl.length) :
    Calls Tryz.prog 107 #[dptr g, fval x] w fun e w' => ∃ v, e = .returned (.tuple #[v, .int .i64 0]) ∧ ∃ w1, Below w.heap.size w w1 ∧ BM w1 R g m D fl room ∧ KeepA w1 w' R g m room fl x.f (.returned v) := by
  have hb1 : Below w.heap.size w (w.alloc (.cells (fenc x).toArray 41)) := (Below.refl _ _).alloc (Nat.le_refl _) _
  have hB1 : Blk (w.alloc (.cells (fenc x).toArray 41)) w.heap.size 41 (fenc x) := blk_new w _ _ _ rfl
  have HO := Lib.hid (of_c (h.below hb1) x.id hx.id)
  have HU := Lib.hid (isFull_c (h.below hb1))
  have HKP := Lib.hid (keep_c (h.below hb1) x (hx.below hb1) hr fun y hy => by
    show (insK kid fl y).length ≤ room
    rw [insK_len kid h.srt]
    split
    · exact h.few
    · omega)
  rw [ho] at HO
  rw [decide_eq_false hf] at HU
  have HM := Lib.hid (h.below hb1)
  obtain ⟨w1, hw1⟩ : ∃ w1, w.alloc (.cells (fenc x).toArray 41) = w1 := ⟨_, rfl⟩
  rw [hw1] at HO hB1 hb1 HU HKP HM
  have c0 : w1.cell? ⟨w.heap.size, 0, none⟩ = some (.string ⟨x.id.toArray⟩) := hB1.cell 0
  have HB := Lib.hid hb1
  have HB1 := Lib.hid hB1
  unfold optr at HO
  dsimp only at HO
  obtain ⟨X, hX⟩ : ∃ X, fenc x = X := ⟨_, rfl⟩
  have hXi : (Tryz.prog.info? 41).map (·.size) = some X.length := by rw [← hX]; exact infoFa
  rw [show fval x = .agg X.toArray by rw [← hX]; rfl] at HKP ⊢
  rw [hX] at hw1 HB1
  clear h ho hX hB1 hb1 hf hx hr
  go_enter Tryz.func107, Tryz.ntmps107
  go_wp2_with (first
    | (go_at_call 42; (with_reducible refine HO.out.mono ?_); rintro e w2 ⟨rfl, rfl⟩)
    | (go_at_call 63; (with_reducible refine HU.out.mono ?_); rintro e w2 ⟨rfl, rfl⟩)
    | (with_reducible refine wpList_load_blk rfl 41 (.tmp 3) rfl w.heap.size X 41 HB1.out rfl _ Tryz.underlying41 rfl hXi ?_)
    | (go_at_call 64; (with_reducible refine HKP.out.mono ?_); rintro e w3 hk; have HK := Lib.hid hk; obtain ⟨y, D', rfl, hk2⟩ := hk; clear hk2))
  go_ret2
  exact ⟨_, rfl, _, HB.out, HM.out, HK.out⟩
end Go.Proofs.YthagdkipipldlaaGreatDoor.gra
