/- strings.Split at a blank, in plain lists; the contract of the developers' Parse. Texts of any length. -/
import Derived.Test.YtcklbbbplbboaaaDoorScq6
import Derived.Lib.CutLaws
namespace Go.Proofs.YtcklbbbplbboaaaDoor.scp
open Go.RowKit
open Go.Proofs.YtcklbbbplbboaaaDoor.oct Go.Proofs.YtcklbbbplbboaaaDoor.ref Go.Proofs.YtcklbbbplbboaaaDoor.rows Go.Proofs.YtcklbbbplbboaaaDoor.rowg

theorem ix_miss (c : UInt8) : ∀ l : List UInt8, c ∉ l → Lib.indexByte l c = -1
  | [], _ => rfl
  | b :: l, h => by
    have hb : ¬ b = c := fun e => h (by simp [e])
    have := ix_miss c l (fun e => h (by simp [e]))
    simp [Lib.indexByte, hb, this]
/-- the first one of a sign -/
theorem ix_hit (c : UInt8) : ∀ l : List UInt8, c ∈ l → ∃ a r, l = a ++ c :: r ∧ c ∉ a ∧ Lib.indexByte l c = (a.length : Int)
  | [], h => by cases h
  | b :: l, h => by
    by_cases hb : b = c
    · exact ⟨[], l, by rw [hb]; rfl, by simp, by simp [Lib.indexByte, hb]⟩
    · have hl : c ∈ l := by
        rcases List.mem_cons.1 h with e | e
        · exact absurd e.symm hb
        · exact e
      obtain ⟨a, r, h1, h2, h3⟩ := ix_hit c l hl
      refine ⟨b :: a, r, by rw [h1]; rfl, ?_, ?_⟩
      · intro e
        rcases List.mem_cons.1 e with e | e
        · exact hb e.symm
        · exact h2 e
      · unfold Lib.indexByte
        rw [if_neg (by simpa using hb), h3, if_neg (by simp)]
        simp
theorem cut_none : ∀ l : T, (32 : UInt8) ∉ l → cutP l = [l]
  | [], _ => rfl
  | c :: r, h => by
    have hc : c ≠ 32 := fun e => h (by simp [e])
    exact cutP_sign r hc r [] (cut_none r (fun e => h (by simp [e])))
theorem cut_some (a r : T) (h : (32 : UInt8) ∉ a) : cutP (a ++ 32 :: r) = a :: cutP r := by
  have h2 := cutP_app a (32 :: r) h [] (cutP r) (cutP_blank r)
  rw [h2, List.append_nil]
theorem split_cut : ∀ (n : Nat) (s : ByteArray), s.size = n → (Lib.splitB ⟨#[32]⟩ 0 (Lib.countB s ⟨#[32]⟩) s).map (·.data.toList) = cutP s.data.toList := by
  intro n
  induction n using Nat.strongRecOn with
  | _ n ih =>
    intro s hs
    have hone : Lib.indexB s ⟨#[32]⟩ = Lib.indexByte s.data.toList 32 := Lib.index_one s.data.toList 32
    by_cases hm : (32 : UInt8) ∈ s.data.toList
    · obtain ⟨a, r, h1, h2, h3⟩ := ix_hit 32 _ hm
      have hix : Lib.indexB s ⟨#[32]⟩ = (a.length : Int) := hone.trans h3
      have hdl : s.data.toList.length = n := by rw [Array.length_toList]; exact hs
      rw [h1, List.length_append, List.length_cons] at hdl
      have hrest : (s.extract (a.length + 1) s.size).data.toList = r := by
        have h4 := Lib.extract_to_end s (a.length + 1)
        rw [h4, h1]
        rw [show a ++ 32 :: r = (a ++ [32]) ++ r by simp]
        exact List.drop_left' (by simp)
      have hrs : (s.extract (a.length + 1) s.size).size < n := by
        have h5 : (s.extract (a.length + 1) s.size).size = r.length := by rw [← hrest, Array.length_toList]; rfl
        omega
      have hi := ih _ hrs _ rfl
      rw [Lib.countB_hit s ⟨#[32]⟩ a.length (by decide) hix, Nat.add_comm 1, Lib.splitB_hit _ 0 _ s a.length hix]
      rw [show (⟨#[32]⟩ : ByteArray).size = 1 from rfl, List.map_cons, hi, hrest, h1, cut_some a r h2, Nat.add_zero, Lib.extract_from_zero, h1]
      rw [List.take_left' rfl]
    · have hix : Lib.indexB s ⟨#[32]⟩ = -1 := hone.trans (ix_miss 32 _ hm)
      rw [Lib.countB_miss s _ hix, Lib.splitB_zero, cut_none _ hm]
      rfl
set_option maxRecDepth 100000 in
set_option maxHeartbeats 1000000 in
theorem sindex1 (s : ByteArray) (c : UInt8) (w : World) : Calls Tryd.prog 59 #[.string s, .string ⟨#[c]⟩] w fun e w' => e = .returned (.int .i64 (Lib.indexByte s.data.toList c)) ∧ w = w' := by
  have HI : Hid (∀ w, Calls Tryd.prog 72 #[.string s, .int .u8 (c.toNat : Int)] w fun e w' => e = .returned (.int .i64 (Lib.indexByte s.data.toList c)) ∧ w' = w) := fun w => by
    have := sh.sindexByte s (c.toNat : Int) w
    simpa using this
  have hsz : (⟨#[c]⟩ : ByteArray).size = 1 := rfl
  go_enter Tryd.func59, Tryd.ntmps59
  go_wp2_with (go_at_call 72; refine (HI.out _).mono ?_; rintro e w' ⟨rfl, rfl⟩)
  · have h : ([c] == s.toList) = true := by assumption
    go_ret
    refine ⟨ret_int ?_, rfl⟩
    have h0 := Lib.zero s ⟨#[c]⟩ (Or.inr (by simpa using h))
    have h1 := Lib.one s ⟨#[c]⟩ rfl
    rw [h0] at h1
    have h2 : (⟨#[c]⟩ : ByteArray)[0] = c := rfl
    rw [h2] at h1
    simpa using h1
  · go_ret
    exact ⟨rfl, rfl⟩
set_option maxRecDepth 100000 in
theorem index1_c (s : ByteArray) (w : World) : Calls Tryd.prog 50 #[.string s, .string ⟨#[32]⟩] w fun e w' => e = .returned (.int .i64 (Lib.indexB s ⟨#[32]⟩)) ∧ w' = w := by
  have HI := Lib.hid (sindex1 s 32 w)
  rw [show Lib.indexB s ⟨#[32]⟩ = Lib.indexByte s.data.toList 32 from Lib.index_one s.data.toList 32]
  go_enter Tryd.func50, Tryd.ntmps50
  go_wp2_with (go_at_call 59; refine HI.out.mono ?_; rintro e w' ⟨rfl, rfl⟩)
  go_ret
  exact ⟨rfl, rfl⟩
theorem cutP_few (t : T) : (cutP t).length ≤ t.length + 1 ∧ ∀ x ∈ cutP t, x.length ≤ t.length := by
  have h := cutP_len t
  have h1 : ∀ l : List T, l.length ≤ (l.map (fun x => x.length + 1)).sum := by
    intro l
    induction l with
    | nil => simp
    | cons x l ih => simp only [List.map_cons, List.sum_cons, List.length_cons]; omega
  have h2 : ∀ l : List T, ∀ x ∈ l, x.length + 1 ≤ (l.map (fun x => x.length + 1)).sum := by
    intro l
    induction l with
    | nil => intro x hx; cases hx
    | cons y l ih =>
      intro x hx
      simp only [List.map_cons, List.sum_cons]
      rcases List.mem_cons.1 hx with rfl | hx
      · omega
      · have := ih x hx; omega
  exact ⟨by have := h1 (cutP t); omega, fun x hx => by have := h2 _ x hx; omega⟩
set_option maxRecDepth 100000 in
set_option maxHeartbeats 1000000 in
/-- the pieces between blanks: a new row -/
theorem split_c (s : ByteArray) (w : World) (hs : s.size ≤ 16384) :
    Calls Tryd.prog 31 #[.string s, .string ⟨#[32]⟩] w fun e w' => ∃ p c, e = .returned (.slice p (cutP s.data.toList).length c) ∧ GoodL w' (p, c, cutP s.data.toList) ∧ Below w.heap.size w w' := by
  have hc := sh.split_core s ⟨#[32]⟩ w (by omega) (by decide) (fun x c _ => index1_c x _) (sh.scount1 s 32 w)
  have hlen := Lib.splitB_all ⟨#[32]⟩ (by decide) 0 _ s rfl
  have hcut := split_cut _ s rfl
  have hcl : (cutP s.data.toList).length = Lib.countB s ⟨#[32]⟩ + 1 := by rw [← hcut, List.length_map, hlen]
  have hcells : (Lib.splitB ⟨#[32]⟩ 0 (Lib.countB s ⟨#[32]⟩) s).map Value.string = cells senc (cutP s.data.toList) := by
    rw [← enc_cells, ← hcut, List.map_map]
    exact List.map_congr_left fun b _ => rfl
  have hdl : s.data.toList.length = s.size := by rw [Array.length_toList]; rfl
  obtain ⟨hf1, hf2⟩ := cutP_few s.data.toList
  rw [hcells, ← hcl] at hc
  obtain ⟨l, hl⟩ : ∃ l, cutP s.data.toList = l := ⟨_, rfl⟩
  rw [hl] at hc hf1 hf2 ⊢
  have HC := Lib.hid hc
  have HG : Hid (GoodL (w.alloc (.cells (cells senc l).toArray 9)) (some ⟨w.heap.size, 0, none⟩, l.length, l)) := ⟨ins_new w l _, Nat.le_refl _, (fun h => by cases h), (fun x hx => by have := hf2 x hx; omega), (show l.length ≤ 4194304 by omega)⟩
  clear hc hlen hcut hcl hcells hdl hf1 hf2 hl
  go_enter Tryd.func31, Tryd.ntmps31
  go_wp2_with fail
  refine HC.out.mono ?_
  rintro e w2 ⟨rfl, rfl⟩
  go_wp2_with fail
  go_ret
  exact ⟨_, _, rfl, HG.out, (Below.refl _ _).alloc (Nat.le_refl _) _⟩
end Go.Proofs.YtcklbbbplbboaaaDoor.scp
