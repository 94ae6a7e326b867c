/- Plain lists: a file laid in as it is; files crashed one by one. No condition. -/
import Derived.Test.YtggcdlhgmikemaaPlt2
namespace Go.Proofs.Ytggcdlhgmikemaa.plt
open Go.Proofs.Ytggcdlhgmikemaa.scp (lt lt_irrefl lt_trans lt_total lt_asymm)

theorem lay_same {fs : List F} (h : Srt fs) (hb : ∀ f ∈ fs, f.b ≠ []) (n : T) : layP fs (getF fs n) = fs := by
  have hs := split_name h n
  have hn := getF_name fs n
  unfold layP
  rw [hn]
  rcases getF_cases fs n with ⟨h1, _⟩ | ⟨h1, h2⟩
  · rw [if_pos h1] at hs
    rw [if_neg (hb _ h1)]
    exact hs.symm
  · have h3 : getF fs n ∉ fs := fun hm => h2 _ hm hn
    rw [if_neg h3] at hs
    rw [if_pos (by rw [h1])]
    exact hs.symm
theorem wf_b {s : PS} (h : Wf s) : ∀ f ∈ s.fs, f.b ≠ [] := fun f hf => (h.each f hf).1
theorem lay_eta {fs : List F} {n : T} {b : T} {s : Nat} (h1 : (getF fs n).b = b) (h2 : (getF fs n).safe = s) : (⟨n, b, s⟩ : F) = getF fs n := by
  have h := getF_name fs n
  cases hg : getF fs n
  rw [hg] at h h1 h2
  dsimp only at h h1 h2
  rw [h, h1, h2]
/-- files, the first i of which are crashed -/
def crashK (fs : List F) (ks : List Int) (i : Nat) : List F := crashF (fs.take i) ks ++ fs.drop i
theorem crashK_zero (fs : List F) (ks : List Int) : crashK fs ks 0 = fs := rfl
theorem crashK_all (fs : List F) (ks : List Int) : crashK fs ks fs.length = crashF fs ks := by
  unfold crashK
  rw [List.take_length, List.drop_length, List.append_nil]
theorem crashF_app : ∀ (a b : List F) (ks : List Int), crashF (a ++ b) ks = crashF a ks ++ crashF b (ks.drop a.length)
  | [], b, ks => rfl
  | f :: a, b, ks => by
    rw [List.cons_append, crashF, crashF, crashF_app a b, List.append_assoc, List.length_cons]
    congr 2
    cases ks <;> simp
theorem drop_headD (ks : List Int) (i : Nat) : (ks.drop i).headD 0 = (ks[i]?).getD 0 := by
  rw [List.headD_eq_head?_getD, List.head?_drop]
def crF (f : F) (k : Int) : F := ⟨f.name, f.b.take (kept f k), kept f k⟩
theorem crashF_one (f : F) (ks : List Int) : crashF [f] ks = if kept f (ks.headD 0) = 0 then [] else [crF f (ks.headD 0)] := by
  rw [crashF, crashF, List.append_nil]
  rfl
theorem srt_crash {fs : List F} (h : Srt fs) (ks : List Int) (i : Nat) : Srt (crashK fs ks i) := by
  unfold crashK Srt
  rw [List.pairwise_append]
  have h0 : Srt (fs.take i ++ fs.drop i) := by rw [List.take_append_drop]; exact h
  have h1 := List.pairwise_append.1 h0
  refine ⟨crashF_srt ks h1.1, h1.2.1, fun a ha b hb => ?_⟩
  obtain ⟨f, hf, _, h3, _⟩ := crashF_mem ha
  rw [h3]
  exact h1.2.2 f hf b hb
theorem crashK_mem {fs : List F} {ks : List Int} {i : Nat} {x : F} (hs : ∀ f ∈ fs, f.safe ≤ f.b.length ∧ f.b ≠ []) (h : x ∈ crashK fs ks i) : x.b ≠ [] ∧ x.safe ≤ x.b.length ∧ ∃ f ∈ fs, x.name = f.name := by
  unfold crashK at h
  rcases List.mem_append.1 h with h | h
  · obtain ⟨f, hf, k, h1, h2, h3, h4⟩ := crashF_mem h
    have hf := List.mem_of_mem_take hf
    have hk := kept_le (hs f hf).1 k
    refine ⟨?_, ?_, f, hf, h1⟩
    · rw [h2]
      intro e
      have := congrArg List.length e
      rw [List.length_take, List.length_nil] at this
      omega
    · rw [h2, h3, List.length_take]
      omega
  · have hf := List.mem_of_mem_drop h
    exact ⟨(hs x hf).2, (hs x hf).1, x, hf, rfl⟩
theorem crashK_at {fs : List F} {ks : List Int} {i : Nat} (hi : i < fs.length) : fs[i] ∈ crashK fs ks i := by
  unfold crashK
  rw [List.drop_eq_getElem_cons hi]
  exact List.mem_append_right _ List.mem_cons_self
/-- one more -/
theorem crashK_succ {fs : List F} (h : Srt fs) (ks : List Int) {i : Nat} (hi : i < fs.length) (hb : (fs[i]).b ≠ []) : layP (crashK fs ks i) (crF fs[i] ((ks[i]?).getD 0)) = crashK fs ks (i + 1) := by
  have h0 : Srt (fs.take i ++ fs[i] :: fs.drop (i + 1)) := by rw [← List.drop_eq_getElem_cons hi, List.take_append_drop]; exact h
  have h1 := List.pairwise_append.1 h0
  have h2 := List.pairwise_cons.1 h1.2.1
  have hA : ∀ a ∈ crashF (fs.take i) ks, lt a.name (fs[i]).name = true := fun a ha => by
    obtain ⟨f, hf, _, h3, _⟩ := crashF_mem ha
    rw [h3]
    exact h1.2.2 f hf _ List.mem_cons_self
  have hB : ∀ b ∈ fs.drop (i + 1), lt (fs[i]).name b.name = true := h2.1
  have e1 : (crashF (fs.take i) ks).filter (fun x => lt x.name (fs[i]).name) = crashF (fs.take i) ks := List.filter_eq_self.2 hA
  have e2 : (crashF (fs.take i) ks).filter (fun x => lt (fs[i]).name x.name) = [] := List.filter_eq_nil_iff.2 fun a ha => by rw [lt_asymm (hA a ha)]; simp
  have e3 : (fs.drop (i + 1)).filter (fun x => lt x.name (fs[i]).name) = [] := List.filter_eq_nil_iff.2 fun a ha => by rw [lt_asymm (hB a ha)]; simp
  have e4 : (fs.drop (i + 1)).filter (fun x => lt (fs[i]).name x.name) = fs.drop (i + 1) := List.filter_eq_self.2 hB
  unfold layP crashK
  rw [show (crF fs[i] ((ks[i]?).getD 0)).name = (fs[i]).name from rfl, List.drop_eq_getElem_cons hi, List.filter_append, List.filter_append, e1, e2,
    List.filter_cons_of_neg (by rw [lt_irrefl]; simp), List.filter_cons_of_neg (by rw [lt_irrefl]; simp), e3, e4, List.append_nil, List.nil_append, List.take_succ_eq_append_getElem hi, crashF_app, crashF_one]
  have hl : (fs.take i).length = i := by rw [List.length_take]; omega
  rw [hl, drop_headD]
  congr 2
  by_cases hk : kept fs[i] ((ks[i]?).getD 0) = 0
  · rw [if_pos hk, if_pos (by unfold crF; rw [hk]; rfl)]
  · rw [if_neg hk, if_neg]
    unfold crF
    intro e
    have := congrArg List.length e
    have h5 : (fs[i]).b.length ≠ 0 := fun h6 => hb (List.length_eq_zero_iff.1 h6)
    rw [List.length_take, List.length_nil] at this
    omega
end Go.Proofs.Ytggcdlhgmikemaa.plt
