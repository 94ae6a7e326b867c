/- The law SealTags: by a tag that isn't the head's nothing is opened. St; the secret and the tag within the reach. -/
import Derived.Test.YtjadginnaogjoaaGreatDoorSeB
namespace Go.Proofs.YtjadginnaogjoaaGreatDoor.sea
open Go.RowKit
open Go.Proofs.YtjadginnaogjoaaGreatDoor.oct Go.Proofs.YtjadginnaogjoaaGreatDoor.ref Go.Proofs.YtjadginnaogjoaaGreatDoor.rows Go.Proofs.YtjadginnaogjoaaGreatDoor.trn
open Go.Proofs.YtjadginnaogjoaaGreatDoor.sha (Rm)
open Go.Proofs.YtjadginnaogjoaaGreatDoor.jsn (intD)
open Go.Lib (byteCells)

theorem head_pts {t : Tk} (h : Rt t) : ptsA 0 (headT t) = [1, 2 + t.f.length, 3 + t.f.length + (intD t.n).length] := by
  have h1 := (ok_mk [] h).pts
  rw [(ok_mk [] h).e, ptsA_app, ptsA_no _ (tagT [] (headT t)) (webs_no46 (webs_web _)), List.append_nil] at h1
  exact h1
theorem headT_len2 (t : Tk) : (headT t).length = 4 + t.f.length + (intD t.n).length := by
  unfold headT
  simp only [List.length_cons, List.length_append, List.length_nil]
  omega
theorem ok_head {t u : Tk} {g g' : T} (h : Rt t) (hk : Ok (headT t ++ g) u g') : headT u = headT t ∧ g' = g := by
  have h1 := hk.pts
  rw [ptsA_app, head_pts h] at h1
  simp only [List.cons_append, List.nil_append, List.cons.injEq, true_and] at h1
  obtain ⟨h2, h3, _⟩ := h1
  have hl : (headT u).length = (headT t).length := by rw [headT_len2, headT_len2]; omega
  have he := hk.e
  obtain ⟨a1, a2⟩ := List.append_inj he hl.symm
  exact ⟨a1.symm, a2.symm⟩
theorem tags_pure {key : T} {t : Tk} {g : T} (h : Rt t) (hg : ¬ g = tagT key (headT t)) : outO key (headT t ++ g) = .inr 3 ∨ (outO key (headT t ++ g) = .inr 5 ∧ g.length = 16) := by
  cases hr : readP (headT t ++ g) with
  | none => exact Or.inl (outO_none hr)
  | some u =>
    obtain ⟨g', hk⟩ := readP_iff.1 hr
    obtain ⟨a1, a2⟩ := ok_head h hk
    have hl := hk.l
    have hd := hk.drop
    rw [a2] at hl hd
    refine Or.inr ⟨outO_no hr ?_, hl⟩
    rw [hd, a1]
    exact hg
end Go.Proofs.YtjadginnaogjoaaGreatDoor.sea
