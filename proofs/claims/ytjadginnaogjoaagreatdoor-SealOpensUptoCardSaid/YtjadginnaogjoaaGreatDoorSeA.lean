/- The law SealBack: what is made is opened by its secret. St; the secret within the reach. -/
import Derived.Test.YtjadginnaogjoaaGreatDoorSe9
namespace Go.Proofs.YtjadginnaogjoaaGreatDoor.sea
open Go.RowKit
open Go.Proofs.YtjadginnaogjoaaGreatDoor.oct Go.Proofs.YtjadginnaogjoaaGreatDoor.ref Go.Proofs.YtjadginnaogjoaaGreatDoor.rows Go.Proofs.YtjadginnaogjoaaGreatDoor.trn
open Go.Proofs.YtjadginnaogjoaaGreatDoor.sha (Rm)
open Go.Lib (byteCells)
open Go.Proofs.YtjadginnaogjoaaGreatDoor.pl (text enc_tells)

theorem webs_web (o : T) : webs (webT o) = true := by
  unfold webs webT text
  rw [List.all_map, List.all_eq_true]
  intro d hd
  have h := (enc_tells (w := 6) (by decide) o).1 d hd
  exact (by decide +kernel : ∀ d, d < 64 → webC (sgS webS d) = true) d h
theorem ok_mk (key : T) {t : Tk} (h : Rt t) : Ok (mkS key t) t (tagT key (headT t)) := by
  refine ⟨h, ?_, tag_len _ _, webs_web _⟩
  unfold mkS
  rw [if_pos h]
theorem mk_read (key : T) {t : Tk} (h : Rt t) : readP (mkS key t) = some t := readP_iff.2 ⟨_, ok_mk key h⟩
theorem mk_out (key : T) {t : Tk} (h : Rt t) : outP (mkS key t) = .inl t ∧ outO key (mkS key t) = .inl t :=
  ⟨outP_some (mk_read key h), outO_yes (mk_read key h) (ok_mk key h).drop⟩
theorem mk_len (key : T) {t : Tk} (h : Rt t) : (mkS key t).length = (headT t).length + 16 := (ok_mk key h).len
end Go.Proofs.YtjadginnaogjoaaGreatDoor.sea
