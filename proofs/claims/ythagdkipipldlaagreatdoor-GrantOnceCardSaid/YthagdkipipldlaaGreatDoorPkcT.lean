/- What the cards' condition gives of sha's package variables (the same as XDevB's, without what that text needs besides). -/
import Derived.Test.YthagdkipipldlaaGreatDoorDevA0
import Derived.Lib.LaidTab
import Derived.LaidSub
import Derived.Test.YthagdkipipldlaaGreatDoorRows
namespace Go.Proofs.YthagdkipipldlaaGreatDoor.pkc
open Go.RowKit
open Go.Proofs.YthagdkipipldlaaGreatDoor.oct Go.Proofs.YthagdkipipldlaaGreatDoor.ref Go.Proofs.YthagdkipipldlaaGreatDoor.rows Go.Proofs.YthagdkipipldlaaGreatDoor.sha

theorem tabs_of_laid {W : World} (h : laidMet Tryz.prog [("signet/sha.constants", Rows.laid_signet_sha_constants), ("signet/sha.beginning", Rows.laid_signet_sha_beginning)] W) : Tabs W := by
  have hK := Lib.tabIs_of_head (P := Tryz.prog) (name := "signet/sha.constants") (k := .u32) (zs := kt.map fun (n : Nat) => (n : Int)) (g := 1) (t := 199) (e := 153) (n := 64) (by kernel_rfl) (by kernel_rfl) Tryz.underlying199 Tryz.underlying153 (by kernel_rfl) (by kernel_rfl) (rest := [("signet/sha.beginning", Rows.laid_signet_sha_beginning)]) h
  have h2 := laidMet.filter (fun x => x.1 == "signet/sha.beginning") h
  rw [show List.filter (fun x : String × DataW Unit => x.1 == "signet/sha.beginning") [("signet/sha.constants", Rows.laid_signet_sha_constants), ("signet/sha.beginning", Rows.laid_signet_sha_beginning)] = [("signet/sha.beginning", Rows.laid_signet_sha_beginning)] from by simp] at h2
  have hH := Lib.tabIs_of_head (P := Tryz.prog) (name := "signet/sha.beginning") (k := .u32) (zs := st0.list.map fun (n : Nat) => (n : Int)) (g := 2) (t := 177) (e := 153) (n := 8) (by kernel_rfl) (by kernel_rfl) Tryz.underlying177 Tryz.underlying153 (by kernel_rfl) (by kernel_rfl) (rest := []) h2
  refine ⟨fun i hi => ?_, fun i hi => ?_⟩
  · have hc := hK.cell (g := 1) (by kernel_rfl) i (by rw [List.length_map, kt_len]; exact hi)
    rw [hc]
    have hl : i < kt.length := by rw [kt_len]; exact hi
    simp [List.getD, List.getElem?_map, List.getElem?_eq_getElem hl]
  · have hc := hH.cell (g := 2) (by kernel_rfl) i (by rw [List.length_map]; exact hi)
    rw [hc]
    have hl : i < st0.list.length := hi
    simp [St.at, List.getD, List.getElem?_map, List.getElem?_eq_getElem hl]
end Go.Proofs.YthagdkipipldlaaGreatDoor.pkc
