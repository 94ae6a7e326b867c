/- What the cards' condition gives: the table of sixteen sums holds what the program's text lays. -/
import Derived.Test.YtpffebcaalbhjaaDoorRows
import Derived.Test.YtpffebcaalbhjaaDoorCrc2
import Derived.Lib.LaidTab
namespace Go.Proofs.YtpffebcaalbhjaaDoor.crc
theorem tab_of_laid {W : World} (h : laidMet Tryd.prog [("signet/crc.steps", Rows.laid_signet_crc_steps)] W) : Tab W := by
  have hT := Lib.tabIs_of_head (P := Tryd.prog) (name := "signet/crc.steps") (k := .u32) (zs := tab.map fun (n : Nat) => (n : Int)) (g := 0) (t := 102) (e := 66) (n := 16) (by kernel_rfl) (by kernel_rfl) Tryd.underlying102 Tryd.underlying66 (by kernel_rfl) (by kernel_rfl) (rest := []) h
  intro i hi
  have hc := hT.cell (g := 0) (by kernel_rfl) i (by simpa [tab] using hi)
  rw [hc]
  have hl : i < tab.length := by simpa [tab] using hi
  simp [List.getD, List.getElem?_map, List.getElem?_eq_getElem hl]
end Go.Proofs.YtpffebcaalbhjaaDoor.crc
