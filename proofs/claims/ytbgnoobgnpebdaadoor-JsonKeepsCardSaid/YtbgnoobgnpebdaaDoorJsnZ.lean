/- The developers' calls of json answer the plain forms: the interface JApi, asking of the library's variables what JT says; what the cards' condition gives of these. -/
import Derived.Test.YtbgnoobgnpebdaaDoorRows
import Derived.Test.YtbgnoobgnpebdaaDoorJdvH
import Derived.Test.YtbgnoobgnpebdaaDoorJsnLf
import Derived.Stop.LaidErr
namespace Go.Proofs.YtbgnoobgnpebdaaDoor.jsn
open Go.RowKit
theorem the_japi : JApi jdv.JT where
  tbelow := fun _ _ h hb => h.below hb
  text := fun n l w _ h1 h2 => jdv.text_make n l w h1 h2
  int := fun n k w _ h => jdv.int_c n k w h
  bool := fun n b w _ h => jdv.bool_c n b w h
  print := fun P C ms w ht hp hl _ _ hf => jdv.print_c P C ms w hp hl hf ht
  parse := fun l w ht hl => jdv.parse_c l w hl ht
  get := fun P C ms n w _ hp hl _ _ hf => jdv.get_c P C ms n w hp hl hf
theorem e_star : "*" ++ "errors.errorString" = "*errors.errorString" := by decide
theorem e_row (u : TypeId) (h : Tryd.prog.typeName? 3 u = some "*errors.errorString") : u = 124 :=
  typeName_ptr_named (nm := "errors.errorString") (by rw [e_star]; kernel_rfl) (by kernel_rfl) (by decide) u (by rw [e_star]; exact h)
theorem e_cells : Tryd.prog.cellsOf 126 = 1 := by kernel_rfl
theorem s_cells : Tryd.prog.cellsOf 9 = 1 := by kernel_rfl
theorem jt_of_laid {W : World} (h : laidMet Tryd.prog [("math/bits.deBruijn32tab", Rows.laid_math_bits_deBruijn32tab), ("math/bits.deBruijn64tab", Rows.laid_math_bits_deBruijn64tab), ("internal/strconv.uint64pow10", Rows.laid_internal_strconv_uint64pow10), ("strconv.ErrRange", Rows.laid_strconv_ErrRange), ("strconv.ErrSyntax", Rows.laid_strconv_ErrSyntax)] W) : jdv.JT W := by
  have h3 := h.tail.tail
  have hT := Lib.tabIs_of_head (P := Tryd.prog) (name := "internal/strconv.uint64pow10") (k := .u64) (zs := Lib.pow10Tab) (g := 0) (t := 95) (e := 81) (n := 20) (by kernel_rfl) (by kernel_rfl) Tryd.underlying95 Tryd.underlying81 (by kernel_rfl) (by kernel_rfl) (rest := [("strconv.ErrRange", Rows.laid_strconv_ErrRange), ("strconv.ErrSyntax", Rows.laid_strconv_ErrSyntax)]) h3
  obtain ⟨a1, _, h1, _⟩ := laid_sentinel h3.tail jdv.g_rng (by kernel_rfl) Tryd.underlying52 e_row Tryd.underlying124 Tryd.underlying126 rfl rfl Tryd.underlying9 e_cells s_cells
  obtain ⟨a2, _, h2, _⟩ := laid_sentinel h3.tail.tail jdv.g_syn (by kernel_rfl) Tryd.underlying52 e_row Tryd.underlying124 Tryd.underlying126 rfl rfl Tryd.underlying9 e_cells s_cells
  exact ⟨hT, ⟨_, _, h2⟩, ⟨_, _, h1⟩⟩
end Go.Proofs.YtbgnoobgnpebdaaDoor.jsn
