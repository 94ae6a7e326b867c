/- Opening an api.Token that is handed in to a law; what the cards' condition gives of the package variables (St); the laws in the cards' shapes. -/
import Derived.Test.YtjadginnaogjoaaGreatDoorOpen
import Derived.Test.YtjadginnaogjoaaGreatDoorSeD
import Derived.Test.YtjadginnaogjoaaGreatDoorPkcT
import Derived.Test.YtjadginnaogjoaaGreatDoorRows
import Derived.Deep.Slices
import Derived.Lib.LaidU8
import Derived.Stop.LaidErr
namespace Go.Proofs.YtjadginnaogjoaaGreatDoor.opn
set_option maxRecDepth 100000
open Go.ChangeShapes Go.WideShapes Go.ChangeAt Go.RowKit
open Go.Proofs.YtjadginnaogjoaaGreatDoor.oct (In8)
open Go.Proofs.YtjadginnaogjoaaGreatDoor.sea (Tk tok txt St)

def tkenc (x : Tk) : List Value := [.int .i64 x.k, .string ⟨x.f.toArray⟩, .int .i64 x.n]
theorem open_token {H : Type} {enc : TypeId × Value → H} {W : World} (fuel : Nat) (cs : List Value) (d : DataW H) (p : List MemPlace)
    (h : DataW.trod enc Tryz.prog W 0 (fun _ => true) true fuel 24 cs = some (d, p)) : ∃ m, cs = tkenc m := by
  obtain ⟨xs, n, _, hx, hcl, hxl, hf⟩ := DataW.trod_struct Tryz.underlying24 h
  have h5 : Tryz.prog.cellsOf 24 = 3 := by kernel_rfl
  have hci : Tryz.prog.cellsOf 3 = 1 := by kernel_rfl
  have hcs : Tryz.prog.cellsOf 9 = 1 := by kernel_rfl
  rw [h5] at hcl
  match xs, hxl with
  | [y0, y1, y2], _ =>
    match cs, hcl with
    | [c0, c1, c2], _ =>
      have f0 := hf 0 _ rfl
      have f1 := hf 1 _ rfl
      have f2 := hf 2 _ rfl
      have g0 : DataW.trod enc Tryz.prog W 0 (fun _ => true) true n 3 [c0] = some y0 := by
        have this : DataW.trod enc Tryz.prog W 0 (fun _ => true) true n 3 (List.take (Tryz.prog.cellsOf 3) (List.drop 0 [c0, c1, c2])) = some y0 := f0
        rw [hci] at this
        exact this
      have g1 : DataW.trod enc Tryz.prog W 0 (fun _ => true) true n 9 [c1] = some y1 := by
        have this : DataW.trod enc Tryz.prog W 0 (fun _ => true) true n 9 (List.take (Tryz.prog.cellsOf 9) (List.drop 1 [c0, c1, c2])) = some y1 := f1
        rw [hcs] at this
        exact this
      have g2 : DataW.trod enc Tryz.prog W 0 (fun _ => true) true n 3 [c2] = some y2 := by
        have this : DataW.trod enc Tryz.prog W 0 (fun _ => true) true n 3 (List.take (Tryz.prog.cellsOf 3) (List.drop 2 [c0, c1, c2])) = some y2 := f2
        rw [hci] at this
        exact this
      obtain ⟨k0, e0, r0, w0⟩ := DataW.trod_int Tryz.underlying3 g0
      obtain ⟨s1, e1, r1, w1⟩ := DataW.trod_string Tryz.underlying9 g1
      obtain ⟨k2, e2, r2, w2⟩ := DataW.trod_int Tryz.underlying3 g2
      cases e0
      cases e1
      cases e2
      have e1 : s1 = ⟨s1.data.toList.toArray⟩ := by rw [Array.toArray_toList]
      exact ⟨⟨k0, s1.data.toList, k2⟩, by unfold tkenc; rw [← e1]⟩
/-- a token by value -/
theorem open_tokv {H : Type} {enc : TypeId × Value → H} {W : World} {r : Reach} {b0 : Nat} {v : Value} {d0 : DataW H} {p : List MemPlace}
    (hval : Value.okWide Tryz.prog W r b0 24 v) (h0 : DataW.Trod enc Tryz.prog W 0 (fun _ => true) true 24 v d0 p) :
    ∃ x : Tk, v = tok x := by
  simp only [Value.okWide, Tryz.underlying24] at hval
  obtain ⟨csv, rfl, hsz, _⟩ := hval
  obtain ⟨fuel, hf0⟩ := h0
  obtain ⟨m, e1⟩ := open_token fuel csv.toList d0 p (by simpa [Value.cells] using hf0)
  refine ⟨m, ?_⟩
  have e2 : csv = (tkenc m).toArray := by rw [← e1]
  rw [e2]
  rfl
theorem lit_txt {fuel : Nat} {v : Value} {W : World} {l : List UInt8} {q : List MemPlace} (h : DataW.trod (fun _ => ()) Tryz.prog W 0 (fun _ => true) false fuel 9 [v] = some (.lit (.string l), q)) : v = .string ⟨l.toArray⟩ := by
  obtain ⟨s, e, r, _⟩ := DataW.trod_string Tryz.underlying9 h
  cases e
  simp only [Prod.mk.injEq, DataW.lit.injEq, Lit.string.injEq] at r
  rw [r.1]
theorem letters_of {W : World} (h : Lib.VarReads Tryz.prog W "signet/seal.letters" Rows.laid_signet_seal_letters) : ∃ b o cp, sea.Lt W b o cp := by
  obtain ⟨g, t, cs, fuel, p, hg, hty, hv, hd⟩ := h
  have hg2 : Tryz.prog.globalNamed "signet/seal.letters" = some 0 := by kernel_rfl
  obtain rfl := Option.some.inj (hg2.symm.trans hg)
  obtain rfl : 64 = t := Option.some.inj ((show (Tryz.prog.globals[0]?).map (·.type) = some 64 by kernel_rfl).symm.trans hty)
  have hca : Tryz.prog.cellsOf 9 = 1 := by kernel_rfl
  rcases Deep.open_slice1 Tryz.underlying64 hca hd with ⟨_, hx⟩ | ⟨a, len, cap, m, n, V, D, Pl, hcs, _, hl, hm, hmm, hx, hV⟩
  · exact absurd (congrArg Prod.fst hx) (by unfold Rows.laid_signet_seal_letters; intro h; cases h)
  · simp only [if_true] at hmm
    subst hmm
    have h1 := congrArg Prod.fst hx
    unfold Rows.laid_signet_seal_letters at h1
    simp only [DataW.slice.injEq] at h1
    obtain ⟨h2, h3⟩ := h1
    have hlen : len = 3 := by
      have := congrArg List.length h2
      simpa using this.symm
    subst hlen
    simp only [List.range_succ, List.range_zero, List.nil_append, List.map_cons, List.map_nil, List.cons_append, List.cons.injEq, and_true] at h2
    obtain ⟨d0, d1, d2⟩ := h2
    obtain ⟨v0, t0⟩ := hV 0 (by omega)
    obtain ⟨v1, t1⟩ := hV 1 (by omega)
    obtain ⟨v2, t2⟩ := hV 2 (by omega)
    rw [← d0] at t0
    rw [← d1] at t1
    rw [← d2] at t2
    have e0 := lit_txt t0
    have e1 := lit_txt t1
    have e2 := lit_txt t2
    rw [e0] at v0
    rw [e1] at v1
    rw [e2] at v2
    obtain ⟨b, off, spot⟩ := a
    have hspot : spot = none := by simpa [Addr.add] using World.cell?_spot v0
    subst hspot
    have hc0 : W.cell? ⟨0, 0, none⟩ = some (.slice (some ⟨b, off, none⟩) 3 m) := by
      have h4 := World.var?_cell hg2 hv 0
      rw [h4]
      have : cs[0]? = cs.toList[0]? := by simp
      rw [this, hcs]
      rfl
    exact ⟨b, off, m, hc0, by simpa [rowg.add_none] using v0, by simpa [rowg.add_none] using v1, by simpa [rowg.add_none] using v2⟩
theorem e_star : "*" ++ "errors.errorString" = "*errors.errorString" := by decide
theorem e_row (u : TypeId) (h : Tryz.prog.typeName? 3 u = some "*errors.errorString") : u = 135 :=
  typeName_ptr_named (nm := "errors.errorString") (by rw [e_star]; kernel_rfl) (by kernel_rfl) (by decide) u (by rw [e_star]; exact h)
theorem e_cells : Tryz.prog.cellsOf 137 = 1 := by kernel_rfl
theorem s_cells : Tryz.prog.cellsOf 9 = 1 := by kernel_rfl
theorem st_of_laid {W : World} (h : laidMet Tryz.prog [("math/bits.deBruijn32tab", Rows.laid_math_bits_deBruijn32tab), ("math/bits.deBruijn64tab", Rows.laid_math_bits_deBruijn64tab), ("internal/strconv.uint64pow10", Rows.laid_internal_strconv_uint64pow10), ("signet/sha.constants", Rows.laid_signet_sha_constants), ("signet/sha.beginning", Rows.laid_signet_sha_beginning), ("strconv.ErrRange", Rows.laid_strconv_ErrRange), ("strconv.ErrSyntax", Rows.laid_strconv_ErrSyntax), ("signet/seal.letters", Rows.laid_signet_seal_letters)] W) : St W := by
  have h3 := h.tail.tail
  have hT := Lib.tabIs_of_head (P := Tryz.prog) (name := "internal/strconv.uint64pow10") (k := .u64) (zs := Lib.pow10Tab) (g := 6) (t := 139) (e := 97) (n := 20) (by kernel_rfl) (by kernel_rfl) Tryz.underlying139 Tryz.underlying97 (by kernel_rfl) (by kernel_rfl) (rest := [("signet/sha.constants", Rows.laid_signet_sha_constants), ("signet/sha.beginning", Rows.laid_signet_sha_beginning), ("strconv.ErrRange", Rows.laid_strconv_ErrRange), ("strconv.ErrSyntax", Rows.laid_strconv_ErrSyntax), ("signet/seal.letters", Rows.laid_signet_seal_letters)]) h3
  have h4 := laidMet.filter (fun x => x.1 == "signet/sha.constants" || x.1 == "signet/sha.beginning") h
  rw [show List.filter (fun x : String × DataW Unit => x.1 == "signet/sha.constants" || x.1 == "signet/sha.beginning") [("math/bits.deBruijn32tab", Rows.laid_math_bits_deBruijn32tab), ("math/bits.deBruijn64tab", Rows.laid_math_bits_deBruijn64tab), ("internal/strconv.uint64pow10", Rows.laid_internal_strconv_uint64pow10), ("signet/sha.constants", Rows.laid_signet_sha_constants), ("signet/sha.beginning", Rows.laid_signet_sha_beginning), ("strconv.ErrRange", Rows.laid_strconv_ErrRange), ("strconv.ErrSyntax", Rows.laid_strconv_ErrSyntax), ("signet/seal.letters", Rows.laid_signet_seal_letters)] = [("signet/sha.constants", Rows.laid_signet_sha_constants), ("signet/sha.beginning", Rows.laid_signet_sha_beginning)] from by simp] at h4
  obtain ⟨a1, _, h1, _⟩ := laid_sentinel h3.tail.tail.tail sea.g_rng (by kernel_rfl) Tryz.underlying66 e_row Tryz.underlying135 Tryz.underlying137 rfl rfl Tryz.underlying9 e_cells s_cells
  obtain ⟨a2, _, h2, _⟩ := laid_sentinel h3.tail.tail.tail.tail sea.g_syn (by kernel_rfl) Tryz.underlying66 e_row Tryz.underlying135 Tryz.underlying137 rfl rfl Tryz.underlying9 e_cells s_cells
  exact ⟨letters_of (Lib.laidMet.reads h (by simp)), pkc.tabs_of_laid h4, hT, ⟨_, _, h2⟩, ⟨_, _, h1⟩⟩
end Go.Proofs.YtjadginnaogjoaaGreatDoor.opn
namespace Go.Proofs.YtjadginnaogjoaaGreatDoor.sea
open Go.RowKit
open Go.Proofs.YtjadginnaogjoaaGreatDoor.oct (In8)
open Go.Proofs.YtjadginnaogjoaaGreatDoor.sha (Rm)
theorem txt_of (s : ByteArray) : txt s.data.toList = .string s := by
  unfold txt
  congr 1
theorem sz_of (s : ByteArray) : s.data.toList.length = s.size := by rw [Array.length_toList]; rfl
end Go.Proofs.YtjadginnaogjoaaGreatDoor.sea
