/- A ring in memory (Rg); what the library's and sha's package variables hold (RT); one point more (NS). No condition beyond these. -/
import Derived.Test.YtkababeeikhifaaDoorRi4
import Derived.Test.YtkababeeikhifaaDoorShRni
import Derived.Lib.LaidTab
import Derived.Lib.ItoaNum
namespace Go.Proofs.YtkababeeikhifaaDoor.rng
open Go.RowKit
open Go.Proofs.YtkababeeikhifaaDoor.oct Go.Proofs.YtkababeeikhifaaDoor.ref Go.Proofs.YtkababeeikhifaaDoor.rows Go.Proofs.YtkababeeikhifaaDoor.rowg Go.Proofs.YtkababeeikhifaaDoor.trn
open Go.Proofs.YtkababeeikhifaaDoor.scp (tx senc senc_len InS ins_below ins_cell)
open Go.Proofs.YtkababeeikhifaaDoor.sha (Tabs)

theorem g_tab : Tryd.prog.globalNamed "internal/strconv.uint64pow10" = some 1 := by kernel_rfl
theorem var_block {w : World} {n : String} {g : Nat} {cs : Array Value} (hg : Tryd.prog.globalNamed n = some g) (h : w.var? Tryd.prog n = some cs) : ∃ t fz, w.heap[g]? = some (.cells cs t fz) := by
  unfold World.var? at h
  rw [hg, Option.bind_some] at h
  split at h
  · rename_i cs' t fz hh
    cases h
    exact ⟨t, fz, hh⟩
  · cases h
theorem var_of {w : World} {n : String} {g : Nat} {cs : Array Value} {t : TypeId} {fz : Nat × Nat} (hg : Tryd.prog.globalNamed n = some g) (h : w.heap[g]? = some (.cells cs t fz)) : w.var? Tryd.prog n = some cs := by
  unfold World.var?
  rw [hg, Option.bind_some, h]
theorem var_below {w w' : World} {n : String} {g : Nat} {cs : Array Value} (hg : Tryd.prog.globalNamed n = some g) (h : w.var? Tryd.prog n = some cs) (hk : Below w.heap.size w w') : w'.var? Tryd.prog n = some cs := by
  obtain ⟨t, fz, hh⟩ := var_block hg h
  have hlt : g < w.heap.size := (Array.getElem?_eq_some_iff.1 hh).1
  exact var_of hg ((hk.block g hlt).trans hh)
/-- the package variables hold what the program's text lays -/
structure RT (w : World) : Prop where
  dig : Tabs w
  tab : Lib.TabIs Tryd.prog w "internal/strconv.uint64pow10" .u64 Lib.pow10Tab
theorem RT.below {w w' : World} (h : RT w) (hk : Below w.heap.size w w') : RT w' := ⟨h.dig.below hk, var_below g_tab h.tab hk⟩
theorem decD (n : Nat) : Lib.decDigits n = dec n := by
  induction n using Nat.strongRecOn with
  | ind n ih =>
    rw [Lib.decDigits, dec, jsn.natD]
    by_cases h : n < 10
    · rw [dif_pos h, if_pos h]
    · rw [dif_neg h, if_neg h, ih _ (by omega)]
theorem itoaD (n : Nat) : Lib.itoa (n : Int) = dec n := by
  unfold Lib.itoa
  rw [if_neg (by omega), decD, show (n : Int).toNat = n by omega]
theorem itoa_c (n : Nat) (hn : n < 1000) (w : World) (ht : RT w) : Calls Tryd.prog 26 #[.int .i64 (n : Int)] w fun e w' => e = .returned (tx (dec n)) ∧ Below w.heap.size w w' := by
  have h := sh.itoa_c (n : Int) (by omega) (by omega) w ht.tab
  rw [itoaD] at h
  exact h
theorem lbl_tx (nm : T) (k : Nat) : Value.string ((⟨nm.toArray⟩ : ByteArray) ++ (⟨#[35]⟩ : ByteArray) ++ (⟨(dec k).toArray⟩ : ByteArray)) = tx (lbl nm k) := by
  have e : (⟨#[35]⟩ : ByteArray) = ⟨([35] : T).toArray⟩ := rfl
  rw [e, ba_append, ba_append, List.append_assoc]
  rfl
theorem lbl_len {nm : T} (h : nm.length ≤ 64) {k : Nat} (hk : k < 1000) : (lbl nm k).length ≤ 1000 := by
  unfold lbl
  have := jsn.natD_len 2 k (by omega)
  rw [List.length_append, List.length_cons]
  show nm.length + ((jsn.natD k).length + 1) ≤ 1000
  omega
/-- a ring -/
structure RgB (w : World) (F : Nat → Prop) (g n : Nat) (names : List T) (vn vp : Value) : Prop where
  blk : Blk w g 54 [.int .i64 (n : Int), vn, vp]
  nrow : w.ownsRow 0 9 1 vn names.length (cells senc names)
  prow : w.ownsRow 0 37 2 vp (names.length * n) (cells pnc (rpts n names))
  fg : F g
  fn : ∀ k, vn.ownBlock = some k → F k
  fp : ∀ k, vp.ownBlock = some k → F k
  good : Good names
  n1 : 1 ≤ n
  n64 : n ≤ 64
def Rg (w : World) (F : Nat → Prop) (g n : Nat) (names : List T) : Prop := ∃ vn vp, RgB w F g n names vn vp
theorem RgB.turn {S F F2 : Nat → Prop} {w w' : World} {g n : Nat} {names : List T} {vn vp : Value} (h : RgB w F g n names vn vp) (ht : Turn S w w') (hd : ∀ k, F k → ¬ S k) (hF : ∀ k, F k → F2 k) : RgB w' F2 g n names vn vp :=
  ⟨blk_turn h.blk ht (hd g h.fg), own_turn h.nrow ht fun k hk => hd k (h.fn k hk), own_turn h.prow ht fun k hk => hd k (h.fp k hk), hF g h.fg, fun k hk => hF k (h.fn k hk), fun k hk => hF k (h.fp k hk), h.good, h.n1, h.n64⟩
theorem Rg.turn {S F F2 : Nat → Prop} {w w' : World} {g n : Nat} {names : List T} (h : Rg w F g n names) (ht : Turn S w w') (hd : ∀ k, F k → ¬ S k) (hF : ∀ k, F k → F2 k) : Rg w' F2 g n names := by
  obtain ⟨vn, vp, h⟩ := h
  exact ⟨vn, vp, h.turn ht hd hF⟩
theorem Rg.below {F : Nat → Prop} {w w' : World} {g n : Nat} {names : List T} (h : Rg w F g n names) (hb : Below w.heap.size w w') : Rg w' F g n names := h.turn (S := fun _ => False) (Turn.of_below hb) (fun _ _ => id) fun _ => id
theorem Rg.mono {F F2 : Nat → Prop} {w : World} {g n : Nat} {names : List T} (h : Rg w F g n names) (hF : ∀ k, F k → F2 k) : Rg w F2 g n names := h.turn (S := fun _ => False) (Turn.refl _ w) (fun _ _ => id) hF
theorem Rg.good {F : Nat → Prop} {w : World} {g n : Nat} {names : List T} (h : Rg w F g n names) : Good names ∧ 1 ≤ n ∧ n ≤ 64 := by
  obtain ⟨_, _, h⟩ := h
  exact ⟨h.good, h.n1, h.n64⟩
/-- a ring on its way: the points laid so far -/
structure NS (w2 : World) (n : Nat) (vn : Value) (l : List Pn) (wx : World) : Prop where
  bel : Below w2.heap.size w2 wx
  row : ∃ p c, Blk wx w2.heap.size 54 [.int .i64 (n : Int), vn, .slice p l.length c] ∧ wx.ownsRow (w2.heap.size + 1) 37 2 (.slice p l.length c) l.length (cells pnc l)
theorem ns_add {w2 wx w3 w4 : World} {n : Nat} {vn : Value} {l : List Pn} {x : Pn} {p : Option Addr} {c g2 cap : Nat} {o : Obj} (hbel : Below w2.heap.size w2 wx) (hB : Blk wx w2.heap.size 54 [.int .i64 (n : Int), vn, .slice p l.length c])
    (hO : wx.ownsRow (w2.heap.size + 1) 37 2 (.slice p l.length c) l.length (cells pnc l)) (h3 : Below wx.heap.size wx w3) (hg : (w3.alloc o).grownBy w4 (Value.slice p l.length c).ownBlock)
    (hO4 : w4.ownsRow (w2.heap.size + 1) 37 2 (.slice (some ⟨g2, 0, none⟩) (l.length + 1) cap) (l.length + 1) (cells pnc l ++ pnc x)) : NS w2 n vn (l ++ [x]) (w4.setCell ⟨w2.heap.size, 2, none⟩ (.slice (some ⟨g2, 0, none⟩) (l.length + 1) cap)) := by
  have hb3 : Below wx.heap.size wx (w3.alloc o) := h3.trans ((Below.refl w3.heap.size w3).alloc (Nat.le_refl _) o |>.mono h3.size)
  have hB3 := hB.below hb3
  have hne : ∀ k, (Value.slice p l.length c).ownBlock = some k → w2.heap.size + 1 ≤ k := fun k hk => (hO.lt k hk).1
  have hB4 : Blk w4 w2.heap.size 54 [.int .i64 (n : Int), vn, .slice p l.length c] := (hg.block _ hB3.lt (fun e => by have := hne _ e.symm; omega)).trans hB3
  have hs := hbel.size
  have hs3 := hb3.size
  have hbel4 : Below w2.heap.size w2 w4 := (hbel.trans (hb3.mono hs)).grown hg (by omega) fun k hk => by have := hne k hk; omega
  refine ⟨hbel4.setCell (p := ⟨w2.heap.size, 2, none⟩) (Nat.le_refl _) _, some ⟨g2, 0, none⟩, cap, ?_, ?_⟩
  · rw [List.length_append]
    exact hB4.set 2 _
  · rw [List.length_append, cells_append, cells_one]
    refine own_turn hO4 (Turn.set (S := fun k => k = w2.heap.size) _ _ _ _ rfl) fun k hk e => ?_
    have := (hO4.lt k hk).1
    omega
theorem infoPt : (Tryd.prog.info? 37).map (fun i => (i.zero, i.size, i.bytes)) = some (some (.agg #[.int .u64 0, .int .i64 0]), 2, 16) := by kernel_rfl
theorem p_new (W : World) (x : Pn) (g : Nat) (hg : g = W.heap.size) : ∀ j u, (pnc x)[j]? = some u → (W.alloc (.cells #[.int .u64 (x.a : Int), .int .i64 (x.r : Int)] 37)).cell? ((⟨g, 0, none⟩ : Addr).add j) = some u :=
  new_cellsG W g 37 hg (pnc x)
end Go.Proofs.YtkababeeikhifaaDoor.rng
