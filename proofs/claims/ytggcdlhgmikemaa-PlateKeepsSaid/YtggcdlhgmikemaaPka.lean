/- A plate of the program that has come to be since a world (St): New and each call; the laws' fixed question. Names of at most 2^47 bytes. -/
import Derived.Test.YtggcdlhgmikemaaPds
import Derived.Lib.SlBytesConst
namespace Go.Proofs.Ytggcdlhgmikemaa.plt
open Go.RowKit
open Go.Proofs.Ytggcdlhgmikemaa.oct Go.Proofs.Ytggcdlhgmikemaa.ref Go.Proofs.Ytggcdlhgmikemaa.rows Go.Proofs.Ytggcdlhgmikemaa.rowg Go.Proofs.Ytggcdlhgmikemaa.mpt Go.Proofs.Ytggcdlhgmikemaa.cln Go.Proofs.Ytggcdlhgmikemaa.trn
open Go.Lib (byteCells)

/-- a plate that is new -/
def newP (n : Nat) : PS := ⟨[], n, none, false⟩
theorem wf_new {n : Nat} (h : n ≤ 268435456) : Wf (newP n) := ⟨List.Pairwise.nil, (fun _ h => by cases h), Nat.zero_le _, h⟩
theorem newpl_pa {w w' : World} {n : Nat} {e : Ending} (h : NewPl w w' n e) : ∃ g R, e = .returned (.tuple #[dptr g, .int .i64 0]) ∧ PA w' R g (newP n) ∧ (∀ k, R k → w.heap.size ≤ k) ∧ Below w.heap.size w w' := by
  obtain ⟨rfl, rfl⟩ := h
  have hb1 := (Below.refl w.heap.size w).alloc (Nat.le_refl _) (.map #[] 0)
  have hs1 : (w.alloc (.map #[] 0)).heap.size = w.heap.size + 1 := by simp
  have hm := World.ownsMap_made w Try.prog 9 ptrElem
  obtain ⟨w1, hw1⟩ : ∃ w1, w.alloc (.map #[] 0) = w1 := ⟨_, rfl⟩
  rw [hw1] at hb1 hs1 hm ⊢
  have hb2 := (Below.refl w1.heap.size w1).alloc (Nat.le_refl _) (.cells (pcells n 0 (.map (some w.heap.size)) (-1) false).toArray 64)
  have hB := blk_new w1 (pcells n 0 (.map (some w.heap.size)) (-1) false).toArray 64 _ rfl
  have hs2 : (w1.alloc (.cells (pcells n 0 (.map (some w.heap.size)) (-1) false).toArray 64)).heap.size = w1.heap.size + 1 := by simp
  rw [hs1] at hB
  refine ⟨w.heap.size + 1, fun k => k = w.heap.size ∨ k = w.heap.size + 1, rfl, ⟨w.heap.size, .map [], [], -1, ⟨?_, Or.inr rfl, hB, Or.inl rfl, ?_, mapOf_nil, List.Pairwise.nil, (fun _ h => by cases h), List.Pairwise.nil⟩, rfl, rfl, by omega, by omega⟩, ?_, bnext hb1 hb2⟩
  · intro k hk
    rw [hs2]
    omega
  · exact map_turn hm (Turn.of_below (S := fun _ => False) hb2) id
  · intro k hk
    omega
/-- block g is a plate in the state s; its blocks are new since w -/
def St (w w' : World) (g : Nat) (s : PS) : Prop := ∃ R, PA w' R g s ∧ (∀ k, R k → w.heap.size ≤ k) ∧ Below w.heap.size w w' ∧ Wf s
theorem St.to {w w1 w2 : World} {g : Nat} {s2 : PS} {R : Nat → Prop} (hR : ∀ k, R k → w.heap.size ≤ k) (hb : Below w.heap.size w w1) (ht : To w1 w2 R g s2) (hw : Wf s2) : St w w2 g s2 := by
  obtain ⟨R', h1, h2, h3⟩ := ht
  exact ⟨R', h1, fun k hk => (h3 k hk).elim (hR k) fun e => Nat.le_trans hb.size e, h2.below hb hR hb.size, hw⟩
theorem St.more {w w1 w2 : World} {g : Nat} {s : PS} (h : St w w1 g s) (hb : Below w1.heap.size w1 w2) : St w w2 g s := by
  obtain ⟨R, h1, h2, h3, h4⟩ := h
  exact ⟨R, h1.below hb, h2, bnext h3 hb, h4⟩
theorem St.below {w w1 : World} {g : Nat} {s : PS} (h : St w w1 g s) : Below w.heap.size w w1 := by
  obtain ⟨_, _, _, h3, _⟩ := h
  exact h3
theorem St.wf {w w1 : World} {g : Nat} {s : PS} (h : St w w1 g s) : Wf s := by
  obtain ⟨_, _, _, _, h4⟩ := h
  exact h4
theorem St.lt {w w1 : World} {g : Nat} {s : PS} (h : St w w1 g s) : g < w1.heap.size := by
  obtain ⟨R, ⟨_, _, _, _, h1, _⟩, _⟩ := h
  exact h1.blk.lt
theorem St.new {w w0 : World} (hb : Below w.heap.size w w0) (n : Nat) (h : n ≤ 268435456) :
    Calls Try.prog 9 #[.int .i64 (n : Nat)] w0 fun e w' => ∃ g, e = .returned (.tuple #[dptr g, .int .i64 0]) ∧ St w w' g (newP n) :=
  (pnew_c w0 n h).mono fun _ _ hn => by
    obtain ⟨g, R, e1, e2, e3, e4⟩ := newpl_pa hn
    exact ⟨g, e1, R, e2, fun k hk => Nat.le_trans hb.size (e3 k hk), bnext hb e4, wf_new h⟩
/-- what is handed in is in none of the plate's blocks -/
theorem St.append {w w1 : World} {g : Nat} {s : PS} (h : St w w1 g s) (n : T) (hn : n.length ≤ 140737488351232) (p : Option Addr) (c : Nat) (b : T) (hp : In8 w1 p b) (hb : b.length ≤ 140737488355328) (ho : b ≠ [] → ∀ i o x, p = some ⟨i, o, x⟩ → i < w1.heap.size → ∀ R, PA w1 R g s → (∀ k, R k → w.heap.size ≤ k) → ¬ R i) :
    Calls Try.prog 22 #[dptr g, .string ⟨n.toArray⟩, .slice p b.length c] w1 fun e w' => e = .returned (.int .i64 ((appP s n b).1 : Nat)) ∧ St w w' g (appP s n b).2 := by
  obtain ⟨R, h1, h2, h3, h4⟩ := h
  exact (pappend_c h1 h4 n p c b hn hp hb fun e i o x e1 e2 => ho e i o x e1 e2 R h1 h2).mono fun e w' ⟨e1, e2⟩ => ⟨e1, St.to h2 h3 e2 (wf_app h4 n b)⟩
/-- .. as a caller's bytes are -/
theorem in8_out {w w1 : World} {p : Option Addr} {b : T} (h : In8 w p b) (hb : b ≠ []) {i o : Nat} {x : Option Nat} (e : p = some ⟨i, o, x⟩) {R : Nat → Prop} (hR : ∀ k, R k → w.heap.size ≤ k) : ¬ R i := by
  have _ := w1
  obtain ⟨b1, o1, e1, hc⟩ := h (List.length_pos_iff.2 hb)
  rw [e] at e1
  injection e1 with e1
  injection e1 with e1 _ _
  have h5 := cell_lt (hc 0 (List.length_pos_iff.2 hb))
  intro hr
  have h6 := hR i hr
  dsimp only at h5
  omega
theorem St.sync {w w1 : World} {g : Nat} {s : PS} (h : St w w1 g s) (n : T) (hn : n.length ≤ 140737488351232) :
    Calls Try.prog 28 #[dptr g, .string ⟨n.toArray⟩] w1 fun e w' => e = .returned (.int .i64 ((synP s n).1 : Nat)) ∧ St w w' g (synP s n).2 := by
  obtain ⟨R, h1, h2, h3, h4⟩ := h
  exact (psync_c h1 h4 n hn).mono fun e w' ⟨e1, e2⟩ => ⟨e1, St.to h2 h3 e2 (wf_syn h4 n)⟩
theorem St.read {w w1 : World} {g : Nat} {s : PS} (h : St w w1 g s) (n : T) (hn : n.length ≤ 140737488351232) :
    Calls Try.prog 18 #[dptr g, .string ⟨n.toArray⟩] w1 fun e w' => ReadA w1 w' (readP s n) e ∧ St w w' g s := by
  have h0 := h
  obtain ⟨R, h1, h2, h3, h4⟩ := h
  refine (pread_c h1 h4 n hn).mono fun e w' hr => ⟨hr, ?_⟩
  obtain ⟨v, _, hv⟩ := hr
  exact h0.more hv.2
theorem St.synced {w w1 : World} {g : Nat} {s : PS} (h : St w w1 g s) (n : T) (hn : n.length ≤ 140737488351232) :
    Calls Try.prog 16 #[dptr g, .string ⟨n.toArray⟩] w1 fun e w' => e = .returned (.int .i64 ((getF s.fs n).safe : Nat)) ∧ St w w' g s := by
  have h0 := h
  obtain ⟨R, h1, h2, h3, h4⟩ := h
  exact (psynced_c h1 n hn).mono fun e w' ⟨e1, e2⟩ => ⟨e1, h0.more e2⟩
theorem St.crash {w w1 : World} {g : Nat} {s : PS} (h : St w w1 g s) (pk : Option Addr) (ck : Nat) (ks : List Int) (hk8 : InG ienc 1 w1 pk ks) (hkl : ks.length ≤ 9223372036854775807) (hki : ∀ n ∈ ks, -9223372036854775808 ≤ n ∧ n ≤ 9223372036854775807) (ho : ks ≠ [] → ∀ i o x, pk = some ⟨i, o, x⟩ → i < w1.heap.size → ∀ R, PA w1 R g s → (∀ k, R k → w.heap.size ≤ k) → ¬ R i) :
    Calls Try.prog 14 #[dptr g, .slice pk ks.length ck] w1 fun e w' => e = .returned (.tuple #[]) ∧ St w w' g (crashP s ks) := by
  obtain ⟨R, h1, h2, h3, h4⟩ := h
  exact (pcrash_c h1 h4 pk ck ks hk8 hkl hki fun e0 i o x e1 e2 => ho e0 i o x e1 e2 R h1 h2).mono fun e w' ⟨e1, e2⟩ => ⟨e1, St.to h2 h3 e2 (wf_crash h4 ks)⟩
def k0 : PS := newP 9
def k1 : PS := (appP k0 [97] [97, 98, 99]).2
def k2 : PS := (synP k1 [97]).2
def k3 : PS := (appP k2 [97] [100, 101]).2
def k4 : PS := crashP k3 [1]
theorem k_read : readP k4 [97] = (0, [97, 98, 99, 100]) := by rfl
theorem k_safe : (getF k4.fs [97]).safe = 4 := by rfl
theorem k_full : (appP k4 [98] [49, 50, 51, 52, 53, 54]).1 = 8 := by rfl
theorem bytes_newL (W : World) (l : T) (g : Nat) (fr : Nat × Nat) (hg : g = W.heap.size) : In8 (W.alloc (.cells (byteCells l).toArray 5 fr)) (some ⟨g, 0, none⟩) l := by
  subst hg
  intro _
  refine ⟨W.heap.size, 0, rfl, fun i hi => ?_⟩
  rw [World.cell?_alloc_mark]
  simp [byteCells, hi, List.getD]
theorem one_new (W : World) (n : Int) (g : Nat) (hg : g = W.heap.size) : InG ienc 1 (W.alloc (.cells #[.int .i64 n] 3)) (some ⟨g, 0, none⟩) [n] := fun _ =>
  ⟨g, 0, rfl, fun i hi j hj => by
    subst hg
    rw [List.length_singleton] at hi
    obtain rfl : i = 0 := by omega
    obtain rfl : j = 0 := by omega
    rw [World.cell?_alloc_at _ _ _ _ rfl]
    rfl⟩
/-- Append of bytes that have just come to be -/
theorem St.append_new {w w1 : World} {g : Nat} {s : PS} (h : St w w1 g s) (n : T) (hn : n.length ≤ 140737488351232) (b : T) (hb : b.length ≤ 140737488355328) (c : Nat) (fr : Nat × Nat) :
    Calls Try.prog 22 #[dptr g, .string ⟨n.toArray⟩, .slice (some ⟨w1.heap.size, 0, none⟩) b.length c] (w1.alloc (.cells (byteCells b).toArray 5 fr)) fun e w' => e = .returned (.int .i64 ((appP s n b).1 : Nat)) ∧ St w w' g (appP s n b).2 := by
  have hb1 := (Below.refl w1.heap.size w1).alloc (Nat.le_refl _) (.cells (byteCells b).toArray 5 fr)
  obtain ⟨R, h1, h2, h3, h4⟩ := h
  refine (pappend_c (h1.below hb1) h4 n _ c b hn (bytes_newL w1 b _ fr rfl) hb fun _ i o x e _ hR => ?_).mono fun e w' ⟨e1, e2⟩ => ⟨e1, St.to h2 (bnext h3 hb1) e2 (wf_app h4 n b)⟩
  injection e with e
  injection e with e _ _
  have := h1.lt i hR
  omega
theorem St.crash_new {w w1 : World} {g : Nat} {s : PS} (h : St w w1 g s) (n : Int) (hn : -9223372036854775808 ≤ n ∧ n ≤ 9223372036854775807) (c : Nat) :
    Calls Try.prog 14 #[dptr g, .slice (some ⟨w1.heap.size, 0, none⟩) 1 c] (w1.alloc (.cells #[.int .i64 n] 3)) fun e w' => e = .returned (.tuple #[]) ∧ St w w' g (crashP s [n]) := by
  have hb1 := (Below.refl w1.heap.size w1).alloc (Nat.le_refl _) (.cells #[.int .i64 n] 3)
  obtain ⟨R, h1, h2, h3, h4⟩ := h
  refine (pcrash_c (h1.below hb1) h4 _ c [n] (one_new w1 n _ rfl) (by simp) (fun q hq => by rw [List.mem_singleton.1 hq]; exact hn) fun _ i o x e _ hR => ?_).mono fun e w' ⟨e1, e2⟩ => ⟨e1, St.to h2 (bnext h3 hb1) e2 (wf_crash h4 [n])⟩
  injection e with e
  injection e with e _ _
  have := h1.lt i hR
  omega
set_option maxRecDepth 100000 in
set_option maxHeartbeats 8000000 in
theorem known_c (w w0 : World) (hb : Below w.heap.size w w0) :
    Calls Try.prog 10 #[] w0 fun e w' => e = .returned (.bool true) ∧ Below w.heap.size w w' := by
  have HN := Lib.hid (St.new hb 9 (by decide))
  have cv := fun (w : World) (C : Array Value) n c => Lib.run_convert_bytes_const (P := Try.prog) w 33 5 C n c Try.underlying33 Try.underlying5
  clear hb
  go_enter Try.func10, Try.ntmps10
  go_wp2_with fail
  refine HN.out.mono ?_
  rintro e w1 ⟨g, rfl, h1⟩
  have HC : Hid (Calls Try.prog 22 #[dptr g, .string ⟨#[97]⟩, .slice (some ⟨w1.heap.size, 0, none⟩) 3 3] (w1.alloc (.cells #[.int .u8 97, .int .u8 98, .int .u8 99] 5 (3, 4))) fun e w2 => e = .returned (.int .i64 ((appP k0 [97] [97, 98, 99]).1 : Nat)) ∧ St w w2 g k1) := h1.append_new [97] (by decide) [97, 98, 99] (by decide) 3 (3, 4)
  clear h1
  go_wp2_with fail
  refine HC.out.mono ?_
  rintro e w2 ⟨rfl, h2⟩
  have HC : Hid (Calls Try.prog 28 #[dptr g, .string ⟨#[97]⟩] w2 fun e w3 => e = .returned (.int .i64 ((synP k1 [97]).1 : Nat)) ∧ St w w3 g k2) := h2.sync [97] (by decide)
  clear h2
  go_wp2_with fail
  refine HC.out.mono ?_
  rintro e w3 ⟨rfl, h3⟩
  have HC : Hid (Calls Try.prog 22 #[dptr g, .string ⟨#[97]⟩, .slice (some ⟨w3.heap.size, 0, none⟩) 2 2] (w3.alloc (.cells #[.int .u8 100, .int .u8 101] 5 (2, 3))) fun e w4 => e = .returned (.int .i64 ((appP k2 [97] [100, 101]).1 : Nat)) ∧ St w w4 g k3) := h3.append_new [97] (by decide) [100, 101] (by decide) 2 (2, 3)
  clear h3
  go_wp2_with fail
  refine HC.out.mono ?_
  rintro e w4 ⟨rfl, h4⟩
  have HC := Lib.hid (h4.crash_new 1 (by decide) 1)
  clear h4
  go_wp2_with fail
  refine HC.out.mono ?_
  rintro e w5 ⟨rfl, h5⟩
  have HC : Hid (Calls Try.prog 18 #[dptr g, .string ⟨#[97]⟩] w5 fun e w6 => ReadA w5 w6 (0, [97, 98, 99, 100]) e ∧ St w w6 g k4) := by
    have h := h5.read [97] (by decide)
    rw [show crashP k3 [1] = k4 from rfl, k_read] at h
    exact h
  clear h5
  go_wp2_with fail
  refine HC.out.mono ?_
  rintro e w6 ⟨⟨v, rfl, hv, hb6⟩, h6⟩
  obtain ⟨p6, c6, rfl⟩ := own_slice hv
  have hcv : (convert 33 9 (.slice p6 4 c6)).run Try.prog w6 = .ok (.string ⟨#[97, 98, 99, 100]⟩) w6 := conv_own hv
  have HS : Hid (Calls Try.prog 16 #[dptr g, .string ⟨#[97]⟩] w6 fun e w7 => e = .returned (.int .i64 ((4 : Nat) : Int)) ∧ St w w7 g k4) := by
    have h := h6.synced [97] (by decide)
    rw [k_safe] at h
    exact h
  clear hv hb6 h6
  go_wp2_with fail
  refine HS.out.mono ?_
  rintro e w7 ⟨rfl, h7⟩
  have HC : Hid (Calls Try.prog 22 #[dptr g, .string ⟨#[98]⟩, .slice (some ⟨w7.heap.size, 0, none⟩) 6 6] (w7.alloc (.cells #[.int .u8 49, .int .u8 50, .int .u8 51, .int .u8 52, .int .u8 53, .int .u8 54] 5 (6, 7))) fun e w8 => e = .returned (.int .i64 ((8 : Nat) : Int)) ∧ St w w8 g (appP k4 [98] [49, 50, 51, 52, 53, 54]).2) := by
    have h := h7.append_new [98] (by decide) [49, 50, 51, 52, 53, 54] (by decide) 6 (6, 7)
    rw [k_full] at h
    exact h
  clear h7
  go_wp2_with fail
  refine HC.out.mono ?_
  rintro e w8 ⟨rfl, h8⟩
  have HB := Lib.hid h8.below
  clear h8
  go_wp2_with fail
  go_ret
  exact ⟨rfl, HB.out⟩
end Go.Proofs.Ytggcdlhgmikemaa.plt
