/- Opening a []api.Packet, a []int, a Step, a []Step that are handed in to a law of lane; the laws in the cards' shape. No condition. -/
import Derived.Test.YtdjgafemmihlgaaOpen
import Derived.Test.YtdjgafemmihlgaaLanC
import Derived.Test.YtdjgafemmihlgaaLanF
import Derived.Test.YtdjgafemmihlgaaLanH
import Derived.Deep.Slices
namespace Go.Proofs.Ytdjgafemmihlgaa.opn
open Go.ChangeShapes Go.WideShapes Go.ChangeAt Go.RowKit
open Go.Proofs.Ytdjgafemmihlgaa.oct (In8)
open Go.Proofs.Ytdjgafemmihlgaa.lan (T AP aenc aenc_len ienc ienc_len I64 GoodA)
open Go.Proofs.Ytdjgafemmihlgaa.rowg (InG)

theorem li64_wf {n : Int} (h : (Lit.int .i64 n).wf = true) : I64 n := by
  have h1 : IntKind.i64.min = -9223372036854775808 := rfl
  have h2 : IntKind.i64.max = 9223372036854775807 := rfl
  simp only [Lit.wf, Bool.and_eq_true, decide_eq_true_eq] at h
  exact ⟨by omega, by omega⟩
theorem lAll_mem {H : Type} {P : Program} {e : TypeId} {n : Nat} {d : DataW H} : ∀ {l : List (DataW H)}, d ∈ l → n ∈ d.weights P e → n ∈ DataW.weightsAll P e l
  | y :: l, h, hn => by
    rw [DataW.weightsAll, List.mem_append]
    rcases List.mem_cons.1 h with rfl | h
    · exact Or.inl hn
    · exact Or.inr (lAll_mem h hn)
/-- bytes in a field: its cell, its row -/
theorem lopen_bytes {H : Type} {enc : TypeId × Value → H} {W : World} {fuel : Nat} {c0 : Value} {d0 : DataW H} {p : List MemPlace}
    (h0 : DataW.trod enc Try.prog W 0 (fun _ => true) true fuel 35 [c0] = some (d0, p)) :
    ∃ (a0 : Option Addr) (cap : Nat) (l : List UInt8), c0 = .slice a0 l.length cap ∧ In8 W a0 l ∧ l.length + 1 ≤ Rows.uptoBulk d0 ∧ (a0 = none → cap = 0) ∧ l.length ≤ cap ∧ ((∃ n, n ∈ d0.weights Try.prog 35 ∧ l.length ≤ n) ∨ l.length = 0) := by
  have hc : ∃ a0 len cap, c0 = .slice a0 len cap := by
    rcases Deep.open_slice Try.underlying35 h0 with ⟨hcs, _⟩ | ⟨a, len, cap, _, _, _, _, hcs, _⟩
    · injection hcs with e; exact ⟨_, _, _, e⟩
    · injection hcs with e; exact ⟨_, _, _, e⟩
  obtain ⟨a0, len, cap, rfl⟩ := hc
  have h1 : DataW.Trod enc Try.prog W 0 (fun _ => true) true 35 (.slice a0 len cap) d0 p := ⟨fuel, by simpa [Value.cells] using h0⟩
  obtain ⟨l, rfl, h2, h3, h4, h5, h6⟩ := open_bytes h1
  exact ⟨a0, cap, l, rfl, h2, h3, h4, h5, h6⟩
/-- what an opened packet has -/
structure PkQ {H : Type} (W : World) (t : TypeId) (x : AP) (d : DataW H) : Prop where
  row : In8 W x.p x.d
  nil : x.p = none → x.c = 0
  ia : I64 x.a
  ib : I64 x.b
  many : (∃ n, n ∈ d.weights Try.prog t ∧ x.d.length ≤ n) ∨ x.d.length = 0
set_option maxRecDepth 8000 in
theorem open_packet {H : Type} {enc : TypeId × Value → H} {W : World} (fuel : Nat) (cs : List Value) (d : DataW H) (p : List MemPlace)
    (h : DataW.trod enc Try.prog W 0 (fun _ => true) true fuel 44 cs = some (d, p)) : ∃ m, cs = aenc m ∧ PkQ W 44 m d := by
  obtain ⟨xs, n, _, hx, hcl, hxl, hf⟩ := DataW.trod_struct Try.underlying44 h
  have h5 : Try.prog.cellsOf 44 = 3 := by kernel_rfl
  have hcb : Try.prog.cellsOf 35 = 1 := by kernel_rfl
  have hci : Try.prog.cellsOf 3 = 1 := by kernel_rfl
  rw [h5] at hcl
  match xs, hxl with
  | [y0, y1, y2], _ =>
    match cs, hcl with
    | [c0, c1, c2], _ =>
      have f0 := hf 0 _ rfl
      have f1 := hf 1 _ rfl
      have f2 := hf 2 _ rfl
      have g0 : DataW.trod enc Try.prog W 0 (fun _ => true) true n 3 [c0] = some y0 := by
        have this : DataW.trod enc Try.prog W 0 (fun _ => true) true n 3 (List.take (Try.prog.cellsOf 3) (List.drop 0 [c0, c1, c2])) = some y0 := f0
        rw [hci] at this
        exact this
      have g1 : DataW.trod enc Try.prog W 0 (fun _ => true) true n 3 [c1] = some y1 := by
        have this : DataW.trod enc Try.prog W 0 (fun _ => true) true n 3 (List.take (Try.prog.cellsOf 3) (List.drop 1 [c0, c1, c2])) = some y1 := f1
        rw [hci] at this
        exact this
      have g2 : DataW.trod enc Try.prog W 0 (fun _ => true) true n 35 [c2] = some y2 := by
        have this : DataW.trod enc Try.prog W 0 (fun _ => true) true n 35 (List.take (Try.prog.cellsOf 35) (List.drop 2 [c0, c1, c2])) = some y2 := f2
        rw [hcb] at this
        exact this
      obtain ⟨y2d, y2p⟩ := y2
      obtain ⟨k0, e0, r0, w0⟩ := DataW.trod_int Try.underlying3 g0
      obtain ⟨k1, e1, r1, w1⟩ := DataW.trod_int Try.underlying3 g1
      obtain ⟨a2, cap2, l2, e2, q1, q2, q3, q4, q5⟩ := lopen_bytes g2
      cases e0
      cases e1
      cases e2
      simp only [Prod.mk.injEq] at hx
      refine ⟨⟨k0, k1, a2, cap2, l2⟩, rfl, ⟨q1, q3, li64_wf w0, li64_wf w1, ?_⟩⟩
      rw [hx.1]
      rcases q5 with ⟨n5, m5, l5⟩ | m5
      · exact Or.inl ⟨n5, by simp [DataW.weights, DataW.weightsEach, Try.underlying44, m5], l5⟩
      · exact Or.inr m5
theorem PkQ.up {H : Type} {W : World} {t t2 : TypeId} {x : AP} {d d2 : DataW H} (q : PkQ W t x d) (hw : ∀ n, n ∈ d.weights Try.prog t → n ∈ d2.weights Try.prog t2) : PkQ W t2 x d2 :=
  ⟨q.row, q.nil, q.ia, q.ib, q.many.imp (fun ⟨n, h1, h2⟩ => ⟨n, hw n h1, h2⟩) id⟩
theorem open_packets {H : Type} {enc : TypeId × Value → H} {W : World} {a0 : Option Addr} {len cap : Nat} {d0 : DataW H} {p : List MemPlace}
    (h0 : DataW.Trod enc Try.prog W 0 (fun _ => true) true 29 (.slice a0 len cap) d0 p) :
    ∃ l : List AP, l.length = len ∧ InG aenc 3 W a0 l ∧ (a0 = none → cap = 0) ∧ l.length ≤ cap ∧ ((∃ n, n ∈ d0.weights Try.prog 29 ∧ l.length ≤ n) ∨ l.length = 0) ∧ ∀ x ∈ l, PkQ W 29 x d0 := by
  obtain ⟨l, hl, hin, hn, hcp, hx⟩ := rowg.open_g (enc := aenc) (k := 3) aenc_len (by decide) Try.underlying29 (by kernel_rfl) (PkQ (H := H) W 44) open_packet h0
  rcases hx with ⟨rfl, rfl⟩ | ⟨D, m, hlm, rfl, hq⟩
  · obtain rfl : l = [] := by simpa using hl
    exact ⟨[], hl, hin, hn, hcp, Or.inr rfl, fun x hx => by cases hx⟩
  · refine ⟨l, hl, hin, hn, hcp, Or.inl ⟨(((List.range len).map D).length + ((List.range (m - len)).map fun j => D (len + j)).length) * Try.prog.bytesOf 44, ?_, ?_⟩, fun x hx => ?_⟩
    · simp only [DataW.weights, Try.underlying29]
      exact List.mem_cons_self
    · have hb : 1 ≤ Try.prog.bytesOf 44 := of_decide_eq_true (by kernel_rfl)
      have h1 : ((List.range len).map D).length = len := by rw [List.length_map, List.length_range]
      rw [hl, h1]
      exact Nat.le_trans (Nat.le_add_right _ _) (Nat.le_mul_of_pos_right _ hb)
    · obtain ⟨i, hi, rfl⟩ := List.mem_iff_getElem.1 hx
      have q := hq i hi
      have hm : D i ∈ (List.range len).map D := List.mem_map_of_mem (List.mem_range.2 (by omega))
      have hw : ∀ n, n ∈ (D i).weights Try.prog 44 → n ∈ (DataW.slice ((List.range len).map D) ((List.range (m - len)).map fun j => D (len + j))).weights Try.prog 29 := fun n hn => by
        simp only [DataW.weights, Try.underlying29]
        exact List.mem_cons_of_mem _ (List.mem_append_left _ (lAll_mem hm hn))
      exact q.up hw
/-- what an opened int has -/
structure NtQ {H : Type} (_W : World) (_t : TypeId) (x : Int) (_d : DataW H) : Prop where
  i : I64 x
theorem NtQ.up {H : Type} {W : World} {t t2 : TypeId} {x : Int} {d d2 : DataW H} (q : NtQ W t x d) (_ : ∀ n, n ∈ d.weights Try.prog t → n ∈ d2.weights Try.prog t2) : NtQ W t2 x d2 := ⟨q.i⟩
theorem open_nt {H : Type} {enc : TypeId × Value → H} {W : World} (fuel : Nat) (cs : List Value) (d : DataW H) (p : List MemPlace)
    (h : DataW.trod enc Try.prog W 0 (fun _ => true) true fuel 3 cs = some (d, p)) : ∃ m, cs = ienc m ∧ NtQ W 3 m d := by
  obtain ⟨k, e, _, hw⟩ := DataW.trod_int Try.underlying3 h
  exact ⟨k, e, ⟨li64_wf hw⟩⟩
theorem open_nts {H : Type} {enc : TypeId × Value → H} {W : World} {a0 : Option Addr} {len cap : Nat} {d0 : DataW H} {p : List MemPlace}
    (h0 : DataW.Trod enc Try.prog W 0 (fun _ => true) true 40 (.slice a0 len cap) d0 p) :
    ∃ l : List Int, l.length = len ∧ InG ienc 1 W a0 l ∧ (a0 = none → cap = 0) ∧ l.length ≤ cap ∧ ((∃ n, n ∈ d0.weights Try.prog 40 ∧ l.length ≤ n) ∨ l.length = 0) ∧ ∀ x ∈ l, NtQ W 40 x d0 := by
  obtain ⟨l, hl, hin, hn, hcp, hx⟩ := rowg.open_g (enc := ienc) (k := 1) ienc_len (by decide) Try.underlying40 (by kernel_rfl) (NtQ (H := H) W 3) open_nt h0
  rcases hx with ⟨rfl, rfl⟩ | ⟨D, m, hlm, rfl, hq⟩
  · obtain rfl : l = [] := by simpa using hl
    exact ⟨[], hl, hin, hn, hcp, Or.inr rfl, fun x hx => by cases hx⟩
  · refine ⟨l, hl, hin, hn, hcp, Or.inl ⟨(((List.range len).map D).length + ((List.range (m - len)).map fun j => D (len + j)).length) * Try.prog.bytesOf 3, ?_, ?_⟩, fun x hx => ?_⟩
    · simp only [DataW.weights, Try.underlying40]
      exact List.mem_cons_self
    · have hb : 1 ≤ Try.prog.bytesOf 3 := of_decide_eq_true (by kernel_rfl)
      have h1 : ((List.range len).map D).length = len := by rw [List.length_map, List.length_range]
      rw [hl, h1]
      exact Nat.le_trans (Nat.le_add_right _ _) (Nat.le_mul_of_pos_right _ hb)
    · obtain ⟨i, hi, rfl⟩ := List.mem_iff_getElem.1 hx
      have q := hq i hi
      have hm : D i ∈ (List.range len).map D := List.mem_map_of_mem (List.mem_range.2 (by omega))
      have hw : ∀ n, n ∈ (D i).weights Try.prog 3 → n ∈ (DataW.slice ((List.range len).map D) ((List.range (m - len)).map fun j => D (len + j))).weights Try.prog 40 := fun n hn => by
        simp only [DataW.weights, Try.underlying40]
        exact List.mem_cons_of_mem _ (List.mem_append_left _ (lAll_mem hm hn))
      exact q.up hw
theorem pkq_reach {H : Type} {ts : List TypeId} {ds : List (DataW H)} {d : DataW H} {t : TypeId} {W : World} {x : AP} (hz : (DataW.weightsEach Try.prog ts ds).all (· ≤ reachBytes) = true) (j : Nat) (h1 : ts[j]? = some t) (h2 : ds[j]? = some d) (h : PkQ W t x d) : GoodA W x :=
  ⟨h.row, h.nil, bytes_reach hz j h1 h2 h.many, h.ia, h.ib⟩
/-- a call's step -/
structure SP where
  k : Int
  a : Int
  b : Int
  y : UInt8
  p : Option Addr
  c : Nat
  d : T
instance : Inhabited SP := ⟨⟨0, 0, 0, 0, none, 0, []⟩⟩
def spenc (x : SP) : List Value := [.int .i64 x.k, .int .i64 x.a, .int .i64 x.b, .int .u8 (x.y.toNat : Int), .slice x.p x.d.length x.c]
theorem spenc_len : ∀ a, (spenc a).length = 5 := fun _ => rfl
structure SpQ {H : Type} (W : World) (t : TypeId) (x : SP) (d : DataW H) : Prop where
  row : In8 W x.p x.d
  nil : x.p = none → x.c = 0
  ik : I64 x.k
  ia : I64 x.a
  ib : I64 x.b
  many : (∃ n, n ∈ d.weights Try.prog t ∧ x.d.length ≤ n) ∨ x.d.length = 0
theorem SpQ.up {H : Type} {W : World} {t t2 : TypeId} {x : SP} {d d2 : DataW H} (q : SpQ W t x d) (hw : ∀ n, n ∈ d.weights Try.prog t → n ∈ d2.weights Try.prog t2) : SpQ W t2 x d2 :=
  ⟨q.row, q.nil, q.ik, q.ia, q.ib, q.many.imp (fun ⟨n, h1, h2⟩ => ⟨n, hw n h1, h2⟩) id⟩
set_option maxRecDepth 8000 in
theorem open_step {H : Type} {enc : TypeId × Value → H} {W : World} (fuel : Nat) (cs : List Value) (d : DataW H) (p : List MemPlace)
    (h : DataW.trod enc Try.prog W 0 (fun _ => true) true fuel 37 cs = some (d, p)) : ∃ m, cs = spenc m ∧ SpQ W 37 m d := by
  obtain ⟨xs, n, _, hx, hcl, hxl, hf⟩ := DataW.trod_struct Try.underlying37 h
  have h5 : Try.prog.cellsOf 37 = 5 := by kernel_rfl
  have hcb : Try.prog.cellsOf 35 = 1 := by kernel_rfl
  have hci : Try.prog.cellsOf 3 = 1 := by kernel_rfl
  have hcy : Try.prog.cellsOf 5 = 1 := by kernel_rfl
  rw [h5] at hcl
  match xs, hxl with
  | [y0, y1, y2, y3, y4], _ =>
    match cs, hcl with
    | [c0, c1, c2, c3, c4], _ =>
      have f0 := hf 0 _ rfl
      have f1 := hf 1 _ rfl
      have f2 := hf 2 _ rfl
      have f3 := hf 3 _ rfl
      have f4 := hf 4 _ rfl
      have g0 : DataW.trod enc Try.prog W 0 (fun _ => true) true n 3 [c0] = some y0 := by
        have this : DataW.trod enc Try.prog W 0 (fun _ => true) true n 3 (List.take (Try.prog.cellsOf 3) (List.drop 0 [c0, c1, c2, c3, c4])) = some y0 := f0
        rw [hci] at this
        exact this
      have g1 : DataW.trod enc Try.prog W 0 (fun _ => true) true n 3 [c1] = some y1 := by
        have this : DataW.trod enc Try.prog W 0 (fun _ => true) true n 3 (List.take (Try.prog.cellsOf 3) (List.drop 1 [c0, c1, c2, c3, c4])) = some y1 := f1
        rw [hci] at this
        exact this
      have g2 : DataW.trod enc Try.prog W 0 (fun _ => true) true n 3 [c2] = some y2 := by
        have this : DataW.trod enc Try.prog W 0 (fun _ => true) true n 3 (List.take (Try.prog.cellsOf 3) (List.drop 2 [c0, c1, c2, c3, c4])) = some y2 := f2
        rw [hci] at this
        exact this
      have g3 : DataW.trod enc Try.prog W 0 (fun _ => true) true n 5 [c3] = some y3 := by
        have this : DataW.trod enc Try.prog W 0 (fun _ => true) true n 5 (List.take (Try.prog.cellsOf 5) (List.drop 3 [c0, c1, c2, c3, c4])) = some y3 := f3
        rw [hcy] at this
        exact this
      have g4 : DataW.trod enc Try.prog W 0 (fun _ => true) true n 35 [c4] = some y4 := by
        have this : DataW.trod enc Try.prog W 0 (fun _ => true) true n 35 (List.take (Try.prog.cellsOf 35) (List.drop 4 [c0, c1, c2, c3, c4])) = some y4 := f4
        rw [hcb] at this
        exact this
      obtain ⟨y4d, y4p⟩ := y4
      obtain ⟨k0, e0, r0, w0⟩ := DataW.trod_int Try.underlying3 g0
      obtain ⟨k1, e1, r1, w1⟩ := DataW.trod_int Try.underlying3 g1
      obtain ⟨k2, e2, r2, w2⟩ := DataW.trod_int Try.underlying3 g2
      obtain ⟨k3, e3, r3, w3⟩ := DataW.trod_int Try.underlying5 g3
      obtain ⟨a4, cap4, l4, e4, q1, q2, q3, q4, q5⟩ := lopen_bytes g4
      cases e0
      cases e1
      cases e2
      cases e3
      cases e4
      simp only [Prod.mk.injEq] at hx
      obtain ⟨b1, b2⟩ := byte_wf w3
      have e1 : ((UInt8.ofNat k3.toNat).toNat : Int) = k3 := by
        rw [UInt8.toNat_ofNat']
        omega
      refine ⟨⟨k0, k1, k2, UInt8.ofNat k3.toNat, a4, cap4, l4⟩, by unfold spenc; rw [e1], ⟨q1, q3, li64_wf w0, li64_wf w1, li64_wf w2, ?_⟩⟩
      rw [hx.1]
      rcases q5 with ⟨n5, m5, l5⟩ | m5
      · exact Or.inl ⟨n5, by simp [DataW.weights, DataW.weightsEach, Try.underlying37, m5], l5⟩
      · exact Or.inr m5
theorem open_steps {H : Type} {enc : TypeId × Value → H} {W : World} {a0 : Option Addr} {len cap : Nat} {d0 : DataW H} {p : List MemPlace}
    (h0 : DataW.Trod enc Try.prog W 0 (fun _ => true) true 22 (.slice a0 len cap) d0 p) :
    ∃ l : List SP, l.length = len ∧ InG spenc 5 W a0 l ∧ (a0 = none → cap = 0) ∧ l.length ≤ cap ∧ ((∃ n, n ∈ d0.weights Try.prog 22 ∧ l.length ≤ n) ∨ l.length = 0) ∧ ∀ x ∈ l, SpQ W 22 x d0 := by
  obtain ⟨l, hl, hin, hn, hcp, hx⟩ := rowg.open_g (enc := spenc) (k := 5) spenc_len (by decide) Try.underlying22 (by kernel_rfl) (SpQ (H := H) W 37) open_step h0
  rcases hx with ⟨rfl, rfl⟩ | ⟨D, m, hlm, rfl, hq⟩
  · obtain rfl : l = [] := by simpa using hl
    exact ⟨[], hl, hin, hn, hcp, Or.inr rfl, fun x hx => by cases hx⟩
  · refine ⟨l, hl, hin, hn, hcp, Or.inl ⟨(((List.range len).map D).length + ((List.range (m - len)).map fun j => D (len + j)).length) * Try.prog.bytesOf 37, ?_, ?_⟩, fun x hx => ?_⟩
    · simp only [DataW.weights, Try.underlying22]
      exact List.mem_cons_self
    · have hb : 1 ≤ Try.prog.bytesOf 37 := of_decide_eq_true (by kernel_rfl)
      have h1 : ((List.range len).map D).length = len := by rw [List.length_map, List.length_range]
      rw [hl, h1]
      exact Nat.le_trans (Nat.le_add_right _ _) (Nat.le_mul_of_pos_right _ hb)
    · obtain ⟨i, hi, rfl⟩ := List.mem_iff_getElem.1 hx
      have q := hq i hi
      have hm : D i ∈ (List.range len).map D := List.mem_map_of_mem (List.mem_range.2 (by omega))
      have hw : ∀ n, n ∈ (D i).weights Try.prog 37 → n ∈ (DataW.slice ((List.range len).map D) ((List.range (m - len)).map fun j => D (len + j))).weights Try.prog 22 := fun n hn => by
        simp only [DataW.weights, Try.underlying22]
        exact List.mem_cons_of_mem _ (List.mem_append_left _ (lAll_mem hm hn))
      exact q.up hw
/-- a Step by value -/
theorem open_stepv {H : Type} {enc : TypeId × Value → H} {W : World} {r : Reach} {b0 : Nat} {v : Value} {d0 : DataW H} {p : List MemPlace}
    (hval : Value.okWide Try.prog W r b0 37 v) (h0 : DataW.Trod enc Try.prog W 0 (fun _ => true) true 37 v d0 p) :
    ∃ x : SP, v = .agg (spenc x).toArray ∧ SpQ W 37 x d0 := by
  simp only [Value.okWide, Try.underlying37] at hval
  obtain ⟨csv, rfl, hsz, _⟩ := hval
  obtain ⟨fuel, hf0⟩ := h0
  obtain ⟨m, e1, e2⟩ := open_step fuel csv.toList d0 p (by simpa [Value.cells] using hf0)
  exact ⟨m, by rw [← e1], e2⟩
end Go.Proofs.Ytdjgafemmihlgaa.opn
namespace Go.Proofs.Ytdjgafemmihlgaa.lan
open Go.RowKit
open Go.Proofs.Ytdjgafemmihlgaa.rowg (InG)
open Go.Proofs.Ytdjgafemmihlgaa.oct (In8)
theorem g_full (p : Option Addr) (c : Nat) (d : T) (k : Int) (w : World) (hp : In8 w p d) (hd : d.length ≤ 140737488351232) (h : (p = none → c = 0) ∧ d.length ≤ c) (_hk : (Lit.int .i64 k).wf = true) :
    Calls Try.prog 5 #[.slice p d.length c, .int .i64 k] w fun e w' => e = .returned (.bool true) ∧ Below w.heap.size w w' := law_full p c d k w hp h.1 h.2 hd
theorem g_orders (P : Option Addr) (C : Nat) (l : List AP) (PI : Option Addr) (CI : Nat) (li : List Int) (w : World) (hP : InG aenc 3 w P l) (hg : ∀ x ∈ l, GoodA w x) (hI : InG ienc 1 w PI li) (hli : li.length ≤ 140737488355328) :
    Calls Try.prog 4 #[.slice P l.length C, .slice PI li.length CI] w fun e w' => e = .returned (.bool true) ∧ Below w.heap.size w w' := law_orders P C l PI CI li w hP hg hI hli
theorem g_keeps (p : Option Addr) (c : Nat) (d : T) (x : opn.SP) (w : World) (hp : In8 w p d) (hd : d.length ≤ 140737488351232) (h : (p = none → c = 0) ∧ d.length ≤ c) :
    Calls Try.prog 6 #[.slice p d.length c, .agg (opn.spenc x).toArray] w fun e w' => e = .returned (.bool true) ∧ Below w.heap.size w w' := law_keeps p c d x.k x.a x.b x.y x.p x.d.length x.c w hp h.2 hd
end Go.Proofs.Ytdjgafemmihlgaa.lan
