/- Several texts in one: GrOp, Grw. Conditions: as each theorem says. -/
import Derived.Test.YthagdkipipldlaaGreatDoorOpen0
import Derived.Test.YthagdkipipldlaaGreatDoorGrM
import Derived.Deep.Slices
import Derived.Test.YthagdkipipldlaaGreatDoorGrv
import Derived.Test.YthagdkipipldlaaGreatDoorPkcT
namespace Go.Proofs.YthagdkipipldlaaGreatDoor.gop
set_option maxRecDepth 100000
open Go.ChangeShapes Go.WideShapes Go.ChangeAt Go.RowKit
open Go.Proofs.YthagdkipipldlaaGreatDoor.scp (T tx senc senc_len InS FitS lval)
open Go.Proofs.YthagdkipipldlaaGreatDoor.gra (CT CM cenc cenc_len GoodC LL okI)
open Go.Proofs.YthagdkipipldlaaGreatDoor.rowg (InG)
open Go.Proofs.YthagdkipipldlaaGreatDoor.opn (bytes_reach)

/-- what an opened text has -/
def TxtQ {H : Type} (x : T) (d : DataW H) : Prop := x.length + 1 ≤ Rows.uptoBulk d ∧ x.length ∈ d.weights Tryz.prog 9
theorem open_txt {H : Type} {enc : TypeId × Value → H} {W : World} (fuel : Nat) (cs : List Value) (d : DataW H) (p : List MemPlace)
    (h : DataW.trod enc Tryz.prog W 0 (fun _ => true) true fuel 9 cs = some (d, p)) : ∃ x : T, cs = senc x ∧ TxtQ x d := by
  obtain ⟨s0, e0, r0, _⟩ := DataW.trod_string Tryz.underlying9 h
  have r1 : d = .lit (.string s0.data.toList) := by injection r0
  refine ⟨s0.data.toList, e0, ?_, ?_⟩
  · rw [r1]; simp [Rows.uptoBulk]
  · rw [r1]; simp [DataW.weights]
def txtBulk : List T → Nat
  | [] => 0
  | x :: r => x.length + 1 + txtBulk r
theorem txtBulk_mem : ∀ {l : List T} {x : T}, x ∈ l → x.length + 1 ≤ txtBulk l
  | y :: r, x, h => by
    rw [txtBulk]
    rcases List.mem_cons.1 h with rfl | h
    · omega
    · have := txtBulk_mem h; omega
theorem txts_bulk {H : Type} (D : Nat → DataW H) : ∀ (l : List T) (k : Nat), (∀ i (hi : i < l.length), (l[i]).length + 1 ≤ Rows.uptoBulk (D (k + i))) → txtBulk l ≤ Rows.uptoBulkAll ((List.range' k l.length).map D)
  | [], _, _ => by simp [txtBulk, Rows.uptoBulkAll]
  | x :: r, k, h => by
    have h1 := txts_bulk D r (k + 1) fun i hi => by
      have := h (i + 1) (by simp; omega)
      rw [show k + 1 + i = k + (i + 1) by omega]
      simpa using this
    have h2 := h 0 (by simp)
    simp only [List.length_cons, List.range'_succ, List.map_cons, Rows.uptoBulkAll, txtBulk]
    simp at h2
    omega
theorem weightsAll_memT {H : Type} {P : Program} {e : TypeId} {n : Nat} {d : DataW H} : ∀ {l : List (DataW H)}, d ∈ l → n ∈ d.weights P e → n ∈ DataW.weightsAll P e l
  | y :: l, h, hn => by
    rw [DataW.weightsAll, List.mem_append]
    rcases List.mem_cons.1 h with rfl | h
    · exact Or.inl hn
    · exact Or.inr (weightsAll_memT h hn)
theorem bulk_all {H : Type} {d : DataW H} : ∀ {l : List (DataW H)}, d ∈ l → Rows.uptoBulk d ≤ Rows.uptoBulkAll l
  | y :: l, h => by
    rw [Rows.uptoBulkAll]
    rcases List.mem_cons.1 h with rfl | h
    · omega
    · have := bulk_all h; omega
theorem txtBulk_ge (l : List T) : l.length ≤ txtBulk l := by
  induction l with
  | nil => exact Nat.le_refl _
  | cons x r ih => rw [txtBulk, List.length_cons]; omega
/-- what a row of texts that is handed in has -/
structure TxsQ {H : Type} (W : World) (t : TypeId) (P : Option Addr) (C : Nat) (l : List T) (d : DataW H) : Prop where
  row : InS W P l
  nil : P = none → C = 0
  cap : l.length ≤ C
  many : (∃ n, n ∈ d.weights Tryz.prog t ∧ l.length ≤ n) ∨ l.length = 0
  each : ∀ x ∈ l, x.length ∈ d.weights Tryz.prog t
  bulk : txtBulk l ≤ Rows.uptoBulk d
theorem TxsQ.up {H : Type} {W : World} {t t2 : TypeId} {P : Option Addr} {C : Nat} {l : List T} {d d2 : DataW H} (q : TxsQ W t P C l d) (hw : ∀ n, n ∈ d.weights Tryz.prog t → n ∈ d2.weights Tryz.prog t2) (hb : Rows.uptoBulk d ≤ Rows.uptoBulk d2) : TxsQ W t2 P C l d2 :=
  ⟨q.row, q.nil, q.cap, q.many.imp (fun ⟨n, h1, h2⟩ => ⟨n, hw n h1, h2⟩) id, fun x hx => hw _ (q.each x hx), Nat.le_trans q.bulk hb⟩
theorem open_textsQ {H : Type} {enc : TypeId × Value → H} {W : World} {a0 : Option Addr} {len cap : Nat} {d0 : DataW H} {p : List MemPlace}
    (h0 : DataW.Trod enc Tryz.prog W 0 (fun _ => true) true 35 (.slice a0 len cap) d0 p) :
    ∃ l : List T, l.length = len ∧ TxsQ W 35 a0 cap l d0 := by
  obtain ⟨l, hl, hin, hn, hc, hx⟩ := rowg.open_g (enc := senc) (k := 1) senc_len (by decide) Tryz.underlying35 (by kernel_rfl) (TxtQ (H := H)) open_txt h0
  rcases hx with ⟨rfl, rfl⟩ | ⟨D, m, hlm, rfl, hq⟩
  · obtain rfl : l = [] := by simpa using hl
    exact ⟨[], hl, hin, hn, hc, Or.inr rfl, (fun x hx => by cases hx), by simp [txtBulk]⟩
  · refine ⟨l, hl, hin, hn, hc, Or.inl ⟨(((List.range len).map D).length + ((List.range (m - len)).map fun j => D (len + j)).length) * Tryz.prog.bytesOf 9, ?_, ?_⟩, fun x hx => ?_, ?_⟩
    · simp only [DataW.weights, Tryz.underlying35]
      exact List.mem_cons_self
    · have hb : Tryz.prog.bytesOf 9 = 16 := by kernel_rfl
      have h1 : ((List.range len).map D).length = len := by rw [List.length_map, List.length_range]
      rw [hl, h1, hb]
      omega
    · obtain ⟨i, hi, rfl⟩ := List.mem_iff_getElem.1 hx
      have hm : D i ∈ (List.range len).map D := List.mem_map_of_mem (List.mem_range.2 (by omega))
      simp only [DataW.weights, Tryz.underlying35]
      exact List.mem_cons_of_mem _ (List.mem_append_left _ (weightsAll_memT hm (hq i hi).2))
    · have h1 := txts_bulk D l 0 fun i hi => by rw [Nat.zero_add]; exact (hq i hi).1
      rw [hl, ← List.range_eq_range'] at h1
      simp only [Rows.uptoBulk]
      omega
/-- texts in a field -/
theorem lopen_textsQ {H : Type} {enc : TypeId × Value → H} {W : World} {fuel : Nat} {c0 : Value} {d0 : DataW H} {p : List MemPlace}
    (h0 : DataW.trod enc Tryz.prog W 0 (fun _ => true) true fuel 35 [c0] = some (d0, p)) :
    ∃ (a0 : Option Addr) (cap : Nat) (l : List T), c0 = .slice a0 l.length cap ∧ TxsQ W 35 a0 cap l d0 := by
  have hc : ∃ a0 len cap, c0 = .slice a0 len cap := by
    rcases Deep.open_slice Tryz.underlying35 h0 with ⟨hcs, _⟩ | ⟨a, len, cap, _, _, _, _, hcs, _⟩
    · injection hcs with e; exact ⟨_, _, _, e⟩
    · injection hcs with e; exact ⟨_, _, _, e⟩
  obtain ⟨a0, len, cap, rfl⟩ := hc
  have h1 : DataW.Trod enc Tryz.prog W 0 (fun _ => true) true 35 (.slice a0 len cap) d0 p := ⟨fuel, by simpa [Value.cells] using h0⟩
  obtain ⟨l, rfl, hq⟩ := open_textsQ h1
  exact ⟨a0, cap, l, rfl, hq⟩
/-- what a command that is handed in has -/
structure CmQ {H : Type} (W : World) (t : TypeId) (x : CM) (d : DataW H) : Prop where
  sc : TxsQ W t x.p x.r x.c.sc d
  i0 : okI x.c.kind
  i2 : okI x.c.ser
  i3 : okI x.c.tok
  i12 : okI x.c.edge
  w1 : x.c.fam.length ∈ d.weights Tryz.prog t
  w4 : x.c.cl.length ∈ d.weights Tryz.prog t
  w5 : x.c.us.length ∈ d.weights Tryz.prog t
  w7 : x.c.re.length ∈ d.weights Tryz.prog t
  w8 : x.c.ch.length ∈ d.weights Tryz.prog t
  w9 : x.c.me.length ∈ d.weights Tryz.prog t
  w10 : x.c.ve.length ∈ d.weights Tryz.prog t
  b1 : x.c.fam.length ≤ Rows.uptoBulk d
  b4 : x.c.cl.length ≤ Rows.uptoBulk d
  b5 : x.c.us.length ≤ Rows.uptoBulk d
  b7 : x.c.re.length ≤ Rows.uptoBulk d
  b8 : x.c.ch.length ≤ Rows.uptoBulk d
  b9 : x.c.me.length ≤ Rows.uptoBulk d
  b10 : x.c.ve.length ≤ Rows.uptoBulk d
theorem CmQ.up {H : Type} {W : World} {t t2 : TypeId} {x : CM} {d d2 : DataW H} (q : CmQ W t x d) (hw : ∀ n, n ∈ d.weights Tryz.prog t → n ∈ d2.weights Tryz.prog t2) (hb : Rows.uptoBulk d ≤ Rows.uptoBulk d2) : CmQ W t2 x d2 :=
  ⟨q.sc.up hw hb, q.i0, q.i2, q.i3, q.i12, hw _ q.w1, hw _ q.w4, hw _ q.w5, hw _ q.w7, hw _ q.w8, hw _ q.w9, hw _ q.w10, Nat.le_trans q.b1 hb, Nat.le_trans q.b4 hb, Nat.le_trans q.b5 hb, Nat.le_trans q.b7 hb, Nat.le_trans q.b8 hb, Nat.le_trans q.b9 hb, Nat.le_trans q.b10 hb⟩
theorem okI_wf {n : Int} (h : (Lit.int .i64 n).wf = true) : okI n := by
  unfold okI
  have h1 : IntKind.i64.min = -9223372036854775808 := rfl
  have h2 : IntKind.i64.max = 9223372036854775807 := rfl
  simp only [Lit.wf, Bool.and_eq_true, decide_eq_true_eq] at h
  exact ⟨by omega, by omega⟩
instance : Inhabited CM := ⟨⟨⟨0, [], 0, 0, [], [], [], [], [], [], [], false, 0⟩, none, 0⟩⟩
theorem open_cmd {H : Type} {enc : TypeId × Value → H} {W : World} (fuel : Nat) (cs : List Value) (d : DataW H) (p : List MemPlace)
    (h : DataW.trod enc Tryz.prog W 0 (fun _ => true) true fuel 48 cs = some (d, p)) : ∃ m, cs = cenc m ∧ CmQ W 48 m d := by
  obtain ⟨xs, n, _, hx, hcl, hxl, hf⟩ := DataW.trod_struct Tryz.underlying48 h
  have h6 : Tryz.prog.cellsOf 48 = 13 := by kernel_rfl
  have hci : Tryz.prog.cellsOf 3 = 1 := by kernel_rfl
  have hcb : Tryz.prog.cellsOf 4 = 1 := by kernel_rfl
  have hct : Tryz.prog.cellsOf 35 = 1 := by kernel_rfl
  have hcs : Tryz.prog.cellsOf 9 = 1 := by kernel_rfl
  rw [h6] at hcl
  match xs, hxl with
  | [y0, y1, y2, y3, y4, y5, y6, y7, y8, y9, y10, y11, y12], _ =>
    match cs, hcl with
    | [c0, c1, c2, c3, c4, c5, c6, c7, c8, c9, c10, c11, c12], _ =>
      have g0 : DataW.trod enc Tryz.prog W 0 (fun _ => true) true n 3 [c0] = some y0 := by
        have this : DataW.trod enc Tryz.prog W 0 (fun _ => true) true n 3 (List.take (Tryz.prog.cellsOf 3) (List.drop 0 [c0, c1, c2, c3, c4, c5, c6, c7, c8, c9, c10, c11, c12])) = some y0 := hf 0 _ rfl
        rw [hci] at this
        exact this
      have g1 : DataW.trod enc Tryz.prog W 0 (fun _ => true) true n 9 [c1] = some y1 := by
        have this : DataW.trod enc Tryz.prog W 0 (fun _ => true) true n 9 (List.take (Tryz.prog.cellsOf 9) (List.drop 1 [c0, c1, c2, c3, c4, c5, c6, c7, c8, c9, c10, c11, c12])) = some y1 := hf 1 _ rfl
        rw [hcs] at this
        exact this
      have g2 : DataW.trod enc Tryz.prog W 0 (fun _ => true) true n 3 [c2] = some y2 := by
        have this : DataW.trod enc Tryz.prog W 0 (fun _ => true) true n 3 (List.take (Tryz.prog.cellsOf 3) (List.drop 2 [c0, c1, c2, c3, c4, c5, c6, c7, c8, c9, c10, c11, c12])) = some y2 := hf 2 _ rfl
        rw [hci] at this
        exact this
      have g3 : DataW.trod enc Tryz.prog W 0 (fun _ => true) true n 3 [c3] = some y3 := by
        have this : DataW.trod enc Tryz.prog W 0 (fun _ => true) true n 3 (List.take (Tryz.prog.cellsOf 3) (List.drop 3 [c0, c1, c2, c3, c4, c5, c6, c7, c8, c9, c10, c11, c12])) = some y3 := hf 3 _ rfl
        rw [hci] at this
        exact this
      have g4 : DataW.trod enc Tryz.prog W 0 (fun _ => true) true n 9 [c4] = some y4 := by
        have this : DataW.trod enc Tryz.prog W 0 (fun _ => true) true n 9 (List.take (Tryz.prog.cellsOf 9) (List.drop 4 [c0, c1, c2, c3, c4, c5, c6, c7, c8, c9, c10, c11, c12])) = some y4 := hf 4 _ rfl
        rw [hcs] at this
        exact this
      have g5 : DataW.trod enc Tryz.prog W 0 (fun _ => true) true n 9 [c5] = some y5 := by
        have this : DataW.trod enc Tryz.prog W 0 (fun _ => true) true n 9 (List.take (Tryz.prog.cellsOf 9) (List.drop 5 [c0, c1, c2, c3, c4, c5, c6, c7, c8, c9, c10, c11, c12])) = some y5 := hf 5 _ rfl
        rw [hcs] at this
        exact this
      have g6 : DataW.trod enc Tryz.prog W 0 (fun _ => true) true n 35 [c6] = some y6 := by
        have this : DataW.trod enc Tryz.prog W 0 (fun _ => true) true n 35 (List.take (Tryz.prog.cellsOf 35) (List.drop 6 [c0, c1, c2, c3, c4, c5, c6, c7, c8, c9, c10, c11, c12])) = some y6 := hf 6 _ rfl
        rw [hct] at this
        exact this
      have g7 : DataW.trod enc Tryz.prog W 0 (fun _ => true) true n 9 [c7] = some y7 := by
        have this : DataW.trod enc Tryz.prog W 0 (fun _ => true) true n 9 (List.take (Tryz.prog.cellsOf 9) (List.drop 7 [c0, c1, c2, c3, c4, c5, c6, c7, c8, c9, c10, c11, c12])) = some y7 := hf 7 _ rfl
        rw [hcs] at this
        exact this
      have g8 : DataW.trod enc Tryz.prog W 0 (fun _ => true) true n 9 [c8] = some y8 := by
        have this : DataW.trod enc Tryz.prog W 0 (fun _ => true) true n 9 (List.take (Tryz.prog.cellsOf 9) (List.drop 8 [c0, c1, c2, c3, c4, c5, c6, c7, c8, c9, c10, c11, c12])) = some y8 := hf 8 _ rfl
        rw [hcs] at this
        exact this
      have g9 : DataW.trod enc Tryz.prog W 0 (fun _ => true) true n 9 [c9] = some y9 := by
        have this : DataW.trod enc Tryz.prog W 0 (fun _ => true) true n 9 (List.take (Tryz.prog.cellsOf 9) (List.drop 9 [c0, c1, c2, c3, c4, c5, c6, c7, c8, c9, c10, c11, c12])) = some y9 := hf 9 _ rfl
        rw [hcs] at this
        exact this
      have g10 : DataW.trod enc Tryz.prog W 0 (fun _ => true) true n 9 [c10] = some y10 := by
        have this : DataW.trod enc Tryz.prog W 0 (fun _ => true) true n 9 (List.take (Tryz.prog.cellsOf 9) (List.drop 10 [c0, c1, c2, c3, c4, c5, c6, c7, c8, c9, c10, c11, c12])) = some y10 := hf 10 _ rfl
        rw [hcs] at this
        exact this
      have g11 : DataW.trod enc Tryz.prog W 0 (fun _ => true) true n 4 [c11] = some y11 := by
        have this : DataW.trod enc Tryz.prog W 0 (fun _ => true) true n 4 (List.take (Tryz.prog.cellsOf 4) (List.drop 11 [c0, c1, c2, c3, c4, c5, c6, c7, c8, c9, c10, c11, c12])) = some y11 := hf 11 _ rfl
        rw [hcb] at this
        exact this
      have g12 : DataW.trod enc Tryz.prog W 0 (fun _ => true) true n 3 [c12] = some y12 := by
        have this : DataW.trod enc Tryz.prog W 0 (fun _ => true) true n 3 (List.take (Tryz.prog.cellsOf 3) (List.drop 12 [c0, c1, c2, c3, c4, c5, c6, c7, c8, c9, c10, c11, c12])) = some y12 := hf 12 _ rfl
        rw [hci] at this
        exact this
      clear hf
      obtain ⟨y6d, y6p⟩ := y6
      obtain ⟨k0, e0, r0, w0⟩ := DataW.trod_int Tryz.underlying3 g0
      obtain ⟨s1, e1, r1, w1⟩ := DataW.trod_string Tryz.underlying9 g1
      obtain ⟨k2, e2, r2, w2⟩ := DataW.trod_int Tryz.underlying3 g2
      obtain ⟨k3, e3, r3, w3⟩ := DataW.trod_int Tryz.underlying3 g3
      obtain ⟨s4, e4, r4, w4⟩ := DataW.trod_string Tryz.underlying9 g4
      obtain ⟨s5, e5, r5, w5⟩ := DataW.trod_string Tryz.underlying9 g5
      obtain ⟨a6, cap6, l6, e6, q6⟩ := lopen_textsQ g6
      obtain ⟨s7, e7, r7, w7⟩ := DataW.trod_string Tryz.underlying9 g7
      obtain ⟨s8, e8, r8, w8⟩ := DataW.trod_string Tryz.underlying9 g8
      obtain ⟨s9, e9, r9, w9⟩ := DataW.trod_string Tryz.underlying9 g9
      obtain ⟨s10, e10, r10, w10⟩ := DataW.trod_string Tryz.underlying9 g10
      obtain ⟨b11, e11, r11⟩ := DataW.trod_bool Tryz.underlying4 g11
      obtain ⟨k12, e12, r12, w12⟩ := DataW.trod_int Tryz.underlying3 g12
      cases e0
      cases e1
      cases e2
      cases e3
      cases e4
      cases e5
      cases e6
      cases e7
      cases e8
      cases e9
      cases e10
      cases e11
      cases e12
      simp only [Prod.mk.injEq] at hx
      clear g0 g1 g2 g3 g4 g5 g6 g7 g8 g9 g10 g11 g12
      have e1 : s1 = ⟨s1.data.toList.toArray⟩ := by rw [Array.toArray_toList]
      have e4 : s4 = ⟨s4.data.toList.toArray⟩ := by rw [Array.toArray_toList]
      have e5 : s5 = ⟨s5.data.toList.toArray⟩ := by rw [Array.toArray_toList]
      have e7 : s7 = ⟨s7.data.toList.toArray⟩ := by rw [Array.toArray_toList]
      have e8 : s8 = ⟨s8.data.toList.toArray⟩ := by rw [Array.toArray_toList]
      have e9 : s9 = ⟨s9.data.toList.toArray⟩ := by rw [Array.toArray_toList]
      have e10 : s10 = ⟨s10.data.toList.toArray⟩ := by rw [Array.toArray_toList]
      have hbk : ∀ y : DataW H, y ∈ [y0.1, y1.1, y2.1, y3.1, y4.1, y5.1, y6d, y7.1, y8.1, y9.1, y10.1, y11.1, y12.1] → Rows.uptoBulk y ≤ Rows.uptoBulk d := fun y hy => by
        have h1 := bulk_all hy
        rw [hx.1]
        simp only [List.map_cons, List.map_nil, Rows.uptoBulk]
        omega
      have hw1 : ∀ n : Nat, n ∈ y1.1.weights Tryz.prog 9 → n ∈ d.weights Tryz.prog 48 := fun n hn => by
        rw [hx.1]
        simp only [DataW.weights, DataW.weightsEach, Tryz.underlying48, List.map_cons, List.map_nil, List.mem_append]
        simp [hn]
      have hw4 : ∀ n : Nat, n ∈ y4.1.weights Tryz.prog 9 → n ∈ d.weights Tryz.prog 48 := fun n hn => by
        rw [hx.1]
        simp only [DataW.weights, DataW.weightsEach, Tryz.underlying48, List.map_cons, List.map_nil, List.mem_append]
        simp [hn]
      have hw5 : ∀ n : Nat, n ∈ y5.1.weights Tryz.prog 9 → n ∈ d.weights Tryz.prog 48 := fun n hn => by
        rw [hx.1]
        simp only [DataW.weights, DataW.weightsEach, Tryz.underlying48, List.map_cons, List.map_nil, List.mem_append]
        simp [hn]
      have hw6 : ∀ n : Nat, n ∈ y6d.weights Tryz.prog 35 → n ∈ d.weights Tryz.prog 48 := fun n hn => by
        rw [hx.1]
        simp only [DataW.weights, DataW.weightsEach, Tryz.underlying48, List.map_cons, List.map_nil, List.mem_append]
        simp [hn]
      have hw7 : ∀ n : Nat, n ∈ y7.1.weights Tryz.prog 9 → n ∈ d.weights Tryz.prog 48 := fun n hn => by
        rw [hx.1]
        simp only [DataW.weights, DataW.weightsEach, Tryz.underlying48, List.map_cons, List.map_nil, List.mem_append]
        simp [hn]
      have hw8 : ∀ n : Nat, n ∈ y8.1.weights Tryz.prog 9 → n ∈ d.weights Tryz.prog 48 := fun n hn => by
        rw [hx.1]
        simp only [DataW.weights, DataW.weightsEach, Tryz.underlying48, List.map_cons, List.map_nil, List.mem_append]
        simp [hn]
      have hw9 : ∀ n : Nat, n ∈ y9.1.weights Tryz.prog 9 → n ∈ d.weights Tryz.prog 48 := fun n hn => by
        rw [hx.1]
        simp only [DataW.weights, DataW.weightsEach, Tryz.underlying48, List.map_cons, List.map_nil, List.mem_append]
        simp [hn]
      have hw10 : ∀ n : Nat, n ∈ y10.1.weights Tryz.prog 9 → n ∈ d.weights Tryz.prog 48 := fun n hn => by
        rw [hx.1]
        simp only [DataW.weights, DataW.weightsEach, Tryz.underlying48, List.map_cons, List.map_nil, List.mem_append]
        simp [hn]
      have t1 : y1.1 = .lit (.string s1.data.toList) := by rw [r1]
      have t4 : y4.1 = .lit (.string s4.data.toList) := by rw [r4]
      have t5 : y5.1 = .lit (.string s5.data.toList) := by rw [r5]
      have t7 : y7.1 = .lit (.string s7.data.toList) := by rw [r7]
      have t8 : y8.1 = .lit (.string s8.data.toList) := by rw [r8]
      have t9 : y9.1 = .lit (.string s9.data.toList) := by rw [r9]
      have t10 : y10.1 = .lit (.string s10.data.toList) := by rw [r10]
      refine ⟨⟨⟨k0, s1.data.toList, k2, k3, s4.data.toList, s5.data.toList, l6, s7.data.toList, s8.data.toList, s9.data.toList, s10.data.toList, b11, k12⟩, a6, cap6⟩, ?_, ⟨?_, ?_, ?_, ?_, ?_, ?_, ?_, ?_, ?_, ?_, ?_, ?_, ?_, ?_, ?_, ?_, ?_, ?_, ?_⟩⟩
      · show _ = [.int .i64 k0, tx s1.data.toList, .int .i64 k2, .int .i64 k3, tx s4.data.toList, tx s5.data.toList, .slice a6 l6.length cap6, tx s7.data.toList, tx s8.data.toList, tx s9.data.toList, tx s10.data.toList, .bool b11, .int .i64 k12]
        unfold tx
        rw [← e1, ← e4, ← e5, ← e7, ← e8, ← e9, ← e10]
      · exact q6.up (fun n hn => hw6 n hn) (hbk _ (by simp))
      · exact okI_wf w0
      · exact okI_wf w2
      · exact okI_wf w3
      · exact okI_wf w12
      · exact hw1 _ (by rw [t1]; simp [DataW.weights])
      · exact hw4 _ (by rw [t4]; simp [DataW.weights])
      · exact hw5 _ (by rw [t5]; simp [DataW.weights])
      · exact hw7 _ (by rw [t7]; simp [DataW.weights])
      · exact hw8 _ (by rw [t8]; simp [DataW.weights])
      · exact hw9 _ (by rw [t9]; simp [DataW.weights])
      · exact hw10 _ (by rw [t10]; simp [DataW.weights])
      · refine Nat.le_trans ?_ (hbk y1.1 (by simp))
        rw [t1]; simp [Rows.uptoBulk]
      · refine Nat.le_trans ?_ (hbk y4.1 (by simp))
        rw [t4]; simp [Rows.uptoBulk]
      · refine Nat.le_trans ?_ (hbk y5.1 (by simp))
        rw [t5]; simp [Rows.uptoBulk]
      · refine Nat.le_trans ?_ (hbk y7.1 (by simp))
        rw [t7]; simp [Rows.uptoBulk]
      · refine Nat.le_trans ?_ (hbk y8.1 (by simp))
        rw [t8]; simp [Rows.uptoBulk]
      · refine Nat.le_trans ?_ (hbk y9.1 (by simp))
        rw [t9]; simp [Rows.uptoBulk]
      · refine Nat.le_trans ?_ (hbk y10.1 (by simp))
        rw [t10]; simp [Rows.uptoBulk]
theorem open_cmds {H : Type} {enc : TypeId × Value → H} {W : World} {a0 : Option Addr} {len cap : Nat} {d0 : DataW H} {p : List MemPlace}
    (h0 : DataW.Trod enc Tryz.prog W 0 (fun _ => true) true 22 (.slice a0 len cap) d0 p) :
    ∃ l : List CM, l.length = len ∧ InG cenc 13 W a0 l ∧ l.length ≤ cap ∧ (a0 = none → cap = 0) ∧ ∀ x ∈ l, CmQ W 22 x d0 := by
  obtain ⟨l, hl, hin, hn, hcp, hx⟩ := rowg.open_g (enc := cenc) (k := 13) cenc_len (by decide) Tryz.underlying22 (by kernel_rfl) (CmQ (H := H) W 48) open_cmd h0
  rcases hx with ⟨rfl, rfl⟩ | ⟨D, m, hlm, rfl, hq⟩
  · obtain rfl : l = [] := by simpa using hl
    exact ⟨[], hl, hin, hcp, hn, fun x hx => by cases hx⟩
  · refine ⟨l, hl, hin, hcp, hn, fun x hx => ?_⟩
    obtain ⟨i, hi, rfl⟩ := List.mem_iff_getElem.1 hx
    have hm : D i ∈ (List.range len).map D := List.mem_map_of_mem (List.mem_range.2 (by omega))
    refine (hq i hi).up (fun n hn => ?_) ?_
    · simp only [DataW.weights, Tryz.underlying22]
      exact List.mem_cons_of_mem _ (List.mem_append_left _ (weightsAll_memT hm hn))
    · have h1 := bulk_all hm
      simp only [Rows.uptoBulk]
      omega
theorem txs_reach {H : Type} {ts : List TypeId} {ds : List (DataW H)} {d : DataW H} {t : TypeId} {W : World} {P : Option Addr} {C : Nat} {l : List T} (hz : (DataW.weightsEach Tryz.prog ts ds).all (· ≤ reachBytes) = true) (j : Nat) (h1 : ts[j]? = some t) (h2 : ds[j]? = some d) (h : TxsQ W t P C l d) : LL W (P, C, l) :=
  ⟨h.row, h.cap, h.nil, (fun x hx => bytes_reach hz j h1 h2 (Or.inl ⟨_, h.each x hx, Nat.le_refl _⟩)), bytes_reach hz j h1 h2 h.many⟩
theorem txs_bulk2 {H : Type} {d : DataW H} {t : TypeId} {W : World} {P : Option Addr} {C : Nat} {l : List T} (h : TxsQ W t P C l d) (hb : Rows.uptoBulk d ≤ 1048576) : LL W (P, C, l) :=
  ⟨h.row, h.cap, h.nil, (fun x hx => by have h3 : x.length + 1 ≤ txtBulk l := txtBulk_mem hx; have := h.bulk; omega), by have := h.bulk; have := txtBulk_ge l; show l.length ≤ _; omega⟩
theorem cm_reach {H : Type} {ts : List TypeId} {ds : List (DataW H)} {d : DataW H} {t : TypeId} {W : World} {x : CM} (hz : (DataW.weightsEach Tryz.prog ts ds).all (· ≤ reachBytes) = true) (j : Nat) (h1 : ts[j]? = some t) (h2 : ds[j]? = some d) (h : CmQ W t x d) : GoodC W x :=
  ⟨h.i0, h.i2, h.i3, h.i12, bytes_reach hz j h1 h2 (Or.inl ⟨_, h.w1, Nat.le_refl _⟩), bytes_reach hz j h1 h2 (Or.inl ⟨_, h.w4, Nat.le_refl _⟩), bytes_reach hz j h1 h2 (Or.inl ⟨_, h.w5, Nat.le_refl _⟩), bytes_reach hz j h1 h2 (Or.inl ⟨_, h.w7, Nat.le_refl _⟩), bytes_reach hz j h1 h2 (Or.inl ⟨_, h.w8, Nat.le_refl _⟩), bytes_reach hz j h1 h2 (Or.inl ⟨_, h.w9, Nat.le_refl _⟩), bytes_reach hz j h1 h2 (Or.inl ⟨_, h.w10, Nat.le_refl _⟩), txs_reach hz j h1 h2 h.sc⟩
theorem cm_bulk {H : Type} {d : DataW H} {t : TypeId} {W : World} {x : CM} (h : CmQ W t x d) (hb : Rows.uptoBulk d ≤ 1048576) : GoodC W x :=
  ⟨h.i0, h.i2, h.i3, h.i12, by have := h.b1; omega, by have := h.b4; omega, by have := h.b5; omega, by have := h.b7; omega, by have := h.b8; omega, by have := h.b9; omega, by have := h.b10; omega, txs_bulk2 h.sc hb⟩
end Go.Proofs.YthagdkipipldlaaGreatDoor.gop

namespace Go.Proofs.YthagdkipipldlaaGreatDoor.gra
open Go.RowKit
open Go.Proofs.YthagdkipipldlaaGreatDoor.sha (Tabs)
open Go.Proofs.YthagdkipipldlaaGreatDoor.rowg (InG)
theorem g_once (n : Int) (P : Option Addr) (C : Nat) (xs : List CM) (s : ByteArray) (w : World) (_ : (Lit.int .i64 n).wf = true) (hp : InG cenc 13 w P xs) (hg : ∀ x ∈ xs, GoodC w x) (hs : s.size ≤ 140737488351232) (ht : Tabs w) :
    Calls Tryz.prog 5 #[.int .i64 n, .slice P xs.length C, .string s] w fun e w' => e = .returned (.bool true) ∧ Below w.heap.size w w' := by
  have h := law_once n P C xs s.data.toList w hp hg (by rw [Array.length_toList]; exact hs) ht
  rw [show (⟨s.data.toList.toArray⟩ : ByteArray) = s by cases s; simp] at h
  exact h
end Go.Proofs.YthagdkipipldlaaGreatDoor.gra
