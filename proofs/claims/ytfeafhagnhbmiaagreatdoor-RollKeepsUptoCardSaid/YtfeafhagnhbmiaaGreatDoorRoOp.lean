/- Opening rows of texts and of clients that are handed in to roll's laws; the laws in the cards' shapes. -/
import Derived.Test.YtfeafhagnhbmiaaGreatDoorOpen0
import Derived.Test.YtfeafhagnhbmiaaGreatDoorScpOp
import Derived.Test.YtfeafhagnhbmiaaGreatDoorRoR
import Derived.Deep.Slices
namespace Go.Proofs.YtfeafhagnhbmiaaGreatDoor.opn
set_option maxRecDepth 100000
open Go.ChangeShapes Go.WideShapes Go.ChangeAt Go.RowKit
open Go.Proofs.YtfeafhagnhbmiaaGreatDoor.scp (tx senc senc_len InS FitS lval)
open Go.Proofs.YtfeafhagnhbmiaaGreatDoor.rol (T Cm clenc clenc_len InC GoodC LL)
open Go.Proofs.YtfeafhagnhbmiaaGreatDoor.rowg (InG)

theorem bulk_all {H : Type} {d : DataW H} : ∀ {l : List (DataW H)}, d ∈ l → Rows.uptoBulk d ≤ Rows.uptoBulkAll l
  | y :: l, h => by
    rw [Rows.uptoBulkAll]
    rcases List.mem_cons.1 h with rfl | h
    · omega
    · have := bulk_all h; omega
theorem txtBulk_ge (l : List T) : l.length ≤ txtBulk l := by
  induction l with
  | nil => exact Nat.le_refl _
  | cons x r ih => rw [txtBulk, List.length_cons]; omega
/-- what a row of texts that is handed in has -/
structure TxsQ {H : Type} (W : World) (t : TypeId) (P : Option Addr) (C : Nat) (l : List T) (d : DataW H) : Prop where
  row : InS W P l
  nil : P = none → C = 0
  cap : l.length ≤ C
  many : (∃ n, n ∈ d.weights Tryz.prog t ∧ l.length ≤ n) ∨ l.length = 0
  each : ∀ x ∈ l, x.length ∈ d.weights Tryz.prog t
  bulk : txtBulk l ≤ Rows.uptoBulk d
theorem TxsQ.up {H : Type} {W : World} {t t2 : TypeId} {P : Option Addr} {C : Nat} {l : List T} {d d2 : DataW H} (q : TxsQ W t P C l d) (hw : ∀ n, n ∈ d.weights Tryz.prog t → n ∈ d2.weights Tryz.prog t2) (hb : Rows.uptoBulk d ≤ Rows.uptoBulk d2) : TxsQ W t2 P C l d2 :=
  ⟨q.row, q.nil, q.cap, q.many.imp (fun ⟨n, h1, h2⟩ => ⟨n, hw n h1, h2⟩) id, fun x hx => hw _ (q.each x hx), Nat.le_trans q.bulk hb⟩
theorem open_textsQ {H : Type} {enc : TypeId × Value → H} {W : World} {a0 : Option Addr} {len cap : Nat} {d0 : DataW H} {p : List MemPlace}
    (h0 : DataW.Trod enc Tryz.prog W 0 (fun _ => true) true 25 (.slice a0 len cap) d0 p) :
    ∃ l : List T, l.length = len ∧ TxsQ W 25 a0 cap l d0 := by
  obtain ⟨l, hl, hin, hn, hc, hx⟩ := rowg.open_g (enc := senc) (k := 1) senc_len (by decide) Tryz.underlying25 (by kernel_rfl) (TxtQ (H := H)) open_txt h0
  rcases hx with ⟨rfl, rfl⟩ | ⟨D, m, hlm, rfl, hq⟩
  · obtain rfl : l = [] := by simpa using hl
    exact ⟨[], hl, hin, hn, hc, Or.inr rfl, (fun x hx => by cases hx), by simp [txtBulk]⟩
  · refine ⟨l, hl, hin, hn, hc, Or.inl ⟨(((List.range len).map D).length + ((List.range (m - len)).map fun j => D (len + j)).length) * Tryz.prog.bytesOf 9, ?_, ?_⟩, fun x hx => ?_, ?_⟩
    · simp only [DataW.weights, Tryz.underlying25]
      exact List.mem_cons_self
    · have hb : Tryz.prog.bytesOf 9 = 16 := by kernel_rfl
      have h1 : ((List.range len).map D).length = len := by rw [List.length_map, List.length_range]
      rw [hl, h1, hb]
      omega
    · obtain ⟨i, hi, rfl⟩ := List.mem_iff_getElem.1 hx
      have hm : D i ∈ (List.range len).map D := List.mem_map_of_mem (List.mem_range.2 (by omega))
      simp only [DataW.weights, Tryz.underlying25]
      exact List.mem_cons_of_mem _ (List.mem_append_left _ (weightsAll_memT hm (hq i hi).2))
    · have h1 := txts_bulk D l 0 fun i hi => by rw [Nat.zero_add]; exact (hq i hi).1
      rw [hl, ← List.range_eq_range'] at h1
      simp only [Rows.uptoBulk]
      omega
/-- texts in a field -/
theorem lopen_textsQ {H : Type} {enc : TypeId × Value → H} {W : World} {fuel : Nat} {c0 : Value} {d0 : DataW H} {p : List MemPlace}
    (h0 : DataW.trod enc Tryz.prog W 0 (fun _ => true) true fuel 25 [c0] = some (d0, p)) :
    ∃ (a0 : Option Addr) (cap : Nat) (l : List T), c0 = .slice a0 l.length cap ∧ TxsQ W 25 a0 cap l d0 := by
  have hc : ∃ a0 len cap, c0 = .slice a0 len cap := by
    rcases Deep.open_slice Tryz.underlying25 h0 with ⟨hcs, _⟩ | ⟨a, len, cap, _, _, _, _, hcs, _⟩
    · injection hcs with e; exact ⟨_, _, _, e⟩
    · injection hcs with e; exact ⟨_, _, _, e⟩
  obtain ⟨a0, len, cap, rfl⟩ := hc
  have h1 : DataW.Trod enc Tryz.prog W 0 (fun _ => true) true 25 (.slice a0 len cap) d0 p := ⟨fuel, by simpa [Value.cells] using h0⟩
  obtain ⟨l, rfl, hq⟩ := open_textsQ h1
  exact ⟨a0, cap, l, rfl, hq⟩
/-- what a client that is handed in has -/
structure ClQ {H : Type} (W : World) (t : TypeId) (x : Cm) (d : DataW H) : Prop where
  red : TxsQ W t x.red.1 x.red.2.1 x.red.2.2 d
  sco : TxsQ W t x.sco.1 x.sco.2.1 x.sco.2.2 d
  gra : TxsQ W t x.gra.1 x.gra.2.1 x.gra.2.2 d
  wid : x.id.length ∈ d.weights Tryz.prog t
  wsec : x.sec.length ∈ d.weights Tryz.prog t
  bid : x.id.length ≤ Rows.uptoBulk d
  bsec : x.sec.length ≤ Rows.uptoBulk d
theorem ClQ.up {H : Type} {W : World} {t t2 : TypeId} {x : Cm} {d d2 : DataW H} (q : ClQ W t x d) (hw : ∀ n, n ∈ d.weights Tryz.prog t → n ∈ d2.weights Tryz.prog t2) (hb : Rows.uptoBulk d ≤ Rows.uptoBulk d2) : ClQ W t2 x d2 :=
  ⟨q.red.up hw hb, q.sco.up hw hb, q.gra.up hw hb, hw _ q.wid, hw _ q.wsec, Nat.le_trans q.bid hb, Nat.le_trans q.bsec hb⟩
theorem open_client {H : Type} {enc : TypeId × Value → H} {W : World} (fuel : Nat) (cs : List Value) (d : DataW H) (p : List MemPlace)
    (h : DataW.trod enc Tryz.prog W 0 (fun _ => true) true fuel 27 cs = some (d, p)) : ∃ m, cs = clenc m ∧ ClQ W 27 m d := by
  obtain ⟨xs, n, _, hx, hcl, hxl, hf⟩ := DataW.trod_struct Tryz.underlying27 h
  have h6 : Tryz.prog.cellsOf 27 = 6 := by kernel_rfl
  have hcb : Tryz.prog.cellsOf 4 = 1 := by kernel_rfl
  have hcn : Tryz.prog.cellsOf 25 = 1 := by kernel_rfl
  have hcs : Tryz.prog.cellsOf 9 = 1 := by kernel_rfl
  rw [h6] at hcl
  match xs, hxl with
  | [y0, y1, y2, y3, y4, y5], _ =>
    match cs, hcl with
    | [c0, c1, c2, c3, c4, c5], _ =>
      have f0 := hf 0 _ rfl
      have f1 := hf 1 _ rfl
      have f2 := hf 2 _ rfl
      have f3 := hf 3 _ rfl
      have f4 := hf 4 _ rfl
      have f5 := hf 5 _ rfl
      have g0 : DataW.trod enc Tryz.prog W 0 (fun _ => true) true n 9 [c0] = some y0 := by
        have this : DataW.trod enc Tryz.prog W 0 (fun _ => true) true n 9 (List.take (Tryz.prog.cellsOf 9) (List.drop 0 [c0, c1, c2, c3, c4, c5])) = some y0 := f0
        rw [hcs] at this
        exact this
      have g1 : DataW.trod enc Tryz.prog W 0 (fun _ => true) true n 9 [c1] = some y1 := by
        have this : DataW.trod enc Tryz.prog W 0 (fun _ => true) true n 9 (List.take (Tryz.prog.cellsOf 9) (List.drop 1 [c0, c1, c2, c3, c4, c5])) = some y1 := f1
        rw [hcs] at this
        exact this
      have g2 : DataW.trod enc Tryz.prog W 0 (fun _ => true) true n 4 [c2] = some y2 := by
        have this : DataW.trod enc Tryz.prog W 0 (fun _ => true) true n 4 (List.take (Tryz.prog.cellsOf 4) (List.drop 2 [c0, c1, c2, c3, c4, c5])) = some y2 := f2
        rw [hcb] at this
        exact this
      have g3 : DataW.trod enc Tryz.prog W 0 (fun _ => true) true n 25 [c3] = some y3 := by
        have this : DataW.trod enc Tryz.prog W 0 (fun _ => true) true n 25 (List.take (Tryz.prog.cellsOf 25) (List.drop 3 [c0, c1, c2, c3, c4, c5])) = some y3 := f3
        rw [hcn] at this
        exact this
      have g4 : DataW.trod enc Tryz.prog W 0 (fun _ => true) true n 25 [c4] = some y4 := by
        have this : DataW.trod enc Tryz.prog W 0 (fun _ => true) true n 25 (List.take (Tryz.prog.cellsOf 25) (List.drop 4 [c0, c1, c2, c3, c4, c5])) = some y4 := f4
        rw [hcn] at this
        exact this
      have g5 : DataW.trod enc Tryz.prog W 0 (fun _ => true) true n 25 [c5] = some y5 := by
        have this : DataW.trod enc Tryz.prog W 0 (fun _ => true) true n 25 (List.take (Tryz.prog.cellsOf 25) (List.drop 5 [c0, c1, c2, c3, c4, c5])) = some y5 := f5
        rw [hcn] at this
        exact this
      obtain ⟨y3d, y3p⟩ := y3
      obtain ⟨y4d, y4p⟩ := y4
      obtain ⟨y5d, y5p⟩ := y5
      obtain ⟨s0, e0, r0, w0⟩ := DataW.trod_string Tryz.underlying9 g0
      obtain ⟨s1, e1, r1, w1⟩ := DataW.trod_string Tryz.underlying9 g1
      obtain ⟨b2, e2, r2⟩ := DataW.trod_bool Tryz.underlying4 g2
      obtain ⟨a3, cap3, l3, e3, q3⟩ := lopen_textsQ g3
      obtain ⟨a4, cap4, l4, e4, q4⟩ := lopen_textsQ g4
      obtain ⟨a5, cap5, l5, e5, q5⟩ := lopen_textsQ g5
      cases e0
      cases e1
      cases e2
      cases e3
      cases e4
      cases e5
      simp only [Prod.mk.injEq] at hx
      have e0 : s0 = ⟨s0.data.toList.toArray⟩ := by rw [Array.toArray_toList]
      have e1 : s1 = ⟨s1.data.toList.toArray⟩ := by rw [Array.toArray_toList]
      have hbk : ∀ y : DataW H, y ∈ [y0.1, y1.1, y2.1, y3d, y4d, y5d] → Rows.uptoBulk y ≤ Rows.uptoBulk d := fun y hy => by
        have h1 := bulk_all hy
        rw [hx.1]
        simp only [List.map_cons, List.map_nil, Rows.uptoBulk]
        omega
      have hwt : ∀ n : Nat, (n ∈ y0.1.weights Tryz.prog 9 ∨ n ∈ y1.1.weights Tryz.prog 9 ∨ n ∈ y3d.weights Tryz.prog 25 ∨ n ∈ y4d.weights Tryz.prog 25 ∨ n ∈ y5d.weights Tryz.prog 25) → n ∈ d.weights Tryz.prog 27 := fun n hn => by
        rw [hx.1]
        simp only [DataW.weights, DataW.weightsEach, Tryz.underlying27, List.map_cons, List.map_nil, List.mem_append]
        rcases hn with h | h | h | h | h <;> simp [h]
      have t0 : y0.1 = .lit (.string s0.data.toList) := by rw [r0]
      have t1 : y1.1 = .lit (.string s1.data.toList) := by rw [r1]
      refine ⟨⟨s0.data.toList, s1.data.toList, b2, (a3, cap3, l3), (a4, cap4, l4), (a5, cap5, l5)⟩, ?_, ⟨?_, ?_, ?_, ?_, ?_, ?_, ?_⟩⟩
      · show _ = [tx s0.data.toList, tx s1.data.toList, .bool b2, .slice a3 l3.length cap3, .slice a4 l4.length cap4, .slice a5 l5.length cap5]
        unfold tx
        rw [← e0, ← e1]
      · exact q3.up (fun n hn => hwt n (Or.inr (Or.inr (Or.inl hn)))) (hbk _ (by simp))
      · exact q4.up (fun n hn => hwt n (Or.inr (Or.inr (Or.inr (Or.inl hn))))) (hbk _ (by simp))
      · exact q5.up (fun n hn => hwt n (Or.inr (Or.inr (Or.inr (Or.inr hn))))) (hbk _ (by simp))
      · exact hwt _ (Or.inl (by rw [t0]; simp [DataW.weights]))
      · exact hwt _ (Or.inr (Or.inl (by rw [t1]; simp [DataW.weights])))
      · refine Nat.le_trans ?_ (hbk y0.1 (by simp))
        rw [t0]; simp [Rows.uptoBulk]
      · refine Nat.le_trans ?_ (hbk y1.1 (by simp))
        rw [t1]; simp [Rows.uptoBulk]
theorem open_clients {H : Type} {enc : TypeId × Value → H} {W : World} {a0 : Option Addr} {len cap : Nat} {d0 : DataW H} {p : List MemPlace}
    (h0 : DataW.Trod enc Tryz.prog W 0 (fun _ => true) true 22 (.slice a0 len cap) d0 p) :
    ∃ l : List Cm, l.length = len ∧ InC W a0 l ∧ l.length ≤ cap ∧ ∀ x ∈ l, ClQ W 22 x d0 := by
  obtain ⟨l, hl, hin, hn, hcp, hx⟩ := rowg.open_g (enc := clenc) (k := 6) clenc_len (by decide) Tryz.underlying22 (by kernel_rfl) (ClQ (H := H) W 27) open_client h0
  rcases hx with ⟨rfl, rfl⟩ | ⟨D, m, hlm, rfl, hq⟩
  · obtain rfl : l = [] := by simpa using hl
    exact ⟨[], hl, hin, hcp, fun x hx => by cases hx⟩
  · refine ⟨l, hl, hin, hcp, fun x hx => ?_⟩
    obtain ⟨i, hi, rfl⟩ := List.mem_iff_getElem.1 hx
    have hm : D i ∈ (List.range len).map D := List.mem_map_of_mem (List.mem_range.2 (by omega))
    refine (hq i hi).up (fun n hn => ?_) ?_
    · simp only [DataW.weights, Tryz.underlying22]
      exact List.mem_cons_of_mem _ (List.mem_append_left _ (weightsAll_memT hm hn))
    · have h1 := bulk_all hm
      simp only [Rows.uptoBulk]
      omega
theorem txs_reach {H : Type} {ts : List TypeId} {ds : List (DataW H)} {d : DataW H} {t : TypeId} {W : World} {P : Option Addr} {C : Nat} {l : List T} (hz : (DataW.weightsEach Tryz.prog ts ds).all (· ≤ reachBytes) = true) (j : Nat) (h1 : ts[j]? = some t) (h2 : ds[j]? = some d) (h : TxsQ W t P C l d) : LL W (P, C, l) :=
  ⟨h.row, h.cap, h.nil, (fun x hx => bytes_reach hz j h1 h2 (Or.inl ⟨_, h.each x hx, Nat.le_refl _⟩)), bytes_reach hz j h1 h2 h.many⟩
theorem txs_bulk2 {H : Type} {d : DataW H} {t : TypeId} {W : World} {P : Option Addr} {C : Nat} {l : List T} (h : TxsQ W t P C l d) (hb : Rows.uptoBulk d ≤ 1048576) : LL W (P, C, l) :=
  ⟨h.row, h.cap, h.nil, (fun x hx => by have h3 : x.length + 1 ≤ txtBulk l := txtBulk_mem hx; have := h.bulk; omega), by have := h.bulk; have := txtBulk_ge l; show l.length ≤ _; omega⟩
theorem cl_reach {H : Type} {ts : List TypeId} {ds : List (DataW H)} {d : DataW H} {t : TypeId} {W : World} {x : Cm} (hz : (DataW.weightsEach Tryz.prog ts ds).all (· ≤ reachBytes) = true) (j : Nat) (h1 : ts[j]? = some t) (h2 : ds[j]? = some d) (h : ClQ W t x d) : GoodC W x :=
  ⟨bytes_reach hz j h1 h2 (Or.inl ⟨_, h.wid, Nat.le_refl _⟩), bytes_reach hz j h1 h2 (Or.inl ⟨_, h.wsec, Nat.le_refl _⟩), txs_reach hz j h1 h2 h.red, txs_reach hz j h1 h2 h.sco, txs_reach hz j h1 h2 h.gra⟩
theorem cl_bulk {H : Type} {d : DataW H} {t : TypeId} {W : World} {x : Cm} (h : ClQ W t x d) (hb : Rows.uptoBulk d ≤ 1048576) : GoodC W x :=
  ⟨by have := h.bid; omega, by have := h.bsec; omega, txs_bulk2 h.red hb, txs_bulk2 h.sco hb, txs_bulk2 h.gra hb⟩
end Go.Proofs.YtfeafhagnhbmiaaGreatDoor.opn
namespace Go.Proofs.YtfeafhagnhbmiaaGreatDoor.rol
open Go.RowKit
theorem s_of (s : ByteArray) : (⟨s.data.toList.toArray⟩ : ByteArray) = s := by cases s; simp
end Go.Proofs.YtfeafhagnhbmiaaGreatDoor.rol
