/- WireSpoilt in full: opening a Harm with its weights; the law in the card's shape. -/
import Derived.Test.YtpffebcaalbhjaaDoorWirOpF
import Derived.Test.YtpffebcaalbhjaaDoorWirLj
namespace Go.Proofs.YtpffebcaalbhjaaDoor.opn
open Go.ChangeShapes Go.WideShapes Go.ChangeAt Go.RowKit
open Go.Proofs.YtpffebcaalbhjaaDoor.oct (In8)
open Go.Proofs.YtpffebcaalbhjaaDoor.wir (T)

/-- bytes in a field: its cell, its row -/
theorem wopen_bytesW {H : Type} {enc : TypeId × Value → H} {W : World} {fuel : Nat} {c0 : Value} {d0 : DataW H} {p : List MemPlace}
    (h0 : DataW.trod enc Tryd.prog W 0 (fun _ => true) true fuel 24 [c0] = some (d0, p)) :
    ∃ (a0 : Option Addr) (cap : Nat) (l : List UInt8), c0 = .slice a0 l.length cap ∧ In8 W a0 l ∧ l.length + 1 ≤ Rows.uptoBulk d0 ∧ (a0 = none → cap = 0) ∧ l.length ≤ cap ∧ ((∃ n, n ∈ d0.weights Tryd.prog 24 ∧ l.length ≤ n) ∨ l.length = 0) := by
  have hc : ∃ a0 len cap, c0 = .slice a0 len cap := by
    rcases Deep.open_slice Tryd.underlying24 h0 with ⟨hcs, _⟩ | ⟨a, len, cap, _, _, _, _, hcs, _⟩
    · injection hcs with e; exact ⟨_, _, _, e⟩
    · injection hcs with e; exact ⟨_, _, _, e⟩
  obtain ⟨a0, len, cap, rfl⟩ := hc
  have h1 : DataW.Trod enc Tryd.prog W 0 (fun _ => true) true 24 (.slice a0 len cap) d0 p := ⟨fuel, by simpa [Value.cells] using h0⟩
  obtain ⟨l, rfl, h2, h3, h4, h5, h6⟩ := open_bytes h1
  exact ⟨a0, cap, l, rfl, h2, h3, h4, h5, h6⟩
set_option maxRecDepth 8000 in
/-- a harm that is handed in -/
theorem open_harmW {H : Type} {enc : TypeId × Value → H} {W : World} {r : Reach} {b0 : Nat} {v : Value} {d0 : DataW H} {p : List MemPlace}
    (hval : Value.okWide Tryd.prog W r b0 53 v) (h0 : DataW.Trod enc Tryd.prog W 0 (fun _ => true) true 53 v d0 p) :
    ∃ (a l : Int) (b : UInt8) (pm : Option Addr) (cm : Nat) (m : List UInt8), v = .agg #[.int .i64 a, .int .u8 (b.toNat : Int), .int .i64 l, .slice pm m.length cm] ∧ In8 W pm m ∧ m.length + 1 ≤ Rows.uptoBulk d0 ∧ (pm = none → cm = 0) ∧ ((∃ n, n ∈ d0.weights Tryd.prog 53 ∧ m.length ≤ n) ∨ m.length = 0) := by
  simp only [Value.okWide, Tryd.underlying53] at hval
  obtain ⟨csv, rfl, hsz, _⟩ := hval
  obtain ⟨fuel, hf0⟩ := h0
  obtain ⟨cs, hcs⟩ : ∃ cs, csv.toList = cs := ⟨_, rfl⟩
  have hf1 : DataW.trod enc Tryd.prog W 0 (fun _ => true) true fuel 53 cs = some (d0, p) := by rw [← hcs]; simpa [Value.cells] using hf0
  obtain ⟨xs, n, _, hx, hcl, hxl, hf⟩ := DataW.trod_struct Tryd.underlying53 hf1
  have h5 : Tryd.prog.cellsOf 53 = 4 := by kernel_rfl
  have h1 : Tryd.prog.cellsOf 5 = 1 := by kernel_rfl
  have h2 : Tryd.prog.cellsOf 3 = 1 := by kernel_rfl
  have h3 : Tryd.prog.cellsOf 24 = 1 := by kernel_rfl
  rw [h5] at hcl
  match xs, hxl with
  | [y0, y1, y2, y3], _ =>
    match cs, hcl with
    | [c0, c1, c2, c3], _ =>
      have f0 := hf 0 _ rfl
      have f1 := hf 1 _ rfl
      have f2 := hf 2 _ rfl
      have f3 := hf 3 _ rfl
      have g0 : DataW.trod enc Tryd.prog W 0 (fun _ => true) true n 3 [c0] = some y0 := by
        have this : DataW.trod enc Tryd.prog W 0 (fun _ => true) true n 3 (List.take (Tryd.prog.cellsOf 3) (List.drop 0 [c0, c1, c2, c3])) = some y0 := f0
        rw [h2] at this
        exact this
      have g1 : DataW.trod enc Tryd.prog W 0 (fun _ => true) true n 5 [c1] = some y1 := by
        have this : DataW.trod enc Tryd.prog W 0 (fun _ => true) true n 5 (List.take (Tryd.prog.cellsOf 5) (List.drop 1 [c0, c1, c2, c3])) = some y1 := f1
        rw [h1] at this
        exact this
      have g2 : DataW.trod enc Tryd.prog W 0 (fun _ => true) true n 3 [c2] = some y2 := by
        have this : DataW.trod enc Tryd.prog W 0 (fun _ => true) true n 3 (List.take (Tryd.prog.cellsOf 3) (List.drop 2 [c0, c1, c2, c3])) = some y2 := f2
        rw [h2] at this
        exact this
      have g3 : DataW.trod enc Tryd.prog W 0 (fun _ => true) true n 24 [c3] = some y3 := by
        have this : DataW.trod enc Tryd.prog W 0 (fun _ => true) true n 24 (List.take (Tryd.prog.cellsOf 24) (List.drop 3 [c0, c1, c2, c3])) = some y3 := f3
        rw [h3] at this
        exact this
      obtain ⟨y3d, y3p⟩ := y3
      obtain ⟨k0, e0, r0, w0⟩ := DataW.trod_int Tryd.underlying3 g0
      obtain ⟨k1, e1, r1, w1⟩ := DataW.trod_int Tryd.underlying5 g1
      obtain ⟨k2, e2, r2, w2⟩ := DataW.trod_int Tryd.underlying3 g2
      obtain ⟨a3, cap3, l3, e3, q1, q2, q3, _, q5⟩ := wopen_bytesW g3
      cases e0
      cases e1
      cases e2
      cases e3
      obtain ⟨b1, b2⟩ := byte_wf w1
      simp only [Prod.mk.injEq] at hx
      refine ⟨k0, k2, UInt8.ofNat k1.toNat, a3, cap3, l3, ?_, q1, ?_, q3, ?_⟩
      · have e : csv = (csv.toList).toArray := by simp
        rw [e, hcs]
        have e1 : ((UInt8.ofNat k1.toNat).toNat : Int) = k1 := by
          rw [UInt8.toNat_ofNat']
          omega
        rw [e1]
      · rw [hx.1]
        simp only [List.map_cons, List.map_nil, Rows.uptoBulk, Rows.uptoBulkAll]
        omega
      · rw [hx.1]
        rcases q5 with ⟨n5, m5, l5⟩ | m5
        · exact Or.inl ⟨n5, by simp [DataW.weights, DataW.weightsEach, Tryd.underlying53, m5], l5⟩
        · exact Or.inr m5
end Go.Proofs.YtpffebcaalbhjaaDoor.opn
namespace Go.Proofs.YtpffebcaalbhjaaDoor.wir
open Go.RowKit
open Go.Proofs.YtpffebcaalbhjaaDoor.oct Go.Proofs.YtpffebcaalbhjaaDoor.rowg

theorem g_spoiltF {T' : World → Prop} (X : WApi T' fun _ => True)
    (hbig : ∀ (p : Option Addr) (c : Nat) (l : T) (w : World), T' w → In8 w p l → (p = none → c = 0) → l.length ≤ c → l.length ≤ 281474976710656 → Calls Tryd.prog 16 #[.slice p l.length c] w fun e w' => ∃ q, e = .returned (.tuple #[.pointer q, .int .i64 (openE l : Nat)]) ∧ Below w.heap.size w w')
    (P : Option Addr) (C : Nat) (l : List PutA) (a : Int) (b : UInt8) (e : Int) (pm : Option Addr) (cm : Nat) (m : List UInt8) (w : World) (hp : InP w P l) (hg : ∀ x ∈ l, GoodP w x) (hC : l.length ≤ C)
    (hm : In8 w pm m) (hmn : pm = none → cm = 0) (hml : m.length ≤ 140737488351232) (ht : T' w) :
    Calls Tryd.prog 7 #[.slice P l.length C, .agg #[.int .i64 a, .int .u8 (b.toNat : Int), .int .i64 e, .slice pm m.length cm]] w fun e w' => e = .returned (.bool true) ∧ Below w.heap.size w w' :=
  law_spoiltF X P C l a e b pm cm m w hp hg hC trivial trivial ht hm hmn hml hbig
end Go.Proofs.YtpffebcaalbhjaaDoor.wir
