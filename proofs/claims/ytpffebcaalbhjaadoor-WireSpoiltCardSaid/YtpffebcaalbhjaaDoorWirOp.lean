/- Opening []int, ref.Put, Harm arguments of a law; the eight laws of wire in the cards' shapes. Bounds as each theorem says. -/
import Derived.Test.YtpffebcaalbhjaaDoorWirOpA
import Derived.Test.YtpffebcaalbhjaaDoorWirLi
import Derived.Test.YtpffebcaalbhjaaDoorWirLd
import Derived.Test.YtpffebcaalbhjaaDoorWirLe
import Derived.Test.YtpffebcaalbhjaaDoorWirLf
import Derived.Test.YtpffebcaalbhjaaDoorWirLg
import Derived.Test.YtpffebcaalbhjaaDoorWirLh
namespace Go.Proofs.YtpffebcaalbhjaaDoor.opn
open Go.ChangeShapes Go.WideShapes Go.ChangeAt Go.RowKit
open Go.Proofs.YtpffebcaalbhjaaDoor.oct (In8)
open Go.Proofs.YtpffebcaalbhjaaDoor.wir (T PutA penc InP GoodP ienc ienc_len InI)

/-- what an opened int has -/
def IntQ {H : Type} (_x : Int) (_d : DataW H) : Prop := True
theorem wopen_int {H : Type} {enc : TypeId × Value → H} {W : World} (fuel : Nat) (cs : List Value) (d : DataW H) (p : List MemPlace)
    (h : DataW.trod enc Tryd.prog W 0 (fun _ => true) true fuel 3 cs = some (d, p)) : ∃ x : Int, cs = ienc x ∧ IntQ x d := by
  obtain ⟨k0, e0, _, _⟩ := DataW.trod_int Tryd.underlying3 h
  exact ⟨k0, e0, trivial⟩
theorem open_introw {H : Type} {enc : TypeId × Value → H} {W : World} {a0 : Option Addr} {len cap : Nat} {d0 : DataW H} {p : List MemPlace}
    (h0 : DataW.Trod enc Tryd.prog W 0 (fun _ => true) true 33 (.slice a0 len cap) d0 p) :
    ∃ l : List Int, l.length = len ∧ InI W a0 l ∧ l.length + 1 ≤ Rows.uptoBulk d0 ∧ (a0 = none → cap = 0) ∧ l.length ≤ cap ∧ ((∃ n, n ∈ d0.weights Tryd.prog 33 ∧ l.length ≤ n) ∨ l.length = 0) := by
  obtain ⟨l, hl, hin, hn, hcp, hx⟩ := rowg.open_g (enc := ienc) (k := 1) ienc_len (by decide) Tryd.underlying33 (by kernel_rfl) (IntQ (H := H)) wopen_int h0
  rcases hx with ⟨rfl, rfl⟩ | ⟨D, m, hlm, rfl, hq⟩
  · obtain rfl : l = [] := by simpa using hl
    exact ⟨[], hl, hin, by simpa using one_le d0, hn, hcp, Or.inr rfl⟩
  · refine ⟨l, hl, hin, ?_, hn, hcp, Or.inl ⟨(((List.range len).map D).length + ((List.range (m - len)).map fun j => D (len + j)).length) * Tryd.prog.bytesOf 3, ?_, ?_⟩⟩
    · have h1 := length_le ((List.range len).map D)
      rw [List.length_map, List.length_range] at h1
      simp only [Rows.uptoBulk]
      omega
    · simp only [DataW.weights, Tryd.underlying33]
      exact List.mem_cons_self
    · rw [hl, show Tryd.prog.bytesOf 3 = 8 by kernel_rfl, List.length_map, List.length_range]
      omega
theorem putQ_W {H : Type} {W : World} {x : PutA} {d : DataW H} (h : PutQ W x d) : PutW W 43 d x := ⟨h.ints, h.kind, h.row, h.nil, h.room, h.text, h.many, h.texts⟩
set_option maxRecDepth 8000 in
/-- a put that is handed in -/
theorem open_putv {H : Type} {enc : TypeId × Value → H} {W : World} {r : Reach} {b0 : Nat} {v : Value} {d0 : DataW H} {p : List MemPlace}
    (hval : Value.okWide Tryd.prog W r b0 43 v) (h0 : DataW.Trod enc Tryd.prog W 0 (fun _ => true) true 43 v d0 p) : ∃ x : PutA, v = .agg (penc x).toArray ∧ PutQ W x d0 := by
  simp only [Value.okWide, Tryd.underlying43] at hval
  obtain ⟨cs, rfl, hsz, _⟩ := hval
  obtain ⟨fuel, hf⟩ := h0
  obtain ⟨x, hx, hq⟩ := open_put fuel _ d0 p hf
  refine ⟨x, ?_, hq⟩
  have h2 : cs.toList = penc x := by simpa [Value.cells] using hx
  rw [← h2]
/-- bytes in a field: its cell, its row -/
theorem wopen_bytes {H : Type} {enc : TypeId × Value → H} {W : World} {fuel : Nat} {c0 : Value} {d0 : DataW H} {p : List MemPlace}
    (h0 : DataW.trod enc Tryd.prog W 0 (fun _ => true) true fuel 24 [c0] = some (d0, p)) :
    ∃ (a0 : Option Addr) (cap : Nat) (l : List UInt8), c0 = .slice a0 l.length cap ∧ In8 W a0 l ∧ l.length + 1 ≤ Rows.uptoBulk d0 ∧ (a0 = none → cap = 0) ∧ l.length ≤ cap := by
  have hc : ∃ a0 len cap, c0 = .slice a0 len cap := by
    rcases Deep.open_slice Tryd.underlying24 h0 with ⟨hcs, _⟩ | ⟨a, len, cap, _, _, _, _, hcs, _⟩
    · injection hcs with e; exact ⟨_, _, _, e⟩
    · injection hcs with e; exact ⟨_, _, _, e⟩
  obtain ⟨a0, len, cap, rfl⟩ := hc
  have h1 : DataW.Trod enc Tryd.prog W 0 (fun _ => true) true 24 (.slice a0 len cap) d0 p := ⟨fuel, by simpa [Value.cells] using h0⟩
  obtain ⟨l, rfl, h2, h3, h4, h5, _⟩ := open_bytes h1
  exact ⟨a0, cap, l, rfl, h2, h3, h4, h5⟩
set_option maxRecDepth 8000 in
/-- a harm that is handed in -/
theorem open_harm {H : Type} {enc : TypeId × Value → H} {W : World} {r : Reach} {b0 : Nat} {v : Value} {d0 : DataW H} {p : List MemPlace}
    (hval : Value.okWide Tryd.prog W r b0 53 v) (h0 : DataW.Trod enc Tryd.prog W 0 (fun _ => true) true 53 v d0 p) :
    ∃ (a l : Int) (b : UInt8) (pm : Option Addr) (cm : Nat) (m : List UInt8), v = .agg #[.int .i64 a, .int .u8 (b.toNat : Int), .int .i64 l, .slice pm m.length cm] ∧ In8 W pm m ∧ m.length + 1 ≤ Rows.uptoBulk d0 ∧ (pm = none → cm = 0) := by
  simp only [Value.okWide, Tryd.underlying53] at hval
  obtain ⟨csv, rfl, hsz, _⟩ := hval
  obtain ⟨fuel, hf0⟩ := h0
  obtain ⟨cs, hcs⟩ : ∃ cs, csv.toList = cs := ⟨_, rfl⟩
  have hf1 : DataW.trod enc Tryd.prog W 0 (fun _ => true) true fuel 53 cs = some (d0, p) := by rw [← hcs]; simpa [Value.cells] using hf0
  obtain ⟨xs, n, _, hx, hcl, hxl, hf⟩ := DataW.trod_struct Tryd.underlying53 hf1
  have h5 : Tryd.prog.cellsOf 53 = 4 := by kernel_rfl
  have h1 : Tryd.prog.cellsOf 5 = 1 := by kernel_rfl
  have h2 : Tryd.prog.cellsOf 3 = 1 := by kernel_rfl
  have h3 : Tryd.prog.cellsOf 24 = 1 := by kernel_rfl
  rw [h5] at hcl
  match xs, hxl with
  | [y0, y1, y2, y3], _ =>
    match cs, hcl with
    | [c0, c1, c2, c3], _ =>
      have f0 := hf 0 _ rfl
      have f1 := hf 1 _ rfl
      have f2 := hf 2 _ rfl
      have f3 := hf 3 _ rfl
      have g0 : DataW.trod enc Tryd.prog W 0 (fun _ => true) true n 3 [c0] = some y0 := by
        have this : DataW.trod enc Tryd.prog W 0 (fun _ => true) true n 3 (List.take (Tryd.prog.cellsOf 3) (List.drop 0 [c0, c1, c2, c3])) = some y0 := f0
        rw [h2] at this
        exact this
      have g1 : DataW.trod enc Tryd.prog W 0 (fun _ => true) true n 5 [c1] = some y1 := by
        have this : DataW.trod enc Tryd.prog W 0 (fun _ => true) true n 5 (List.take (Tryd.prog.cellsOf 5) (List.drop 1 [c0, c1, c2, c3])) = some y1 := f1
        rw [h1] at this
        exact this
      have g2 : DataW.trod enc Tryd.prog W 0 (fun _ => true) true n 3 [c2] = some y2 := by
        have this : DataW.trod enc Tryd.prog W 0 (fun _ => true) true n 3 (List.take (Tryd.prog.cellsOf 3) (List.drop 2 [c0, c1, c2, c3])) = some y2 := f2
        rw [h2] at this
        exact this
      have g3 : DataW.trod enc Tryd.prog W 0 (fun _ => true) true n 24 [c3] = some y3 := by
        have this : DataW.trod enc Tryd.prog W 0 (fun _ => true) true n 24 (List.take (Tryd.prog.cellsOf 24) (List.drop 3 [c0, c1, c2, c3])) = some y3 := f3
        rw [h3] at this
        exact this
      obtain ⟨y3d, y3p⟩ := y3
      obtain ⟨k0, e0, r0, w0⟩ := DataW.trod_int Tryd.underlying3 g0
      obtain ⟨k1, e1, r1, w1⟩ := DataW.trod_int Tryd.underlying5 g1
      obtain ⟨k2, e2, r2, w2⟩ := DataW.trod_int Tryd.underlying3 g2
      obtain ⟨a3, cap3, l3, e3, q1, q2, q3, _⟩ := wopen_bytes g3
      cases e0
      cases e1
      cases e2
      cases e3
      obtain ⟨b1, b2⟩ := byte_wf w1
      simp only [Prod.mk.injEq] at hx
      refine ⟨k0, k2, UInt8.ofNat k1.toNat, a3, cap3, l3, ?_, q1, ?_, q3⟩
      · have e : csv = (csv.toList).toArray := by simp
        rw [e, hcs]
        have e1 : ((UInt8.ofNat k1.toNat).toNat : Int) = k1 := by
          rw [UInt8.toNat_ofNat']
          omega
        rw [e1]
      · rw [hx.1]
        simp only [List.map_cons, List.map_nil, Rows.uptoBulk, Rows.uptoBulkAll]
        omega
end Go.Proofs.YtpffebcaalbhjaaDoor.opn
namespace Go.Proofs.YtpffebcaalbhjaaDoor.wir
open Go.RowKit
open Go.Proofs.YtpffebcaalbhjaaDoor.oct Go.Proofs.YtpffebcaalbhjaaDoor.rowg

theorem flat_le10 (l : List T) (h : ∀ y ∈ l, y.length < 18446744073709551616) : (l.flatMap textB).length ≤ 10 * opn.txtB l := by
  induction l with
  | nil => simp
  | cons y r ih =>
    rw [List.flatMap_cons, List.length_append, opn.txtB]
    have h1 := ih fun z hz => h z (List.mem_cons_of_mem _ hz)
    have h2 := numB_ten (h y List.mem_cons_self)
    have h3 : (textB y).length = (numB y.length).length + y.length := by unfold textB; rw [List.length_append]
    omega
/-- what a put writes is no more than ten times its bulk -/
theorem put_bulk {w : World} {x : PutA} (h : GoodP w x) : (putB x.put).length ≤ 10 * opn.putK x := by
  obtain ⟨k, n, s, p, c, l⟩ := x
  have hi := h.ints
  have ht := h.text
  have hm := h.many
  have hy := h.texts
  dsimp only at hi ht hm hy
  unfold PutA.put putB opn.putK
  dsimp only
  have h1 := numB_ten (zz_lt hi.1 hi.2)
  have h2 := numB_ten (n := s.length) (by omega)
  have h3 := numB_ten (n := l.length) (by omega)
  have h4 := flat_le10 l (fun y hy2 => by have := hy y hy2; omega)
  split
  · omega
  · split
    · unfold textB
      rw [List.length_append]
      omega
    · split
      · show 1 ≤ _
        omega
      · split
        · split
          · have h5 := numB_ten (n := n.toNat) (by omega)
            omega
          · simp
        · split
          · split
            · rw [List.length_append]
              omega
            · simp
          · simp
theorem puts_bulk10 {w : World} : ∀ {l : List PutA}, (∀ x ∈ l, GoodP w x) → (bytesB (l.map PutA.put)).length ≤ 10 * opn.putsK l
  | [], _ => by simp [bytesB]
  | x :: r, h => by
    have h1 := puts_bulk10 (l := r) fun y hy => h y (List.mem_cons_of_mem _ hy)
    have h2 := put_bulk (h x List.mem_cons_self)
    unfold bytesB at h1 ⊢
    rw [List.map_cons, List.flatMap_cons, List.length_append, opn.putsK]
    omega
theorem take_bulk {w : World} {l : List PutA} (h : ∀ x ∈ l, GoodP w x) (k : Nat) : (bytesB ((l.take k).map PutA.put)).length ≤ 10 * opn.putsK l :=
  Nat.le_trans (bytesB_take l k) (puts_bulk10 h)
theorem g_writes {T' : World → Prop} {Cap : Nat → Prop} (X : WApi T' Cap) (hcap : Cap 10485760) (P : Option Addr) (C : Nat) (l : List PutA) (w : World) (hp : InP w P l) (hg : ∀ x ∈ l, GoodP w x) (hC : l.length ≤ C) (hb : opn.putsK l ≤ 1048576) (ht : T' w) :
    Calls Tryd.prog 3 #[.slice P l.length C] w fun e w' => e = .returned (.bool true) ∧ Below w.heap.size w w' :=
  law_writes X P C l w hp hg hC (X.capmono hcap (by have := take_bulk hg 400; omega)) (X.capmono hcap (by omega)) ht
theorem g_back {T' : World → Prop} {Cap : Nat → Prop} (X : WApi T' Cap) (hcap : Cap 10485760) (P : Option Addr) (C : Nat) (l : List PutA) (w : World) (hp : InP w P l) (hg : ∀ x ∈ l, GoodP w x) (hC : l.length ≤ C) (hb : opn.putsK l ≤ 1048576) (ht : T' w) :
    Calls Tryd.prog 6 #[.slice P l.length C] w fun e w' => e = .returned (.bool true) ∧ Below w.heap.size w w' :=
  law_back X P C l w hp hg hC (X.capmono hcap (by have := take_bulk hg 400; omega)) (X.capmono hcap (by omega)) ht
theorem g_keeps {T' : World → Prop} {Cap : Nat → Prop} (X : WApi T' Cap) (hcap : Cap 10485760) (P : Option Addr) (C : Nat) (l : List PutA) (w : World) (hp : InP w P l) (hg : ∀ x ∈ l, GoodP w x) (hC : l.length ≤ C) (hb : opn.putsK l ≤ 1048576) (ht : T' w) :
    Calls Tryd.prog 10 #[.slice P l.length C] w fun e w' => e = .returned (.bool true) ∧ Below w.heap.size w w' :=
  law_keeps X P C l w hp hg hC (X.capmono hcap (by have := take_bulk hg 400; omega)) (X.capmono hcap (by omega)) ht
theorem g_spoilt {T' : World → Prop} {Cap : Nat → Prop} (X : WApi T' Cap) (hcap : Cap 10485760) (P : Option Addr) (C : Nat) (l : List PutA) (a : Int) (b : UInt8) (e : Int) (pm : Option Addr) (cm : Nat) (m : List UInt8) (w : World) (hp : InP w P l) (hg : ∀ x ∈ l, GoodP w x) (hC : l.length ≤ C) (hb : opn.putsK l ≤ 1048576)
    (hm : In8 w pm m) (hmn : pm = none → cm = 0) (hml : m.length ≤ 1048576) (ht : T' w) :
    Calls Tryd.prog 7 #[.slice P l.length C, .agg #[.int .i64 a, .int .u8 (b.toNat : Int), .int .i64 e, .slice pm m.length cm]] w fun e w' => e = .returned (.bool true) ∧ Below w.heap.size w w' :=
  law_spoilt X P C l a e b pm cm m w hp hg hC (X.capmono hcap (by have := take_bulk hg 400; omega)) (X.capmono hcap (by omega)) ht hm hmn hml
theorem g_reads {T' : World → Prop} {Cap : Nat → Prop} (X : WApi T' Cap) (hcap : Cap 10485760) (p : Option Addr) (c : Nat) (l : List UInt8) (P : Option Addr) (C : Nat) (ks : List Int) (w : World) (hp : In8 w p l) (hl : l.length ≤ 140737488351232) (hm : (p = none → c = 0) ∧ l.length ≤ c) (hP : InI w P ks) (hk : ks.length ≤ 140737488351232) (ht : T' w) :
    Calls Tryd.prog 4 #[.slice p l.length c, .slice P ks.length C] w fun e w' => e = .returned (.bool true) ∧ Below w.heap.size w w' :=
  law_reads X p c l P C ks w hp hm.1 hm.2 (by omega) hP hk (X.capmono hcap (by omega)) ht
theorem g_inner {T' : World → Prop} {Cap : Nat → Prop} (X : WApi T' Cap) (hcap : Cap 10485760) (p : Option Addr) (c : Nat) (l : List UInt8) (P : Option Addr) (C : Nat) (ks : List Int) (w : World) (hp : In8 w p l) (_hl : l.length ≤ 140737488351232) (hm : (p = none → c = 0) ∧ l.length ≤ c) (hP : InI w P ks) (hk : ks.length ≤ 140737488351232) (ht : T' w) :
    Calls Tryd.prog 5 #[.slice p l.length c, .slice P ks.length C] w fun e w' => e = .returned (.bool true) ∧ Below w.heap.size w w' :=
  law_inner X p c l P C ks w hp hm.1 hP hk (X.capmono hcap (by omega)) ht
theorem g_stays {T' : World → Prop} {Cap : Nat → Prop} (X : WApi T' Cap) (hcap : Cap 10485760) (p : Option Addr) (c : Nat) (l : List UInt8) (P : Option Addr) (C : Nat) (ks : List Int) (Q : Option Addr) (D : Nat) (m : List PutA) (w : World) (hp : In8 w p l) (_hl : l.length ≤ 140737488351232) (hm : (p = none → c = 0) ∧ l.length ≤ c) (hP : InI w P ks) (_hk : ks.length ≤ 140737488351232)
    (hq : InP w Q m) (hg : ∀ x ∈ m, GoodP w x) (hD : m.length ≤ D) (hb : opn.putsK m ≤ 1048576) (ht : T' w) :
    Calls Tryd.prog 8 #[.slice p l.length c, .slice P ks.length C, .slice Q m.length D] w fun e w' => e = .returned (.bool true) ∧ Below w.heap.size w w' :=
  law_stays X p c l P C ks Q D m w hp hm.1 hP hq hg hD (X.capmono hcap (by have := take_bulk hg 400; omega)) (X.capmono hcap (by omega)) ht
theorem g_nil {T' : World → Prop} {Cap : Nat → Prop} (X : WApi T' Cap) (hcap : Cap 10485760) (x : PutA) (w : World) (hx : GoodP w x) (ht : T' w) :
    Calls Tryd.prog 9 #[.agg (penc x).toArray] w fun e w' => e = .returned (.bool true) ∧ Below w.heap.size w w' :=
  law_nil X x w hx (X.capmono hcap (by omega)) ht
end Go.Proofs.YtpffebcaalbhjaaDoor.wir
