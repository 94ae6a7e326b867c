/- WireWrites by WApi. -/
import Derived.Test.YtpffebcaalbhjaaDoorWirJ
import Derived.Test.YtpffebcaalbhjaaDoorR1Same
namespace Go.Proofs.YtpffebcaalbhjaaDoor.wir
open Go.RowKit
open Go.Proofs.YtpffebcaalbhjaaDoor.oct Go.Proofs.YtpffebcaalbhjaaDoor.ref Go.Proofs.YtpffebcaalbhjaaDoor.rows Go.Proofs.YtpffebcaalbhjaaDoor.rowg
open Go.Lib (byteCells)

set_option maxRecDepth 100000 in
set_option maxHeartbeats 4000000 in
theorem law_writes {T' : World → Prop} {Cap : Nat → Prop} (X : WApi T' Cap) (P : Option Addr) (C : Nat) (l : List PutA) (w : World) (hp : InP w P l) (hg : ∀ x ∈ l, GoodP w x) (hC : l.length ≤ C) (hc : Cap (bytesB ((l.take 400).map PutA.put)).length) (hc7 : Cap 7) (ht : T' w) :
    Calls Tryd.prog 3 #[.slice P l.length C] w fun e w' => e = .returned (.bool true) ∧ Below w.heap.size w w' := by
  have HF := Lib.hid (few_c P C l w hC)
  have hlm : (l.take 400).length ≤ 400 := by rw [List.length_take]; omega
  have hp4 := inp_take hp 400
  have hg4 : ∀ x ∈ l.take 400, GoodP w x := fun x hx => hg x (List.mem_of_mem_take hx)
  obtain ⟨m, hm⟩ : ∃ m, l.take 400 = m := ⟨_, rfl⟩
  rw [hm] at HF hlm hp4 hg4 hc
  have HP := Lib.hid hp4
  have HG := Lib.hid hg4
  have HW := Lib.hid (write_c X P C m w ht hp4 hg4 hlm hc)
  have HR := Lib.hid (fun w1 (hb : Below w.heap.size w w1) => rwrite_c P C m w1 (inp_below HP.out hb) (fun x hx => (HG.out x hx).below hb) hlm)
  have HK := Lib.hid (fun w1 (hb : Below w.heap.size w w1) => wknown_c X w1 (X.tbelow _ _ ht hb) hc7)
  obtain ⟨r, hr⟩ : ∃ r, writeT (m.map PutA.put) = r := ⟨_, rfl⟩
  have HLR : Hid (r.2.length ≤ 65544) := by
    show _ ≤ _
    rw [← hr]
    unfold writeT
    split
    · simp
    · split
      · simp
      · rw [frameT_len]; omega
  rw [hr] at HW HR
  obtain ⟨q, t⟩ := r
  clear hr hp hg hp4 hg4 hm hc hc7 ht hC
  go_enter Tryd.func3, Tryd.ntmps3
  go_wp2_with (go_at_call 11; refine HF.out.mono ?_; rintro e w' ⟨rfl, rfl⟩)
  refine HW.out.mono ?_
  clear HW HF
  rintro e w1 ⟨v1, rfl, ho1, hb1⟩
  dsimp only at ho1 HLR ⊢
  obtain ⟨p1, c1, rfl, h81⟩ := own_in8' ho1
  have H81 := Lib.hid h81
  have HB1 := Lib.hid hb1
  have HR1 := Lib.hid (HR.out w1 hb1)
  clear ho1 h81 hb1 HR
  go_wp2_with fail
  refine HR1.out.mono ?_
  clear HR1
  rintro e w2 ⟨v2, rfl, ho2, hb2⟩
  dsimp only at ho2 ⊢
  obtain ⟨p2, c2, rfl, h82⟩ := own_in8' ho2
  have HB2 := Lib.hid (bnext HB1.out hb2)
  have H81b : Hid (In8 w2 p1 t) := H81.out.below hb2
  have H82 := Lib.hid h82
  have HK1 := Lib.hid (HK.out w2 HB2.out)
  clear ho2 h82 hb2 HK H81 HB1
  go_wp2_with fail
  refine HK1.out.mono ?_
  clear HK1
  rintro e w3 ⟨rfl, hb3⟩
  have HS := Lib.hid (rsame_c p1 p2 c1 c2 t t w3 (H81b.out.below hb3) (H82.out.below hb3) (by have := HLR.out; omega))
  rw [decide_eq_true rfl] at HS
  have HB3 := Lib.hid (bnext HB2.out hb3)
  clear hb3 H81b H82 HB2
  go_wp2_with fail
  refine HS.out.mono ?_
  clear HS
  rintro e w4 ⟨rfl, n, rfl⟩
  have HB4 := Lib.hid (wbelow_drewN HB3.out n)
  obtain ⟨wn, hwn⟩ : ∃ wn, w3.drewN n = wn := ⟨_, rfl⟩
  rw [hwn] at HB4 ⊢
  clear hwn HB3
  go_wp2_with fail
  go_ret
  exact ⟨rfl, HB4.out⟩
end Go.Proofs.YtpffebcaalbhjaaDoor.wir
