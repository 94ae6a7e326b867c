/- WireInner by WApi. -/
import Derived.Test.YtpffebcaalbhjaaDoorWirLb
namespace Go.Proofs.YtpffebcaalbhjaaDoor.wir
open Go.RowKit
open Go.Proofs.YtpffebcaalbhjaaDoor.oct Go.Proofs.YtpffebcaalbhjaaDoor.ref Go.Proofs.YtpffebcaalbhjaaDoor.rows Go.Proofs.YtpffebcaalbhjaaDoor.rowg
open Go.Lib (byteCells)

set_option maxRecDepth 100000 in
set_option maxHeartbeats 4000000 in
theorem law_inner {T' : World → Prop} {Cap : Nat → Prop} (X : WApi T' Cap) (p : Option Addr) (c : Nat) (l : T) (P : Option Addr) (C : Nat) (ks : List Int) (w : World) (hp : In8 w p l) (hn : p = none → c = 0) (hP : InI w P ks) (hk : ks.length ≤ 140737488351232) (hc7 : Cap 7) (ht : T' w) :
    Calls Tryd.prog 5 #[.slice p l.length c, .slice P ks.length C] w fun e w' => e = .returned (.bool true) ∧ Below w.heap.size w w' := by
  by_cases h : 65536 < l.length
  · have i1 : (l.length : Int) > 65536 := by omega
    have HK := Lib.hid (wknown_c X w ht hc7)
    go_enter Tryd.func5, Tryd.ntmps5
    go_wp2_with (go_at_call 14; refine HK.out.mono ?_; rintro e w1 ⟨rfl, hb⟩)
    go_ret
    exact ⟨rfl, hb⟩
  · have i1 : ¬ ((l.length : Int) > 65536) := by omega
    have HF := Lib.hid (rframe_c p c l w hp (by omega) hn)
    have HL : Hid ((frameT l).length ≤ 65544) := by show _ ≤ _; rw [frameT_len]; omega
    obtain ⟨f, hf⟩ : ∃ f, frameT l = f := ⟨_, rfl⟩
    rw [hf] at HF HL
    have HR := Lib.hid (fun (p2 : Option Addr) (c2 : Nat) (w1 : World) (hb : Below w.heap.size w w1) (h8 : In8 w1 p2 f) (hn2 : p2 = none → c2 = 0) (hc2 : f.length ≤ c2) => law_reads X p2 c2 f P C ks w1 h8 hn2 hc2 (by have := HL.out; omega) (InG.below ienc_len (by decide) hP hb) hk hc7 (X.tbelow _ _ ht hb))
    clear hp hn hP hk hc7 ht h hf
    go_enter Tryd.func5, Tryd.ntmps5
    go_wp2_with fail
    refine HF.out.mono ?_
    rintro e w1 ⟨v, rfl, ho, hb1⟩
    obtain ⟨p2, c2, rfl, h8, hn2, hc2⟩ := own_arg ho
    have HR1 := Lib.hid (HR.out p2 c2 w1 hb1 h8 hn2 hc2)
    have HB1 := Lib.hid hb1
    clear ho h8 hn2 hc2 hb1 HR HF
    go_wp2_with (go_at_call 4; refine HR1.out.mono ?_; rintro e w2 ⟨rfl, hb2⟩)
    go_ret
    exact ⟨rfl, bnext HB1.out hb2⟩
end Go.Proofs.YtpffebcaalbhjaaDoor.wir
