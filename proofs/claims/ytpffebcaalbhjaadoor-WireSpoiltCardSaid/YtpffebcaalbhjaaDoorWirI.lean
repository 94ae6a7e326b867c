/- Puts are written and framed (write), by WApi; the chapter's example (known). -/
import Derived.Test.YtpffebcaalbhjaaDoorWirH
namespace Go.Proofs.YtpffebcaalbhjaaDoor.wir
open Go.RowKit
open Go.Proofs.YtpffebcaalbhjaaDoor.oct Go.Proofs.YtpffebcaalbhjaaDoor.ref Go.Proofs.YtpffebcaalbhjaaDoor.rows Go.Proofs.YtpffebcaalbhjaaDoor.rowg
open Go.Lib (byteCells)

/-- the writer's state behind k puts -/
def wsAt (l : List PutA) (k : Nat) : WS := ((l.take k).map PutA.put).foldl WS.put (.ok [] false)
theorem wsAt_succ (l : List PutA) (k : Nat) (h : k < l.length) : wsAt l (k + 1) = (wsAt l k).put (l[k]).put := by
  unfold wsAt
  rw [List.take_succ_eq_append_getElem h, List.map_append, List.foldl_append]
  rfl
theorem bytesB_take (l : List PutA) (k : Nat) : (bytesB ((l.take k).map PutA.put)).length ≤ (bytesB (l.map PutA.put)).length := by
  have h : bytesB (l.map PutA.put) = bytesB ((l.take k).map PutA.put) ++ bytesB ((l.drop k).map PutA.put) := by
    unfold bytesB
    rw [← List.flatMap_append, ← List.map_append, List.take_append_drop]
  rw [h, List.length_append]
  omega
theorem wsAt_len (l : List PutA) (k : Nat) : (wsAt l k).len ≤ (bytesB (l.map PutA.put)).length := by
  unfold wsAt
  rw [WS.puts_ok]
  have := bytesB_take l k
  simpa [WS.len] using this
theorem wsAt_all (l : List PutA) (k : Nat) (h : l.length ≤ k) : (wsAt l k).frame = writeT (l.map PutA.put) := by
  unfold wsAt
  rw [List.take_of_length_le h, WS.frame_write]
theorem frameA_base {w w1 w' : World} {r : Nat × T} {e : Ending} (h : FrameA w1 w' r e) (hb : Below w.heap.size w w1) : FrameA w w' r e := by
  obtain ⟨v, h1, h2, h3⟩ := h
  exact ⟨v, h1, own_base h2 hb.size, bnext hb h3⟩
set_option maxRecDepth 100000 in
set_option maxHeartbeats 4000000 in
theorem write_c {T' : World → Prop} {Cap : Nat → Prop} (X : WApi T' Cap) (P : Option Addr) (C : Nat) (l : List PutA) (w : World) (ht : T' w) (hp : InP w P l) (hg : ∀ x ∈ l, GoodP w x) (hl : l.length ≤ 400) (hc : Cap (bytesB (l.map PutA.put)).length) :
    Calls Tryd.prog 12 #[.slice P l.length C] w fun e w' => FrameA w w' (writeT (l.map PutA.put)) e := by
  have HP := Lib.hid hp
  have HG := Lib.hid hg
  have HN := Lib.hid (X.wnew w)
  clear hp hg
  go_enter Tryd.func12, Tryd.ntmps12
  go_wp2_with fail
  refine HN.out.mono ?_
  rintro e w1 ⟨v, rfl, hW, hb1⟩
  obtain ⟨pv, rfl⟩ := X.wptr hW
  have HW := Lib.hid hW
  have HB := Lib.hid hb1
  clear hW hb1 HN
  go_wp2_with fail
  go_loopg [5] l.length (fun g s5 wx => ∃ k : Nat, k + g = l.length ∧ s5 = .int .i64 (k : Int) ∧ X.Wr wx w.heap.size (.pointer pv) (wsAt l k) ∧ Below w.heap.size w wx)
  case atStart => exact ⟨0, by omega, rfl, HW.out, HB.out⟩
  case round =>
    clear HW HB
    obtain ⟨k, hkg, rfl, hW, hbx⟩ := hrel
    rcases gk with _ | g
    · have hk : ¬ ((k : Int) < (l.length : Int)) := by omega
      have HF := Lib.hid (X.wframe _ _ _ _ (X.tbelow _ _ ht hbx) hW)
      have HE := Lib.hid (wsAt_all l k (by omega))
      rw [HE.out] at HF
      clear hW
      go_wp2_with fail
      refine HF.out.mono ?_
      rintro e w2 ⟨u, rfl, ho, hb2⟩
      have HO := Lib.hid ho
      have HB2 := Lib.hid hb2
      clear ho hb2 HF HE
      go_wp2_with fail
      go_ret2
      exact ⟨u, rfl, own_base HO.out hbx.size, bnext hbx HB2.out⟩
    · have hkI : (k : Int) < (l.length : Int) := by omega
      have hkl : k < l.length := by omega
      obtain ⟨b, o, rfl, c0, c1, c2, c3⟩ := put_cells HP.out k hkl
      have hbl := cell_lt c0
      have d0 := (hbx.cell (p := ⟨b, o + k * 4, none⟩) hbl).trans c0
      have d1 := (hbx.cell (p := ⟨b, o + k * 4 + 1, none⟩) hbl).trans c1
      have d2 := (hbx.cell (p := ⟨b, o + k * 4 + 2, none⟩) hbl).trans c2
      have d3 := (hbx.cell (p := ⟨b, o + k * 4 + 3, none⟩) hbl).trans c3
      have HPC : Hid (Calls Tryd.prog 27 #[.pointer pv, .agg (penc l[k]).toArray] wr fun e w' => WrA X w.heap.size (.pointer pv) ((wsAt l k).put (l[k]).put) wr e w') := put_c X _ _ _ l[k] w wr hW (HG.out _ (List.getElem_mem hkl)) hbx (Nat.le_refl _) (by rw [← wsAt_succ l k hkl]; exact X.capmono hc (wsAt_len l (k + 1)))
      have HS := Lib.hid (wsAt_succ l k hkl)
      rw [← HS.out] at HPC
      have HBX := Lib.hid hbx
      clear c0 c1 c2 c3 hbl hW hbx
      unfold penc at HPC
      go_wp2_with (go_at_call 27; refine HPC.out.mono ?_; rintro e w' ⟨rfl, h1, h2⟩)
      go_roundg g
      case measure => omega
      case rel => exact ⟨k + 1, by omega, by go_num, h1, HBX.out.trans h2⟩
end Go.Proofs.YtpffebcaalbhjaaDoor.wir
