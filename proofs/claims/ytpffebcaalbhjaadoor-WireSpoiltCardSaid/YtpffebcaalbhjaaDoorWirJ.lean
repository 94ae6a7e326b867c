/- The chapter's example (known) and the first puts (few), by WApi. -/
import Derived.Test.YtpffebcaalbhjaaDoorWirI
namespace Go.Proofs.YtpffebcaalbhjaaDoor.wir
open Go.RowKit
open Go.Proofs.YtpffebcaalbhjaaDoor.oct Go.Proofs.YtpffebcaalbhjaaDoor.ref Go.Proofs.YtpffebcaalbhjaaDoor.rows Go.Proofs.YtpffebcaalbhjaaDoor.rowg
open Go.Lib (byteCells)

def knownP : List PutA := [⟨0, 5, [], none, 0, []⟩, ⟨0, -1, [], none, 0, []⟩, ⟨1, 0, [97], none, 0, []⟩, ⟨2, 1, [], none, 0, []⟩, ⟨3, 128, [], none, 0, []⟩]
def knownB : T := [10, 1, 1, 97, 1, 128, 1]
theorem num128 : numB 128 = [128, 1] := by rw [numB_more (by decide), numB_one (by decide)]; rfl
theorem known_bytes : bytesB (knownP.map PutA.put) = knownB := by
  have e0 : putB ⟨0, 5, [], []⟩ = numB 10 := rfl
  have e1 : putB ⟨0, -1, [], []⟩ = numB 1 := rfl
  have e2 : putB ⟨1, 0, [97], []⟩ = numB 1 ++ [97] := rfl
  have e3 : putB ⟨2, 1, [], []⟩ = [1] := rfl
  have e4 : putB ⟨3, 128, [], []⟩ = numB 128 := rfl
  show putB ⟨0, 5, [], []⟩ ++ (putB ⟨0, -1, [], []⟩ ++ (putB ⟨1, 0, [97], []⟩ ++ (putB ⟨2, 1, [], []⟩ ++ (putB ⟨3, 128, [], []⟩ ++ [])))) = knownB
  rw [e0, e1, e2, e3, e4, num128, numB_one (by decide), numB_one (by decide)]
  rfl
theorem known_write : writeT (knownP.map PutA.put) = (0, frameT knownB) := by
  unfold writeT
  rw [known_bytes, if_neg (by decide), if_neg (by decide)]
theorem frame_tail (b : T) : (frameT b).drop 8 = b := by
  unfold frameT
  rw [List.append_assoc, fourT_eq, fourT_eq]
  rfl
theorem ing_new {α : Type} {enc : α → List Value} {k : Nat} (hk : ∀ a, (enc a).length = k) (w : World) (l : List α) (e : Nat) : InG enc k (w.alloc (.cells (cells enc l).toArray e)) (some ⟨w.heap.size, 0, none⟩) l := fun _ =>
  ⟨w.heap.size, 0, rfl, fun i hi j hj => by
    rw [World.cell?_alloc_at _ _ _ _ rfl, Nat.zero_add]
    have h := cells_at hk l i hi j hj
    simpa using h⟩
theorem known_good (w : World) : ∀ x ∈ knownP, GoodP w x := by
  intro x hx
  unfold knownP at hx
  simp only [List.mem_cons, List.not_mem_nil, or_false] at hx
  rcases hx with rfl | rfl | rfl | rfl | rfl <;> exact ⟨⟨by decide, by decide⟩, by decide, ins_none _, fun _ => rfl, by decide, by decide, fun y hy => absurd hy (by simp)⟩
set_option maxRecDepth 100000 in
set_option maxHeartbeats 4000000 in
theorem wknown_c {T' : World → Prop} {Cap : Nat → Prop} (X : WApi T' Cap) (w : World) (ht : T' w) (hc : Cap 7) :
    Calls Tryd.prog 14 #[] w fun e w' => e = .returned (.bool true) ∧ Below w.heap.size w w' := by
  have hb0 := (Below.refl w.heap.size w).alloc (Nat.le_refl _) (.cells (cells penc knownP).toArray 43)
  have HW : Hid (Calls Tryd.prog 12 #[.slice (some ⟨w.heap.size, 0, none⟩) 5 5] (w.alloc (.cells (cells penc knownP).toArray 43)) fun e w' => FrameA (w.alloc (.cells (cells penc knownP).toArray 43)) w' (0, frameT knownB) e) := by
    show Calls _ _ _ _ _
    rw [← known_write]
    exact write_c X (some ⟨w.heap.size, 0, none⟩) 5 knownP _ (X.tbelow _ _ ht hb0) (ing_new penc_len w knownP _) (known_good _) (by decide) (by rw [known_bytes]; exact hc)
  have HB0 := Lib.hid hb0
  clear hb0
  go_enter Tryd.func14, Tryd.ntmps14
  go_wp2_with fail
  refine HW.out.mono ?_
  clear HW
  rintro e w2 ⟨v, rfl, ho, hb⟩
  have hl : (frameT knownB).length = 15 := by rw [frameT_len]; rfl
  dsimp only at ho ⊢
  rw [hl] at ho
  obtain ⟨k1, h⟩ := own_cells ho
  obtain ⟨k2, pp, cc, hv, h8⟩ := own_in8 ho
  clear k1 k2
  rcases h with ⟨_, h0⟩ | ⟨g, c, hv2, k3, k4, hc15, k5⟩
  · exact absurd h0 (by decide)
  rw [hv2] at hv
  injection hv with e1 e2 e3
  subst e1 e3 hv2
  clear k3 k4 k5
  have h9 := in8_off h8 8
  rw [frame_tail] at h9
  have hcv := conv_in8 h9 (Or.inr ⟨_, _, rfl⟩) (c - 8)
  have hcl : knownB.length = 7 := rfl
  rw [hcl] at hcv
  rw [Nat.zero_add] at hcv
  unfold knownB at hcv
  have HB := Lib.hid (bnext HB0.out hb)
  clear ho h8 h9 hb HB0 hl e2 hcl
  go_wp2_with fail
  go_ret
  exact ⟨rfl, HB.out⟩
set_option maxRecDepth 100000 in
set_option maxHeartbeats 4000000 in
theorem few_c (P : Option Addr) (C : Nat) (l : List PutA) (w : World) (hC : l.length ≤ C) :
    Calls Tryd.prog 11 #[.slice P l.length C] w fun e w' => e = .returned (.slice P (l.take 400).length C) ∧ w = w' := by
  by_cases h : 400 < l.length
  · have i1 : (l.length : Int) > 400 := by omega
    rw [show (l.take 400).length = 400 by rw [List.length_take]; omega]
    go_enter Tryd.func11, Tryd.ntmps11
    go_wp2_with fail
    go_ret
    exact ⟨rfl, rfl⟩
  · have i1 : ¬ ((l.length : Int) > 400) := by omega
    rw [List.take_of_length_le (by omega)]
    go_enter Tryd.func11, Tryd.ntmps11
    go_wp2_with fail
    go_ret
    exact ⟨rfl, rfl⟩
theorem inp_take {w : World} {P : Option Addr} {l : List PutA} (h : InP w P l) (k : Nat) : InP w P (l.take k) := fun hp => by
  have hl : 0 < l.length := by rw [List.length_take] at hp; omega
  obtain ⟨b, o, e, hc⟩ := h hl
  refine ⟨b, o, e, fun i hi j hj => ?_⟩
  have hi2 : i < l.length := by rw [List.length_take] at hi; omega
  have h2 := hc i hi2 j hj
  rw [h2, List.getElem_take]
end Go.Proofs.YtpffebcaalbhjaaDoor.wir
