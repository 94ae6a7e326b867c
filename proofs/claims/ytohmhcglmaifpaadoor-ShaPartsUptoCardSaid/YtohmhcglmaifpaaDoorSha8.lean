/- The contract of the reference's Join: parts, one behind the other (together up to 2^47 bytes). -/
import Derived.Test.YtohmhcglmaifpaaDoorApp
namespace Go.Proofs.YtohmhcglmaifpaaDoor.sha
open Go.RowKit
open Go.Proofs.YtohmhcglmaifpaaDoor.oct Go.Proofs.YtohmhcglmaifpaaDoor.ref
open Go.Lib (byteCells)

/-- a row of bytes among others: where it lies, its room, its bytes -/
structure Part where
  p : Option Addr
  cap : Nat
  l : List UInt8
def Part.val (x : Part) : Value := .slice x.p x.l.length x.cap
/-- the room of a slice of n bytes: none at nil, and no less than n -/
def Rm (p : Option Addr) (cp n : Nat) : Prop := (p = none → cp = 0) ∧ n ≤ cp
theorem own_rm {w : World} {B e n c : Nat} {p : Option Addr} {xs : List Value} (h : w.ownsRow B e 1 (.slice p n c) n xs) : Rm p c n := by
  rcases h.2 with ⟨h, _⟩ | ⟨g, cap, cur, h, _, _, hn, _⟩
  · injection h with h1 h2 h3
    subst h1 h2 h3
    exact ⟨fun _ => rfl, Nat.le_refl _⟩
  · injection h with h1 _ h3
    subst h1 h3
    exact ⟨(fun h => by cases h), hn⟩
def Part.lies (w : World) (x : Part) : Prop := In8 w x.p x.l ∧ Rm x.p x.cap x.l.length
/-- a row of rows at a slice's address -/
def InP (w : World) (P : Option Addr) (ps : List Part) : Prop :=
  (0 < ps.length → ∃ b o, P = some ⟨b, o, none⟩ ∧ ∀ i (h : i < ps.length), w.cell? ⟨b, o + i, none⟩ = some (ps[i]).val) ∧ ∀ x ∈ ps, x.lies w
theorem InP.below {w w' : World} {P : Option Addr} {ps : List Part} (h : InP w P ps) (hb : Below w.heap.size w w') : InP w' P ps := by
  refine ⟨fun hl => ?_, fun x hx => ⟨(h.2 x hx).1.below hb, (h.2 x hx).2⟩⟩
  obtain ⟨b, o, rfl, hc⟩ := h.1 hl
  have hlt : b < w.heap.size := cell_lt (hc 0 hl)
  exact ⟨b, o, rfl, fun i hi => (hb.cell (p := ⟨b, o + i, none⟩) hlt).trans (hc i hi)⟩
def joined (ps : List Part) : List UInt8 := (ps.map (·.l)).flatten
theorem joined_snoc (ps : List Part) (x : Part) : joined (ps ++ [x]) = joined ps ++ x.l := by simp [joined]
theorem joined_take {ps : List Part} {i : Nat} (h : i < ps.length) : joined (ps.take (i + 1)) = joined (ps.take i) ++ (ps[i]).l := by rw [List.take_succ_eq_append_getElem h, joined_snoc]
theorem joined_take_le (ps : List Part) (i : Nat) : (joined (ps.take i)).length ≤ (joined ps).length := by
  have e : joined (ps.take i ++ ps.drop i) = joined (ps.take i) ++ joined (ps.drop i) := by simp only [joined, List.map_append, List.flatten_append]
  rw [List.take_append_drop] at e
  rw [e, List.length_append]; omega

set_option maxHeartbeats 1000000 in
theorem join_c (P : Option Addr) (C : Nat) (ps : List Part) (w : World) (hp : InP w P ps) (hn : ps.length ≤ 140737488355328) (hl : (joined ps).length ≤ 140737488355328) :
    Calls Tryd.prog 17 #[.slice P ps.length C] w fun e w' => ∃ v, e = .returned v ∧ w'.ownsRow w.heap.size 5 1 v (joined ps).length (byteCells (joined ps)) ∧ Below w.heap.size w w' := by
  have HP := Lib.hid hp
  clear hp
  go_enter Tryd.func17, Tryd.ntmps17
  go_wp2_with fail
  go_loopg [3, 4] ps.length (fun g s3 s4 wy => ∃ i : Nat, i + g = ps.length ∧ s4 = .int .i64 i ∧ wy.ownsRow w.heap.size 5 1 s3 (joined (ps.take i)).length (byteCells (joined (ps.take i))) ∧ Below w.heap.size w wy)
  case atStart => exact ⟨0, by omega, rfl, World.ownsRow_nil _ _ _ _, Below.refl _ _⟩
  case round =>
    obtain ⟨i, hig, rfl, hrow, hbx⟩ := hrel
    rcases gk with _ | g
    · obtain rfl : i = ps.length := by omega
      rw [List.take_length] at hrow
      go_wp2_with fail
      go_ret
      exact ⟨_, rfl, hrow, hbx⟩
    · have hi : i < ps.length := by omega
      have hiI : (i : Int) < (ps.length : Int) := by omega
      have hq := HP.out.below hbx
      obtain ⟨b, o, rfl, hc⟩ := hq.1 (by omega)
      have c1 := hc i hi
      have hx := hq.2 _ (List.getElem_mem hi)
      have hle := joined_take_le ps (i + 1)
      have hj := joined_take hi
      rw [hj, List.length_append] at hle
      have HJ := Lib.hid hj
      obtain ⟨x, hxe⟩ : ∃ x, ps[i] = x := ⟨_, rfl⟩
      rw [hxe] at c1 hx hle HJ
      obtain ⟨q, cq, l⟩ := x
      simp only [Part.val] at c1
      have H8 := Lib.hid hx.1
      have HN := Lib.hid hx.2.1
      simp only at hle
      clear hq hc hxe hx hj
      go_wp2_with (at_builtin; refine wpList_append_in8 rfl (.tmp 11) (.tmp 15) rfl w.heap.size _ _ _ rfl hrow q l.length cq l rfl H8.out rfl HN.out (by omega) hbx.size ?_; intro v2 w2 hown2 hbb; have hb2 := hbb w hbx (Nat.le_refl _); clear hbb)
      go_roundg g
      case measure => omega
      case rel => exact ⟨i + 1, by omega, by go_num, by rw [HJ.out, List.length_append, byteCells_append]; exact hown2, hb2⟩
end Go.Proofs.YtohmhcglmaifpaaDoor.sha
