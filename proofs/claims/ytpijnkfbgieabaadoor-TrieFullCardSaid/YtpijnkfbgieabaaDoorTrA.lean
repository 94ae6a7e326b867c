/- The developers' sumOf of several pairs. Condition: sha's package variables (Tabs). -/
import Derived.Test.YtpijnkfbgieabaaDoorTr9
import Derived.Deep.AppendLies
namespace Go.Proofs.YtpijnkfbgieabaaDoor.tri
open Go.RowKit
open Go.Proofs.YtpijnkfbgieabaaDoor.oct Go.Proofs.YtpijnkfbgieabaaDoor.ref Go.Proofs.YtpijnkfbgieabaaDoor.rows Go.Proofs.YtpijnkfbgieabaaDoor.rowg Go.Proofs.YtpijnkfbgieabaaDoor.trn Go.Proofs.YtpijnkfbgieabaaDoor.qut
open Go.Proofs.YtpijnkfbgieabaaDoor.sha (digest digest_len dval Tabs wpList_index_row all_c Part InP joined joined_snoc Rm own_rm step_store_blk)
open Go.Lib (byteCells)

theorem infoSl : (Tryd.prog.info? 66).map (fun i => (i.zero, i.size, i.bytes)) = some (some (.slice none 0 0), 1, 24) := by kernel_rfl
theorem row_obj {w : World} {B e z n k : Nat} {v : Value} {xs : List Value} (h : w.ownsRow B e z v n xs) (hk : v.ownBlock = some k) : ∃ X, w.heap[k]? = some (.cells X e (0, 0)) := by
  rcases h.2 with ⟨h1, _⟩ | ⟨g, cap, cur, h1, _, h3, _⟩
  · rw [h1] at hk; cases hk
  · rw [h1] at hk
    injection hk with hk
    subst hk
    exact ⟨_, h3⟩
/-- rows of unlike elements are apart -/
theorem own_apart {w : World} {B e z n B2 e2 z2 n2 : Nat} {v v2 : Value} {xs xs2 : List Value} (h : w.ownsRow B e z v n xs) (h2 : w.ownsRow B2 e2 z2 v2 n2 xs2) (hne : e ≠ e2) {k : Nat} (hk : v.ownBlock = some k) (hk2 : v2.ownBlock = some k) : False := by
  obtain ⟨X, hX⟩ := row_obj h hk
  obtain ⟨Y, hY⟩ := row_obj h2 hk2
  have h1 := hX.symm.trans hY
  injection h1 with h1
  injection h1 with _ h1
  exact hne h1
/-- a part in a row of its own -/
def PartO (w : World) (x : Part) : Prop := w.ownsRow 0 5 1 x.val x.l.length (byteCells x.l)
theorem PartO.lies {w : World} {x : Part} (h : PartO w x) : x.lies w := by
  obtain ⟨p, c, e, h8⟩ := own_in8' h
  unfold Part.val at e
  injection e with e1 e2 e3
  have hr : Rm x.p x.cap x.l.length := own_rm h
  exact ⟨e1 ▸ h8, hr⟩
/-- what is said of the first i pairs -/
def saidP (l : List Pr) (i : Nat) : T := [2] ++ (l.take i).flatMap fun x => sized x.n ++ sized x.v
theorem saidP_succ {l : List Pr} {i : Nat} (h : i < l.length) : saidP l (i + 1) = saidP l i ++ sized (l[i]).n ++ sized (l[i]).v := by
  unfold saidP
  rw [List.take_succ_eq_append_getElem h, List.flatMap_append]
  simp
structure SM (w w1 wy : World) (Z : List Value) (l : List Pr) (v : Value) (i : Nat) (ps : List Part) : Prop where
  len : ps.length = 1 + 2 * i
  said : joined ps = saidP l i
  own : wy.ownsRow w1.heap.size 66 1 v (1 + 2 * i) (ps.map Part.val)
  parts : ∀ x ∈ ps, PartO wy x
  bel : Below w.heap.size w wy
  le : w1.heap.size ≤ wy.heap.size
  z : Blk wy w.heap.size 32 Z
theorem SM.below {w w1 wy w2 : World} {Z : List Value} {l : List Pr} {v : Value} {i : Nat} {ps : List Part} (h : SM w w1 wy Z l v i ps) (hb : Below wy.heap.size wy w2) : SM w w1 w2 Z l v i ps :=
  ⟨h.len, h.said, own_belowG h.own hb, fun x hx => own_belowG (h.parts x hx) hb, bnext h.bel hb, Nat.le_trans h.le hb.size, h.z.below hb⟩
theorem SM.step {w w1 wy w2 : World} {Z : List Value} {l : List Pr} {v v2 : Value} {i : Nat} {ps : List Part} {a b : Part} (h : SM w w1 wy Z l v i ps) (hi : i < l.length) (ha : PartO wy a) (hb : PartO wy b) (ea : a.l = sized (l[i]).n) (eb : b.l = sized (l[i]).v) (hw1 : w.heap.size < w1.heap.size)
    (ho : w2.ownsRow w1.heap.size 66 1 v2 (1 + 2 * i + 2) (ps.map Part.val ++ [a.val, b.val])) (hg : wy.grownBy w2 v.ownBlock) : SM w w1 w2 Z l v2 (i + 1) (ps ++ [a, b]) := by
  have ht : Turn (fun k => v.ownBlock = some k) wy w2 := Turn.of_row hg fun b hb => hb
  have hp : ∀ x, PartO wy x → PartO w2 x := fun x hx => own_turn hx ht fun k h1 h2 => own_apart hx h.own (by decide) h1 h2
  refine ⟨by rw [List.length_append, h.len]; simp; omega, ?_, ?_, ?_, ?_, Nat.le_trans h.le ht.size, ?_⟩
  · rw [saidP_succ hi, ← h.said, ← ea, ← eb]
    simp [joined]
  · rw [List.map_append, show 1 + 2 * (i + 1) = 1 + 2 * i + 2 by omega]
    exact ho
  · intro x hx
    rcases List.mem_append.1 hx with hx | hx
    · exact hp x (h.parts x hx)
    · rcases List.mem_cons.1 hx with rfl | hx
      · exact hp _ ha
      · rw [List.mem_singleton.1 hx]; exact hp _ hb
  · exact h.bel.grown hg h.bel.size fun k hk => by have := (h.own.lt k hk).1; omega
  · exact blk_turn h.z ht fun e => by have := (h.own.lt _ e).1; omega
theorem measured_o (s : T) (w : World) (hs : s.length ≤ 1048576) :
    Calls Tryd.prog 112 #[txt s] w fun e w' => ∃ p c, e = .returned (.slice p (sized s).length c) ∧ PartO w' ⟨p, c, sized s⟩ ∧ Below w.heap.size w w' := by
  refine (measured_c s w hs).mono ?_
  rintro e w' ⟨v, rfl, hn, hb⟩
  obtain ⟨p, c, rfl⟩ := Go.Proofs.YtpijnkfbgieabaaDoor.cln.own_slice hn
  exact ⟨p, c, rfl, Go.Proofs.YtpijnkfbgieabaaDoor.cln.own_base hn (Nat.zero_le _), hb⟩
theorem two_src {w : World} {g t : Nat} {a b : Value} (hB : Blk w g t [a, b]) : ∀ j u, ([a, b] : List Value)[j]? = some u → w.cell? ((⟨g, 0, none⟩ : Addr).add j) = some u := fun j u hj => by
  have e : (⟨g, 0, none⟩ : Addr).add j = ⟨g, j, none⟩ := by simp [Addr.add]; exact fun h => h.symm
  rw [e, hB.cell j]
  exact hj
theorem two_one (p : Option Addr) (m c : Nat) (q : Option Addr) (n d : Nat) : ∀ u ∈ ([.slice p m c, .slice q n d] : List Value), u.oneCell' = true := fun u hu => by
  rcases List.mem_cons.1 hu with rfl | hu
  · rfl
  · rw [List.mem_singleton.1 hu]; rfl
def vcell (x : Part) : List Value := [x.val]
theorem vcells (ps : List Part) : cells vcell ps = ps.map Part.val := by
  induction ps with
  | nil => rfl
  | cons x r ih =>
    show vcell x ++ cells vcell r = _
    rw [ih]
    rfl
theorem own_inp {w : World} {B n : Nat} {v : Value} {ps : List Part} (h : w.ownsRow B 66 1 v n (ps.map Part.val)) (hn : ps.length = n) (hl : ∀ x ∈ ps, PartO w x) : ∃ p c, v = .slice p n c ∧ InP w p ps := by
  subst hn
  rw [← vcells] at h
  obtain ⟨p, c, e, _, _, hin⟩ := own_g (enc := vcell) (k := 1) (fun _ => rfl) (by decide) h
  refine ⟨p, c, e, fun h0 => ?_, fun x hx => (hl x hx).lies⟩
  obtain ⟨b, o, e2, hc⟩ := hin h0
  refine ⟨b, o, e2, fun i hi => ?_⟩
  have h4 := hc i hi 0 (by decide)
  rw [Nat.mul_one, Nat.add_zero] at h4
  exact h4
end Go.Proofs.YtpijnkfbgieabaaDoor.tri
