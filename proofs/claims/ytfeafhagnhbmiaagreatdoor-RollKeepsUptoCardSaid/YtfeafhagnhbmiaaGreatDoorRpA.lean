/- RollKeeps' rows in memory: copies of clients that the law makes (InI), while they are written over (UpI). No condition. -/
import Derived.Test.YtfeafhagnhbmiaaGreatDoorRoV9
import Derived.Test.YtfeafhagnhbmiaaGreatDoorRoR
import Derived.Test.YtfeafhagnhbmiaaGreatDoorRoId
namespace Go.Proofs.YtfeafhagnhbmiaaGreatDoor.rol
open Go.RowKit
open Go.Proofs.YtfeafhagnhbmiaaGreatDoor.oct Go.Proofs.YtfeafhagnhbmiaaGreatDoor.ref Go.Proofs.YtfeafhagnhbmiaaGreatDoor.rows Go.Proofs.YtfeafhagnhbmiaaGreatDoor.rowg Go.Proofs.YtfeafhagnhbmiaaGreatDoor.trn
open Go.Proofs.YtfeafhagnhbmiaaGreatDoor.scp (tx senc senc_len senc_one InS ins_below ins_cell lt Lst lval lenc GoodL FitS)

/-- the blocks of a client's lists -/
def BlkOf (y : Cm) (b : Nat) : Prop := (lval y.red).ownBlock = some b ∨ (lval y.sco).ownBlock = some b ∨ (lval y.gra).ownBlock = some b
theorem own_objK {w : World} {B e z n b : Nat} {v : Value} {xs : List Value} (h : w.ownsRow B e z v n xs) (hb : v.ownBlock = some b) : ∃ c fz, w.heap[b]? = some (.cells c e fz) := by
  rcases h.2 with ⟨h1, _⟩ | ⟨g, cap, cur, h1, h2, h3, _⟩
  · rw [h1] at hb; cases hb
  · rw [h1] at hb
    injection hb with hb
    subst hb
    exact ⟨_, _, h3⟩
theorem own_apartK {w : World} {B B2 e e2 z z2 n n2 b : Nat} {v v2 : Value} {xs xs2 : List Value} (h : w.ownsRow B e z v n xs) (h2 : w.ownsRow B2 e2 z2 v2 n2 xs2) (hne : e ≠ e2) (hb : v.ownBlock = some b) : v2.ownBlock ≠ some b := fun hb2 => by
  obtain ⟨c1, f1, g1⟩ := own_objK h hb
  obtain ⟨c2, f2, g2⟩ := own_objK h2 hb2
  rw [g1] at g2
  injection g2 with g2
  injection g2 with _ g2 _
  exact hne g2
theorem row_lists {w : World} {B B2 z n : Nat} {v : Value} {xs : List Value} {y : Cm} (h : w.ownsRow B 27 z v n xs) (hy : OwnC w B2 y) {b : Nat} (hb : v.ownBlock = some b) : ¬ BlkOf y b := fun h2 => by
  rcases h2 with h2 | h2 | h2
  · exact own_apartK h hy.red (by decide) hb h2
  · exact own_apartK h hy.sco (by decide) hb h2
  · exact own_apartK h hy.gra (by decide) hb h2
theorem OwnC.below2 {w w' : World} {B : Nat} {y : Cm} (h : OwnC w B y) (hb : Below w.heap.size w w') : OwnC w' B y := ⟨own_belowG h.red hb, own_belowG h.sco hb, own_belowG h.gra hb⟩
theorem OwnC.lower {w : World} {B B2 : Nat} {y : Cm} (h : OwnC w B y) (hb : B2 ≤ B) : OwnC w B2 y := ⟨own_baseR h.red hb, own_baseR h.sco hb, own_baseR h.gra hb⟩
/-- behind i rounds of the copies' loop -/
structure InI (w0 wx : World) (v : Value) (ys xs : List Cm) (i : Nat) : Prop where
  len : ys.length = i
  ct : ys.map Cm.ct = (xs.take i).map Cm.ct
  row : wx.ownsRow w0.heap.size 27 6 v i (cells clenc ys)
  each : ∀ y ∈ ys, OwnC wx w0.heap.size y
  apart : ys.Pairwise fun y z => ∀ b, BlkOf y b → ¬ BlkOf z b
  below : Below w0.heap.size w0 wx
theorem InI.start (w0 : World) (xs : List Cm) : InI w0 w0 (.slice none 0 0) [] xs 0 :=
  ⟨rfl, by simp, World.ownsRow_nil _ _ _ _, (fun y hy => by cases hy), List.Pairwise.nil, Below.refl _ _⟩
theorem InI.step {w0 wx w5 w6 : World} {v v2 : Value} {ys xs : List Cm} {y : Cm} {i : Nat} (h : InI w0 wx v ys xs i) (hi : i < xs.length) (h5 : Below wx.heap.size wx w5) (hy : OwnC w5 wx.heap.size y) (hct : y.ct = xs[i].ct)
    (hr : w6.ownsRow w0.heap.size 27 6 v2 (i + 1) (cells clenc ys ++ cells clenc [y])) (hg : w5.grownBy w6 v.ownBlock) : InI w0 w6 v2 (ys ++ [y]) xs (i + 1) := by
  have ht : Turn (fun k => v.ownBlock = some k) w5 w6 := Turn.of_row hg fun b hb => hb
  have hrow5 := own_belowG h.row h5
  have hsz := h.below.size
  refine ⟨by rw [List.length_append, h.len]; rfl, ?_, by rw [cells_append]; exact hr, ?_, ?_, ?_⟩
  · rw [List.map_append, h.ct, List.take_succ_eq_append_getElem hi, List.map_append]
    simp [hct]
  · intro z hz
    rcases List.mem_append.1 hz with hz | hz
    · exact ((h.each z hz).below2 h5).turn ht fun k hk hv => row_lists hrow5 ((h.each z hz).below2 h5) hv hk
    · rw [List.mem_singleton.1 hz]
      exact (hy.lower hsz).turn ht fun k hk hv => row_lists hrow5 hy hv hk
  · rw [List.pairwise_append]
    refine ⟨h.apart, by simp, fun a ha z hz b hb hb2 => ?_⟩
    rw [List.mem_singleton.1 hz] at hb2
    have h1 := ((h.each a ha).lt b hb).2
    have h2 := (hy.lt b hb2).1
    omega
  · refine Turn.below (h.below.trans (h5.mono hsz)) ht (fun k hk => ?_) (Nat.le_trans hsz h5.size)
    exact (hrow5.lt k hk).1
/-- behind i rounds of the loop that writes over: what isn't written over yet stands; the roll stands -/
structure UpI (w0 wx : World) (v : Value) (ys zs : List Cm) (F : Nat → Prop) (g i : Nat) : Prop where
  row : wx.ownsRow w0.heap.size 27 6 v ys.length (cells clenc ys)
  each : ∀ (j : Nat) (hj : j < ys.length), i ≤ j → OwnC wx w0.heap.size ys[j]
  rol : RolM wx F g zs
  below : Below w0.heap.size w0 wx
theorem UpI.below2 {w0 wx wy : World} {v : Value} {ys zs : List Cm} {F : Nat → Prop} {g i : Nat} (h : UpI w0 wx v ys zs F g i) (hb : Below wx.heap.size wx wy) : UpI w0 wy v ys zs F g i :=
  ⟨own_belowG h.row hb, fun j hj hi => (h.each j hj hi).below2 hb, h.rol.below hb, h.below.trans (hb.mono h.below.size)⟩
theorem UpI.wiped {w0 wx wy : World} {v : Value} {ys zs : List Cm} {F : Nat → Prop} {g i M : Nat} (h : UpI w0 wx v ys zs F g i) (hi : i < ys.length) (hap : ys.Pairwise fun y z => ∀ b, BlkOf y b → ¬ BlkOf z b)
    (hM : ∀ b, BlkOf ys[i] b → b < M) (hF : ∀ k, F k → M ≤ k) (ht : Turn (BlkOf ys[i]) wx wy) : UpI w0 wy v ys zs F g (i + 1) := by
  have hi0 := h.each i hi (Nat.le_refl _)
  refine ⟨own_turn h.row ht fun b hb hv => row_lists h.row hi0 hb hv, fun j hj hij => ?_, h.rol.turn ht (fun k hk hv => by have := hM k hv; have := hF k hk; omega) fun _ => id, ?_⟩
  · refine (h.each j hj (by omega)).turn ht fun k hk hv => ?_
    exact List.pairwise_iff_getElem.1 hap i j hi hj (by omega) k hv hk
  · exact Turn.below h.below ht (fun k hk => (hi0.lt k hk).1) h.below.size
theorem UpI.next {w0 wx : World} {v : Value} {ys zs : List Cm} {F : Nat → Prop} {g i : Nat} (h : UpI w0 wx v ys zs F g i) : UpI w0 wx v ys zs F g (i + 1) :=
  ⟨h.row, fun j hj hi => h.each j hj (by omega), h.rol, h.below⟩
/-- what a call has made and has been written over turns nothing that was there -/
theorem wiped_new {u w w' : World} {y : Cm} (hb : Below u.heap.size u w) (hy : OwnC w u.heap.size y) (ht : Turn (BlkOf y) w w') : Below u.heap.size u w' :=
  Turn.below hb ht (fun k hk => (hy.lt k hk).1) hb.size
theorem lw_of {w : World} {B : Nat} {y : Cm} (h : OwnC w B y) : LW w (BlkOf y) y.red ∧ LW w (BlkOf y) y.sco ∧ LW w (BlkOf y) y.gra :=
  ⟨LW.of_own h.red fun _ hb => Or.inl hb, LW.of_own h.sco fun _ hb => Or.inr (Or.inl hb), LW.of_own h.gra fun _ hb => Or.inr (Or.inr hb)⟩
theorem wipeO_c {w : World} {B : Nat} {y : Cm} (h : OwnC w B y) (hf : Few y) :
    Calls Tryz.prog 16 #[cval y] w fun e w' => e = .returned (.tuple #[]) ∧ Turn (BlkOf y) w w' :=
  wipe_c y (BlkOf y) w (lw_of h).1 (lw_of h).2.1 (lw_of h).2.2 (fun k hk => (h.lt k hk).2) hf
end Go.Proofs.YtfeafhagnhbmiaaGreatDoor.rol
namespace Go.Proofs.YtfeafhagnhbmiaaGreatDoor.rol
open Go.RowKit
open Go.Proofs.YtfeafhagnhbmiaaGreatDoor.oct Go.Proofs.YtfeafhagnhbmiaaGreatDoor.ref Go.Proofs.YtfeafhagnhbmiaaGreatDoor.rows Go.Proofs.YtfeafhagnhbmiaaGreatDoor.rowg Go.Proofs.YtfeafhagnhbmiaaGreatDoor.trn
open Go.Proofs.YtfeafhagnhbmiaaGreatDoor.scp (tx senc senc_len senc_one InS ins_below ins_cell lt Lst lval lenc GoodL FitS)

theorem own_nilS (w : World) : (w.alloc (.cells #[] 9)).ownsRow w.heap.size 9 1 (.slice (some ⟨w.heap.size, 0, none⟩) 0 0) 0 [] :=
  own_of_block (xs := []) (Nat.le_refl _) (heap_alloc_new w _) (by decide)
/-- append([]string{}, l...): what there is behind it -/
theorem app_one {u a : World} {gc e : Nat} {v : Value} {l : List T} {X : List Value} (hB : Blk u gc e X) (hown : a.ownsRow u.heap.size 9 1 v (0 + l.length) ([] ++ cells senc l)) (hg : (u.alloc (.cells #[] 9)).grownBy a (Value.slice (some ⟨u.heap.size, 0, none⟩) 0 0).ownBlock) :
    ∃ p c, v = .slice p l.length c ∧ a.ownsRow u.heap.size 9 1 (.slice p l.length c) l.length (cells senc l) ∧ Blk a gc e X ∧ Below u.heap.size u a := by
  have h1 : Below u.heap.size u a := ((Below.refl u.heap.size u).alloc (Nat.le_refl _) _).grown hg (by simp) (fun k hk => by have h : some u.heap.size = some k := hk; injection h with h; omega)
  rw [Nat.zero_add, List.nil_append] at hown
  obtain ⟨p, c, rfl, _, _, _⟩ := own_g senc_len (by decide) hown
  exact ⟨p, c, rfl, hown, hB.below h1, h1⟩
theorem look_mem {l : List CT} (hn : (l.map (·.id)).Nodup) {c : CT} (hc : c ∈ l) : lookP l c.id = (c, true) := by
  unfold lookP
  cases hf : findP l c.id with
  | none => exact absurd rfl (find_none.1 hf c hc)
  | some d =>
    obtain ⟨h1, h2⟩ := find_mem hf
    obtain ⟨i, hi, rfl⟩ := List.mem_iff_getElem.1 hc
    obtain ⟨j, hj, rfl⟩ := List.mem_iff_getElem.1 h1
    have h3 : (l.map (·.id))[i]'(by simpa using hi) = (l.map (·.id))[j]'(by simpa using hj) := by simp [h2]
    have hp := List.pairwise_iff_getElem.1 hn
    have h4 : i = j := by
      rcases Nat.lt_trichotomy i j with h | h | h
      · exact absurd h3 (hp i j _ _ h)
      · exact h
      · exact absurd h3.symm (hp j i _ _ h)
    subst h4
    rfl
end Go.Proofs.YtfeafhagnhbmiaaGreatDoor.rol
