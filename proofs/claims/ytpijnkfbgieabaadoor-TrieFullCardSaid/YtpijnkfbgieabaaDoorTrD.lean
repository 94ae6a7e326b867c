/- The developers' besides. No condition. -/
import Derived.Test.YtpijnkfbgieabaaDoorTrC
namespace Go.Proofs.YtpijnkfbgieabaaDoor.tri
open Go.RowKit
open Go.Proofs.YtpijnkfbgieabaaDoor.oct Go.Proofs.YtpijnkfbgieabaaDoor.ref Go.Proofs.YtpijnkfbgieabaaDoor.rows Go.Proofs.YtpijnkfbgieabaaDoor.rowg Go.Proofs.YtpijnkfbgieabaaDoor.trn Go.Proofs.YtpijnkfbgieabaaDoor.qut
open Go.Proofs.YtpijnkfbgieabaaDoor.sha (digest digest_len dval Tabs)
open Go.Lib (byteCells)

theorem infoPr : (Tryd.prog.info? 44).map (fun i => (i.zero, i.size, i.bytes)) = some (some (.agg #[.string ⟨#[]⟩, .string ⟨#[]⟩]), 2, 32) := by kernel_rfl
theorem pair_new (W : World) (x : Pr) (e : Nat) : InG penc 2 (W.alloc (.cells #[.string ⟨x.n.toArray⟩, .string ⟨x.v.toArray⟩] e)) (some ⟨W.heap.size, 0, none⟩) [x] := fun _ =>
  ⟨W.heap.size, 0, rfl, fun i hi j hj => by
    rw [List.length_singleton] at hi
    obtain rfl : i = 0 := by omega
    rw [World.cell?_alloc_at _ _ _ _ rfl]
    rcases j with _ | _ | j
    · rfl
    · rfl
    · omega⟩
theorem del_take {l : List Pr} {i : Nat} (h : i < l.length) (key : T) : del (l.take (i + 1)) key = if (l[i]).n = key then del (l.take i) key else del (l.take i) key ++ [l[i]] := by
  unfold del
  rw [List.take_succ_eq_append_getElem h, List.filter_append]
  by_cases e : (l[i]).n = key
  · rw [if_pos e]; simp [e]
  · rw [if_neg e]; simp [e]
theorem del_take_le (l : List Pr) (i : Nat) (key : T) : (del (l.take i) key).length ≤ i :=
  Nat.le_trans (List.length_filter_le _ _) (by rw [List.length_take]; omega)
/-- a row of pairs of the call's own -/
structure RO (w wy : World) (v : Value) (m : List Pr) : Prop where
  own : wy.ownsRow w.heap.size 44 2 v m.length (cells penc m)
  bel : Below w.heap.size w wy
theorem RO.below {w wy w2 : World} {v : Value} {m : List Pr} (h : RO w wy v m) (hb : Below wy.heap.size wy w2) : RO w w2 v m := ⟨own_belowG h.own hb, bnext h.bel hb⟩
theorem RO.grown {w wy w2 : World} {v v2 : Value} {m m2 : List Pr} (h : RO w wy v m) (ho : w2.ownsRow w.heap.size 44 2 v2 m2.length (cells penc m2)) (hg : wy.grownBy w2 v.ownBlock) : RO w w2 v2 m2 :=
  ⟨ho, h.bel.grown hg h.bel.size fun k hk => (h.own.lt k hk).1⟩
theorem RO.start (w : World) : RO w w (.slice none 0 0) [] := ⟨⟨rfl, Or.inl ⟨rfl, rfl⟩⟩, Below.refl _ _⟩
set_option maxRecDepth 100000 in
set_option maxHeartbeats 8000000 in
theorem besides_b {w : World} {b : Nat} {l : List Pr} {p : Option Addr} {cp B n : Nat} (c0 : w.cell? ⟨b, 33, none⟩ = some (.slice p n cp)) (h : w.ownsRow B 44 2 (.slice p n cp) n (cells penc l)) (hl : l.length = n) (hn : n ≤ 8192) (key : T) :
    Calls Tryd.prog 77 #[.pointer (some ⟨b, 0, none⟩), txt key] w fun e w' => ∃ v, e = .returned v ∧ RO w w' v (del l key) := by
  have HROW := Lib.hid h
  have HL := Lib.hid hl
  have HS0 := Lib.hid (RO.start w)
  obtain ⟨j0, hj, hy0, hy1, hy2⟩ := info_parts infoPr
  unfold txt
  clear h hl
  go_enter Tryd.func77, Tryd.ntmps77
  go_wp2_with fail
  go_loopg [5, 7, 15] n (fun gk s5 _ s15 wy => ∃ i : Nat, i + gk = n ∧ s15 = .int .i64 (i : Int) ∧ Hid (RO w wy s5 (del (l.take i) key)))
  case atStart => exact ⟨0, by omega, rfl, HS0⟩
  case round =>
    obtain ⟨i, hig, rfl, HS⟩ := hrel
    clear HS0
    rcases gk with _ | gk
    · obtain rfl : n = i := by omega
      have hE : Hid (RO w wr u5 (del l key)) := by
        have h := HS.out
        rw [← HL.out, List.take_length] at h
        exact h
      clear HS
      go_wp2_with fail
      go_ret
      exact ⟨_, rfl, hE.out⟩
    · have hin : i < n := by omega
      have hinI : (i : Int) < n := by omega
      have hil : i < l.length := by rw [HL.out]; exact hin
      obtain ⟨b2, e1, q1, q2⟩ := penc_at (l := l) (by rw [HL.out]; exact own_belowG HROW.out HS.out.bel) i hil
      have hp := slot_row HROW.out e1
      subst hp
      have HDT := Lib.hid (del_take hil key)
      have hle := del_take_le l i key
      obtain ⟨x, hx⟩ : ∃ x, l[i] = x := ⟨_, rfl⟩
      rw [hx] at q1 q2 HDT
      unfold txt at q1 q2
      clear hx e1
      go_upto_region 6 with fail
      have hbq := (Below.refl wr.heap.size wr).alloc (Nat.le_refl _) (.cells #[.string ⟨x.n.toArray⟩, .string ⟨x.v.toArray⟩] 44)
      have hBq := blk_new wr #[.string ⟨x.n.toArray⟩, .string ⟨x.v.toArray⟩] 44 [.string ⟨x.n.toArray⟩, .string ⟨x.v.toArray⟩] rfl
      have hsq := HS.out.below hbq
      obtain ⟨wq, hwq⟩ : ∃ wq, wr.alloc (.cells #[.string ⟨x.n.toArray⟩, .string ⟨x.v.toArray⟩] 44) = wq := ⟨_, rfl⟩
      rw [hwq] at hbq hBq hsq ⊢
      obtain ⟨g7, hg7⟩ : ∃ g7, wr.heap.size = g7 := ⟨_, rfl⟩
      rw [hg7] at hBq ⊢
      have cA := hBq.cell 0
      have cB := hBq.cell 1
      change wq.cell? ⟨g7, 0, none⟩ = some (.string ⟨x.n.toArray⟩) at cA
      change wq.cell? ⟨g7, 1, none⟩ = some (.string ⟨x.v.toArray⟩) at cB
      have HSQ := Lib.hid hsq
      clear hwq hbq hBq hsq hg7 HS q1 q2
      by_cases hk : x.n = key
      · have e9 : (x.n == key) = true := by rw [beq_iff_eq]; exact hk
        have HE : Hid (del (l.take (i + 1)) key = del (l.take i) key) := by show _ = _; rw [HDT.out, if_pos hk]
        clear hk
        go_wp2_with fail
        go_roundg gk
        case measure => omega
        case rel => exact ⟨i + 1, by omega, by go_num, by rw [HE.out]; exact HSQ⟩
      · have e9 : (x.n == key) = false := by rw [beq_eq_false_iff_ne]; exact hk
        have HE : Hid (del (l.take (i + 1)) key = del (l.take i) key ++ [x]) := by show _ = _; rw [HDT.out, if_neg hk]
        clear hk
        obtain ⟨m, hm⟩ : ∃ m, del (l.take i) key = m := ⟨_, rfl⟩
        rw [hm] at HSQ HE hle
        clear hm
        go_wp2_with (at_builtin; (refine wpList_append_g penc_len (by decide) penc_one rfl (.tmp 23) (.tmp 25) 25 44 rfl Tryd.underlying25 hj hy0 hy1 hy2 rfl w.heap.size _ m.length _ rfl (own_belowG HSQ.out.own ((Below.refl _ _).alloc (Nat.le_refl _) _)) _ 1 1 [x] rfl (pair_new wq x _) rfl (fun h => by cases h) (by unfold maxLen; omega) (by omega) (by have := HSQ.out.bel.size; simp; omega) ?_); intro v2 w2 q1 q2; have H2 := Lib.hid ((HSQ.out.below ((Below.refl _ _).alloc (Nat.le_refl _) _)).grown (m2 := m ++ [x]) (by rw [List.length_append, cells_append]; exact q1) q2); clear q1 q2)
        go_roundg gk
        case measure => omega
        case rel => exact ⟨i + 1, by omega, by go_num, by rw [HE.out]; exact H2⟩
theorem besides_nil (w : World) (key : T) : Calls Tryd.prog 77 #[.pointer none, txt key] w fun e w' => ∃ v, e = .returned v ∧ RO w w' v [] := by
  have HS0 := Lib.hid (RO.start w)
  unfold txt
  go_enter Tryd.func77, Tryd.ntmps77
  go_wp2_with fail
  go_ret
  exact ⟨_, rfl, HS0.out⟩
/-- the pairs with which a way ends -/
def endL (f : Nat) (l : List Pr) : List Pr := if endB f l then l else []
theorem besides_c {w : World} {F : Nat → Prop} {f d : Nat} {p : Option Nat} {l : List Pr} (h : Nd w F f d p l) (hn : l.length ≤ 8192) (key : T) :
    Calls Tryd.prog 77 #[nptr p, txt key] w fun e w' => ∃ v, e = .returned v ∧ RO w w' v (del (endL f l) key) := by
  rcases h.cases with ⟨rfl, rfl⟩ | ⟨b, v, way, rfl, hl, h1⟩ | ⟨f', b, c, rfl, rfl, h2, hnb, hk⟩
  · have e : endL f [] = [] := by unfold endL; split <;> rfl
    rw [e]
    exact besides_nil w key
  · have e : endL f l = l := by
      unfold endL
      rw [if_pos]
      unfold endB
      rcases h1 with h1 | h1 <;> simp [h1]
    rw [e]
    obtain ⟨pv, cv, rfl⟩ := Go.Proofs.YtpijnkfbgieabaaDoor.cln.own_slice hl.own
    exact besides_b hl.nb.row hl.own rfl hn key
  · have e : endL (f' + 1) l = [] := by
      unfold endL
      rw [if_neg]
      unfold endB
      simp
      omega
    rw [e]
    exact besides_b (B := 0) (l := []) hnb.row ⟨rfl, Or.inl ⟨rfl, rfl⟩⟩ rfl (by omega) key
end Go.Proofs.YtpijnkfbgieabaaDoor.tri
