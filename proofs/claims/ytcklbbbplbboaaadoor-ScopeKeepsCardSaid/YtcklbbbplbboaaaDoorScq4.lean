/- The contracts of the developers' Set, Both, Print. Lists of at most 4194304 texts. -/
import Derived.Test.YtcklbbbplbboaaaDoorScq3
namespace Go.Proofs.YtcklbbbplbboaaaDoor.scp
open Go.RowKit
open Go.Proofs.YtcklbbbplbboaaaDoor.oct Go.Proofs.YtcklbbbplbboaaaDoor.ref Go.Proofs.YtcklbbbplbboaaaDoor.rows Go.Proofs.YtcklbbbplbboaaaDoor.rowg

theorem one_list (W : World) (x : Lst) (e : Nat) : InG lenc 1 (W.alloc (.cells #[.slice x.1 x.2.2.length x.2.1] e)) (some ⟨W.heap.size, 0, none⟩) [x] := fun _ =>
  ⟨W.heap.size, 0, rfl, fun i hi j hj => by
    rw [List.length_singleton] at hi
    obtain rfl : i = 0 := by omega
    obtain rfl : j = 0 := by omega
    rw [World.cell?_alloc_at _ _ _ _ rfl]
    rfl⟩
/-- one list, gathered -/
theorem gather1b_c (x : Lst) (w : World) (hx : GoodL w x) :
    Calls Tryd.prog 27 #[.slice (some ⟨w.heap.size, 0, none⟩) (1 : Nat) 1] (w.alloc (.cells #[.slice x.1 x.2.2.length x.2.1] 24)) fun e w' => ∃ b, w.heap.size ≤ b ∧ e = .returned (.map (some b)) ∧ SetM w' b x.2.2 ∧ Below w.heap.size w w' := by
  have hA := (Below.refl w.heap.size w).alloc (Nat.le_refl _) (.cells #[.slice x.1 x.2.2.length x.2.1] 24)
  have hfl : (([x] : List Lst).map (·.2.2)).flatten = x.2.2 := by simp
  have h := gathered_c (some ⟨w.heap.size, 0, none⟩) 1 [x] (w.alloc (.cells #[.slice x.1 x.2.2.length x.2.1] 24)) (one_list w x _) (by rw [List.length_singleton]; omega) (fun y hy => by rw [List.mem_singleton.1 hy]; exact hx.below hA) (by rw [hfl]; exact hx.few)
  rw [hfl] at h
  exact h.mono fun e w' ⟨h1, h2, h3⟩ => ⟨_, by simp, h1, h2, bnext hA h3⟩
theorem gather1_c (x : Lst) (w : World) (hx : GoodL w x) :
    Calls Tryd.prog 27 #[.slice (some ⟨w.heap.size, 0, none⟩) (1 : Nat) 1] (w.alloc (.cells #[.slice x.1 x.2.2.length x.2.1] 24)) fun e w' => ∃ b, e = .returned (.map (some b)) ∧ SetM w' b x.2.2 ∧ Below w.heap.size w w' :=
  (gather1b_c x w hx).mono fun _ _ ⟨b, _, h1, h2, h3⟩ => ⟨b, h1, h2, h3⟩
set_option maxRecDepth 100000 in
set_option maxHeartbeats 4000000 in
theorem set_c (x : Lst) (w : World) (hx : GoodL w x) : Calls Tryd.prog 15 #[lval x] w fun e w' => RowA w w' (setP x.2.2) e := by
  have HG := Lib.hid (gather1_c x w hx)
  have hfew := hx.few
  obtain ⟨p, c, l⟩ := x
  unfold lval
  dsimp only at HG hfew ⊢
  clear hx
  go_enter Tryd.func15, Tryd.ntmps15
  go_wp2_with fail
  refine HG.out.mono ?_
  rintro e w2 ⟨b, rfl, hset, hb2⟩
  have HS := Lib.hid (sorted_c b l w2 hset hfew)
  have HB := Lib.hid hb2
  clear hset hb2 HG
  go_wp2_with fail
  refine HS.out.mono ?_
  rintro e w3 ⟨v, rfl, hown, hb3⟩
  go_wp2_with fail
  go_ret
  exact ⟨v, rfl, hown.mono HB.out.size, bnext HB.out hb3⟩
set_option maxRecDepth 100000 in
set_option maxHeartbeats 4000000 in
theorem both_c (P : Option Addr) (C : Nat) (ls : List Lst) (w : World) (hp : InG lenc 1 w P ls) (hl : ls.length ≤ 4194304) (hg : ∀ x ∈ ls, GoodL w x) (hf : (ls.map (·.2.2)).flatten.length ≤ 4194304) :
    Calls Tryd.prog 25 #[.slice P ls.length C] w fun e w' => RowA w w' (bothP (ls.map (·.2.2))) e := by
  have HG := Lib.hid (gathered_c P C ls w hp hl hg hf)
  unfold bothP
  obtain ⟨F, hF⟩ : ∃ F, (ls.map (·.2.2)).flatten = F := ⟨_, rfl⟩
  rw [hF] at hf HG ⊢
  clear hp hg hF
  go_enter Tryd.func25, Tryd.ntmps25
  go_wp2_with fail
  refine HG.out.mono ?_
  rintro e w2 ⟨rfl, hset, hb2⟩
  have HS := Lib.hid (sorted_c w.heap.size F w2 hset hf)
  have HB := Lib.hid hb2
  clear hset hb2 HG
  go_wp2_with fail
  refine HS.out.mono ?_
  rintro e w3 ⟨v, rfl, hown, hb3⟩
  go_wp2_with fail
  go_ret
  exact ⟨v, rfl, hown.mono HB.out.size, bnext HB.out hb3⟩
theorem join_eq : ∀ l : List T, Lib.join l [32] = joinP l
  | [] => rfl
  | [x] => by rw [Lib.join_one]; rfl
  | x :: y :: r => by
    have h := join_eq (y :: r)
    rw [Lib.join_cons] at h ⊢
    rw [joinP, ← h]
    simp [Lib.joinTail]
theorem join_len (l : List T) (hw : ∀ x ∈ l, wordB x = true) : (joinP l).length ≤ 65 * l.length := by
  rcases l with _ | ⟨x, r⟩
  · simp [joinP]
  · have h := joinP_len (x :: r) (by simp)
    have h2 : ∀ m : List T, (∀ y ∈ m, wordB y = true) → (m.map (fun x => x.length + 1)).sum ≤ 65 * m.length := by
      intro m
      induction m with
      | nil => intro _; simp
      | cons y m ih =>
        intro hm
        have h3 := ih (fun z hz => hm z (by simp [hz]))
        have h4 := (word_len (hm y (by simp))).2
        simp only [List.map_cons, List.sum_cons, List.length_cons]
        omega
    have h5 := h2 _ hw
    omega
theorem join_c (p : Option Addr) (c : Nat) (ps : List T) (w : World) (hin : InS w p ps) (hw : ∀ x ∈ ps, wordB x = true) (hc : ps.length ≤ c) (hl : ps.length ≤ 4194304) :
    Calls Tryd.prog 30 #[.slice p ps.length c, .string ⟨#[32]⟩] w fun e w' => e = .returned (tx (joinP ps)) ∧ Below w.heap.size w w' := by
  rcases ps with _ | ⟨x, _ | ⟨y, r⟩⟩
  · exact (sh.join_none p c ⟨#[32]⟩ w).mono fun _ _ ⟨h1, h2⟩ => ⟨h1, by subst h2; exact Below.refl _ _⟩
  · obtain ⟨b, o, rfl, hcell⟩ := ins_cell hin 0 (by simp)
    exact (sh.join_one b o c ⟨x.toArray⟩ ⟨#[32]⟩ w hcell).mono fun _ _ ⟨h1, h2⟩ => ⟨h1, by subst h2; exact Below.refl _ _⟩
  · obtain ⟨b, o, rfl, hcell⟩ := ins_cell hin 0 (by simp)
    have hlen := join_len _ hw
    obtain ⟨ps, hps⟩ : ∃ ps, x :: y :: r = ps := ⟨_, rfl⟩
    have h2 : 2 ≤ ps.length := by rw [← hps]; simp
    rw [hps] at hin hw hc hl hlen ⊢
    have hd : ((ps.map fun l => (⟨l.toArray⟩ : ByteArray)).map (·.data.toList)) = ps := by rw [List.map_map]; exact (List.map_congr_left (fun a _ => rfl)).trans (List.map_id ps)
    have h := sh.join_many b o c (ps.map fun l => ⟨l.toArray⟩) ⟨#[32]⟩ w (fun j z hz => by
        rw [List.getElem?_map, Option.map_eq_some_iff] at hz
        obtain ⟨t, ht, rfl⟩ := hz
        obtain ⟨hj, rfl⟩ := List.getElem?_eq_some_iff.1 ht
        obtain ⟨b2, o2, e, hh⟩ := ins_cell hin j hj
        injection e with e
        injection e with e1 e2 _
        subst e1
        subst e2
        exact hh) (cell_lt hcell) (by rw [List.length_map]; exact h2) (by rw [List.length_map]; omega) (by rw [List.length_map]; exact hc) (by rw [hd, show (⟨#[32]⟩ : ByteArray).data.toList = [32] from rfl, join_eq]; omega)
    rw [hd, show (⟨#[32]⟩ : ByteArray).data.toList = [32] from rfl, join_eq, List.length_map] at h
    exact h
set_option maxRecDepth 100000 in
set_option maxHeartbeats 4000000 in
theorem print_c (x : Lst) (w : World) (hx : GoodL w x) : Calls Tryd.prog 17 #[lval x] w fun e w' => e = .returned (tx (printP x.2.2)) ∧ Below w.heap.size w w' := by
  have HS := Lib.hid (set_c x w hx)
  have hlen := setP_len x.2.2
  have hfew := hx.few
  have HWD := Lib.hid (fun y hy => ((setP_mem x.2.2 y).1 hy).2)
  unfold printP
  obtain ⟨l, hl⟩ : ∃ l, setP x.2.2 = l := ⟨_, rfl⟩
  rw [hl] at HS hlen HWD ⊢
  clear hx hl
  go_enter Tryd.func17, Tryd.ntmps17
  go_wp2_with fail
  refine HS.out.mono ?_
  rintro e w2 ⟨v, rfl, hown, hb2⟩
  obtain ⟨p, c, rfl, hcc, _, hin⟩ := own_g senc_len (by decide) hown
  have HJ := Lib.hid (join_c p c l w2 hin HWD.out hcc (by omega))
  have HB := Lib.hid hb2
  clear hown hin hb2 HS
  go_wp2_with fail
  refine HJ.out.mono ?_
  rintro e w3 ⟨rfl, hb3⟩
  unfold tx
  go_wp2_with fail
  go_ret
  exact ⟨rfl, bnext HB.out hb3⟩
end Go.Proofs.YtcklbbbplbboaaaDoor.scp
