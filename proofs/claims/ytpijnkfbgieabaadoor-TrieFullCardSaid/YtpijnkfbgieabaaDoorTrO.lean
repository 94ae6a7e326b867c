/- The developers' New. Condition: sha's package variables (Tabs). -/
import Derived.Test.YtpijnkfbgieabaaDoorTrN
namespace Go.Proofs.YtpijnkfbgieabaaDoor.tri
open Go.RowKit
open Go.Proofs.YtpijnkfbgieabaaDoor.oct Go.Proofs.YtpijnkfbgieabaaDoor.ref Go.Proofs.YtpijnkfbgieabaaDoor.rows Go.Proofs.YtpijnkfbgieabaaDoor.rowg Go.Proofs.YtpijnkfbgieabaaDoor.trn Go.Proofs.YtpijnkfbgieabaaDoor.qut
open Go.Proofs.YtpijnkfbgieabaaDoor.sha (digest digest_len dval Tabs step_store_blk)
open Go.Lib (byteCells)

/-- pairs put one behind the other: the first error, and what there is -/
def news : List Pr → List Pr → Nat × List Pr
  | acc, [] => (0, acc)
  | acc, x :: r => if putN acc x.n x.v = 0 then news (ins acc x) r else (putN acc x.n x.v, acc)
/-- what New answers -/
def NewV (g : Nat) (r : Nat × List Pr) : List Value := if r.1 = 0 then [.pointer (some ⟨g, 0, none⟩), .int .i64 0] else [.pointer none, .int .i64 (r.1 : Nat)]
theorem Tri.new (w : World) : Tri (w.alloc (.cells #[.pointer none] 90)) (From (w.heap.size + 1) (w.alloc (.cells #[.pointer none] 90))) w.heap.size [] :=
  ⟨⟨none, blk_new w #[.pointer none] 90 [.pointer none] rfl, Nd.nil _ _ _ _⟩, List.Pairwise.nil, fun _ h => (by cases h), fun _ h => (by cases h), by decide, fun h => by have := h.1; omega⟩
theorem Tri.imp {w : World} {F F2 : Nat → Prop} {g : Nat} {l : List Pr} (h : Tri w F g l) (hF : ∀ k, F k → F2 k) (hg : ¬ F2 g) : Tri w F2 g l := by
  obtain ⟨p, h1, h2⟩ := h.nd
  exact ⟨⟨p, h1, h2.mono hF⟩, h.srt, h.fit, h.ok, h.len, hg⟩
set_option maxRecDepth 100000 in
set_option maxHeartbeats 8000000 in
theorem new_c {w : World} {l : List Pr} {p : Option Addr} {cp B n : Nat} (h : w.ownsRow B 44 2 (.slice p n cp) n (cells penc l)) (hl : l.length = n) (ht : Tabs w) (hn : n ≤ 1048576) (hf : ∀ x ∈ l, x.n.length ≤ 140737488355328 ∧ x.v.length ≤ 140737488355328) :
    Calls Tryd.prog 17 #[.slice p n cp] w fun e w' => e = .returned (.tuple (NewV w.heap.size (news [] l)).toArray) ∧ Below w.heap.size w w' ∧ Tri w' (From (w.heap.size + 1) w') w.heap.size (news [] l).2 := by
  have hb1 := (Below.refl w.heap.size w).alloc (Nat.le_refl _) (.cells #[.pointer none] 90)
  have htr := Tri.new w
  obtain ⟨w1, hw1⟩ : ∃ w1, w.alloc (.cells #[.pointer none] 90) = w1 := ⟨_, rfl⟩
  rw [hw1] at hb1 htr
  obtain ⟨g, hg⟩ : ∃ g, w.heap.size = g := ⟨_, rfl⟩
  have HG := Lib.hid hg
  obtain ⟨R, hR⟩ : ∃ R, news [] l = R := ⟨_, rfl⟩
  have HR0 : Hid (news [] (l.drop 0) = R) := hR
  obtain ⟨V, hV⟩ : ∃ V, NewV w.heap.size R = V := ⟨_, rfl⟩
  have HVE := Lib.hid hV
  rw [hR, hV]
  have HROW := Lib.hid h
  have HL := Lib.hid hl
  have HT := Lib.hid ht
  have HF := Lib.hid hf
  have HB1 := Lib.hid hb1
  have HT1 := Lib.hid htr
  clear h hl ht hf hb1 htr hR hV hg
  go_enter Tryd.func17, Tryd.ntmps17
  go_wp2_with fail
  go_loopg [6, 7, 12] n (fun gk _ _ s12 wy => ∃ (i : Nat) (acc : List Pr), i + gk = n ∧ s12 = .int .i64 (i : Int) ∧ Hid (news acc (l.drop i) = R) ∧ Hid (Below w.heap.size w wy ∧ Tri wy (From (w.heap.size + 1) wy) w.heap.size acc))
  case atStart => exact ⟨0, [], by omega, rfl, HR0, HB1.out, HT1.out⟩
  case round =>
    obtain ⟨i, acc, hig, rfl, HNW, HS⟩ := hrel
    clear HR0 HB1 HT1
    rcases gk with _ | gk
    · obtain rfl : n = i := by omega
      have hacc : R = (0, acc) := by rw [← HNW.out, ← HL.out, List.drop_length]; rfl
      have hVv : V = [.pointer (some ⟨w.heap.size, 0, none⟩), .int .i64 0] := by rw [← HVE.out, hacc]; rfl
      subst hVv
      have HA := Lib.hid hacc
      clear hacc
      go_wp2_with fail
      go_ret2
      exact ⟨rfl, HS.out.1, by rw [HA.out]; exact HS.out.2⟩
    · have hin : i < n := by omega
      have hinI : (i : Int) < n := by omega
      have hil : i < l.length := by rw [HL.out]; exact hin
      obtain ⟨b2, e1, q1, q2⟩ := penc_at (l := l) (by rw [HL.out]; exact own_belowG HROW.out HS.out.1) i hil
      have hp := slot_row HROW.out e1
      subst hp
      have hfx := HF.out _ (List.getElem_mem hil)
      have hnx : news acc (l[i] :: l.drop (i + 1)) = R := by rw [← HNW.out, List.drop_eq_getElem_cons hil]
      obtain ⟨x, hx⟩ : ∃ x, l[i] = x := ⟨_, rfl⟩
      rw [hx] at q1 q2 hfx hnx
      unfold txt at q1 q2
      have HNX := Lib.hid hnx
      have HFX := Lib.hid hfx
      clear hx e1 hnx hfx HNW
      go_upto_region 5 with fail
      have hbq := (Below.refl wr.heap.size wr).alloc (Nat.le_refl _) (.cells #[.string ⟨x.n.toArray⟩, .string ⟨x.v.toArray⟩] 44)
      have hBq := blk_new wr #[.string ⟨x.n.toArray⟩, .string ⟨x.v.toArray⟩] 44 [.string ⟨x.n.toArray⟩, .string ⟨x.v.toArray⟩] rfl
      have hbel := bnext HS.out.1 hbq
      have htq := HS.out.2.below hbq
      have hszq : wr.heap.size ≤ (wr.alloc (.cells #[.string ⟨x.n.toArray⟩, .string ⟨x.v.toArray⟩] 44)).heap.size := hbq.size
      obtain ⟨wq, hwq⟩ : ∃ wq, wr.alloc (.cells #[.string ⟨x.n.toArray⟩, .string ⟨x.v.toArray⟩] 44) = wq := ⟨_, rfl⟩
      rw [hwq] at hBq hbel htq hszq ⊢
      obtain ⟨g7, hg7⟩ : ∃ g7, wr.heap.size = g7 := ⟨_, rfl⟩
      have hgl : w.heap.size < wr.heap.size := HS.out.2.lt
      rw [hg7] at hBq ⊢
      have cA := hBq.cell 0
      have cB := hBq.cell 1
      change wq.cell? ⟨g7, 0, none⟩ = some (.string ⟨x.n.toArray⟩) at cA
      change wq.cell? ⟨g7, 1, none⟩ = some (.string ⟨x.v.toArray⟩) at cB
      have hput := put_c htq (HT.out.below hbel) x.n x.v HFX.out.1 HFX.out.2
      unfold txt at hput
      have HSZ := Lib.hid (And.intro hszq (And.intro hgl hg7))
      obtain ⟨N, hN⟩ : ∃ N, putN acc x.n x.v = N := ⟨_, rfl⟩
      rw [hN] at hput
      have HNE := Lib.hid hN
      have HPUT := Lib.hid hput
      have HBEL := Lib.hid hbel
      clear hwq hbq hBq hbel htq hszq hgl hg7 hput hN HS q1 q2
      have HNXT : Hid (∀ w' : World, Tri w' (FN (From (w.heap.size + 1) wr) wq w') w.heap.size (putL acc x.n x.v) → Turn (fun i => i = w.heap.size) wq w' → Below w.heap.size w w' ∧ Tri w' (From (w.heap.size + 1) w') w.heap.size (putL acc x.n x.v)) := fun w' h1 h2 => by
        refine ⟨h2.below HBEL.out (fun k hk => by omega) HBEL.out.size, h1.imp (fun k hk => ?_) (fun h => by have := h.1; omega)⟩
        have e1 := HSZ.out.1
        have e2 := HSZ.out.2.1
        have e3 := h2.size
        rcases hk with hk | hk
        · exact ⟨hk.1, by have := hk.2; omega⟩
        · exact ⟨by have := hk.1; omega, hk.2⟩
      by_cases h0 : N = 0
      · subst h0
        have HE : Hid (putL acc x.n x.v = ins acc x) := by show _ = _; unfold putL; rw [if_pos HNE.out]
        go_wp2_with fail
        refine HPUT.out.mono ?_
        rintro e w5 ⟨rfl, o1, o2⟩
        have HNN := Lib.hid (HNXT.out w5 o1 o2)
        rw [HE.out] at HNN
        have HNR : Hid (news (ins acc x) (l.drop (i + 1)) = R) := by
          have h1 := HNX.out
          unfold news at h1
          rw [if_pos HNE.out] at h1
          exact h1
        clear o1 o2 HNXT HPUT
        go_wp2_with fail
        go_roundg gk
        case measure => omega
        case rel => exact ⟨i + 1, ins acc x, by omega, by go_num, HNR, HNN⟩
      · have e0 : ((N : Int) == 0) = false := by rw [beq_eq_false_iff_ne]; omega
        have HE : Hid (putL acc x.n x.v = acc) := by show _ = _; unfold putL; rw [HNE.out, if_neg h0]
        have hRv : R = (N, acc) := by
          have h1 := HNX.out
          unfold news at h1
          rw [HNE.out, if_neg h0] at h1
          exact h1.symm
        have hVv : V = [.pointer none, .int .i64 (N : Nat)] := by rw [← HVE.out, hRv]; unfold NewV; rw [if_neg h0]
        subst hVv
        have HRV := Lib.hid hRv
        clear h0 hRv
        go_wp2_with fail
        refine HPUT.out.mono ?_
        rintro e w5 ⟨rfl, o1, o2⟩
        have HNN := Lib.hid (HNXT.out w5 o1 o2)
        rw [HE.out] at HNN
        clear o1 o2 HNXT HPUT
        go_wp2_with fail
        go_ret2
        exact ⟨rfl, HNN.out.1, by rw [HRV.out]; exact HNN.out.2⟩
end Go.Proofs.YtpijnkfbgieabaaDoor.tri
