/- The developers' under and Node, at a prefix that may be one. Condition: sha's package variables (Tabs). -/
import Derived.Test.YtpijnkfbgieabaaDoorTrO
namespace Go.Proofs.YtpijnkfbgieabaaDoor.tri
open Go.RowKit
open Go.Proofs.YtpijnkfbgieabaaDoor.oct Go.Proofs.YtpijnkfbgieabaaDoor.ref Go.Proofs.YtpijnkfbgieabaaDoor.rows Go.Proofs.YtpijnkfbgieabaaDoor.rowg Go.Proofs.YtpijnkfbgieabaaDoor.trn Go.Proofs.YtpijnkfbgieabaaDoor.qut
open Go.Proofs.YtpijnkfbgieabaaDoor.sha (digest digest_len dval Tabs step_store_blk wpList_index_row)
open Go.Lib (byteCells)

/-- the pairs under the first i numbers -/
def undI (l : List Pr) (ks : List Nat) : Nat → List Pr
  | 0 => l
  | i + 1 => sub (undI l ks i) i (ks.getD i 0)
theorem results_rowtmpT {P : Program} {fn : Func} {p q : Tmp} {ty : TypeId} (h : fn.results = #[.cell p ty, .tmp q]) (tmps : Array Value) (w : World) (g : Nat) (t : TypeId) (X : List Value) (u : Value) {d : TypeDesc}
    (hp : tmps.getD p undef = .pointer (some ⟨g, 0, none⟩)) (hq : tmps.getD q undef = u) (hB : Blk w g t X) (hu : P.underlying ty = some d) (hd : (match d with | .struct _ | .array _ _ => true | _ => false) = true) (hi : (P.info? ty).map (·.size) = some X.length) :
    (results fn tmps).run P w = .ok (.tuple #[.agg X.toArray, u]) w := by
  have hp' : tmps[p]?.getD undef = .pointer (some ⟨g, 0, none⟩) := by simpa using hp
  have hq' : tmps[q]?.getD undef = u := by simpa using hq
  have hl := run_loadVar_row (P := P) w g t ty X.toArray (0, 0) d hB hu hd (by simpa using hi)
  simp [results, h, hp', hq', asAddr, hl]
set_option maxRecDepth 100000 in
set_option maxHeartbeats 8000000 in
theorem under_c {w : World} {F : Nat → Prop} {g : Nat} {l : List Pr} (h : Tri w F g l) (ks : List Nat) {p : Option Addr} {b o n cp : Nat} (hl : ks.length = n) (hn : n ≤ 64) (hk : ∀ k ∈ ks, k < 16) (hp : 0 < n → p = some ⟨b, o, none⟩)
    (hr : ∀ W, Below w.heap.size w W → ∀ i (hi : i < ks.length), W.cell? ⟨b, o + i, none⟩ = some (.int .i64 (ks[i] : Nat))) :
    Calls Tryd.prog 35 #[.pointer (some ⟨g, 0, none⟩), .slice p n cp] w fun e w' => ∃ q, e = .returned (.tuple #[nptr q, .int .i64 0]) ∧ Nd w' F (64 - n) n q (undI l ks n) ∧ Below w.heap.size w w' := by
  obtain ⟨p0, hB, hnd⟩ := h.nd
  have HND0 : Hid (Below w.heap.size w w ∧ Nd w F (64 - 0) 0 p0 (undI l ks 0)) := ⟨Below.refl _ _, hnd⟩
  have c0 : w.cell? ⟨g, 0, none⟩ = some (nptr p0) := hB.cell 0
  have HL := Lib.hid hl
  have HK := Lib.hid hk
  have HP := Lib.hid hp
  have HR := Lib.hid hr
  have hnI : ¬ (n : Int) > 64 := by omega
  clear h hB hnd hl hk hp hr
  go_enter Tryd.func35, Tryd.ntmps35
  go_wp2_with fail
  go_loopg [6, 7, 8, 20] n (fun gk s6 _ _ s20 wy => ∃ (i : Nat) (q : Option Nat), i + gk = n ∧ s20 = .int .i64 (i : Int) ∧ s6 = nptr q ∧ Hid (Below w.heap.size w wy ∧ Nd wy F (64 - i) i q (undI l ks i)))
  case atStart => exact ⟨0, p0, by omega, rfl, rfl, HND0⟩
  case round =>
    obtain ⟨i, q, hig, rfl, rfl, HS⟩ := hrel
    clear HND0 c0
    rcases gk with _ | gk
    · obtain rfl : n = i := by omega
      obtain ⟨Q, hQ⟩ : ∃ Q, nptr q = Q := ⟨_, rfl⟩
      have HQ := Lib.hid hQ
      rw [hQ]
      clear hQ
      go_wp2_with fail
      go_ret2
      exact ⟨q, by rw [HQ.out]; rfl, HS.out.2, HS.out.1⟩
    · have hin : i < n := by omega
      have hinI : (i : Int) < n := by omega
      have hil : i < ks.length := by rw [HL.out]; exact hin
      have hp0 := HP.out (by omega)
      subst hp0
      have c1 := HR.out _ HS.out.1 i hil
      have hk16 := HK.out _ (List.getElem_mem hil)
      have hgd : ks.getD i 0 = ks[i] := by simp [List.getD, List.getElem?_eq_getElem hil]
      obtain ⟨k, hke⟩ : ∃ k, ks[i] = k := ⟨_, rfl⟩
      rw [hke] at c1 hk16 hgd
      have hkI : (k : Int) < 16 := by omega
      have hkI2 : ¬ (k : Int) < 0 := by omega
      have hkI3 : ¬ (k : Int) ≥ 16 := by omega
      have hS := HS.out.2
      rw [show 64 - i = (63 - i) + 1 by omega] at hS
      obtain ⟨c, hsa, hcall⟩ := split_c hS (by omega)
      have hxl := kids_len c
      have hxk := kids_at c hk16
      have HND : Hid (∀ W, Below wr.heap.size wr W → Below w.heap.size w W ∧ Nd W F (64 - (i + 1)) (i + 1) (c k) (undI l ks (i + 1))) := fun W hb => by
        refine ⟨bnext HS.out.1 hb, ?_⟩
        have h1 := (hsa k hk16).below hb
        rw [show 64 - (i + 1) = 63 - i by omega]
        have h2 : undI l ks (i + 1) = sub (undI l ks i) i k := by
          show sub (undI l ks i) i (ks.getD i 0) = _
          rw [hgd]
        rw [h2]
        exact h1
      obtain ⟨X, hX⟩ : ∃ X, kids c = X := ⟨_, rfl⟩
      rw [hX] at hcall hxl hxk
      obtain ⟨Q, hQ⟩ : ∃ Q, nptr q = Q := ⟨_, rfl⟩
      rw [hQ] at hcall ⊢
      obtain ⟨V, hV⟩ : ∃ V, nptr (c k) = V := ⟨_, rfl⟩
      rw [hV] at hxk
      have HV := Lib.hid hV
      have HC := Lib.hid hcall
      clear hS hsa hcall hX hQ hV hke hgd HS
      go_wp2_with fail
      refine HC.out.mono ?_
      rintro e w5 ⟨rfl, hb5⟩
      have HN5 := Lib.hid (HND.out w5 hb5)
      clear hb5 HND HC
      go_wp2_with (with_reducible refine wpList_index_row rfl 93 (.tmp 33) (.tmp 34) rfl 82 16 _ X k _ rfl rfl Tryd.underlying93 Tryd.underlying82 rfl infoPt hk16 hxk ?_)
      go_roundg gk
      case measure => omega
      case rel => exact ⟨i + 1, c k, by omega, by go_num, by rw [HV.out], HN5⟩
set_option maxRecDepth 100000 in
set_option maxHeartbeats 8000000 in
theorem node_c {w : World} {F : Nat → Prop} {g : Nat} {l : List Pr} (h : Tri w F g l) (ks : List Nat) {p : Option Addr} {b o n cp : Nat} (hl : ks.length = n) (hn : n ≤ 64) (hk : ∀ k ∈ ks, k < 16) (hp : 0 < n → p = some ⟨b, o, none⟩)
    (hr : ∀ W, Below w.heap.size w W → ∀ i (hi : i < ks.length), W.cell? ⟨b, o + i, none⟩ = some (.int .i64 (ks[i] : Nat))) :
    Calls Tryd.prog 12 #[.pointer (some ⟨g, 0, none⟩), .slice p n cp] w fun e w' => e = .returned (.tuple #[dval (digP (64 - n) n (undI l ks n)), .int .i64 0]) ∧ Below w.heap.size w w' := by
  have hz := zeroD
  have hzl : (byteCells zeros).length = 32 := by rfl
  obtain ⟨Z, hZ⟩ : ∃ Z, byteCells zeros = Z := ⟨_, rfl⟩
  rw [hZ] at hz hzl
  have hb1 := (Below.refl w.heap.size w).alloc (Nat.le_refl _) (.cells Z.toArray 32)
  have hB1 := blk_new w Z.toArray 32 Z rfl
  obtain ⟨w1, hw1⟩ : ∃ w1, w.alloc (.cells Z.toArray 32) = w1 := ⟨_, rfl⟩
  rw [hw1] at hb1 hB1
  have HU := Lib.hid (under_c (cp := cp) (h.below hb1) ks hl hn hk hp fun W hb => hr W (bnext hb1 hb))
  have hdl : (byteCells (digP (64 - n) n (undI l ks n))).length = 32 := by rw [byteCells_len, digP_len]
  have ho := bytes_one (digP (64 - n) n (undI l ks n))
  unfold dval
  obtain ⟨D, hD⟩ : ∃ D, byteCells (digP (64 - n) n (undI l ks n)) = D := ⟨_, rfl⟩
  rw [hD] at hdl ho ⊢
  have HDD := Lib.hid hD
  have HON := Lib.hid ho
  have hDi : Hid ((Tryd.prog.info? 32).map (·.size) = some D.length) := by show _ = _; rw [hdl]; exact infoDg
  have HZD : Hid (Z.length = D.length) := by show _ = _; rw [hzl, hdl]
  have HB1 := Lib.hid hb1
  have HBK := Lib.hid hB1
  clear h hl hn hk hp hr hZ hzl hdl ho hD hb1 hB1
  go_enter Tryd.func12, Tryd.ntmps12
  go_wp2_with fail
  refine HU.out.mono ?_
  rintro e w2 ⟨q, rfl, hnd, hb2⟩
  have hs := sum_c hnd
  unfold dval at hs
  rw [HDD.out] at hs
  obtain ⟨Q, hQ⟩ : ∃ Q, nptr q = Q := ⟨_, rfl⟩
  rw [hQ] at hs ⊢
  have HS := Lib.hid hs
  have HB2 := Lib.hid hb2
  clear hnd hs hQ hb2 HU
  go_wp2_with fail
  refine HS.out.mono ?_
  rintro e w3 ⟨rfl, hb3⟩
  have HZ3 := Lib.hid (HBK.out.below (bnext HB2.out hb3))
  have HB3 := Lib.hid (bnext HB1.out (bnext HB2.out hb3))
  clear hb3 hw1
  go_wp2_with (with_reducible refine wpList_store_blk rfl 32 (.tmp 4) (.tmp 15) rfl w.heap.size D Z 32 HZ3.out rfl rfl hDi.out HZD.out HON.out ?_; intro w7 hR hW)
  exact bodyPost_ret (v := .tuple #[.agg D.toArray, .int .i64 0]) (results_rowtmpT Tryd.results12 _ _ w.heap.size 32 D _ rfl rfl hR Tryd.underlying32 rfl hDi.out) rfl ⟨rfl, hW.below _ _ HB3.out (Nat.le_refl _)⟩
end Go.Proofs.YtpijnkfbgieabaaDoor.tri
