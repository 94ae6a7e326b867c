/- Reader.Texts. -/
import Derived.Test.YtpffebcaalbhjaaDoorWdv5
import Derived.Test.YtpffebcaalbhjaaDoorWirF
namespace Go.Proofs.YtpffebcaalbhjaaDoor.wir
open Go.RowKit
open Go.Proofs.YtpffebcaalbhjaaDoor.oct Go.Proofs.YtpffebcaalbhjaaDoor.ref Go.Proofs.YtpffebcaalbhjaaDoor.rows Go.Proofs.YtpffebcaalbhjaaDoor.rowg
open Go.Lib (byteCells)

theorem textsS_W (st : St) : textsS st = textsW (numS 4096 st) := by
  unfold textsW textsS
  rfl
/-- a row of texts of which k are read -/
def trow (n : Nat) (ws : List T) : List Value := cells senc ws ++ List.replicate (n - ws.length) (.string ⟨#[]⟩)
theorem trow_len {n : Nat} {ws : List T} (h : ws.length ≤ n) : (trow n ws).length = n := by
  unfold trow
  rw [List.length_append, List.length_replicate, cells_len senc_len]
  omega
theorem trow_zero (n : Nat) : trow n [] = List.replicate n (.string ⟨#[]⟩) := by unfold trow; simp [cells]
theorem trow_full {n : Nat} {ws : List T} (h : ws.length = n) : trow n ws = cells senc ws := by unfold trow; simp [h]
theorem trow_set {n : Nat} {ws : List T} (x : T) (h : ws.length < n) : (trow n ws).set ws.length (.string ⟨x.toArray⟩) = trow n (ws ++ [x]) := by
  unfold trow
  have hc : (cells senc ws).length = ws.length := by rw [cells_len senc_len]; omega
  obtain ⟨m, hm⟩ : ∃ m, n - ws.length = m + 1 := ⟨n - ws.length - 1, by omega⟩
  rw [hm, List.replicate_succ, List.set_append_right _ _ (by omega), hc, Nat.sub_self, List.set_cons_zero, cells_append, List.length_append, List.length_singleton, show n - (ws.length + 1) = m by omega, List.append_assoc]
  rfl
theorem trow_at {n k : Nat} {ws : List T} (h : ws.length = k) (hk : k < n) : (trow n ws)[k]? = some (.string ⟨#[]⟩) := by
  unfold trow
  have hc : (cells senc ws).length = k := by rw [cells_len senc_len]; omega
  rw [List.getElem?_append_right (by omega), hc, Nat.sub_self, h]
  obtain ⟨m, hm⟩ : ∃ m, n - k = m + 1 := ⟨n - k - 1, by omega⟩
  rw [hm, List.replicate_succ]
  rfl
theorem textI_step {n k : Nat} {sn st st2 : St} {l : List T} {s : T} (hk : k < n) (h : TextI n sn k l st) (hw : wordS st = (s, st2)) : TextI n sn (k + 1) (l ++ [s]) st2 := by
  cases st with
  | ok t => exact textI_next hk h rfl hw
  | bad e =>
    have h2 : (([] : T), St.bad e) = (s, st2) := hw
    injection h2 with _ h2
    subst h2
    exact h
theorem made_texts (n : Nat) : (madeCells (Value.string ⟨#[]⟩).cells (n * 1)).toList = trow n [] := by
  rw [trow_zero]
  apply List.ext_getElem
  · rw [Array.length_toList, size_madeCells, List.length_replicate]; omega
  · intro i h1 h2
    simp [madeCells, Value.cells, Nat.mod_one]
set_option maxRecDepth 100000 in
set_option maxHeartbeats 8000000 in
theorem drtexts_c (lo hi : Nat) (v : Value) (st : St) (w : World) (hR : RdV w lo hi v st) :
    Calls Tryd.prog 41 #[v] w fun e w' => ∃ u, e = .returned u ∧ w'.ownsRow w.heap.size 9 1 u (textsS st).1.length (cells senc (textsS st).1) ∧ (∀ e0, st = .bad e0 → u = .slice none 0 0) ∧ RdV w' lo hi v (textsS st).2 ∧ Stay lo hi w w' := by
  have hsz := hR.sizes
  have HC := Lib.hid (drcount_c lo hi v st w hR)
  have hm := numS_most 4096 st
  have HW := Lib.hid (textsS_W st)
  have HST : Hid (∀ e0, st = .bad e0 → textsS st = ([], .bad e0)) := fun e0 h => by subst h; rfl
  obtain ⟨q, hq⟩ : ∃ q, numS 4096 st = q := ⟨_, rfl⟩
  rw [hq] at HC hm HW
  obtain ⟨r, hr⟩ : ∃ r, textsS st = r := ⟨_, rfl⟩
  rw [hr] at HW HST ⊢
  clear hq hr hR
  obtain ⟨n, sn⟩ := q
  dsimp only at HC hm HW
  obtain ⟨j0, hj, hy0, hy1, hy2⟩ := info_parts infoStr
  go_enter Tryd.func41, Tryd.ntmps41
  go_wp2_with fail
  refine HC.out.mono ?_
  rintro e w1 ⟨rfl, h1, h2⟩
  have H1 := Lib.hid h1
  have H2 := Lib.hid h2
  have hs1 := h2.size
  clear h1 h2 HC
  go_wp2_with (at_make; refine wpList_make_full _ rfl _ _ 41 rfl w1.heap.size 9 j0 (.string ⟨#[]⟩) 1 Tryd.underlying41 hj hy0 hy1 .i64 .i64 _ _ n rfl rfl rfl rfl (by rw [hy2]; omega) (by unfold maxLen; omega) (Nat.le_refl _) ?_; intro w2 hown hgrow)
  rw [made_texts] at hown
  have hB0 : Blk w2 w1.heap.size 9 (trow n []) := by
    obtain ⟨g0, e0, _, hg⟩ := own_whole hown (by simp)
    injection e0 with e0
    injection e0 with e0
    rw [e0]
    exact hg
  have hS2 : Stay lo hi w w2 := H2.out.trans (Stay.of_below ((Below.refl _ w1).grown hgrow (Nat.le_refl _) (fun k hk => by cases hk)))
  have hR2 : RdV w2 lo hi v sn := H1.out.keep hgrow.size (fun k h1 h2 => hgrow.block k (by omega) (by simp))
  have HB0 := Lib.hid hB0
  have HS2 := Lib.hid hS2
  have HR2 := Lib.hid hR2
  obtain ⟨gl, hgl⟩ : ∃ gl, w1.heap.size = gl := ⟨_, rfl⟩
  rw [hgl] at HB0 hs1 ⊢
  clear hown hgrow H1 H2 hB0 hS2 hR2 hgl
  go_loopg [10] n (fun gk s11 wx => ∃ (k : Nat) (ws : List T) (cur : St), k + gk = n ∧ s11 = .int .i64 (k : Int) ∧ ws.length = k ∧ Hid (TextI n sn k ws cur) ∧ Hid (RdV wx lo hi v cur) ∧ Hid (Blk wx gl 9 (trow n ws)) ∧ Hid (Stay lo hi w wx))
  case atStart => exact ⟨0, [], sn, by omega, rfl, rfl, textI_start n sn sn rfl, HR2.out, HB0.out, HS2.out⟩
  case round =>
    obtain ⟨k, ws, cur, hkg, rfl, hwk, HI, HR, HB, HS⟩ := hrel
    have HWK := Lib.hid hwk
    clear hwk
    rcases gk with _ | gk
    · obtain rfl : k = n := by omega
      have HF := Lib.hid (fault_c lo hi v cur wr HR.out)
      cases cur with
      | bad e0 =>
        have hn0 := HR.out.ne
        have i0 : ((e0 : Int) == 0) = false := by rw [beq_eq_false_iff_ne]; omega
        have HF' : Hid (Calls Tryd.prog 44 #[v] wr fun e w' => e = .returned (.int .i64 (e0 : Int)) ∧ wr = w') := HF.out
        have HE : Hid (r = ([], .bad e0)) := by show _ = _; rw [HW.out]; exact textI_bad HI.out rfl
        clear HF hn0
        go_wp2_with fail
        refine HF'.out.mono ?_
        rintro e w' ⟨rfl, rfl⟩
        go_wp2_with fail
        go_ret
        rw [HE.out]
        exact ⟨_, rfl, World.ownsRow_nil _ _ _ _, fun _ _ => rfl, HR.out, HS.out⟩
      | ok t =>
        have HF' : Hid (Calls Tryd.prog 44 #[v] wr fun e w' => e = .returned (.int .i64 0) ∧ wr = w') := HF.out
        have HE : Hid (r = (ws, .ok t)) := by show _ = _; rw [HW.out]; exact textI_end rfl HI.out rfl
        clear HF
        go_wp2_with fail
        refine HF'.out.mono ?_
        rintro e w' ⟨rfl, rfl⟩
        go_wp2_with fail
        go_ret
        have hx := HE.out
        rw [hx]
        refine ⟨_, rfl, ?_, fun e0 h => ?_, HR.out, HS.out⟩
        · have hb := HB.out
          rw [trow_full HWK.out] at hb
          have h := own_of_block (xs := cells senc ws) hs1 hb (by unfold maxLen; rw [cells_len senc_len, HWK.out]; omega)
          rw [cells_len senc_len, Nat.mul_one, HWK.out] at h
          show World.ownsRow wr w.heap.size 9 1 _ ws.length (cells senc ws)
          rw [HWK.out]
          exact h
        · have h2 := HST.out e0 h
          rw [hx] at h2
          injection h2 with _ h2
          cases h2
    · have hkn : k < n := by omega
      have hkI : (k : Int) < (n : Int) := by omega
      have HX := Lib.hid (drtext_c lo hi v cur wr HR.out)
      obtain ⟨x, hx⟩ : ∃ x, wordS cur = x := ⟨_, rfl⟩
      rw [hx] at HX
      have HWS := Lib.hid hx
      clear hx
      obtain ⟨s, st2⟩ := x
      have HIN := Lib.hid (textI_step hkn HI.out HWS.out)
      have HTS := Lib.hid (trow_set s (n := n) (ws := ws) (by rw [HWK.out]; exact hkn))
      rw [HWK.out] at HTS
      unfold tx8 at HX
      dsimp only at HX
      go_wp2_with fail
      refine HX.out.mono ?_
      rintro e w3 ⟨rfl, h1, h2⟩
      have hnot : ¬ (lo ≤ gl ∧ gl < hi) := by omega
      have hB3 := h2.blk HB.out hnot
      have HB3 := Lib.hid hB3
      have HR3 := Lib.hid h1
      have HS3 := Lib.hid (HS.out.trans h2)
      have f0 := hB3.frozen k
      have hlt3 := hB3.lt
      have c0 : w3.cell? ⟨gl, k, none⟩ = some (.string ⟨#[]⟩) := by
        rw [hB3.cell k]
        exact trow_at HWK.out hkn
      have hset := hB3.set k (.string ⟨s.toArray⟩)
      rw [HTS.out] at hset
      have HSET := Lib.hid hset
      have hR4 : RdV (w3.setCell ⟨gl, k, none⟩ (.string ⟨s.toArray⟩)) lo hi v st2 := h1.keep (by simp) (fun j j1 j2 => Below.heap_setCell _ _ _ _ (by exact fun e => hnot (by have : j = gl := e; omega)))
      have HR4 := Lib.hid hR4
      have HS4 := Lib.hid (HS3.out.set hs1 k (.string ⟨s.toArray⟩))
      clear h1 h2 hB3 hnot HX hset hR4 HTS HB3 HR3 HS3 HI HR HB HS
      go_wp2_with fail
      go_roundg gk
      case measure => omega
      case rel => exact ⟨k + 1, ws ++ [s], st2, by omega, by go_num, by rw [List.length_append, List.length_singleton, HWK.out], HIN.out, HR4.out, HSET.out, HS4.out⟩
end Go.Proofs.YtpffebcaalbhjaaDoor.wir
