/- WireKeeps by WApi. -/
import Derived.Test.YtpffebcaalbhjaaDoorWirLc
import Derived.Test.YtpffebcaalbhjaaDoorApart2
import Derived.Test.YtpffebcaalbhjaaDoorR1Kept
namespace Go.Proofs.YtpffebcaalbhjaaDoor.wir
open Go.RowKit
open Go.Proofs.YtpffebcaalbhjaaDoor.oct Go.Proofs.YtpffebcaalbhjaaDoor.ref Go.Proofs.YtpffebcaalbhjaaDoor.rows Go.Proofs.YtpffebcaalbhjaaDoor.rowg
open Go.Lib (byteCells)

/-- an own row that isn't empty: its block -/
theorem own_lst {w : World} {B n : Nat} {v : Value} {l : T} (h : w.ownsRow B 5 1 v n (byteCells l)) (hn : 0 < n) : ∃ (g c : Nat) (X : List Value), v = .slice (some ⟨g, 0, none⟩) n c ∧ B ≤ g ∧ g < w.heap.size ∧ Blk w g 5 X ∧ X.length = c ∧ n ≤ c ∧ c ≤ maxLen := by
  rcases h.2 with ⟨_, h2⟩ | ⟨g, cap, cur, h1, h2, h3, h4, h5, h6, _⟩
  · omega
  · exact ⟨g, cap, cur.toList, h1, h2, (Array.getElem?_eq_some_iff.1 h3).1, by unfold Blk; rw [h3], by rw [Array.length_toList, h6, Nat.mul_one], h4, h5⟩
def keepS : WS := (WS.ok [] false).put ⟨1, 0, [97], []⟩
theorem keep_put : putB ⟨1, 0, [97], []⟩ = [1, 97] := by
  have e : putB ⟨1, 0, [97], []⟩ = numB 1 ++ [97] := rfl
  rw [e, numB_one (by decide)]
  rfl
theorem keep_len : ((WS.ok [] false).put (PutA.put ⟨1, 0, [97], none, 0, []⟩)).len ≤ 7 := by
  show (([] : T) ++ putB ⟨1, 0, [97], []⟩).length ≤ 7
  rw [keep_put]
  decide
theorem keep_frame : ∃ F, keepS.frame = (0, F) ∧ F.length = 10 := by
  refine ⟨frameT [1, 97], ?_, by rw [frameT_len]; rfl⟩
  unfold keepS
  show (if (false || putBad ⟨1, 0, [97], []⟩) = true then ((3, []) : Nat × T) else if 65536 < (([] : T) ++ putB ⟨1, 0, [97], []⟩).length then (2, []) else (0, frameT (([] : T) ++ putB ⟨1, 0, [97], []⟩))) = _
  rw [keep_put]
  rfl
set_option maxRecDepth 100000 in
set_option maxHeartbeats 8000000 in
theorem law_keeps {T' : World → Prop} {Cap : Nat → Prop} (X : WApi T' Cap) (P : Option Addr) (C : Nat) (l0 : List PutA) (w : World) (hp : InP w P l0) (hg : ∀ x ∈ l0, GoodP w x) (hC : l0.length ≤ C) (hc : Cap (bytesB ((l0.take 400).map PutA.put)).length) (hc7 : Cap 7) (ht : T' w) :
    Calls Tryd.prog 10 #[.slice P l0.length C] w fun e w' => e = .returned (.bool true) ∧ Below w.heap.size w w' := by
  have HF := Lib.hid (few_c P C l0 w hC)
  have hlm : (l0.take 400).length ≤ 400 := by rw [List.length_take]; omega
  have hp4 := inp_take hp 400
  have hg4 : ∀ x ∈ l0.take 400, GoodP w x := fun x hx => hg x (List.mem_of_mem_take hx)
  obtain ⟨l, hm⟩ : ∃ l, l0.take 400 = l := ⟨_, rfl⟩
  rw [hm] at HF hlm hp4 hg4 hc
  have HP := Lib.hid hp4
  have HLM := Lib.hid hlm
  have HC7 := Lib.hid hc7
  have HW := Lib.hid (write_c X P C l w ht hp4 hg4 hlm hc)
  have HK := Lib.hid (fun w1 (hb : Below w.heap.size w w1) => wknown_c X w1 (X.tbelow _ _ ht hb) hc7)
  have HT := Lib.hid (fun w1 (hb : Below w.heap.size w w1) => X.tbelow _ _ ht hb)
  have HWO := Lib.hid (fun (h : (writeT (l.map PutA.put)).1 = 0) => write_ok h)
  obtain ⟨r, hr⟩ : ∃ r, writeT (l.map PutA.put) = r := ⟨_, rfl⟩
  rw [hr] at HW HWO
  obtain ⟨q, t⟩ := r
  dsimp only at HWO
  clear hr hp hg hp4 hg4 hm hc hc7 ht hC hlm
  go_enter Tryd.func10, Tryd.ntmps10
  go_wp2_with (go_at_call 11; refine HF.out.mono ?_; rintro e w' ⟨rfl, rfl⟩)
  refine HW.out.mono ?_
  clear HW HF
  rintro e w1 ⟨v1, rfl, ho1, hb1⟩
  dsimp only at ho1 ⊢
  obtain ⟨p1, c1, rfl, h81, hn1, hc1⟩ := own_arg ho1
  have H81 := Lib.hid h81
  have HB1 := Lib.hid hb1
  have HK1 := Lib.hid (HK.out w1 hb1)
  have HN1 := Lib.hid hn1
  have HC1 := Lib.hid hc1
  clear ho1 h81 hb1 hn1 hc1
  go_wp2_with fail
  refine HK1.out.mono ?_
  clear HK1
  rintro e w2 ⟨rfl, hb2⟩
  have HB2 := Lib.hid (bnext HB1.out hb2)
  have H82 : Hid (In8 w2 p1 t) := H81.out.below hb2
  clear hb2 H81 HB1
  by_cases hq : q = 0
  · subst hq
    obtain ⟨_, hlen, htt⟩ := HWO.out rfl
    injection htt with _ htt
    have hn8 : t.length = (bytesB (l.map PutA.put)).length + 8 := by rw [htt, frameT_len]
    have HOE : Hid (openE t = 0) := by show _ = _; rw [htt]; exact open_frame hlen
    have HRO := Lib.hid (room_c p1 c1 t w2 H82.out (by omega))
    have HKC := Lib.hid (fun g w3 (hZ : Blk w3 g 5 (byteCells t ++ seven 3)) (h8 : In8 w3 p1 t) => kept_c g p1 c1 t w3 hZ h8 (by omega))
    have HR1 := Lib.hid (fun g w3 (hT : T' w3) (hZ : Blk w3 g 5 (byteCells t ++ seven 3)) => X.rnew (some ⟨g, 0, none⟩) (t.length + 3) t w3 hT (in8_blk hZ) (fun h => by cases h) (by omega) (by omega))
    have HR2 := Lib.hid (fun w3 (hT : T' w3) (h8 : In8 w3 p1 t) => X.rnew p1 c1 t w3 hT h8 HN1.out HC1.out (by omega))
    rw [HOE.out] at HR1 HR2
    have HZL : Hid ((byteCells t ++ seven 3).length = t.length + 3) := by show _ = _; rw [List.length_append, byteCells_len]; rfl
    obtain ⟨ZL, hZL⟩ : ∃ ZL, byteCells t ++ seven 3 = ZL := ⟨_, rfl⟩
    rw [hZL] at HRO HKC HR1 HZL
    obtain ⟨n, hn⟩ : ∃ n, t.length = n := ⟨_, rfl⟩
    have hnl : n ≤ 65544 := by omega
    rw [hn] at HRO HKC HR1 HR2 HZL ⊢
    clear hlen HWO htt hn8 hn HOE hZL
    go_wp2_with fail
    refine HRO.out.mono ?_
    clear HRO
    rintro e w3 ⟨rfl, hZ3, hb3⟩
    have HB3 := Lib.hid (bnext HB2.out hb3)
    have HZ3 := Lib.hid hZ3
    have HBG := Lib.hid hb3
    have HGL : Hid (w2.heap.size < w3.heap.size) := hZ3.lt
    have HWG : Hid (w.heap.size ≤ w2.heap.size) := HB2.out.size
    obtain ⟨g, hgg⟩ : ∃ g, w2.heap.size = g := ⟨_, rfl⟩
    rw [hgg] at HZ3 HBG HGL HWG ⊢
    have HNR := Lib.hid (HR1.out g w3 (HT.out w3 HB3.out) HZ3.out)
    clear hZ3 hb3 HR1
    go_wp2_with fail
    refine HNR.out.mono ?_
    clear HNR
    rintro e w4 ⟨qa, rfl, hq0, _, hb4⟩
    obtain ⟨hqs, hrd⟩ := hq0 (by first | rfl | trivial)
    obtain ⟨qa, rfl⟩ := Option.isSome_iff_exists.1 hqs
    have HB4 := Lib.hid (bnext HB3.out hb4)
    have HZ4 := Lib.hid (HZ3.out.below hb4)
    have HBG4 : Hid (Below g w2 w4) := HBG.out.trans (hb4.mono (Nat.le_of_lt HGL.out))
    have HRD := Lib.hid hrd
    have H84 : Hid (In8 w4 p1 t) := H82.out.below (by rw [hgg]; exact HBG4.out)
    have HKE := Lib.hid (HKC.out g w4 HZ4.out H84.out)
    obtain ⟨lo1, hlo⟩ : ∃ lo, w3.heap.size = lo := ⟨_, rfl⟩
    obtain ⟨hi1, hhi⟩ : ∃ hi, w4.heap.size = hi := ⟨_, rfl⟩
    rw [hlo, hhi] at HRD
    rw [hlo] at HGL
    clear hq0 hqs hrd hb4 HB3 HZ3 HBG HKC hlo hhi
    go_wp2_with fail
    refine HKE.out.mono ?_
    clear HKE
    rintro e w5 ⟨rfl, nd, rfl⟩
    have HB5 := Lib.hid (wbelow_drewN HB4.out nd)
    have HZ5 := Lib.hid (HZ4.out.drewN nd)
    have HBG5 := Lib.hid (wbelow_drewN HBG4.out nd)
    have HRD5 : Hid (X.Rd (w4.drewN nd) lo1 hi1 (.pointer (some qa)) (.ok (t.drop 8))) := rd_below X HRD.out (wbelow_drewN (Below.refl _ _) nd)
    obtain ⟨wn, hwn⟩ : ∃ wn, w4.drewN nd = wn := ⟨_, rfl⟩
    rw [hwn] at HB5 HZ5 HBG5 HRD5 ⊢
    clear hwn HB4 HZ4 HBG4 HRD H84
    go_wp2_with fail
    go_loopg [8] n (fun gh s8 wx => ∃ (k : Nat) (Y : List Value), k + gh = n ∧ s8 = .int .i64 (k : Int) ∧ Blk wx g 5 Y ∧ Y.length = n + 3 ∧ X.Rd wx lo1 hi1 (.pointer (some qa)) (.ok (t.drop 8)) ∧ Below g w2 wx ∧ Below w.heap.size w wx)
    case atStart => exact ⟨0, _, by omega, rfl, HZ5.out, HZL.out, HRD5.out, HBG5.out, HB5.out⟩
    case round =>
      clear HZ5 HRD5 HBG5 HB5
      obtain ⟨k, Y, hkg, rfl, hY, hYl, hrd, hbg, hbx⟩ := hrel
      rcases gk with _ | gh
      · have hi : ¬ ((k : Int) < (n : Int)) := by omega
        have H8x : Hid (In8 wr p1 t) := H82.out.below (by rw [hgg]; exact hbg)
        have HNR2 := Lib.hid (HR2.out wr (HT.out wr hbx) H8x.out)
        have HRDx := Lib.hid hrd
        have HBX := Lib.hid hbx
        have HH1 : Hid (hi1 ≤ wr.heap.size) := (X.rsize hrd).2
        have HWL : Hid (w.heap.size ≤ lo1) := Nat.le_trans HWG.out (Nat.le_of_lt HGL.out)
        clear hY hYl hrd hbg hbx HR2 H8x
        go_wp2_with fail
        refine HNR2.out.mono ?_
        clear HNR2
        rintro e w6 ⟨qb, rfl, hq0, _, hb6⟩
        obtain ⟨hqs, hrd2⟩ := hq0 (by first | rfl | trivial)
        obtain ⟨qb, rfl⟩ := Option.isSome_iff_exists.1 hqs
        have HB6 := Lib.hid (bnext HBX.out hb6)
        have HRA := Lib.hid (rd_below X HRDx.out hb6)
        have HRB := Lib.hid hrd2
        obtain ⟨lo2, hlo⟩ : ∃ lo, wr.heap.size = lo := ⟨_, rfl⟩
        obtain ⟨hi2, hhi⟩ : ∃ hi, w6.heap.size = hi := ⟨_, rfl⟩
        rw [hlo, hhi] at HRB
        rw [hlo] at HH1
        clear hq0 hqs hrd2 hb6 HRDx HBX hlo hhi
        go_wp2_with fail
        go_loopg [11] l.length (fun gh s11 wx => ∃ (i : Nat) (st : St), i + gh = l.length ∧ s11 = .int .i64 (i : Int) ∧ X.Rd wx lo1 hi1 (.pointer (some qa)) st ∧ X.Rd wx lo2 hi2 (.pointer (some qb)) st ∧ Below w.heap.size w wx)
        case atStart => exact ⟨0, _, by omega, rfl, HRA.out, HRB.out, HB6.out⟩
        case round =>
          clear HRA HRB HB6
          obtain ⟨i, st, hig, rfl, hra, hrb, hbx⟩ := hrel
          rcases gk with _ | gh
          · have hi3 : ¬ ((i : Int) < (l.length : Int)) := by omega
            have HNW := Lib.hid (X.wnew wr)
            have HRA := Lib.hid hra
            have HRB := Lib.hid hrb
            have HBX := Lib.hid hbx
            clear hra hrb hbx
            go_wp2_with fail
            refine HNW.out.mono ?_
            clear HNW
            rintro e wA ⟨vw, rfl, hw, hbA⟩
            obtain ⟨pv, rfl⟩ := X.wptr hw
            have HPC : Hid (Calls Tryd.prog 27 #[.pointer pv, .agg #[.int .i64 1, .int .i64 0, .string ⟨#[97]⟩, .slice none 0 0]] wA fun e w' => WrA X wr.heap.size (.pointer pv) keepS wA e w') := put_c X wr.heap.size (.pointer pv) (.ok [] false) ⟨1, 0, [97], none, 0, []⟩ wr wA hw ⟨⟨(by show (-9223372036854775808 : Int) ≤ 0; omega), (by show (0 : Int) ≤ 9223372036854775807; omega)⟩, (by show 1 ≤ _; omega), ins_none _, fun _ => rfl, Nat.le_refl _, by simp, by simp⟩ hbA (Nat.le_refl _) (X.capmono HC7.out keep_len)
            have HBA := Lib.hid hbA
            clear hw hbA
            go_wp2_with fail
            refine HPC.out.mono ?_
            clear HPC
            rintro e wB ⟨rfl, hw, hbB⟩
            obtain ⟨F, hF, hFl⟩ := keep_frame
            have HBB : Hid (Below wr.heap.size wr wB) := HBA.out.trans hbB
            have HFR := Lib.hid (X.wframe _ _ _ wB (HT.out wB (bnext HBX.out HBB.out)) hw)
            rw [hF] at HFR
            have HWB := Lib.hid hw
            clear hw hbB HBA
            go_wp2_with fail
            refine HFR.out.mono ?_
            clear HFR
            rintro e wC ⟨v3, rfl, ho3, hbC⟩
            dsimp only at ho3 ⊢
            rw [hFl] at ho3
            obtain ⟨g3, cc3, X3, rfl, hg3, hg3l, hZ3, hX3, hn3, hm3⟩ := own_lst ho3 (by omega)
            have HFR2 := Lib.hid (X.wframe _ _ _ wC (HT.out wC (bnext HBX.out (bnext HBB.out hbC))) (X.wkeep HWB.out hbC))
            rw [hF] at HFR2
            have HBC := Lib.hid (bnext HBB.out hbC)
            have HZ3 := Lib.hid hZ3
            have H3 : Hid (w.heap.size ≤ g3 ∧ g3 < wC.heap.size ∧ X3.length = cc3 ∧ 10 ≤ cc3 ∧ cc3 ≤ maxLen) := ⟨Nat.le_trans (Nat.le_trans HBX.out.size HBB.out.size) hg3, hg3l, hX3, hn3, hm3⟩
            clear ho3 hbC hg3 hg3l hZ3 hX3 hn3 hm3 HWB HBB
            go_wp2_with fail
            refine HFR2.out.mono ?_
            clear HFR2
            rintro e wD ⟨v4, rfl, ho4, hbD⟩
            dsimp only at ho4 ⊢
            rw [hFl] at ho4
            obtain ⟨g4, cc4, X4, rfl, hg4, hg4l, hZ4, hX4, hn4, hm4⟩ := own_lst ho4 (by omega)
            have HBD := Lib.hid (bnext HBC.out hbD)
            have HZ3D := Lib.hid (HZ3.out.below hbD)
            have HZ4 := Lib.hid hZ4
            have H4 : Hid (w.heap.size ≤ g4 ∧ g3 < g4 ∧ X4.length = cc4 ∧ 10 ≤ cc4 ∧ cc4 ≤ maxLen) := ⟨Nat.le_trans (Nat.le_trans HBX.out.size HBC.out.size) hg4, Nat.lt_of_lt_of_le H3.out.2.1 hg4, hX4, hn4, hm4⟩
            have HE1 := Lib.hid (X.rend wD (rd_below X HRA.out HBD.out))
            clear ho4 hbD hg4 hg4l hZ4 hX4 hn4 hm4 HZ3 HBC hF hFl
            go_wp2_with fail
            refine HE1.out.mono ?_
            clear HE1
            rintro e wE ⟨rfl, hbE⟩
            have HBE := Lib.hid (bnext HBD.out hbE)
            have HZ3E := Lib.hid (HZ3D.out.below hbE)
            have HZ4E := Lib.hid (HZ4.out.below hbE)
            have HE2 := Lib.hid (X.rend wE (rd_below X HRB.out HBE.out))
            clear hbE HBD HZ3D HZ4
            go_wp2_with fail
            refine HE2.out.mono ?_
            clear HE2
            rintro e wF ⟨rfl, hbF⟩
            have HBF := Lib.hid (bnext HBE.out hbF)
            have HZ3F := Lib.hid (HZ3E.out.below hbF)
            have HZ4F := Lib.hid (HZ4E.out.below hbF)
            obtain ⟨ne, hne⟩ : ∃ ne, endS st = ne := ⟨_, rfl⟩
            rw [hne]
            have en : ((ne : Int) == (ne : Int)) = true := by simp
            have hba := (Below.refl wF.heap.size wF).alloc (Nat.le_refl _) (.cells #[.slice (some ⟨g3, 0, none⟩) 10 cc3, .slice (some ⟨g4, 0, none⟩) 10 cc4] 24)
            have HBG := Lib.hid (bnext (bnext HBX.out HBF.out) hba)
            have HAP : Hid (Calls Tryd.prog 30 #[.slice (some ⟨wF.heap.size, 0, none⟩) 2 2] (wF.alloc (.cells #[.slice (some ⟨g3, 0, none⟩) 10 cc3, .slice (some ⟨g4, 0, none⟩) 10 cc4] 24)) fun e w' => e = .returned (.bool true) ∧ Below w.heap.size (wF.alloc (.cells #[.slice (some ⟨g3, 0, none⟩) 10 cc3, .slice (some ⟨g4, 0, none⟩) 10 cc4] 24)) w') := by
              obtain ⟨a1, a2, a3, a4, a5⟩ := H3.out
              obtain ⟨b1, b2, b3, b4, b5⟩ := H4.out
              have hl3 := HZ3F.out.lt
              have hl4 := HZ4F.out.lt
              refine apart2_c wF.heap.size [⟨some g3, 10, cc3⟩, ⟨some g4, 10, cc4⟩] _ rfl ?_ ?_ (blk_new wF _ _ _ rfl) ?_ w.heap.size ?_
              · intro x hx
                simp only [List.mem_cons, List.not_mem_nil, or_false] at hx
                rcases hx with rfl | rfl
                · exact ⟨fun h => by simp at h, a4, a5⟩
                · exact ⟨fun h => by simp at h, b4, b5⟩
              · intro i j x y g hx hy hgx hgy
                match i, j with
                | 0, 0 => rfl
                | 1, 1 => rfl
                | 0, 1 =>
                  simp at hx hy
                  subst hx hy
                  simp at hgx hgy
                  omega
                | 1, 0 =>
                  simp at hx hy
                  subst hx hy
                  simp at hgx hgy
                  omega
                | i + 2, _ => simp at hx
                | 0, j + 2 => simp at hy
                | 1, j + 2 => simp at hy
              · intro j x g hj hx
                match j with
                | 0 =>
                  simp at hj
                  subst hj
                  simp at hx
                  subst hx
                  exact ⟨X3, HZ3F.out.below hba, a3, fun h => absurd h (by omega)⟩
                | 1 =>
                  simp at hj
                  subst hj
                  simp at hx
                  subst hx
                  exact ⟨X4, HZ4F.out.below hba, b3, fun h => absurd h (by omega)⟩
                | j + 2 => simp at hj
              · intro x hx g hgx
                simp only [List.mem_cons, List.not_mem_nil, or_false] at hx
                rcases hx with rfl | rfl
                · simp at hgx
                  omega
                · simp at hgx
                  omega
            clear hbF HBE HZ3E HZ4E hba hne
            go_wp2_with fail
            refine HAP.out.mono ?_
            clear HAP
            rintro e wH ⟨rfl, hbH⟩
            have HBH := Lib.hid (HBG.out.trans hbH)
            clear hbH HBG
            go_wp2_with fail
            go_ret
            exact ⟨rfl, HBH.out⟩
          · have hi3 : (i : Int) < (l.length : Int) := by omega
            have hil : i < l.length := by omega
            have hi4 : (i : Int) < 401 := by have := HLM.out; omega
            obtain ⟨b, o, rfl, c0, _, _, _⟩ := put_cells HP.out i hil
            have HBL := Lib.hid (cell_lt c0)
            obtain ⟨kk, hkk⟩ : ∃ kk, (l[i]).k = kk := ⟨_, rfl⟩
            rw [hkk] at c0
            have HC0 := Lib.hid c0
            have d0 := (hbx.cell (p := ⟨b, o + i * 4, none⟩) HBL.out).trans c0
            have HRA := Lib.hid (rd_below X hra ((Below.refl wr.heap.size wr).drew))
            have HRB := Lib.hid (rd_below X hrb ((Below.refl wr.heap.size wr).drew))
            have HBX : Hid (Below w.heap.size w wr.drew) := hbx.drew
            have HH2 : Hid (lo2 ≤ hi2 ∧ hi2 ≤ wr.heap.size) := X.rsize hrb
            have HR1 := Lib.hid (read_c X kk wr.drew HRA.out)
            clear c0 hkk hra hrb hbx
            go_wp2_with fail
            go_region_with (first
              | (go_at_call 18; (with_reducible refine HR1.out.mono ?_); rintro e w7 ⟨y1, rfl, hy1, hg1, hra7, hs7, _, hf1⟩; have HB7 : Hid (Below w.heap.size w w7) := Stay.below HBX.out hs7 HWL.out HBX.out.size; have d7 := (HB7.out.cell (p := ⟨b, o + i * 4, none⟩) HBL.out).trans HC0.out; have HRB7 : Hid (X.Rd w7 lo2 hi2 (.pointer (some qb)) st) := X.rkeep HRB.out hs7.size (fun k hk1 hk2 => hs7.block k (Nat.lt_of_lt_of_le hk2 HH2.out.2) (fun hh => absurd (Nat.lt_of_lt_of_le hh.2 (Nat.le_trans HH1.out hk1)) (Nat.lt_irrefl _))); have HR7 := Lib.hid (read_c X kk w7 HRB7.out); have HY1 := Lib.hid hy1; have HG1 := Lib.hid hg1; have HRA7 := Lib.hid hra7; have HF1 : Hid (Far hi2 y1) := fun g o hgo => Nat.le_trans HH2.out.2 (hf1 g o hgo); have HS7 : Hid (hi2 ≤ w7.heap.size) := Nat.le_trans HH2.out.2 hs7.size; clear hy1 hg1 hra7 hs7 hf1; unfold penc)
              | (go_at_call 18; (with_reducible refine HR7.out.mono ?_); rintro e w8 ⟨y2, rfl, hy2, hg2, hrb8, hs8, _, _⟩; have HB8 : Hid (Below w.heap.size w w8) := Stay.below HB7.out hs8 (Nat.le_trans HWL.out (Nat.le_trans (X.rsize HRA.out).1 HH1.out)) HB7.out.size; have HRA8 : Hid (X.Rd w8 lo1 hi1 (.pointer (some qa)) (readS kk st).2) := X.rkeep HRA7.out hs8.size (fun k _ hk2 => hs8.block k (Nat.lt_of_lt_of_le hk2 (Nat.le_trans HH1.out (Nat.le_trans HH2.out.1 HS7.out))) (fun hh => absurd (Nat.lt_of_lt_of_le hk2 (Nat.le_trans HH1.out hh.1)) (Nat.lt_irrefl _))); have HG8 : Hid (GoodP w8 y1) := HG1.out.keep HF1.out ⟨hs8.size, fun k hk1 hk2 => hs8.block k hk2 (fun hh => absurd hh.2 (Nat.not_lt.2 hk1))⟩; have HRB8 := Lib.hid hrb8; have HPS : Hid (Calls Tryd.prog 20 #[.agg #[.int .i64 y1.k, .int .i64 y1.n, .string ⟨y1.s.toArray⟩, .slice y1.p y1.l.length y1.c], .agg #[.int .i64 y2.k, .int .i64 y2.n, .string ⟨y2.s.toArray⟩, .slice y2.p y2.l.length y2.c]] w8 fun e w' => e = .returned (.bool true) ∧ Below w8.heap.size w8 w') := (by have h := psame_c y1 y2 w8 HG8.out hg2; rw [decide_eq_true (show y1.put = y2.put from HY1.out.trans hy2.symm)] at h; exact h); clear hy2 hg2 hrb8 hs8; unfold penc)
              | (go_at_call 20; (with_reducible refine HPS.out.mono ?_); rintro e w9 ⟨rfl, hb9⟩; have HB9 := Lib.hid hb9; clear hb9))
            all_goals
              clear d0 d7 HR1 HR7 HPS
              go_wp2_with fail
              go_roundg gh
              case measure => omega
              case rel => exact ⟨i + 1, _, by omega, by go_num, rd_below X HRA8.out HB9.out, rd_below X HRB8.out HB9.out, bnext HB8.out HB9.out⟩
      · have hi : (k : Int) < (n : Int) := by omega
        have hkY : k < Y.length := by omega
        have cy := hY.cell k
        rw [List.getElem?_eq_getElem hkY] at cy
        have fy := hY.frozen k
        have HY2 : Hid (Blk (wr.setCell ⟨g, k, none⟩ (.int .u8 255)) g 5 (Y.set k (.int .u8 255))) := hY.set k _
        have HYL : Hid ((Y.set k (.int .u8 255)).length = n + 3) := by show _ = _; rw [List.length_set, hYl]
        have HRDx : Hid (X.Rd (wr.setCell ⟨g, k, none⟩ (.int .u8 255)) lo1 hi1 (.pointer (some qa)) (.ok (t.drop 8))) := X.rkeep hrd (by simp) (fun i hi1 _ => by rw [Below.heap_setCell _ _ _ _ (by exact fun e => by have : i = g := e; have := HGL.out; omega)])
        have HBG2 : Hid (Below g w2 (wr.setCell ⟨g, k, none⟩ (.int .u8 255))) := hbg.setCell (p := ⟨g, k, none⟩) (Nat.le_refl _) _
        have HBX2 : Hid (Below w.heap.size w (wr.setCell ⟨g, k, none⟩ (.int .u8 255))) := hbx.setCell (p := ⟨g, k, none⟩) HWG.out _
        clear hY hYl hrd hbg hbx
        go_wp2_with fail
        go_roundg gh
        case measure => omega
        case rel => exact ⟨k + 1, _, by omega, by go_num, HY2.out, HYL.out, HRDx.out, HBG2.out, HBX2.out⟩
  · have e0 : ((q : Int) != 0) = true := by rw [bne_iff_ne]; omega
    have HK2 := Lib.hid (HK.out w2 HB2.out)
    clear hq HWO H82 HN1 HC1 HK HT
    go_wp2_with fail
    refine HK2.out.mono ?_
    rintro e w3 ⟨rfl, hb3⟩
    have HB3 := Lib.hid (bnext HB2.out hb3)
    clear HK2 hb3 HB2
    go_wp2_with fail
    go_ret
    exact ⟨rfl, HB3.out⟩
end Go.Proofs.YtpffebcaalbhjaaDoor.wir
