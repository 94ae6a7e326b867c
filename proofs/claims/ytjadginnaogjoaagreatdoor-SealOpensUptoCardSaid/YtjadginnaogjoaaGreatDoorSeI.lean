/- The reference's Peek. Texts of at most 1048576 bytes. -/
import Derived.Test.YtjadginnaogjoaaGreatDoorSeH
namespace Go.Proofs.YtjadginnaogjoaaGreatDoor.sea
open Go.RowKit
open Go.Proofs.YtjadginnaogjoaaGreatDoor.oct Go.Proofs.YtjadginnaogjoaaGreatDoor.ref Go.Proofs.YtjadginnaogjoaaGreatDoor.rows Go.Proofs.YtjadginnaogjoaaGreatDoor.rowg Go.Proofs.YtjadginnaogjoaaGreatDoor.trn
open Go.Proofs.YtjadginnaogjoaaGreatDoor.jsn (natD intD valD valD_natD)
open Go.Lib (byteCells)

def ienc (n : Nat) : List Value := [.int .i64 (n : Int)]
theorem ienc_len : ∀ a, (ienc a).length = 1 := fun _ => rfl
theorem ienc_one : ∀ a : Nat, ∀ u ∈ ienc a, u.oneCell' = true := fun a u hu => by rw [List.mem_singleton.1 hu]; rfl
theorem infoI : (Tryz.prog.info? 3).map (fun i => (i.zero, i.size, i.bytes)) = some (some (.int .i64 0), 1, 8) := by kernel_rfl
theorem info_all {P : Program} {t : TypeId} {z : Option Value} {s b : Nat} (h : (P.info? t).map (fun i => (i.zero, i.size, i.bytes)) = some (z, s, b)) : ∃ j0, P.info? t = some j0 ∧ j0.zero = z ∧ j0.size = s ∧ j0.bytes = b := by
  cases hj : P.info? t with
  | none => rw [hj] at h; cases h
  | some j =>
    rw [hj] at h
    simp only [Option.map_some, Option.some.injEq, Prod.mk.injEq] at h
    exact ⟨j, rfl, h.1, h.2.1, h.2.2⟩
theorem int_new (W : World) (x : Nat) : InG ienc 1 (W.alloc (.cells #[.int .i64 (x : Int)] 3)) (some ⟨W.heap.size, 0, none⟩) [x] := by
  intro _
  refine ⟨W.heap.size, 0, rfl, fun i hi j hj => ?_⟩
  have hi0 : i = 0 := by simp at hi; omega
  have hj0 : j = 0 := by omega
  subst hi0
  subst hj0
  rw [World.cell?_alloc_at _ _ _ _ rfl]
  rfl
/-- three ints of an own row -/
theorem own3 {w : World} {B : Nat} {v : Value} {a b c : Nat} (h : w.ownsRow B 3 1 v 3 (cells ienc [a, b, c])) : ∃ g o cp, v = .slice (some ⟨g, o, none⟩) 3 cp ∧ w.cell? ⟨g, o, none⟩ = some (.int .i64 (a : Int)) ∧ w.cell? ⟨g, o + 1, none⟩ = some (.int .i64 (b : Int)) ∧ w.cell? ⟨g, o + 2, none⟩ = some (.int .i64 (c : Int)) := by
  obtain ⟨p, cp, rfl, _, _, hin⟩ := own_g ienc_len (by decide) (ps := [a, b, c]) h
  obtain ⟨g, o, rfl, hc⟩ := hin (by simp)
  exact ⟨g, o, cp, rfl, by simpa [ienc] using hc 0 (by simp) 0 (by decide), by simpa [ienc] using hc 1 (by simp) 0 (by decide), by simpa [ienc] using hc 2 (by simp) 0 (by decide)⟩
/-- a world in which the named result is as it was made: what is stored there, what then is -/
structure Rdy (w wx : World) : Prop where
  c0 : wx.cell? ⟨w.heap.size, 0, none⟩ = some (.int .i64 0)
  c1 : wx.cell? ⟨w.heap.size, 1, none⟩ = some (.string ⟨#[]⟩)
  c2 : wx.cell? ⟨w.heap.size, 2, none⟩ = some (.int .i64 0)
  f0 : wx.frozen? ⟨w.heap.size, 0, none⟩ = false
  f1 : wx.frozen? ⟨w.heap.size, 1, none⟩ = false
  f2 : wx.frozen? ⟨w.heap.size, 2, none⟩ = false
  k : ∀ x y z, Blk (((wx.setCell ⟨w.heap.size, 0, none⟩ x).setCell ⟨w.heap.size, 1, none⟩ y).setCell ⟨w.heap.size, 2, none⟩ z) w.heap.size 24 [x, y, z]
  b : ∀ x y z, Below w.heap.size w (((wx.setCell ⟨w.heap.size, 0, none⟩ x).setCell ⟨w.heap.size, 1, none⟩ y).setCell ⟨w.heap.size, 2, none⟩ z)
theorem Rdy.mk2 {w w0 wx : World} (hK : Blk w0 w.heap.size 24 [.int .i64 0, .string ⟨#[]⟩, .int .i64 0]) (hB : Below w.heap.size w w0) (hx : Below w0.heap.size w0 wx) : Rdy w wx := by
  have h := hK.below hx
  obtain ⟨c0, c1, c2⟩ := blk3 h
  obtain ⟨f0, f1, f2⟩ := frz3 h
  exact ⟨c0, c1, c2, f0, f1, f2, fun x y z => set3 h x y z, fun x y z => set3_below (bnext hB hx) (Nat.le_refl _) x y z⟩
theorem webs_next (l : T) (j : Nat) (hj : j < l.length) (h : webs (l.take j) = true) : (webC l[j] = true → webs (l.take (j + 1)) = true) ∧ (webC l[j] = false → webs l = false) := by
  unfold webs at *
  constructor
  · intro hw
    rw [List.take_succ_eq_append_getElem hj, List.all_append, h]
    simp [hw]
  · intro hw
    rw [Bool.eq_false_iff]
    intro ha
    have := List.all_eq_true.1 ha _ (List.getElem_mem hj)
    rw [hw] at this
    cases this
theorem ex_mid (l : T) (b : Nat) : (⟨l.toArray⟩ : ByteArray).extract 2 b = ⟨(famR l b).toArray⟩ := by
  refine ba_of ?_
  rw [Lib.extract_data]
  unfold famR
  simp
theorem wrap64_id (z : Int) (h1 : 0 ≤ z) (h2 : z < 4611686018427387904) : wrap64 z = z := by
  unfold wrap64
  omega
theorem ten_bd (V xn : Nat) (h : V < 100000000000000) (h2 : xn ≤ 9) : wrap64 (10 * (V : Int)) = 10 * (V : Int) ∧ wrap64 (xn : Int) = (xn : Int) ∧ wrap64 (10 * (V : Int) + (xn : Int)) = 10 * (V : Int) + (xn : Int) ∧ IntKind.u8.wrap (xn : Int) = (xn : Int) :=
  ⟨wrap64_id _ (by omega) (by omega), wrap64_id _ (by omega) (by omega), wrap64_id _ (by omega) (by omega), by rw [IntKind.wrap_u8]; omega⟩
theorem at_mk (s : T) (S : ByteArray) (hS : (⟨s.toArray⟩ : ByteArray) = S) (i : Nat) (h : i < s.length) (h2 : i < S.size) : S[i] = s[i] := by
  subst hS
  rfl
set_option maxRecDepth 100000 in
set_option maxHeartbeats 16000000 in
theorem rpeek_c (s : T) (w : World) (hs : s.length ≤ 1048576) :
    Calls Tryz.prog 13 #[txt s] w fun e w' => e = .returned (.tuple #[tok (tokO (outP s)), .int .i64 (errO (outP s))]) ∧ Below w.heap.size w w' := by
  obtain ⟨w0, hw0⟩ : ∃ w0, w.alloc (.cells #[.int .i64 0, .string ⟨#[]⟩, .int .i64 0] 24) = w0 := ⟨_, rfl⟩
  have hK0 : Blk w0 w.heap.size 24 [.int .i64 0, .string ⟨#[]⟩, .int .i64 0] := by rw [← hw0]; exact blk_new w _ _ _ rfl
  have hb0 : Below w.heap.size w w0 := by rw [← hw0]; exact (Below.refl _ w).alloc (Nat.le_refl _) _
  have hs0 : w0.heap.size = w.heap.size + 1 := by rw [← hw0]; simp
  have HK := Lib.hid hK0
  have HB := Lib.hid hb0
  have HSZ := Lib.hid hs0
  have hsz := mk_sz s
  obtain ⟨j0, hj, hy0, hy1, hy2⟩ := info_all infoI
  clear hK0 hb0 hs0
  unfold txt
  obtain ⟨S, hS⟩ : ∃ S, (⟨s.toArray⟩ : ByteArray) = S := ⟨_, rfl⟩
  rw [hS] at hsz ⊢
  have HAT : Hid (∀ (i : Nat) (h : i < s.length) (h2 : i < S.size), S[i] = s[i]) := Lib.hid fun i h h2 => at_mk s S hS i h h2
  have HSS := Lib.hid hS
  clear hS
  go_enter Tryz.func13, Tryz.ntmps13
  go_wp2_with fail
  try rw [hw0]
  clear hw0
  go_loopg [4, 5] s.length (fun gk s4 s5 wx => ∃ i : Nat, i + gk = s.length ∧ s5 = .int .i64 (i : Int) ∧ wx.ownsRow w0.heap.size 3 1 s4 (ptsA 0 (s.take i)).length (cells ienc (ptsA 0 (s.take i))) ∧ Below w0.heap.size w0 wx)
  case atStart => exact ⟨0, by omega, rfl, by rw [List.take_zero]; exact World.ownsRow_nil _ _ _ _, Below.refl _ _⟩
  case round =>
    obtain ⟨i, hig, rfl, hown, hbx⟩ := hrel
    rcases gk with _ | gk
    · obtain rfl : i = s.length := by omega
      rw [List.take_of_length_le (Nat.le_refl _)] at hown
      have HOWN := Lib.hid hown
      have HBX := Lib.hid hbx
      clear hown hbx hig hj hy0 hy1 hy2
      have hrdy := Rdy.mk2 HK.out HB.out HBX.out
      have HKF := Lib.hid hrdy.k
      have HBF := Lib.hid hrdy.b
      obtain ⟨P, hP⟩ : ∃ P, ptsA 0 s = P := ⟨_, rfl⟩
      rw [hP] at HOWN
      by_cases h3 : P.length = 3
      · obtain ⟨a, b, c, rfl⟩ : ∃ a b c, P = [a, b, c] := by
          match P, h3 with
          | [a, b, c], _ => exact ⟨a, b, c, rfl⟩
        obtain ⟨g, o, cp, rfl, p0, p1, p2⟩ := own3 HOWN.out
        obtain ⟨r1, r2, r3⟩ := pts3 hP
        have HNO := Lib.hid (ref_no hP)
        have HPT := Lib.hid hP
        by_cases h1 : a = 1
        · by_cases hN : s.length = c + 17
          · have q1 : (a : Int) = 1 := by omega
            have q2 : wrap64 ((c : Int) + 17) = (c : Int) + 17 := by unfold wrap64; omega
            have q3 : (S.size : Int) = (c : Int) + 17 := by omega
            have q4 : wrap64 ((c : Int) + 1) = (c : Int) + 1 := by unfold wrap64; omega
            have q5 : ¬ (s.length : Int) < (c : Int) + 17 := by omega
            have H1 := Lib.hid h1
            have HNC := Lib.hid hN
            have R1 := Lib.hid r1
            have R2 := Lib.hid r2
            have R3 := Lib.hid r3
            have HSZZ := Lib.hid hsz
            have HRDY := Lib.hid hrdy
            clear hP h3 HOWN h1 hN r1 r2 r3 hrdy hsz
            go_wp2_with fail
            clear q1 q2 q3 q4 q5
            go_loopg [6] 16 (fun gk u6 wx => ∃ j m : Nat, j + gk = 16 ∧ Hid (m = c + 1 + j) ∧ u6 = .int .i64 (m : Int) ∧ Hid (webs ((s.drop (c + 1)).take j) = true) ∧ wx = wr)
            case atStart => exact ⟨0, c + 1, by omega, rfl, by go_num, rfl, rfl⟩
            case round =>
              obtain ⟨j, m, hjg, HM, rfl, HWB, rfl⟩ := hrel
              have hdl : (s.drop (c + 1)).length = 16 := by have := HNC.out; rw [List.length_drop]; omega
              rcases gk with _ | gk
              · obtain rfl : j = 16 := by omega
                have hws := HWB.out
                rw [List.take_of_length_le (by omega)] at hws
                have HWS := Lib.hid hws
                clear hws hjg hdl HWB
                have q1 : ¬ (m : Int) < (S.size : Int) := by have := HM.out; have := HNC.out; have := HSZZ.out; omega
                have hb2 : (2 : Int) ≤ (b : Int) := by have := R1.out; have := H1.out; omega
                have hbS : (b : Int) ≤ (S.size : Int) := by have := R2.out; have := R3.out; have := HSZZ.out; omega
                have HEX : Hid (S.extract 2 b = ⟨(famR s b).toArray⟩) := Lib.hid (by rw [← HSS.out]; exact ex_mid s b)
                obtain ⟨FS, hFS⟩ : ∃ FS, (⟨(famR s b).toArray⟩ : ByteArray) = FS := ⟨_, rfl⟩
                rw [hFS] at HEX
                have HFS := Lib.hid hFS
                have hex := HEX.out
                obtain ⟨wa, wb, hv⟩ := var3 wr (.int .i64 0) (.string FS) (.int .i64 0)
                have ha := hv.a
                have hb := hv.s
                obtain ⟨d0, d1, d2⟩ := blk3 hv.zero
                obtain ⟨f0, f1, f2⟩ := frz3 hv.zero
                have HV := Lib.hid hv.blk
                have HVB := Lib.hid hv.below
                clear hv hFS
                go_wp2_with fail
                clear ha hb d0 d1 d2 f0 f1 f2 q1 hb2 hbS hex
                have h0 : 0 < S.size := by have := R3.out; have := HSZZ.out; omega
                have h0s : 0 < s.length := by have := HSZZ.out; omega
                have hat0 := HAT.out 0 h0s h0
                obtain ⟨x0, hx0⟩ : ∃ x0, s[0]'h0s = x0 := ⟨_, rfl⟩
                rw [hx0] at hat0
                have hcc : ((S[0]'h0).toNat : Int) = (x0.toNat : Int) := by rw [hat0]
                have HX0 : Hid (s.getD 0 0 = x0) := Lib.hid (by rw [← hx0]; simp [List.getD, List.getElem?_eq_getElem h0s])
                clear hat0 hx0
                obtain ⟨wp, hwp⟩ : ∃ wp, wp = wr := ⟨_, rfl⟩
                subst hwp
                have hl1 : ((((⟨#[63, 99, 97, 114]⟩ : ByteArray)[1]'(by decide)).toNat : Nat) : Int) = 99 := rfl
                have hl2 : ((((⟨#[63, 99, 97, 114]⟩ : ByteArray)[2]'(by decide)).toNat : Nat) : Int) = 97 := rfl
                have hl3 : ((((⟨#[63, 99, 97, 114]⟩ : ByteArray)[3]'(by decide)).toNat : Nat) : Int) = 114 := rfl
                go_loopg [8] 3 (fun gk u8 wx => ∃ k : Nat, k + gk = 4 ∧ 1 ≤ k ∧ u8 = .int .i64 (k : Int) ∧ Hid (Blk wx wp.heap.size 24 [.int .i64 (kAt x0 (k - 1)), .string FS, .int .i64 0]) ∧ Hid (Below wp.heap.size wp wx))
                case atStart => exact ⟨1, by omega, by omega, rfl, by rw [show kAt x0 (1 - 1) = 0 from kAt0 x0]; exact HV.out, HVB.out⟩
                case round =>
                  obtain ⟨k, hkg, hk1, rfl, HKX, HBX2⟩ := hrel
                  rcases gk with _ | gk
                  · obtain rfl : k = 4 := by omega
                    clear hkg hk1 hl1 hl2 hl3 hcc
                    obtain ⟨K3, hK3⟩ : ∃ K3, kAt x0 (4 - 1) = K3 := ⟨_, rfl⟩
                    have HK3 : Hid (kAt (s.getD 0 0) 3 = K3) := Lib.hid (by rw [HX0.out]; exact hK3)
                    rw [hK3] at HKX
                    clear hK3 HX0
                    have HDL := Lib.hid (digR_len R2.out R3.out)
                    obtain ⟨J, HJ⟩ : ∃ J, Hid ((J = c - b - 1 ∧ J ≤ 14) ∨ (J = 14 ∧ 14 < c - b - 1)) := by
                      rcases Nat.lt_or_ge 14 (c - b - 1) with h | h
                      · exact ⟨14, Or.inr ⟨rfl, h⟩⟩
                      · exact ⟨c - b - 1, Or.inl ⟨rfl, h⟩⟩
                    have HTJ : Hid ((digR s b c).take 14 = (digR s b c).take J) := Lib.hid (by
                      have hd := HDL.out
                      rcases HJ.out with ⟨e1, e2⟩ | ⟨e1, e2⟩
                      · rw [List.take_of_length_le (by omega), List.take_of_length_le (by omega)]
                      · rw [e1])
                    have hbB : b ≤ 1048576 := by have := R2.out; have := R3.out; omega
                    have hcB : c ≤ 1048576 := by have := R3.out; omega
                    have p1' := (HBX2.out.cell (cellB_lt p1)).trans p1
                    have q1 : wrap64 ((b : Int) + 1) = (b : Int) + 1 := by unfold wrap64; omega
                    go_wp2_with fail
                    clear p1' q1
                    go_loopg [9] J (fun gk u9 wx => ∃ j m : Nat, j + gk = J ∧ Hid (m = b + 1 + j) ∧ u9 = .int .i64 (m : Int) ∧ Hid (Blk wx wp.heap.size 24 [.int .i64 K3, .string FS, .int .i64 ((valD 0 ((digR s b c).take j) : Nat) : Int)]) ∧ Hid (∀ x ∈ (digR s b c).take j, 48 ≤ x.toNat ∧ x.toNat ≤ 57) ∧ Hid (Below wp.heap.size wp wx))
                    case atStart => exact ⟨0, b + 1, by omega, rfl, by go_num, HKX.out, (fun x hx => by simp at hx), HBX2.out⟩
                    case round =>
                      obtain ⟨j, m, hjg, HM, rfl, HKX, HDG, HBX2⟩ := hrel
                      have hm := HM.out
                      have hj14 : j ≤ 14 := by have := HJ.out; omega
                      have hmB : m ≤ 1048576 + 20 := by omega
                      have p1' := (HBX2.out.cell (cellB_lt p1)).trans p1
                      have p2' := (HBX2.out.cell (cellB_lt p2)).trans p2
                      have q9 : wrap64 ((b : Int) + 15) = (b : Int) + 15 := by unfold wrap64; omega
                      rcases gk with _ | gk
                      · obtain rfl : j = J := by omega
                        have hcn := HNC.out
                        have q5 : wrap64 ((c : Int) + 1) = (c : Int) + 1 := by unfold wrap64; omega
                        have hsl1 : (0 : Int) ≤ (c : Int) + 1 := by omega
                        have hsl2 : (c : Int) + 1 ≤ (S.size : Int) := by have := HSZZ.out; omega
                        have hqq : (¬ (m : Int) < (c : Int)) ∨ ((m : Int) < (c : Int) ∧ ¬ (m : Int) < (b : Int) + 15) := by have := HJ.out; omega
                        obtain ⟨TK, hTK⟩ : ∃ TK, s.take (c + 1) = TK := ⟨_, rfl⟩
                        have ex1 : S.extract 0 (c + 1) = ⟨TK.toArray⟩ := by rw [← HSS.out, ← hTK]; exact ex_take s (c + 1)
                        have HYES := Lib.hid (ref_yes HPT.out HNC.out HWS.out)
                        have HT7 : Hid (Blk wr wp.heap.size 24 [.int .i64 (tokR s b c).k, .string ⟨(tokR s b c).f.toArray⟩, .int .i64 (tokR s b c).n]) := Lib.hid (by
                          unfold tokR
                          dsimp only
                          rw [HK3.out, HTJ.out, HFS.out]
                          exact HKX.out)
                        have HFL : Hid ((tokR s b c).f.length ≤ 9223372036854775806) := Lib.hid (by
                          show (famR s b).length ≤ _
                          unfold famR
                          rw [List.length_take, List.length_drop]
                          omega)
                        obtain ⟨t, ht⟩ : ∃ t, tokR s b c = t := ⟨_, rfl⟩
                        rw [ht] at HYES HT7 HFL
                        rw [ht, hTK] at HNO
                        rw [hTK] at HYES
                        clear ht hTK hcn hm hj14 hmB HKX HDG
                        have hw0r : Below w0.heap.size w0 wr := HBX.out.trans (HBX2.out.mono HBX.out.size)
                        have HW0R := Lib.hid hw0r
                        have e3 : ∀ y : After wr, y.v.cell? ⟨g, o + 2, none⟩ = some (.int .i64 (c : Int)) := fun y => (y.below.cell (cellB_lt p2')).trans p2'
                        clear hw0r
                        by_cases hrt : Rt t
                        · have HR1 := Lib.hid (fun w => rright_c t w HFL.out)
                          rw [decide_eq_true hrt] at HR1
                          have HH1 := Lib.hid (fun w => rhead_c t w hrt)
                          by_cases hhd : headT t = TK
                          · have HN : Hid (outP s = .inl t) := outP_some (HYES.out hrt hhd)
                            obtain ⟨HD, hHD⟩ : ∃ HD, headT t = HD := ⟨_, rfl⟩
                            rw [hHD] at HH1 hhd
                            have qh : (HD == TK) = true := by simpa using hhd
                            clear hHD hhd hrt HYES HNO HFL
                            cases t with
                            | mk k f n =>
                              unfold tok txt at HR1 HH1
                              dsimp only at HR1 HH1 HT7
                              obtain ⟨S7, hS7⟩ : ∃ S7, (⟨f.toArray⟩ : ByteArray) = S7 := ⟨_, rfl⟩
                              simp only [hS7] at HR1 HH1 HT7
                              have e0 : ∀ y : After wr, y.v.cell? ⟨wp.heap.size, 0, none⟩ = some (.int .i64 k) := fun y => (HT7.out.below y.below).cell 0
                              have e1 : ∀ y : After wr, y.v.cell? ⟨wp.heap.size, 1, none⟩ = some (.string S7) := fun y => (HT7.out.below y.below).cell 1
                              have e2 : ∀ y : After wr, y.v.cell? ⟨wp.heap.size, 2, none⟩ = some (.int .i64 n) := fun y => (HT7.out.below y.below).cell 2
                              have C1 : Hid (∀ y : After wr, Calls Tryz.prog 28 #[.agg #[.int .i64 k, .string S7, .int .i64 n]] y.v fun e w'' => e = .returned (.bool true) ∧ ∃ z : After wr, w'' = z.v) := Lib.hid fun y => after_of y (HR1.out y.v)
                              have C2 : Hid (∀ y : After wr, Calls Tryz.prog 29 #[.agg #[.int .i64 k, .string S7, .int .i64 n]] y.v fun e w'' => e = .returned (.string ⟨HD.toArray⟩) ∧ ∃ z : After wr, w'' = z.v) := Lib.hid fun y => after_of y (HH1.out y.v)
                              have HS7 := Lib.hid hS7
                              clear hS7 HR1 HH1
                              rcases hqq with qa | ⟨qa, qb⟩
                              all_goals
                                go_wp2_with fail
                                refine wp_region_after (by kernel_rfl) (by kernel_rfl) ?_
                                repeat (go_big_quiet_step (first
                                  | (rename_i y; go_at_call 28; with_reducible exact C1.out y)
                                  | (rename_i y; go_at_call 29; with_reducible exact C2.out y)))
                                refine wpQuiet_nil ?_
                                rintro ⟨wq, hwq⟩
                                dsimp only
                                have hrdy := Rdy.mk2 HK.out HB.out (HW0R.out.trans (hwq.mono HW0R.out.size))
                                have HKF := Lib.hid hrdy.k
                                have HBF := Lib.hid hrdy.b
                                have c0 := hrdy.c0
                                have c1 := hrdy.c1
                                have c2 := hrdy.c2
                                have f0 := hrdy.f0
                                have f1 := hrdy.f1
                                have f2 := hrdy.f2
                                obtain ⟨v0, v1, v2⟩ := blk3 (HT7.out.below hwq)
                                clear hrdy hwq e0 e1 e2 e3
                                go_wp2_with fail
                                refine bodyPost_ret (results_bt Tryz.results13 _ _ w.heap.size 24 _ (.int .i64 0) rfl rfl (HKF.out _ _ _) Tryz.underlying24 rfl infoTk) rfl ?_
                                exact ⟨by rw [HN.out, ← HS7.out]; rfl, HBF.out _ _ _⟩
                          · have HN : Hid (outP s = .inr 3) := outP_none (HNO.out fun h => hhd h.2.2.2.2.2)
                            obtain ⟨HD, hHD⟩ : ∃ HD, headT t = HD := ⟨_, rfl⟩
                            rw [hHD] at HH1 hhd
                            have qh : (HD == TK) = false := by simpa using hhd
                            clear hHD hhd hrt HYES HNO HFL
                            cases t with
                            | mk k f n =>
                              unfold tok txt at HR1 HH1
                              dsimp only at HR1 HH1 HT7
                              obtain ⟨S7, hS7⟩ : ∃ S7, (⟨f.toArray⟩ : ByteArray) = S7 := ⟨_, rfl⟩
                              simp only [hS7] at HR1 HH1 HT7
                              have e0 : ∀ y : After wr, y.v.cell? ⟨wp.heap.size, 0, none⟩ = some (.int .i64 k) := fun y => (HT7.out.below y.below).cell 0
                              have e1 : ∀ y : After wr, y.v.cell? ⟨wp.heap.size, 1, none⟩ = some (.string S7) := fun y => (HT7.out.below y.below).cell 1
                              have e2 : ∀ y : After wr, y.v.cell? ⟨wp.heap.size, 2, none⟩ = some (.int .i64 n) := fun y => (HT7.out.below y.below).cell 2
                              have C1 : Hid (∀ y : After wr, Calls Tryz.prog 28 #[.agg #[.int .i64 k, .string S7, .int .i64 n]] y.v fun e w'' => e = .returned (.bool true) ∧ ∃ z : After wr, w'' = z.v) := Lib.hid fun y => after_of y (HR1.out y.v)
                              have C2 : Hid (∀ y : After wr, Calls Tryz.prog 29 #[.agg #[.int .i64 k, .string S7, .int .i64 n]] y.v fun e w'' => e = .returned (.string ⟨HD.toArray⟩) ∧ ∃ z : After wr, w'' = z.v) := Lib.hid fun y => after_of y (HH1.out y.v)
                              clear hS7 HR1 HH1
                              rcases hqq with qa | ⟨qa, qb⟩
                              all_goals
                                go_wp2_with fail
                                refine wp_region_after (by kernel_rfl) (by kernel_rfl) ?_
                                repeat (go_big_quiet_step (first
                                  | (rename_i y; go_at_call 28; with_reducible exact C1.out y)
                                  | (rename_i y; go_at_call 29; with_reducible exact C2.out y)))
                                refine wpQuiet_nil ?_
                                rintro ⟨wq, hwq⟩
                                dsimp only
                                have hrdy := Rdy.mk2 HK.out HB.out (HW0R.out.trans (hwq.mono HW0R.out.size))
                                have HKF := Lib.hid hrdy.k
                                have HBF := Lib.hid hrdy.b
                                have c0 := hrdy.c0
                                have c1 := hrdy.c1
                                have c2 := hrdy.c2
                                have f0 := hrdy.f0
                                have f1 := hrdy.f1
                                have f2 := hrdy.f2
                                clear hrdy hwq e0 e1 e2 e3
                                go_wp2_with fail
                                refine bodyPost_ret (results_bt Tryz.results13 _ _ w.heap.size 24 _ (.int .i64 3) rfl rfl (HKF.out _ _ _) Tryz.underlying24 rfl infoTk) rfl ?_
                                exact ⟨by rw [HN.out]; rfl, HBF.out _ _ _⟩
                        · have HN : Hid (outP s = .inr 3) := outP_none (HNO.out fun h => hrt h.2.2.2.2.1)
                          have HR1 := Lib.hid (fun w => rright_c t w HFL.out)
                          rw [decide_eq_false hrt] at HR1
                          clear hrt HYES HNO HFL
                          cases t with
                          | mk k f n =>
                            unfold tok txt at HR1
                            dsimp only at HR1 HT7
                            obtain ⟨S7, hS7⟩ : ∃ S7, (⟨f.toArray⟩ : ByteArray) = S7 := ⟨_, rfl⟩
                            simp only [hS7] at HR1 HT7
                            have e0 : ∀ y : After wr, y.v.cell? ⟨wp.heap.size, 0, none⟩ = some (.int .i64 k) := fun y => (HT7.out.below y.below).cell 0
                            have e1 : ∀ y : After wr, y.v.cell? ⟨wp.heap.size, 1, none⟩ = some (.string S7) := fun y => (HT7.out.below y.below).cell 1
                            have e2 : ∀ y : After wr, y.v.cell? ⟨wp.heap.size, 2, none⟩ = some (.int .i64 n) := fun y => (HT7.out.below y.below).cell 2
                            have C1 : Hid (∀ y : After wr, Calls Tryz.prog 28 #[.agg #[.int .i64 k, .string S7, .int .i64 n]] y.v fun e w'' => e = .returned (.bool false) ∧ ∃ z : After wr, w'' = z.v) := Lib.hid fun y => after_of y (HR1.out y.v)
                            clear hS7 HR1
                            rcases hqq with qa | ⟨qa, qb⟩
                            all_goals
                              go_wp2_with fail
                              refine wp_region_after (by kernel_rfl) (by kernel_rfl) ?_
                              repeat (go_big_quiet_step (first
                                | (rename_i y; go_at_call 28; with_reducible exact C1.out y)))
                              refine wpQuiet_nil ?_
                              rintro ⟨wq, hwq⟩
                              dsimp only
                              have hrdy := Rdy.mk2 HK.out HB.out (HW0R.out.trans (hwq.mono HW0R.out.size))
                              have HKF := Lib.hid hrdy.k
                              have HBF := Lib.hid hrdy.b
                              have c0 := hrdy.c0
                              have c1 := hrdy.c1
                              have c2 := hrdy.c2
                              have f0 := hrdy.f0
                              have f1 := hrdy.f1
                              have f2 := hrdy.f2
                              clear hrdy hwq e0 e1 e2 e3
                              go_wp2_with fail
                              refine bodyPost_ret (results_bt Tryz.results13 _ _ w.heap.size 24 _ (.int .i64 3) rfl rfl (HKF.out _ _ _) Tryz.underlying24 rfl infoTk) rfl ?_
                              exact ⟨by rw [HN.out]; rfl, HBF.out _ _ _⟩
                      · have hjl : j < J := by omega
                        have q1 : (m : Int) < (c : Int) := by have := HJ.out; omega
                        have q2 : (m : Int) < (b : Int) + 15 := by have := HJ.out; omega
                        have hmS : m < S.size := by have := R3.out; have := HSZZ.out; omega
                        have hms : m < s.length := by have := HSZZ.out; omega
                        have hmI : (m : Int) < (S.size : Int) := by omega
                        have hm0 : (0 : Int) ≤ (m : Int) := by omega
                        have hat := HAT.out m hms hmS
                        have hdj := digR_at (s := s) (b := b) (c := c) (j := j) (by omega) R3.out
                        have hge : s[b + 1 + j]'(by have := R3.out; omega) = s[m]'hms := by congr 1; exact hm.symm
                        rw [hge] at hdj
                        obtain ⟨x, hx⟩ : ∃ x, s[m]'hms = x := ⟨_, rfl⟩
                        rw [hx] at hat hdj
                        have hcc : ((S[m]'hmS).toNat : Int) = (x.toNat : Int) := by rw [hat]
                        have hx256 := x.toNat_lt
                        have HTN : Hid ((digR s b c).take (j + 1) = (digR s b c).take j ++ [x]) := Lib.hid (by
                          have hlt : j < (digR s b c).length := by have := HDL.out; have := HJ.out; omega
                          rw [List.take_succ_eq_append_getElem hlt]
                          rw [List.getElem?_eq_getElem hlt] at hdj
                          rw [Option.some.inj hdj])
                        have HMEM : Hid (x ∈ digR s b c) := Lib.hid (List.mem_of_getElem? hdj)
                        have hrdy := Rdy.mk2 HK.out HB.out (HBX.out.trans (HBX2.out.mono HBX.out.size))
                        clear hm hat hdj hge hx
                        by_cases hlo : x.toNat < 48
                        · have HN : Hid (outP s = .inr 3) := outP_none (HNO.out fun h => by have := (h.2.2.2.1 x HMEM.out).1; omega)
                          have HKF := Lib.hid hrdy.k
                          have HBF := Lib.hid hrdy.b
                          have q3 : (x.toNat : Int) < 48 := by omega
                          have c0 := hrdy.c0
                          have c1 := hrdy.c1
                          have c2 := hrdy.c2
                          have f0 := hrdy.f0
                          have f1 := hrdy.f1
                          have f2 := hrdy.f2
                          clear hrdy hlo hjg
                          go_wp2_with fail
                          refine bodyPost_ret (results_bt Tryz.results13 _ _ w.heap.size 24 _ (.int .i64 3) rfl rfl (HKF.out _ _ _) Tryz.underlying24 rfl infoTk) rfl ?_
                          exact ⟨by rw [HN.out]; rfl, HBF.out _ _ _⟩
                        · have q3 : ¬ (x.toNat : Int) < 48 := by omega
                          by_cases hhi : 57 < x.toNat
                          · have HN : Hid (outP s = .inr 3) := outP_none (HNO.out fun h => by have := (h.2.2.2.1 x HMEM.out).2; omega)
                            have HKF := Lib.hid hrdy.k
                            have HBF := Lib.hid hrdy.b
                            have q4 : (x.toNat : Int) > 57 := by omega
                            have c0 := hrdy.c0
                            have c1 := hrdy.c1
                            have c2 := hrdy.c2
                            have f0 := hrdy.f0
                            have f1 := hrdy.f1
                            have f2 := hrdy.f2
                            clear hrdy hlo hhi hjg
                            go_wp2_with fail
                            refine bodyPost_ret (results_bt Tryz.results13 _ _ w.heap.size 24 _ (.int .i64 3) rfl rfl (HKF.out _ _ _) Tryz.underlying24 rfl infoTk) rfl ?_
                            exact ⟨by rw [HN.out]; rfl, HBF.out _ _ _⟩
                          · have q4 : ¬ (x.toNat : Int) > 57 := by omega
                            have HVL := Lib.hid (valD_lt ((digR s b c).take j) 0 HDG.out)
                            have HVS : Hid (valD 0 ((digR s b c).take (j + 1)) = 10 * valD 0 ((digR s b c).take j) + (x.toNat - 48)) := Lib.hid (by rw [HTN.out, valD_snoc])
                            have HDG2 : Hid (∀ y ∈ (digR s b c).take (j + 1), 48 ≤ y.toNat ∧ y.toNat ≤ 57) := Lib.hid (by
                              rw [HTN.out]
                              intro y hy
                              rcases List.mem_append.1 hy with h | h
                              · exact HDG.out y h
                              · rw [List.mem_singleton.1 h]; omega)
                            have HPOW : Hid (10 ^ ((digR s b c).take j).length ≤ 10 ^ 14) := Lib.hid (Nat.pow_le_pow_right (by decide) (by rw [List.length_take]; omega))
                            obtain ⟨V, hV⟩ : ∃ V, valD 0 ((digR s b c).take j) = V := ⟨_, rfl⟩
                            rw [hV] at HKX HVL HVS
                            have HVB : Hid (V < 100000000000000) := Lib.hid (Nat.lt_of_lt_of_le HVL.out (by rw [Nat.zero_add, Nat.one_mul]; exact HPOW.out))
                            have HXN : Hid (∃ xn, x.toNat = xn + 48 ∧ xn ≤ 9) := Lib.hid ⟨x.toNat - 48, by omega, by omega⟩
                            have HJG := Lib.hid hjg
                            clear hrdy hlo hhi hV hjg hjl hj14 hmB hx256 HVL HPOW
                            go_wp2_with fail
                            clear q1 q2 q3 q4 q9 p1' p2'
                            obtain ⟨xn, hxn, hx9⟩ := HXN.out
                            have HNV : Hid (((valD 0 ((digR s b c).take (j + 1)) : Nat) : Int) = 10 * (V : Int) + (xn : Int)) := Lib.hid (by rw [HVS.out, hxn]; omega)
                            have hcx : ((S[m]'hmS).toNat : Int) = (xn : Int) + 48 := by rw [hcc, hxn]; omega
                            obtain ⟨s3, s4, s5, s6⟩ := ten_bd V xn HVB.out hx9
                            have HKS : Hid (Blk (wr.drew.setCell ⟨wp.heap.size, 2, none⟩ (.int .i64 (10 * (V : Int) + (xn : Int)))) wp.heap.size 24 [.int .i64 K3, .string FS, .int .i64 (10 * (V : Int) + (xn : Int))]) := Blk.set (w := wr.drew) (HKX.out.below (Below.refl _ wr).drew) 2 _
                            have HBS : Hid (Below wp.heap.size wp (wr.drew.setCell ⟨wp.heap.size, 2, none⟩ (.int .i64 (10 * (V : Int) + (xn : Int))))) := HBX2.out.drew.setCell (p := ⟨wp.heap.size, 2, none⟩) (Nat.le_refl _) _
                            have d2 : wr.cell? ⟨wp.heap.size, 2, none⟩ = some (.int .i64 (V : Int)) := HKX.out.cell 2
                            have g2 : wr.drew.frozen? ⟨wp.heap.size, 2, none⟩ = false := (HKX.out.below (Below.refl _ wr).drew).frozen 2
                            have d2' : wr.drew.cell? ⟨wp.heap.size, 2, none⟩ = some (.int .i64 (V : Int)) := d2
                            clear hcc hxn hx9 HXN HVS HKX HBX2
                            go_still_tail 10, (by kernel_rfl)
                            change wpList _ _ _ _ _ wr.drew
                            obtain ⟨wd', hwd⟩ : ∃ wd', wd' = wr.drew := ⟨_, rfl⟩
                            rw [← hwd] at HKS HBS d2' g2 ⊢
                            clear hwd d2
                            go_wp2_with fail
                            go_roundg gk
                            case measure => have := HJG.out; omega
                            case rel => exact ⟨j + 1, m + 1, by have := HJG.out; omega, by have := HM.out; show _ = _; omega, by go_num, by rw [HNV.out]; exact HKS.out, HDG2.out, HBS.out⟩
                  · obtain ⟨d0, d1, d2⟩ := blk3 HKX.out
                    obtain ⟨f0, f1, f2⟩ := frz3 HKX.out
                    have hk : k = 1 ∨ k = 2 ∨ k = 3 := by omega
                    rcases hk with rfl | rfl | rfl
                    · by_cases hx : x0 = 99
                      · have e1 : (x0.toNat : Int) = 99 := by rw [hx]; rfl
                        have HK2 : Hid (∀ nq, Blk ((wr.drewN nq).setCell ⟨wp.heap.size, 0, none⟩ (.int .i64 1)) wp.heap.size 24 [.int .i64 (kAt x0 (1 + 1 - 1)), .string FS, .int .i64 0]) := Lib.hid fun nq => by rw [hx, show kAt 99 (1 + 1 - 1) = 1 from kAt_y1]; exact (HKX.out.drewN nq).set 0 (.int .i64 1)
                        have HB2 : Hid (∀ nq, Below wp.heap.size wp ((wr.drewN nq).setCell ⟨wp.heap.size, 0, none⟩ (.int .i64 1))) := Lib.hid fun nq => (below_drewN HBX2.out nq).setCell (p := ⟨wp.heap.size, 0, none⟩) (Nat.le_refl _) (.int .i64 1)
                        clear hx
                        go_wp2_with fail
                        go_quiet (fail)
                        go_wp2_with fail
                        go_roundg gk
                        case measure => omega
                        case rel => exact ⟨1 + 1, by omega, by omega, rfl, HK2.out _, HB2.out _⟩
                      · have e1 : ¬ (x0.toNat : Int) = 99 := fun e => hx (UInt8.toNat_inj.1 (by have : (99 : UInt8).toNat = 99 := rfl; omega))
                        have HK2 : Hid (∀ nq, Blk (wr.drewN nq) wp.heap.size 24 [.int .i64 (kAt x0 (1 + 1 - 1)), .string FS, .int .i64 0]) := Lib.hid fun nq => by rw [show kAt x0 (1 + 1 - 1) = kAt x0 (1 - 1) from kAt_n1 hx]; exact HKX.out.drewN nq
                        have HB2 : Hid (∀ nq, Below wp.heap.size wp (wr.drewN nq)) := Lib.hid fun nq => below_drewN HBX2.out nq
                        clear hx
                        go_wp2_with fail
                        go_quiet (fail)
                        go_wp2_with fail
                        go_roundg gk
                        case measure => omega
                        case rel => exact ⟨1 + 1, by omega, by omega, rfl, HK2.out _, HB2.out _⟩
                    · by_cases hx : x0 = 97
                      · have e1 : (x0.toNat : Int) = 97 := by rw [hx]; rfl
                        have HK2 : Hid (∀ nq, Blk ((wr.drewN nq).setCell ⟨wp.heap.size, 0, none⟩ (.int .i64 2)) wp.heap.size 24 [.int .i64 (kAt x0 (2 + 1 - 1)), .string FS, .int .i64 0]) := Lib.hid fun nq => by rw [hx, show kAt 97 (2 + 1 - 1) = 2 from kAt_y2]; exact (HKX.out.drewN nq).set 0 (.int .i64 2)
                        have HB2 : Hid (∀ nq, Below wp.heap.size wp ((wr.drewN nq).setCell ⟨wp.heap.size, 0, none⟩ (.int .i64 2))) := Lib.hid fun nq => (below_drewN HBX2.out nq).setCell (p := ⟨wp.heap.size, 0, none⟩) (Nat.le_refl _) (.int .i64 2)
                        clear hx
                        go_wp2_with fail
                        go_quiet (fail)
                        go_wp2_with fail
                        go_roundg gk
                        case measure => omega
                        case rel => exact ⟨2 + 1, by omega, by omega, rfl, HK2.out _, HB2.out _⟩
                      · have e1 : ¬ (x0.toNat : Int) = 97 := fun e => hx (UInt8.toNat_inj.1 (by have : (97 : UInt8).toNat = 97 := rfl; omega))
                        have HK2 : Hid (∀ nq, Blk (wr.drewN nq) wp.heap.size 24 [.int .i64 (kAt x0 (2 + 1 - 1)), .string FS, .int .i64 0]) := Lib.hid fun nq => by rw [show kAt x0 (2 + 1 - 1) = kAt x0 (2 - 1) from kAt_n2 hx]; exact HKX.out.drewN nq
                        have HB2 : Hid (∀ nq, Below wp.heap.size wp (wr.drewN nq)) := Lib.hid fun nq => below_drewN HBX2.out nq
                        clear hx
                        go_wp2_with fail
                        go_quiet (fail)
                        go_wp2_with fail
                        go_roundg gk
                        case measure => omega
                        case rel => exact ⟨2 + 1, by omega, by omega, rfl, HK2.out _, HB2.out _⟩
                    · by_cases hx : x0 = 114
                      · have e1 : (x0.toNat : Int) = 114 := by rw [hx]; rfl
                        have HK2 : Hid (∀ nq, Blk ((wr.drewN nq).setCell ⟨wp.heap.size, 0, none⟩ (.int .i64 3)) wp.heap.size 24 [.int .i64 (kAt x0 (3 + 1 - 1)), .string FS, .int .i64 0]) := Lib.hid fun nq => by rw [hx, show kAt 114 (3 + 1 - 1) = 3 from kAt_y3]; exact (HKX.out.drewN nq).set 0 (.int .i64 3)
                        have HB2 : Hid (∀ nq, Below wp.heap.size wp ((wr.drewN nq).setCell ⟨wp.heap.size, 0, none⟩ (.int .i64 3))) := Lib.hid fun nq => (below_drewN HBX2.out nq).setCell (p := ⟨wp.heap.size, 0, none⟩) (Nat.le_refl _) (.int .i64 3)
                        clear hx
                        go_wp2_with fail
                        go_quiet (fail)
                        go_wp2_with fail
                        go_roundg gk
                        case measure => omega
                        case rel => exact ⟨3 + 1, by omega, by omega, rfl, HK2.out _, HB2.out _⟩
                      · have e1 : ¬ (x0.toNat : Int) = 114 := fun e => hx (UInt8.toNat_inj.1 (by have : (114 : UInt8).toNat = 114 := rfl; omega))
                        have HK2 : Hid (∀ nq, Blk (wr.drewN nq) wp.heap.size 24 [.int .i64 (kAt x0 (3 + 1 - 1)), .string FS, .int .i64 0]) := Lib.hid fun nq => by rw [show kAt x0 (3 + 1 - 1) = kAt x0 (3 - 1) from kAt_n3 hx]; exact HKX.out.drewN nq
                        have HB2 : Hid (∀ nq, Below wp.heap.size wp (wr.drewN nq)) := Lib.hid fun nq => below_drewN HBX2.out nq
                        clear hx
                        go_wp2_with fail
                        go_quiet (fail)
                        go_wp2_with fail
                        go_roundg gk
                        case measure => omega
                        case rel => exact ⟨3 + 1, by omega, by omega, rfl, HK2.out _, HB2.out _⟩
              · have hm := HM.out
                have hN := HNC.out
                have hsz := HSZZ.out
                have hmS : m < S.size := by omega
                have hmI : (m : Int) < (S.size : Int) := by omega
                have hmB : m ≤ 1048576 := by omega
                have hm0 : (0 : Int) ≤ (m : Int) := by omega
                have hat := HAT.out m (by omega) hmS
                have hjl : j < (s.drop (c + 1)).length := by omega
                obtain ⟨k1, k2⟩ := webs_next _ j hjl HWB.out
                have hge : (s.drop (c + 1))[j] = s[m]'(by omega) := by
                  rw [List.getElem_drop]
                  congr 1
                  omega
                rw [hge] at k1 k2
                obtain ⟨x, hx⟩ : ∃ x, s[m]'(by omega) = x := ⟨_, rfl⟩
                rw [hx] at hat k1 k2
                have hcc : ((S[m]'hmS).toNat : Int) = (x.toNat : Int) := by rw [hat]
                have K1 := Lib.hid k1
                have K2 := Lib.hid k2
                have HSG := Lib.hid (fun w => rsign_c x w)
                clear hm hN hsz hat hjl k1 k2 hge hx hdl
                cases hok : webC x
                · have HN : Hid (outP s = .inr 3) := outP_none (HNO.out fun h => by rw [K2.out hok] at h; exact absurd h.2.2.1 (by decide))
                  rw [hok] at HSG
                  clear K1 K2 hok hjg
                  have c0 := HRDY.out.c0
                  have c1 := HRDY.out.c1
                  have c2 := HRDY.out.c2
                  have f0 := HRDY.out.f0
                  have f1 := HRDY.out.f1
                  have f2 := HRDY.out.f2
                  go_wp2_with (go_at_call 27; refine (HSG.out _).mono ?_; rintro e w' ⟨rfl, rfl⟩)
                  refine bodyPost_ret (results_bt Tryz.results13 _ _ w.heap.size 24 _ (.int .i64 3) rfl rfl (HKF.out _ _ _) Tryz.underlying24 rfl infoTk) rfl ?_
                  exact ⟨by rw [HN.out]; rfl, HBF.out _ _ _⟩
                · have HW2 := Lib.hid (K1.out hok)
                  rw [hok] at HSG
                  clear K1 K2 hok
                  go_wp2_with (go_at_call 27; refine (HSG.out _).mono ?_; rintro e w' ⟨rfl, rfl⟩)
                  go_roundg gk
                  case measure => omega
                  case rel => exact ⟨j + 1, m + 1, by omega, by have := HM.out; show _ = _; omega, by go_num, HW2, rfl⟩
          · have HN : Hid (outP s = .inr 3) := outP_none (HNO.out fun h => hN h.2.1)
            have c0 := hrdy.c0
            have c1 := hrdy.c1
            have c2 := hrdy.c2
            have f0 := hrdy.f0
            have f1 := hrdy.f1
            have f2 := hrdy.f2
            have q1 : (a : Int) = 1 := by omega
            have q2 : wrap64 ((c : Int) + 17) = (c : Int) + 17 := by unfold wrap64; omega
            have q3 : ¬ (S.size : Int) = (c : Int) + 17 := by omega
            clear hrdy hP h3 HOWN h1 hN r1 r2 r3
            go_wp2_with fail
            refine bodyPost_ret (results_bt Tryz.results13 _ _ w.heap.size 24 _ (.int .i64 3) rfl rfl (HKF.out _ _ _) Tryz.underlying24 rfl infoTk) rfl ?_
            exact ⟨by rw [HN.out]; rfl, HBF.out _ _ _⟩
        · have HN : Hid (outP s = .inr 3) := outP_none (HNO.out fun h => h1 h.1)
          have c0 := hrdy.c0
          have c1 := hrdy.c1
          have c2 := hrdy.c2
          have f0 := hrdy.f0
          have f1 := hrdy.f1
          have f2 := hrdy.f2
          have q1 : ¬ (a : Int) = 1 := by omega
          clear hrdy hP h3 HOWN h1 r1 r2 r3
          go_wp2_with fail
          refine bodyPost_ret (results_bt Tryz.results13 _ _ w.heap.size 24 _ (.int .i64 3) rfl rfl (HKF.out _ _ _) Tryz.underlying24 rfl infoTk) rfl ?_
          exact ⟨by rw [HN.out]; rfl, HBF.out _ _ _⟩
      · have HN : Hid (outP s = .inr 3) := outP_none (ref_three (by rw [hP]; exact h3))
        obtain ⟨p, cp, rfl, _, _, _⟩ := own_g ienc_len (by decide) HOWN.out
        have c0 := hrdy.c0
        have c1 := hrdy.c1
        have c2 := hrdy.c2
        have f0 := hrdy.f0
        have f1 := hrdy.f1
        have f2 := hrdy.f2
        have q1 : ¬ (P.length : Int) = 3 := by omega
        clear hrdy hP h3 HOWN
        go_wp2_with fail
        refine bodyPost_ret (results_bt Tryz.results13 _ _ w.heap.size 24 _ (.int .i64 3) rfl rfl (HKF.out _ _ _) Tryz.underlying24 rfl infoTk) rfl ?_
        exact ⟨by rw [HN.out]; rfl, HBF.out _ _ _⟩
    · have hi : i < s.length := by omega
      have hiI : (i : Int) < (S.size : Int) := by omega
      have hst := pts_step s i hi
      have hat := HAT.out i hi (by omega)
      obtain ⟨c, hc⟩ : ∃ c, s[i] = c := ⟨_, rfl⟩
      rw [hc] at hst hat
      have hcc : ((S[i]'(by omega)).toNat : Int) = (c.toNat : Int) := by rw [hat]
      have hpl : (ptsA 0 (s.take i)).length ≤ i := Nat.le_trans (pts_len _ _) (by rw [List.length_take]; omega)
      by_cases h46 : c = 46
      · rw [if_pos h46] at hst
        have q1 : (c.toNat : Int) = 46 := by rw [h46]; rfl
        obtain ⟨P, hP⟩ : ∃ P, ptsA 0 (s.take i) = P := ⟨_, rfl⟩
        rw [hP] at hown hst hpl
        have HST := Lib.hid hst
        have HOW : Hid (∀ W, Below wr.heap.size wr W → W.ownsRow w0.heap.size 3 1 u4 P.length (cells ienc P)) := Lib.hid fun W hW => own_belowG hown hW
        have HBX := Lib.hid hbx
        have HGO : Hid (∀ w5 w6 v2, Below wr.heap.size wr w5 → w0.heap.size ≤ w5.heap.size → w6.ownsRow w0.heap.size 3 1 v2 (P.length + 1) (cells ienc P ++ cells ienc [i]) → w5.grownBy w6 u4.ownBlock → w6.ownsRow w0.heap.size 3 1 v2 (P ++ [i]).length (cells ienc (P ++ [i])) ∧ Below w0.heap.size w0 w6) := Lib.hid fun w5 w6 v2 h1 h2 h3 h4 =>
          ⟨by rw [List.length_append, cells_append]; exact h3, (hbx.trans (h1.mono hbx.size)).grown h4 h2 (fun x hx => ((own_belowG hown h1).lt _ hx).1)⟩
        have HSW := Lib.hid hbx.size
        have hplen : P.length ≤ 1048576 := by omega
        clear hown hbx hat hc h46 hpl hst hP
        go_wp2_with (at_builtin; (refine wpList_append_g ienc_len (by decide) ienc_one rfl (.tmp 20) (.tmp 22) 59 3 rfl Tryz.underlying59 hj hy0 hy1 hy2 rfl w0.heap.size u4 P.length _ rfl (HOW.out _ ((Below.refl _ _).alloc (Nat.le_refl _) _)) _ 1 1 [i] rfl (int_new wr i) rfl (fun h => by cases h) (by unfold maxLen; omega) (by omega) (by have := HSW.out; simp; omega) ?_; intro v2 w6 q2 q3; have HG6 := Lib.hid (HGO.out _ w6 v2 ((Below.refl _ _).alloc (Nat.le_refl _) _) (by have := HSW.out; simp; omega) q2 q3); clear q2 q3))
        go_roundg gk
        case measure => omega
        case rel => exact ⟨i + 1, by omega, by go_num, by rw [HST.out]; exact HG6.out.1, HG6.out.2⟩
      · rw [if_neg h46, List.append_nil] at hst
        have q1 : ¬ (c.toNat : Int) = 46 := fun e => h46 (UInt8.toNat_inj.1 (by have : (46 : UInt8).toNat = 46 := rfl; omega))
        rw [← hst] at hown
        have HOWN := Lib.hid hown
        have HBX := Lib.hid hbx
        clear hown hbx hst hat hc h46 hpl
        go_wp2_with fail
        go_roundg gk
        case measure => omega
        case rel => exact ⟨i + 1, by omega, by go_num, HOWN.out, HBX.out⟩
end Go.Proofs.YtjadginnaogjoaaGreatDoor.sea
