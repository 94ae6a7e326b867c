/- The developers' digest of sixteen parts. Condition: sha's package variables (Tabs). -/
import Derived.Test.YtpijnkfbgieabaaDoorTr5
namespace Go.Proofs.YtpijnkfbgieabaaDoor.tri
open Go.RowKit
open Go.Proofs.YtpijnkfbgieabaaDoor.oct Go.Proofs.YtpijnkfbgieabaaDoor.ref Go.Proofs.YtpijnkfbgieabaaDoor.rows Go.Proofs.YtpijnkfbgieabaaDoor.rowg Go.Proofs.YtpijnkfbgieabaaDoor.trn
open Go.Proofs.YtpijnkfbgieabaaDoor.sha (digest digest_len dval Tabs sum_top Rm hnew_c hwrite_c hsum_c Holds Part InP joined wpList_index_row)
open Go.Lib (byteCells)

theorem infoB8 : (Tryd.prog.info? 5).map (·.size) = some 1 := by kernel_rfl
theorem infoPt : (Tryd.prog.info? 82).map (·.size) = some 1 := by kernel_rfl
/-- an array behind a pointer, whole -/
theorem arr_all {P : Program} (w : World) (t e : TypeId) (n b o : Nat) (hu : P.underlying t = some (.array n e)) (he : (P.info? e).map (·.size) = some 1) :
    (Instr.sliceAt t (.pointer (some ⟨b, o, none⟩)) none none none).run P w = .ok (.slice (some ⟨b, o, none⟩) n n) w := by
  cases hq : P.info? e with
  | none => simp [hq] at he
  | some j =>
    simp [Instr.sliceAt, Instr.sureAddr, run_underlying hu, Instr.sliceBounds, sizeOf, typeInfo, hq, Sem.run_bind, Addr.add]
/-- the digests of the first i parts, behind the sign of a fork -/
def preP (f d : Nat) (l : List Pr) (i : Nat) : T := [1] ++ (List.range i).flatMap fun k => digP f (d + 1) (sub l d k)
theorem preP_succ (f d : Nat) (l : List Pr) (i : Nat) : preP f d l (i + 1) = preP f d l i ++ digP f (d + 1) (sub l d i) := by
  unfold preP
  rw [List.range_succ, List.flatMap_append, ← List.append_assoc]
  simp
theorem preP_len (f d : Nat) (l : List Pr) (i : Nat) : (preP f d l i).length = 1 + 32 * i := by
  induction i with
  | zero => rfl
  | succ i ih => rw [preP_succ, List.length_append, ih, digP_len]; omega
theorem one_row (W : World) (x : UInt8) : In8 (W.alloc (.cells #[.int .u8 (x.toNat : Int)] 5)) (some ⟨W.heap.size, 0, none⟩) [x] := in8_blk (Y := []) (by simpa [byteCells] using blk_new W #[.int .u8 (x.toNat : Int)] 5 _ rfl)
set_option maxRecDepth 100000 in
set_option maxHeartbeats 8000000 in
theorem psum_c {w : World} {F : Nat → Prop} {f d : Nat} {l : List Pr} {c : Nat → Option Nat} (h : SplitA w F f d l c) (ht : Tabs w) :
    Calls Tryd.prog 75 #[.agg (kids c).toArray] w fun e w' => e = .returned (dval (digest (preP f d l 16))) ∧ Below w.heap.size w w' := by
  have HS := Lib.hid h
  have HT := Lib.hid ht
  have hz := zeroD
  have hzl : (byteCells zeros).length = 32 := by rfl
  have hxl := kids_len c
  have HXI : Hid (∀ i, i < 16 → (kids c)[i]? = some (nptr (c i))) := fun i hi => kids_at c hi
  obtain ⟨Z, hZ⟩ : ∃ Z, byteCells zeros = Z := ⟨_, rfl⟩
  obtain ⟨X, hX⟩ : ∃ X, kids c = X := ⟨_, rfl⟩
  rw [hZ] at hz hzl
  rw [hX] at hxl HXI ⊢
  have hix : Hid ((Tryd.prog.info? 93).map (·.size) = some X.length) := by show _ = _; rw [hxl]; exact infoP
  have hb1 := (Below.refl w.heap.size w).alloc (Nat.le_refl _) (.cells X.toArray 93)
  have hb2 := hb1.alloc hb1.size (.cells Z.toArray 32)
  have hB1 := blk_old (blk_new w X.toArray 93 X rfl) (.cells Z.toArray 32)
  have hB2 := blk_new (w.alloc (.cells X.toArray 93)) Z.toArray 32 Z rfl
  rw [show (w.alloc (.cells X.toArray 93)).heap.size = w.heap.size + 1 by simp] at hB2
  have hsz : ((w.alloc (.cells X.toArray 93)).alloc (.cells Z.toArray 32)).heap.size = w.heap.size + 2 := by simp
  have HSZ := Lib.hid hsz
  have HB2 := Lib.hid hb2
  have HX1 := Lib.hid hB1
  have HZ1 := Lib.hid hB2
  have HZL := Lib.hid hzl
  have HN := Lib.hid (hnew_c _ (ht.below hb2))
  clear h ht hxl hzl hZ hX hb1 hb2 hB1 hB2 hsz
  go_enter Tryd.func75, Tryd.ntmps75
  go_wp2_with fail
  refine HN.out.mono ?_
  rintro e w3 ⟨g, rfl, hg, hh3, hb3⟩
  have hg2 : w.heap.size + 2 ≤ g := by rw [← HSZ.out]; exact hg
  have hb4 := (Below.refl w3.heap.size w3).alloc (Nat.le_refl _) (.cells #[.int .u8 1] 5)
  have hg3 := hh3.lt
  have HW := Lib.hid (hwrite_c g [] (some ⟨w3.heap.size, 0, none⟩) 1 [1] (w3.alloc (.cells #[.int .u8 1] 5)) ((HT.out.below (bnext HB2.out hb3)).below hb4) (hh3.keep (hb4.block g hg3)) (one_row w3 1) (fun _ a e => by injection e with e; rw [← e]; show w3.heap.size ≠ g; omega) ⟨(fun e => by cases e), by decide⟩ (by decide))
  have HB4 := Lib.hid (bnext (bnext HB2.out hb3) hb4)
  have HX4 := Lib.hid ((HX1.out.below hb3).below hb4)
  have HZ4 := Lib.hid ((HZ1.out.below hb3).below hb4)
  clear hg hh3 hb3 hb4 HN HX1 HZ1
  go_wp2_with fail
  refine HW.out.mono ?_
  rintro e w5 ⟨⟨v5, rfl⟩, hh5, hg5⟩
  have ht5 : Turn (fun k => k = g) (w3.alloc (.cells #[.int .u8 1] 5)) w5 := Turn.of_grown hg5 rfl
  have HX5 := Lib.hid (blk_turn HX4.out ht5 (by omega))
  have HZ5 := Lib.hid (blk_turn HZ4.out ht5 (by omega))
  have HB5 := Lib.hid (ht5.below HB4.out (fun k e => by omega) HB4.out.size)
  have HH5 : Hid (Holds w5 g (preP f d l 0)) := hh5
  clear hh5 hg5 ht5 HX4 HZ4 HB4 HW hg3
  go_wp2_with (with_reducible refine wpList_load_blk rfl 93 (.tmp 1) rfl w.heap.size X 93 HX5.out rfl _ Tryd.underlying93 rfl hix.out ?_)
  go_loopg [5, 6, 12] 16 (fun k s5 s6 s12 wy => ∃ i : Nat, i + k = 16 ∧ s12 = .int .i64 (i : Int) ∧ Hid (Holds wy g (preP f d l i)) ∧ Hid (Blk wy (w.heap.size + 1) 32 Z) ∧ Hid (Below w.heap.size w wy))
  case atStart => exact ⟨0, rfl, rfl, HH5, HZ5, HB5⟩
  case round =>
    obtain ⟨i, hik, rfl, HH, HZ2, HB⟩ := hrel
    clear HH5 HZ5 HB5 HX5
    rcases gk with _ | k
    · obtain rfl : i = 16 := by omega
      have HSU := Lib.hid (hsum_c g (preP f d l 16) wr (HT.out.below HB.out) HH.out (by rw [preP_len]; decide))
      have hdl : (byteCells (digest (preP f d l 16))).length = 32 := by rw [byteCells_len, digest_len]
      have ho := bytes_one (digest (preP f d l 16))
      unfold dval at HSU
      obtain ⟨D, hD⟩ : ∃ D, byteCells (digest (preP f d l 16)) = D := ⟨_, rfl⟩
      rw [hD] at HSU hdl ho
      have HDE := Lib.hid hD
      have hi : Hid ((Tryd.prog.info? 32).map (·.size) = some D.length) := by show _ = _; rw [hdl]; exact infoDg
      have HO := Lib.hid ho
      have HL : Hid (Z.length = D.length) := by show _ = _; rw [HZL.out, hdl]
      clear ho hdl hD HS HXI
      go_wp2_with fail
      refine HSU.out.mono ?_
      rintro e w6 ⟨rfl, hb6⟩
      have HZ6 := Lib.hid (HZ2.out.below hb6)
      have HB6 := Lib.hid (bnext HB.out hb6)
      clear hb6
      go_wp2_with (with_reducible refine wpList_store_blk rfl 32 (.tmp 2) (.tmp 22) rfl (w.heap.size + 1) D Z 32 HZ6.out rfl rfl hi.out HL.out HO.out ?_; intro w7 hR hW)
      exact bodyPost_ret (v := .agg D.toArray) (results_blk Tryd.results75 _ _ (w.heap.size + 1) 32 D _ rfl hR Tryd.underlying32 rfl hi.out) rfl ⟨by unfold dval; rw [HDE.out], hW.below _ _ HB6.out (Nat.le_succ _)⟩
    · have hi16 : i < 16 := by omega
      have hiI : (i : Int) < 16 := by omega
      have hxi := HXI.out i hi16
      have HSU := Lib.hid (sum_c ((HS.out i hi16).below HB.out))
      have hdl : (byteCells (digP f (d + 1) (sub l d i))).length = 32 := by rw [byteCells_len, digP_len]
      have ho := bytes_one (digP f (d + 1) (sub l d i))
      have HIN : Hid (∀ wx b, Blk wx b 32 (byteCells (digP f (d + 1) (sub l d i))) → ∀ wh, Holds wx g (preP f d l i) → Tabs wx → b ≠ g → wh = wx → Calls Tryd.prog 61 #[.pointer (some ⟨g, 0, none⟩), .slice (some ⟨b, 0, none⟩) 32 32] wh fun e w' => (∃ v, e = .returned v) ∧ Holds w' g (preP f d l (i + 1)) ∧ wx.grownBy w' (some g)) := by
        intro wx b hB wh hh ht hne e
        subst e
        have h8 : In8 wh (some ⟨b, 0, none⟩) (digP f (d + 1) (sub l d i)) := fun hl => ⟨b, 0, rfl, fun j hj => by
          rw [Nat.zero_add, hB.cell j]
          simp [byteCells, List.getD, List.getElem?_eq_getElem hj]⟩
        have h1 := hwrite_c g (preP f d l i) (some ⟨b, 0, none⟩) 32 (digP f (d + 1) (sub l d i)) wh ht hh h8 (fun _ a e => by injection e with e; rw [← e]; exact hne) ⟨(fun e => by cases e), by rw [digP_len]; decide⟩ (by rw [preP_len, digP_len]; omega)
        rw [digP_len, ← preP_succ] at h1
        exact h1
      unfold dval at HSU
      obtain ⟨D, hD⟩ : ∃ D, byteCells (digP f (d + 1) (sub l d i)) = D := ⟨_, rfl⟩
      rw [hD] at HSU hdl ho HIN
      have hi : Hid ((Tryd.prog.info? 32).map (·.size) = some D.length) := by show _ = _; rw [hdl]; exact infoDg
      have HO := Lib.hid ho
      have HL : Hid (Z.toArray.size = D.length) := by show _ = _; rw [List.size_toArray, HZL.out, hdl]
      have har := fun (w : World) (b o : Nat) => arr_all (P := Tryd.prog) w 32 5 32 b o Tryd.underlying32 infoB8
      clear ho hdl hD HS HXI
      go_wp2_with (with_reducible refine wpList_index_row rfl 93 (.tmp 11) (.tmp 12) rfl 82 16 _ X i _ rfl rfl Tryd.underlying93 Tryd.underlying82 rfl infoPt hi16 hxi ?_)
      refine HSU.out.mono ?_
      rintro e w6 ⟨rfl, hb6⟩
      have HB6 := Lib.hid (bnext HB.out hb6)
      have HZ6 := Lib.hid (HZ2.out.below hb6)
      have HH6 := Lib.hid (HH.out.keep (hb6.block g HH.out.lt))
      clear hb6 HSU HH HZ2
      go_wp2_with ((with_reducible refine wpList_store_new rfl 32 (.tmp 6) (.tmp 16) rfl D 32 _ rfl rfl hi.out HL.out HO.out ?_); intro w7 hS hSb _; have HB7 := Lib.hid (bnext HB6.out hSb); have HZ7 := Lib.hid (HZ6.out.below hSb); have HHW := Lib.hid (HIN.out w7 w6.heap.size hS w7 (HH6.out.keep (hSb.block g HH6.out.lt)) (HT.out.below (bnext HB6.out hSb)) (by have := HH6.out.lt; omega) rfl); clear hS hSb)
      refine HHW.out.mono ?_
      rintro e w8 ⟨⟨v8, rfl⟩, hh8, hg8⟩
      have ht8 : Turn (fun k => k = g) w7 w8 := Turn.of_grown hg8 rfl
      have HZ8 := Lib.hid (blk_turn HZ7.out ht8 (by omega))
      have HB8 := Lib.hid (ht8.below HB7.out (fun k e => by omega) HB7.out.size)
      have HH8 := Lib.hid hh8
      clear hh8 hg8 ht8
      go_wp2_with fail
      go_roundg k
      case measure => omega
      case rel => exact ⟨i + 1, by omega, by go_num, HH8, HZ8, HB8⟩
theorem preP_dig (f d : Nat) {l : List Pr} (h : 2 ≤ l.length) : digest (preP f d l 16) = digP (f + 1) d l := (digP_fork f d h).symm
end Go.Proofs.YtpijnkfbgieabaaDoor.tri
