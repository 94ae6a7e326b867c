/- Several texts in one: Pkd1, Pkd2, ShCln, Pkd3, Pkd4. Conditions: as each theorem says. -/
import Derived.Test.YthagdkipipldlaaGreatDoorPkcApi
import Derived.Test.YthagdkipipldlaaGreatDoorDevA0
import Derived.Shelf.Strconv.Clone
import Derived.Test.YthagdkipipldlaaGreatDoorProg
import Derived.Laws.EntriesVeiled
import Derived.LoopN
namespace Go.Proofs.YthagdkipipldlaaGreatDoor.pkc
open Go.RowKit
open Go.Proofs.YthagdkipipldlaaGreatDoor.oct Go.Proofs.YthagdkipipldlaaGreatDoor.ref Go.Proofs.YthagdkipipldlaaGreatDoor.sha

def signsL : T := [65, 66, 67, 68, 69, 70, 71, 72, 73, 74, 75, 76, 77, 78, 79, 80, 81, 82, 83, 84, 85, 86, 87, 88, 89, 90, 97, 98, 99, 100, 101, 102, 103, 104, 105, 106, 107, 108, 109, 110, 111, 112, 113, 114, 115, 116, 117, 118, 119, 120, 121, 122, 48, 49, 50, 51, 52, 53, 54, 55, 56, 57, 45, 46, 95, 126]
theorem pall_bytes {p : UInt8 → Prop} (h : ∀ n : Fin 256, p n.val.toUInt8) (c : UInt8) : p c := by
  have := h ⟨c.toNat, c.toNat_lt⟩
  rwa [show (⟨c.toNat, c.toNat_lt⟩ : Fin 256).val.toUInt8 = c by simp] at this
theorem sign_ix (c : UInt8) : if okV c = true then ¬ Lib.indexByte signsL c < 0 else Lib.indexByte signsL c < 0 := by
  revert c
  exact fun c => pall_bytes (p := fun c => if okV c = true then ¬ Lib.indexByte signsL c < 0 else Lib.indexByte signsL c < 0) (by decide +kernel) c
theorem signIx_c (c : UInt8) (w : World) : Calls Tryz.prog 76 #[.string ⟨signsL.toArray⟩, .int .u8 (c.toNat : Int)] w fun e w' => e = .returned (.int .i64 (Lib.indexByte signsL c)) ∧ w' = w := by
  have := sh.indexByte ⟨signsL.toArray⟩ (c.toNat : Int) w
  rw [show (⟨signsL.toArray⟩ : ByteArray).data.toList = signsL from rfl, show (c.toNat : Int).toNat.toUInt8 = c by simp] at this
  exact this
set_option maxRecDepth 100000 in
set_option maxHeartbeats 8000000 in
theorem pver_c (s : ByteArray) (w : World) :
    Calls Tryz.prog 170 #[.string s] w fun e w' => e = .returned (.bool (verB s.data.toList)) ∧ w = w' := by
  have HSL : Hid (s.data.toList.length = s.size) := by show _ = _; rw [Array.length_toList]; rfl
  by_cases h0 : 43 ≤ s.size
  · by_cases h64 : s.size ≤ 128
    · have HW : Hid (verB s.data.toList = s.data.toList.all okV) := by
        show _ = _
        unfold verB
        rw [HSL.out, decide_eq_true h0, decide_eq_true h64]; rfl
      have i0 : ¬ ((s.size : Int) < 43) := by omega
      have i64 : ¬ ((s.size : Int) > 128) := by omega
      go_enter Tryz.func170, Tryz.ntmps170
      go_wp2_with fail
      go_loopg [3, 14] s.size (fun g _ s6 wx => ∃ k : Nat, k + g = s.size ∧ s6 = .int .i64 k ∧ Hid ((s.data.toList.take k).all okV = true) ∧ wx = w)
      case atStart => exact ⟨0, by omega, rfl, rfl, rfl⟩
      case round =>
        obtain ⟨k, hkg, rfl, HN, rfl⟩ := hrel
        rcases gk with _ | g
        · obtain rfl : k = s.size := by omega
          have HR : Hid (verB s.data.toList = true) := by
            have h := HN.out
            rw [List.take_of_length_le (by rw [HSL.out]; exact Nat.le_refl _)] at h
            show _ = _
            rw [HW.out]; exact h
          go_wp2_with fail
          go_ret
          exact ⟨ret_bool HR.out.symm, rfl⟩
        · have hk : k < s.size := by omega
          have hkI : (k : Int) < (s.size : Int) := by omega
          obtain ⟨h1, h2⟩ := okV_text s k hk HN.out
          rw [← HW.out] at h2
          obtain ⟨c, hc⟩ : ∃ c, s[k] = c := ⟨_, rfl⟩
          have hix := sign_ix c
          have hcc : (s[k].toNat : Int) = (c.toNat : Int) := by rw [hc]
          rw [hc] at h1 h2
          have H1 := Lib.hid h1
          have H2 := Lib.hid h2
          have HC := Lib.hid (signIx_c c wr)
          clear h1 h2 hc
          obtain ⟨ix, hixe⟩ : ∃ ix, Lib.indexByte signsL c = ix := ⟨_, rfl⟩
          rw [hixe] at HC hix
          clear hixe
          unfold signsL at HC
          cases hok : okV c
          · have hneg : ix < 0 := by rw [hok] at hix; simpa using hix
            clear hix
            have HR := Lib.hid (H2.out hok)
            clear H1 H2 hok
            go_wp2_with (go_at_call 76; refine HC.out.mono ?_; rintro e w' ⟨rfl, rfl⟩)
            go_ret
            exact ⟨ret_bool HR.out.symm, rfl⟩
          · have hneg : ¬ ix < 0 := by rw [hok] at hix; simpa using hix
            clear hix
            have HR := Lib.hid (H1.out hok)
            clear H1 H2 hok
            go_wp2_with (go_at_call 76; refine HC.out.mono ?_; rintro e w' ⟨rfl, rfl⟩)
            go_roundg g
            case measure => omega
            case rel => exact ⟨k + 1, by omega, by go_num, HR, rfl⟩
    · have HW : Hid (verB s.data.toList = false) := by
        show _ = _
        unfold verB
        rw [HSL.out, decide_eq_true h0, decide_eq_false h64]; rfl
      have i0 : ¬ ((s.size : Int) < 43) := by omega
      have i64 : (s.size : Int) > 128 := by omega
      go_enter Tryz.func170, Tryz.ntmps170
      go_wp2_with fail
      go_ret
      exact ⟨ret_bool HW.out.symm, rfl⟩
  · have HW : Hid (verB s.data.toList = false) := by
      show _ = _
      unfold verB
      rw [HSL.out, decide_eq_false h0]; rfl
    have i0 : (s.size : Int) < 43 := by omega
    go_enter Tryz.func170, Tryz.ntmps170
    go_wp2_with fail
    go_ret
    exact ⟨ret_bool HW.out.symm, rfl⟩
theorem pverT_c (l : T) (w : World) : Calls Tryz.prog 170 #[txt l] w fun e w' => e = .returned (.bool (verB l)) ∧ w = w' := pver_c ⟨l.toArray⟩ w
end Go.Proofs.YthagdkipipldlaaGreatDoor.pkc

namespace Go.Proofs.YthagdkipipldlaaGreatDoor.pkc
open Go.RowKit
open Go.Proofs.YthagdkipipldlaaGreatDoor.oct Go.Proofs.YthagdkipipldlaaGreatDoor.ref Go.Proofs.YthagdkipipldlaaGreatDoor.rows Go.Proofs.YthagdkipipldlaaGreatDoor.sha
open Go.Lib (byteCells)

theorem infoDS7 : (Tryz.prog.info? 212).map (·.size) = some 32 := by kernel_rfl
set_option maxRecDepth 100000 in
set_option maxHeartbeats 4000000 in
theorem digest_c (v : T) (w : World) (ht : Tabs w) (hl : v.length ≤ 1048576) :
    Calls Tryz.prog 172 #[txt v] w fun e w' => e = .returned (txt (hashT v)) ∧ Below w.heap.size w w' := by
  obtain ⟨W, cp, hcv, h8, hcp, hbW⟩ := conv_row v w
  have HS := Lib.hid (sum_top (some ⟨w.heap.size, 0, none⟩) cp v W (ht.below hbW) h8 (by omega) ⟨(fun h => by cases h), hcp⟩)
  have HBW := Lib.hid hbW
  have hdl := digest_len v
  have HH : Hid (hashT v = webT (digest v)) := rfl
  have HNL : Hid (32 = (byteCells (digest v)).length) := by show _ = _; rw [byteCells_len, hdl]
  have HI : Hid ((Tryz.prog.info? 212).map (·.size) = some (byteCells (digest v)).length) := by show _ = _; rw [byteCells_len, hdl]; exact infoDS7
  have HO := Lib.hid (bytes_one (digest v))
  obtain ⟨D, hD⟩ : ∃ D, digest v = D := ⟨_, rfl⟩
  obtain ⟨X, hX⟩ : ∃ X, hashT v = X := ⟨_, rfl⟩
  rw [hD] at HS hdl HNL HI HO HH
  rw [hX] at HH ⊢
  have HDL := Lib.hid hdl
  unfold txt at *
  unfold dval at HS
  clear h8 hbW hD hX hdl ht
  go_enter Tryz.func172, Tryz.ntmps172
  go_wp2_with fail
  refine HS.out.mono ?_
  rintro e w1 ⟨rfl, hb1⟩
  have HB1 := Lib.hid (bnext HBW.out hb1)
  have har := fun (w : World) (b o : Nat) => arr_all (P := Tryz.prog) w 212 5 32 b o Tryz.underlying212 infoB8
  clear hb1 HS hcv
  go_wp2_with ((with_reducible refine wpList_store_new rfl 212 (.tmp 3) (.tmp 6) rfl (byteCells D) 212 _ rfl rfl HI.out (Eq.trans (by decide) HNL.out) HO.out ?_); intro w2 hS hSb hz; clear hz; have H8 := Lib.hid (in8_all hS); have hb2 := Lib.hid (bnext HB1.out hSb); clear hS hSb)
  have HWB := Lib.hid (web_c (some ⟨w1.heap.size, 0, none⟩) 32 D w2 H8.out (by rw [HDL.out]; decide))
  rw [HDL.out, ← HH.out] at HWB
  refine HWB.out.mono ?_
  rintro e w3 ⟨rfl, hb3⟩
  go_wp2_with fail
  go_ret
  exact ⟨rfl, bnext hb2.out hb3⟩
theorem mays_len {c : T} (h : c.length ≠ 43) : mayS c = false := by
  by_cases hx : ∃ o, webT o = c
  · obtain ⟨o, ho⟩ := hx
    rw [mayS_of ho, decide_eq_false_iff_not]
    intro h32
    exact h (by rw [← ho, webT_len, h32])
  · exact mayS_none fun o ho => hx ⟨o, ho⟩
theorem mays_web {o c : T} (h : webT o = c) (hc : c.length = 43) : mayS c = true := by
  rw [mayS_of h, decide_eq_true_iff]
  rw [← h, webT_len] at hc
  omega
set_option maxRecDepth 100000 in
set_option maxHeartbeats 4000000 in
theorem isDigest_c (c : T) (w : World) :
    Calls Tryz.prog 171 #[txt c] w fun e w' => e = .returned (.bool (mayS c)) ∧ Below w.heap.size w w' := by
  have hsz : (⟨c.toArray⟩ : ByteArray).size = c.length := List.size_toArray
  by_cases h43 : c.length = 43
  · have HU := Lib.hid (unweb_c ⟨c.toArray⟩ w (by rw [hsz, h43]; decide))
    rw [show (⟨c.toArray⟩ : ByteArray).data.toList = c from rfl] at HU
    have i1 : ((c.length : Int) != 43) = false := by rw [bne_eq_false_iff_eq]; omega
    have H43 := Lib.hid h43
    unfold txt
    clear h43 hsz
    go_enter Tryz.func171, Tryz.ntmps171
    go_wp2_with fail
    refine HU.out.mono ?_
    rintro e w1 (⟨out, v, ho, rfl, hown, hb1⟩ | ⟨hno, rfl, hb1⟩)
    · have HT := Lib.hid (mays_web ho H43.out)
      have HB := Lib.hid hb1
      clear hown hb1 ho HU
      go_wp2_with fail
      go_ret
      exact ⟨ret_bool HT.out.symm, HB.out⟩
    · have HT := Lib.hid (mayS_none hno)
      have HB := Lib.hid hb1
      clear hb1 hno HU
      go_wp2_with fail
      go_ret
      exact ⟨ret_bool HT.out.symm, HB.out⟩
  · have HT := Lib.hid (mays_len h43)
    have i1 : ((c.length : Int) != 43) = true := by rw [bne_iff_ne]; omega
    unfold txt
    clear h43 hsz
    go_enter Tryz.func171, Tryz.ntmps171
    go_wp2_with fail
    go_ret
    exact ⟨ret_bool HT.out.symm, Below.refl _ _⟩
end Go.Proofs.YthagdkipipldlaaGreatDoor.pkc

namespace Go.Proofs.YthagdkipipldlaaGreatDoor.shc
open Go.Shelf
def lays316_ren : Go.Shelf.Ren := ⟨fun | 316 => 74 | n => n, fun | 0 => 0 | 3 => 3 | 4 => 4 | 5 => 5 | 9 => 9 | 37 => 125 | 127 => 126 | n => n, fun  | n => n⟩
theorem lays316 : Go.Proofs.Lays.n316 Tryz.prog lays316_ren := {
  mixed := by kernel_rfl
  f316 := Tryz.func74.trans (congrArg some (by kernel_rfl))
  t0 := Tryz.underlying0
  a0 := Tryz.isAgg0
  z0 := Tryz.sizeOf0
  v0 := Tryz.zeroValue0
  t3 := Tryz.underlying3
  a3 := Tryz.isAgg3
  z3 := Tryz.sizeOf3
  v3 := Tryz.zeroValue3
  t4 := Tryz.underlying4
  a4 := Tryz.isAgg4
  z4 := Tryz.sizeOf4
  v4 := Tryz.zeroValue4
  t9 := Tryz.underlying9
  a9 := Tryz.isAgg9
  z9 := Tryz.sizeOf9
  v9 := Tryz.zeroValue9
  t37 := Tryz.underlying125
  a37 := Tryz.isAgg125
  z37 := Tryz.sizeOf125
  v37 := Tryz.zeroValue125
  t127 := Tryz.underlying126
  a127 := Tryz.isAgg126
  z127 := Tryz.sizeOf126
  v127 := Tryz.zeroValue126 }
theorem laysM316 : Go.Proofs.LaysM.n316 Tryz.prog lays316_ren := { lays316 with
  t5 := Tryz.underlying5
  a5 := Tryz.isAgg5
  z5 := Tryz.sizeOf5
  v5 := Tryz.zeroValue5
  i0 := by kernel_rfl
  i3 := by kernel_rfl
  i4 := by kernel_rfl
  i5 := by kernel_rfl
  i9 := by kernel_rfl
  i37 := by kernel_rfl
  i127 := by kernel_rfl }
open Go.RowKit in
theorem sclone (s : ByteArray) (w : World) (hlim : s.size ≤ 281474976710656) :
    Calls Tryz.prog 74 #[.string s] w fun e w' => e = .returned (.string s) ∧ Below w.heap.size w w' := Any.stringslite_Clone laysM316 s w hlim
end Go.Proofs.YthagdkipipldlaaGreatDoor.shc

namespace Go.Proofs.YthagdkipipldlaaGreatDoor.pkc
open Go.RowKit
open Go.Proofs.YthagdkipipldlaaGreatDoor.oct Go.Proofs.YthagdkipipldlaaGreatDoor.ref Go.Proofs.YthagdkipipldlaaGreatDoor.rows Go.Proofs.YthagdkipipldlaaGreatDoor.sha

set_option maxRecDepth 100000 in
theorem pclone_c (s : ByteArray) (w : World) (hs : s.size ≤ 281474976710656) : Calls Tryz.prog 43 #[.string s] w fun e w' => e = .returned (.string s) ∧ Below w.heap.size w w' := by
  have HI := Lib.hid (shc.sclone s w hs)
  go_enter Tryz.func43, Tryz.ntmps43
  go_wp2_with (go_at_call 74; refine HI.out.mono ?_; rintro e w' ⟨rfl, hb⟩)
  go_ret
  exact ⟨rfl, hb⟩
/-- what ways answers: a row of two ways -/
def waysO : Obj := .cells #[.string ⟨#[112, 108, 97, 105, 110]⟩, .func (.func 170) #[] #[], .func (.func 43) #[] #[], .string ⟨#[83, 50, 53, 54]⟩, .func (.func 171) #[] #[], .func (.func 172) #[] #[]] 156
set_option maxRecDepth 100000 in
set_option maxHeartbeats 4000000 in
theorem ways_c (w : World) :
    Calls Tryz.prog 151 #[] w fun e w' => e = .returned (.slice (some ⟨w.heap.size, 0, none⟩) 2 2) ∧ w' = w.alloc waysO := by
  go_enter Tryz.func151, Tryz.ntmps151
  go_wp2_with fail
  go_ret
  exact ⟨rfl, rfl⟩
theorem results_rowone {P : Program} {fn : Func} {p q : Tmp} {ty : TypeId} (h : fn.results = #[.cell p ty, .tmp q]) (tmps : Array Value) (w : World) (g : Nat) (t : TypeId) (X : List Value) {d : TypeDesc} (y : Value)
    (hp : tmps.getD p undef = .pointer (some ⟨g, 0, none⟩)) (hq : tmps.getD q undef = y) (hB : Blk w g t X)
    (hu : P.underlying ty = some d) (hd : (match d with | .struct _ | .array _ _ => true | _ => false) = true) (hi : (P.info? ty).map (·.size) = some X.length) :
    (results fn tmps).run P w = .ok (.tuple #[.agg X.toArray, y]) w := by
  have hp' : tmps[p]?.getD undef = .pointer (some ⟨g, 0, none⟩) := by simpa using hp
  have hq' : tmps[q]?.getD undef = y := by simpa using hq
  have hl := run_loadVar_row (P := P) w g t ty X.toArray (0, 0) d hB hu hd (by simpa using hi)
  simp [results, h, hp', hq', asAddr, hl]
theorem infoWay : (Tryz.prog.info? 156).map (·.size) = some 3 := by kernel_rfl
def wayP : List Value := [.string ⟨#[112, 108, 97, 105, 110]⟩, .func (.func 170) #[] #[], .func (.func 43) #[] #[]]
def wayS : List Value := [.string ⟨#[83, 50, 53, 54]⟩, .func (.func 171) #[] #[], .func (.func 172) #[] #[]]
def wayN : List Value := [.string ⟨#[]⟩, .nilFunc, .nilFunc]
theorem way_world (w : World) (X : List Value) (o1 o2 : Obj) : Blk (((w.alloc (.cells X.toArray 156)).alloc o1).alloc o2) w.heap.size 156 X ∧ Below w.heap.size w (((w.alloc (.cells X.toArray 156)).alloc o1).alloc o2) :=
  ⟨blk_old (blk_old (blk_new w _ _ _ rfl) _) _, (((Below.refl _ _).alloc (Nat.le_refl _) _).alloc (by simp) _).alloc (by simp; omega) _⟩
theorem way_world2 (w : World) (X : List Value) (o1 o2 o3 : Obj) : Blk ((((w.alloc (.cells X.toArray 156)).alloc o1).alloc o2).alloc o3) w.heap.size 156 X ∧ Below w.heap.size w ((((w.alloc (.cells X.toArray 156)).alloc o1).alloc o2).alloc o3) :=
  ⟨blk_old (way_world w X o1 o2).1 _, (way_world w X o1 o2).2.alloc (by simp; omega) _⟩
set_option maxRecDepth 100000 in
set_option maxHeartbeats 4000000 in
theorem chosen_plain (w : World) :
    Calls Tryz.prog 128 #[txt plainM] w fun e w' => e = .returned (.tuple #[.agg wayP.toArray, .bool true]) ∧ Below w.heap.size w w' := by
  have HC := Lib.hid (fun w => ways_c w)
  have HW := Lib.hid (fun o1 o2 => way_world w wayP o1 o2)
  unfold waysO at HC
  unfold txt plainM
  go_enter Tryz.func128, Tryz.ntmps128
  go_wp2_with (go_at_call 151; refine (HC.out _).mono ?_; rintro e w' ⟨rfl, rfl⟩)
  refine wp_loop_rounds 4 ?_
  rw [rounds_succ]
  go_wp2
  refine bodyPost_ret (results_rowone Tryz.results128 _ _ w.heap.size 156 wayP (.bool true) rfl rfl (HW.out _ _).1 Tryz.underlying156 rfl infoWay) rfl ?_
  exact ⟨rfl, (HW.out _ _).2⟩
set_option maxRecDepth 100000 in
set_option maxHeartbeats 4000000 in
theorem chosen_hash (w : World) :
    Calls Tryz.prog 128 #[txt hashM] w fun e w' => e = .returned (.tuple #[.agg wayS.toArray, .bool true]) ∧ Below w.heap.size w w' := by
  have HC := Lib.hid (fun w => ways_c w)
  have HW := Lib.hid (fun o1 o2 o3 => way_world2 w wayS o1 o2 o3)
  unfold waysO at HC
  unfold txt hashM
  go_enter Tryz.func128, Tryz.ntmps128
  go_wp2_with (go_at_call 151; refine (HC.out _).mono ?_; rintro e w' ⟨rfl, rfl⟩)
  refine wp_loop_rounds 4 ?_
  rw [rounds_succ]
  go_wp2
  rw [rounds_succ]
  go_wp2
  refine bodyPost_ret (results_rowone Tryz.results128 _ _ w.heap.size 156 wayS (.bool true) rfl rfl (HW.out _ _ _).1 Tryz.underlying156 rfl infoWay) rfl ?_
  exact ⟨rfl, (HW.out _ _ _).2⟩
set_option maxRecDepth 100000 in
set_option maxHeartbeats 4000000 in
theorem chosen_none (m : T) (w : World) (h1 : m ≠ plainM) (h2 : m ≠ hashM) :
    Calls Tryz.prog 128 #[txt m] w fun e w' => e = .returned (.tuple #[.agg wayN.toArray, .bool false]) ∧ Below w.heap.size w w' := by
  have HC := Lib.hid (fun w => ways_c w)
  have HW := Lib.hid (fun o1 o2 o3 => way_world2 w wayN o1 o2 o3)
  unfold waysO at HC
  have hb : ([112, 108, 97, 105, 110] == m) = false := by simpa using fun h => h1 (show m = plainM from h.symm)
  have hb2 : ([83, 50, 53, 54] == m) = false := by simpa using fun h => h2 (show m = hashM from h.symm)
  clear h1 h2
  unfold txt
  go_enter Tryz.func128, Tryz.ntmps128
  go_wp2_with (go_at_call 151; refine (HC.out _).mono ?_; rintro e w' ⟨rfl, rfl⟩)
  refine wp_loop_rounds 4 ?_
  rw [rounds_succ]
  go_wp2
  rw [rounds_succ]
  go_wp2
  rw [rounds_succ]
  go_wp2
  refine bodyPost_ret (results_rowone Tryz.results128 _ _ w.heap.size 156 wayN (.bool false) rfl rfl (HW.out _ _ _).1 Tryz.underlying156 rfl infoWay) rfl ?_
  exact ⟨rfl, (HW.out _ _ _).2⟩
end Go.Proofs.YthagdkipipldlaaGreatDoor.pkc

namespace Go.Proofs.YthagdkipipldlaaGreatDoor.pkc
open Go.RowKit
open Go.Proofs.YthagdkipipldlaaGreatDoor.oct Go.Proofs.YthagdkipipldlaaGreatDoor.ref Go.Proofs.YthagdkipipldlaaGreatDoor.rows Go.Proofs.YthagdkipipldlaaGreatDoor.sha

theorem cloneT_c (l : T) (w : World) (hs : l.length ≤ 140737488355328) : Calls Tryz.prog 43 #[txt l] w fun e w' => e = .returned (txt l) ∧ Below w.heap.size w w' :=
  pclone_c ⟨l.toArray⟩ w (by rw [show (⟨l.toArray⟩ : ByteArray).size = l.length from List.size_toArray]; omega)
set_option maxRecDepth 100000 in
set_option maxHeartbeats 4000000 in
theorem may_c (c m : T) (w : World) :
    Calls Tryz.prog 99 #[txt c, txt m] w fun e w' => e = .returned (.bool (mayP c m)) ∧ Below w.heap.size w w' := by
  by_cases hp : m = plainM
  · subst hp
    rw [show mayP c plainM = verB c by unfold mayP; rw [if_pos rfl]]
    have HC := Lib.hid (chosen_plain w)
    have HV := Lib.hid (fun w => pverT_c c w)
    unfold wayP at HC
    unfold txt plainM at *
    go_enter Tryz.func99, Tryz.ntmps99
    go_wp2_with fail
    refine HC.out.mono ?_
    rintro e w1 ⟨rfl, hb1⟩
    have HB := Lib.hid hb1
    clear hb1
    go_wp2_with (go_at_call 170; refine (HV.out _).mono ?_; rintro e w' ⟨rfl, rfl⟩)
    go_ret
    exact ⟨rfl, HB.out.alloc HB.out.size _⟩
  · by_cases hm : m = hashM
    · subst hm
      rw [show mayP c hashM = mayS c by unfold mayP; rw [if_neg hp, decide_eq_true rfl]; rfl]
      have HC := Lib.hid (chosen_hash w)
      have HV := Lib.hid (fun w => isDigest_c c w)
      unfold wayS at HC
      unfold txt hashM at *
      clear hp
      go_enter Tryz.func99, Tryz.ntmps99
      go_wp2_with fail
      refine HC.out.mono ?_
      rintro e w1 ⟨rfl, hb1⟩
      have HB := Lib.hid hb1
      clear hb1
      go_wp2_with (go_at_call 171; refine (HV.out _).mono ?_; rintro e w' ⟨rfl, hb2⟩)
      go_ret
      exact ⟨rfl, bnext (HB.out.alloc HB.out.size _) hb2⟩
    · have HR : Hid (mayP c m = false) := by show _ = _; unfold mayP; rw [if_neg hp, decide_eq_false hm]; rfl
      have HC := Lib.hid (chosen_none m w hp hm)
      unfold wayN at HC
      unfold txt at *
      clear hp hm
      go_enter Tryz.func99, Tryz.ntmps99
      go_wp2_with fail
      refine HC.out.mono ?_
      rintro e w1 ⟨rfl, hb1⟩
      have HB := Lib.hid hb1
      clear hb1
      go_wp2_with fail
      go_ret
      exact ⟨ret_bool HR.out.symm, HB.out.alloc HB.out.size _⟩
set_option maxRecDepth 100000 in
set_option maxHeartbeats 4000000 in
theorem challenge_c (v m : T) (w : World) (ht : Tabs w) :
    Calls Tryz.prog 159 #[txt v, txt m] w fun e w' => e = .returned (.tuple #[txt (chalP v m).2, .int .i64 ((chalP v m).1 : Nat)]) ∧ Below w.heap.size w w' := by
  have HT := Lib.hid ht
  clear ht
  have HV := Lib.hid (fun w => pverT_c v w)
  by_cases hp : m = plainM
  · subst hp
    have HC := Lib.hid (chosen_plain w)
    unfold wayP at HC
    cases hv : verB v with
    | false =>
      rw [chal_bad (Or.inl rfl) hv]
      rw [hv] at HV
      unfold txt plainM at *
      clear hv
      go_enter Tryz.func159, Tryz.ntmps159
      go_wp2_with fail
      refine HC.out.mono ?_
      rintro e w1 ⟨rfl, hb1⟩
      have HB := Lib.hid hb1
      clear hb1
      go_wp2_with (go_at_call 170; refine (HV.out _).mono ?_; rintro e w' ⟨rfl, rfl⟩)
      go_ret2
      exact ⟨rfl, HB.out.alloc HB.out.size _⟩
    | true =>
      have HL := Lib.hid (fun w => cloneT_c v w (by have := (ver_len hv).2; omega))
      rw [chal_plain hv]
      rw [hv] at HV
      unfold txt plainM at *
      clear hv
      go_enter Tryz.func159, Tryz.ntmps159
      go_wp2_with fail
      refine HC.out.mono ?_
      rintro e w1 ⟨rfl, hb1⟩
      have HB := Lib.hid hb1
      clear hb1
      go_wp2_with (first | (go_at_call 170; refine (HV.out _).mono ?_; rintro e w' ⟨rfl, rfl⟩) | (go_at_call 43; refine (HL.out _).mono ?_; rintro e w' ⟨rfl, hb2⟩))
      go_ret2
      exact ⟨rfl, bnext (HB.out.alloc HB.out.size _) hb2⟩
  · by_cases hm : m = hashM
    · subst hm
      clear hp
      have HC := Lib.hid (chosen_hash w)
      unfold wayS at HC
      cases hv : verB v with
      | false =>
        rw [chal_bad (Or.inr rfl) hv]
        rw [hv] at HV
        unfold txt hashM at *
        clear hv
        go_enter Tryz.func159, Tryz.ntmps159
        go_wp2_with fail
        refine HC.out.mono ?_
        rintro e w1 ⟨rfl, hb1⟩
        have HB := Lib.hid hb1
        clear hb1
        go_wp2_with (go_at_call 170; refine (HV.out _).mono ?_; rintro e w' ⟨rfl, rfl⟩)
        go_ret2
        exact ⟨rfl, HB.out.alloc HB.out.size _⟩
      | true =>
        have HL : Hid (∀ w, Tabs w → Calls Tryz.prog 172 #[txt v] w fun e w' => e = .returned (txt (hashT v)) ∧ Below w.heap.size w w') := fun w ht => digest_c v w ht (by have := (ver_len hv).2; omega)
        rw [chal_hash hv]
        rw [hv] at HV
        obtain ⟨X, hX⟩ : ∃ X, hashT v = X := ⟨_, rfl⟩
        rw [hX] at HL ⊢
        unfold txt hashM at *
        clear hv hX
        go_enter Tryz.func159, Tryz.ntmps159
        go_wp2_with fail
        refine HC.out.mono ?_
        rintro e w1 ⟨rfl, hb1⟩
        have HB := Lib.hid hb1
        clear hb1
        go_wp2_with (first | (go_at_call 170; refine (HV.out _).mono ?_; rintro e w' ⟨rfl, rfl⟩) | (go_at_call 172; refine (HL.out _ (HT.out.below (HB.out.alloc HB.out.size _))).mono ?_; rintro e w' ⟨rfl, hb2⟩))
        go_ret2
        exact ⟨rfl, bnext (HB.out.alloc HB.out.size _) hb2⟩
    · have HC := Lib.hid (chosen_none m w hp hm)
      unfold wayN at HC
      rw [chal_none hp hm]
      unfold txt at *
      clear hp hm
      go_enter Tryz.func159, Tryz.ntmps159
      go_wp2_with fail
      refine HC.out.mono ?_
      rintro e w1 ⟨rfl, hb1⟩
      have HB := Lib.hid hb1
      clear hb1
      go_wp2_with fail
      go_ret2
      exact ⟨rfl, HB.out.alloc HB.out.size _⟩
set_option maxRecDepth 100000 in
set_option maxHeartbeats 4000000 in
theorem check_c (c m v : T) (w : World) (ht : Tabs w) :
    Calls Tryz.prog 137 #[txt c, txt m, txt v] w fun e w' => e = .returned (.bool (checkP c m v)) ∧ Below w.heap.size w w' := by
  have HC := Lib.hid (challenge_c v m w ht)
  have HP : Hid (checkP c m v = (decide ((chalP v m).1 = 0) && decide ((chalP v m).2 = c))) := rfl
  have hcl := chal_len v m
  obtain ⟨q, hq⟩ : ∃ q, (chalP v m).1 = q := ⟨_, rfl⟩
  obtain ⟨X, hX⟩ : ∃ X, (chalP v m).2 = X := ⟨_, rfl⟩
  obtain ⟨r, hr⟩ : ∃ r, checkP c m v = r := ⟨_, rfl⟩
  rw [hq, hX] at HC HP
  rw [hX] at hcl
  rw [hr] at HP ⊢
  have HR1 := Lib.hid (fun w => conv_row X w)
  have HR2 := Lib.hid (fun w => conv_row c w)
  have HS := Lib.hid (fun p q cp cq w hp hq => oct.same_c p q cp cq X c w hp hq (by omega))
  unfold txt at *
  clear hq hX hr ht
  by_cases h0 : q = 0
  · subst h0
    have HT : Hid (r = decide (X = c)) := by show _ = _; rw [HP.out]; rfl
    clear HP
    go_enter Tryz.func137, Tryz.ntmps137
    go_wp2_with fail
    refine HC.out.mono ?_
    rintro e w1 ⟨rfl, hb1⟩
    obtain ⟨W1, c1, hc1, h81, hk1, hbw1⟩ := HR1.out w1
    obtain ⟨W2, c2, hc2, h82, hk2, hbw2⟩ := HR2.out W1
    have HB := Lib.hid (bnext (bnext hb1 hbw1) hbw2)
    have HQ := Lib.hid (HS.out _ _ c1 c2 W2 (h81.below hbw2) h82)
    clear hb1 hbw1 hbw2 h81 h82 hk1 hk2
    go_wp2_with (go_at_call 160; refine HQ.out.mono ?_; rintro e w' ⟨rfl, rfl⟩)
    go_ret
    exact ⟨ret_bool HT.out.symm, HB.out⟩
  · have HT : Hid (r = false) := by show _ = _; rw [HP.out, decide_eq_false h0]; rfl
    have hb : ((q : Int) == 0) = false := by rw [beq_eq_false_iff_ne]; omega
    clear h0 HP
    go_enter Tryz.func137, Tryz.ntmps137
    go_wp2_with fail
    refine HC.out.mono ?_
    rintro e w1 ⟨rfl, hb1⟩
    have HB := Lib.hid hb1
    clear hb1
    go_wp2_with fail
    go_ret
    exact ⟨ret_bool HT.out.symm, HB.out⟩
theorem the_papi : PApi Tabs where
  tbelow := fun _ _ ht hb => ht.below hb
  isv := fun l w _ _ => (pverT_c l w).mono fun _ _ h => ⟨h.1, h.2 ▸ Below.refl _ _⟩
  may := fun c m w _ _ _ => may_c c m w
  chal := fun v m w ht _ _ => challenge_c v m w ht
  check := fun c m v w ht _ _ _ => check_c c m v w ht
end Go.Proofs.YthagdkipipldlaaGreatDoor.pkc
