/- Several texts in one: ShFld, Fdv1, Fdv2, Fdv3, Fdv4, Fdv5, Fdv6. Conditions: as each theorem says. -/
import Derived.Shelf.Strings.Builder1
import Derived.Shelf.Strings.Builder2
import Derived.Shelf.Strings.BuilderF
import Derived.Shelf.Strings.BuilderK
import Derived.Shelf.Small.Strs
import Derived.Shelf.Strings.Search1
import Derived.Shelf.Strconv.Clone
import Derived.Test.YtfeafhagnhbmiaaGreatDoorProg
import Derived.Test.YtfeafhagnhbmiaaGreatDoorGfld
import Derived.Lib.CutLaws
namespace Go.Proofs.YtfeafhagnhbmiaaGreatDoor.shf
open Go.Shelf
def lays165_ren : Go.Shelf.Ren := ⟨fun | 165 => 66 | 240 => 72 | 241 => 88 | 276 => 93 | 277 => 115 | n => n, fun | 0 => 0 | 3 => 3 | 4 => 4 | 5 => 5 | 9 => 9 | 20 => 20 | 37 => 56 | 70 => 80 | 72 => 82 | 164 => 128 | n => n, fun  | n => n⟩
theorem lays165 : Go.Proofs.Lays.n165 Tryz.prog lays165_ren := {
  mixed := by kernel_rfl
  f165 := Tryz.func66.trans (congrArg some (by kernel_rfl))
  f240 := Tryz.func72.trans (congrArg some (by kernel_rfl))
  f241 := Tryz.func88.trans (congrArg some (by kernel_rfl))
  f276 := Tryz.func93.trans (congrArg some (by kernel_rfl))
  f277 := Tryz.func115.trans (congrArg some (by kernel_rfl))
  t0 := Tryz.underlying0
  a0 := Tryz.isAgg0
  z0 := Tryz.sizeOf0
  v0 := Tryz.zeroValue0
  t3 := Tryz.underlying3
  a3 := Tryz.isAgg3
  z3 := Tryz.sizeOf3
  v3 := Tryz.zeroValue3
  t4 := Tryz.underlying4
  a4 := Tryz.isAgg4
  z4 := Tryz.sizeOf4
  v4 := Tryz.zeroValue4
  t9 := Tryz.underlying9
  a9 := Tryz.isAgg9
  z9 := Tryz.sizeOf9
  v9 := Tryz.zeroValue9
  t20 := Tryz.underlying20
  a20 := Tryz.isAgg20
  z20 := Tryz.sizeOf20
  v20 := Tryz.zeroValue20
  t37 := Tryz.underlying56
  a37 := Tryz.isAgg56
  z37 := Tryz.sizeOf56
  v37 := Tryz.zeroValue56
  t70 := Tryz.underlying80
  a70 := Tryz.isAgg80
  z70 := Tryz.sizeOf80
  v70 := Tryz.zeroValue80
  t72 := Tryz.underlying82
  a72 := Tryz.isAgg82
  z72 := Tryz.sizeOf82
  v72 := Tryz.zeroValue82
  t164 := Tryz.underlying128
  a164 := Tryz.isAgg128
  z164 := Tryz.sizeOf128
  v164 := Tryz.zeroValue128 }
theorem extra165 : Builder.Extra Tryz.prog lays165_ren := {
  sizeBuilder := by kernel_rfl
  liesBuilder := by kernel_rfl
  t5 := Tryz.underlying5
  a5 := Tryz.isAgg5
  z5 := Tryz.sizeOf5
  v5 := Tryz.zeroValue5
  infoByte := by kernel_rfl
  cellsByte := by kernel_rfl
  sizeByte := by kernel_rfl
  neB5 := by decide }
def lays167_ren : Go.Shelf.Ren := ⟨fun | 167 => 41 | 240 => 72 | 276 => 93 | n => n, fun | 0 => 0 | 4 => 4 | 5 => 5 | 9 => 9 | 20 => 20 | 37 => 56 | 70 => 80 | 72 => 82 | 75 => 85 | 80 => 88 | 164 => 128 | n => n, fun  | n => n⟩
theorem lays167 : Go.Proofs.Lays.n167 Tryz.prog lays167_ren := {
  mixed := by kernel_rfl
  f167 := Tryz.func41.trans (congrArg some (by kernel_rfl))
  f240 := Tryz.func72.trans (congrArg some (by kernel_rfl))
  f276 := Tryz.func93.trans (congrArg some (by kernel_rfl))
  t0 := Tryz.underlying0
  a0 := Tryz.isAgg0
  z0 := Tryz.sizeOf0
  v0 := Tryz.zeroValue0
  t4 := Tryz.underlying4
  a4 := Tryz.isAgg4
  z4 := Tryz.sizeOf4
  v4 := Tryz.zeroValue4
  t5 := Tryz.underlying5
  a5 := Tryz.isAgg5
  z5 := Tryz.sizeOf5
  v5 := Tryz.zeroValue5
  t9 := Tryz.underlying9
  a9 := Tryz.isAgg9
  z9 := Tryz.sizeOf9
  v9 := Tryz.zeroValue9
  t20 := Tryz.underlying20
  a20 := Tryz.isAgg20
  z20 := Tryz.sizeOf20
  v20 := Tryz.zeroValue20
  t37 := Tryz.underlying56
  a37 := Tryz.isAgg56
  z37 := Tryz.sizeOf56
  v37 := Tryz.zeroValue56
  t70 := Tryz.underlying80
  a70 := Tryz.isAgg80
  z70 := Tryz.sizeOf80
  v70 := Tryz.zeroValue80
  t72 := Tryz.underlying82
  a72 := Tryz.isAgg82
  z72 := Tryz.sizeOf82
  v72 := Tryz.zeroValue82
  t75 := Tryz.underlying85
  a75 := Tryz.isAgg85
  z75 := Tryz.sizeOf85
  v75 := Tryz.zeroValue85
  t164 := Tryz.underlying128
  a164 := Tryz.isAgg128
  z164 := Tryz.sizeOf128
  v164 := Tryz.zeroValue128 }
theorem extra167 : Builder.Extra Tryz.prog lays167_ren := {
  sizeBuilder := by kernel_rfl
  liesBuilder := by kernel_rfl
  t5 := Tryz.underlying5
  a5 := Tryz.isAgg5
  z5 := Tryz.sizeOf5
  v5 := Tryz.zeroValue5
  infoByte := by kernel_rfl
  cellsByte := by kernel_rfl
  sizeByte := by kernel_rfl
  neB5 := by decide }
def lays169_ren : Go.Shelf.Ren := ⟨fun | 169 => 42 | n => n, fun | 0 => 0 | 3 => 3 | 5 => 5 | 9 => 9 | 37 => 56 | 70 => 80 | 72 => 82 | 127 => 110 | n => n, fun  | n => n⟩
theorem lays169 : Go.Proofs.Lays.n169 Tryz.prog lays169_ren := {
  mixed := by kernel_rfl
  f169 := Tryz.func42.trans (congrArg some (by kernel_rfl))
  t0 := Tryz.underlying0
  a0 := Tryz.isAgg0
  z0 := Tryz.sizeOf0
  v0 := Tryz.zeroValue0
  t3 := Tryz.underlying3
  a3 := Tryz.isAgg3
  z3 := Tryz.sizeOf3
  v3 := Tryz.zeroValue3
  t9 := Tryz.underlying9
  a9 := Tryz.isAgg9
  z9 := Tryz.sizeOf9
  v9 := Tryz.zeroValue9
  t37 := Tryz.underlying56
  a37 := Tryz.isAgg56
  z37 := Tryz.sizeOf56
  v37 := Tryz.zeroValue56
  t70 := Tryz.underlying80
  a70 := Tryz.isAgg80
  z70 := Tryz.sizeOf80
  v70 := Tryz.zeroValue80
  t72 := Tryz.underlying82
  a72 := Tryz.isAgg82
  z72 := Tryz.sizeOf82
  v72 := Tryz.zeroValue82
  t127 := Tryz.underlying110
  a127 := Tryz.isAgg110
  z127 := Tryz.sizeOf110
  v127 := Tryz.zeroValue110 }
theorem extra169 : Builder.Extra Tryz.prog lays169_ren := {
  sizeBuilder := by kernel_rfl
  liesBuilder := by kernel_rfl
  t5 := Tryz.underlying5
  a5 := Tryz.isAgg5
  z5 := Tryz.sizeOf5
  v5 := Tryz.zeroValue5
  infoByte := by kernel_rfl
  cellsByte := by kernel_rfl
  sizeByte := by kernel_rfl
  neB5 := by decide }
def lays170_ren : Go.Shelf.Ren := ⟨fun | 170 => 70 | n => n, fun | 0 => 0 | 3 => 3 | 5 => 5 | 37 => 56 | 70 => 80 | 72 => 82 | n => n, fun  | n => n⟩
theorem lays170 : Go.Proofs.Lays.n170 Tryz.prog lays170_ren := {
  mixed := by kernel_rfl
  f170 := Tryz.func70.trans (congrArg some (by kernel_rfl))
  t0 := Tryz.underlying0
  a0 := Tryz.isAgg0
  z0 := Tryz.sizeOf0
  v0 := Tryz.zeroValue0
  t3 := Tryz.underlying3
  a3 := Tryz.isAgg3
  z3 := Tryz.sizeOf3
  v3 := Tryz.zeroValue3
  t37 := Tryz.underlying56
  a37 := Tryz.isAgg56
  z37 := Tryz.sizeOf56
  v37 := Tryz.zeroValue56
  t70 := Tryz.underlying80
  a70 := Tryz.isAgg80
  z70 := Tryz.sizeOf80
  v70 := Tryz.zeroValue80
  t72 := Tryz.underlying82
  a72 := Tryz.isAgg82
  z72 := Tryz.sizeOf82
  v72 := Tryz.zeroValue82 }
def lays137_ren : Go.Shelf.Ren := ⟨fun | 137 => 71 | 217 => 92 | 266 => 116 | n => n, fun | 3 => 3 | 5 => 5 | 9 => 9 | n => n, fun  | n => n⟩
theorem lays137 : Go.Proofs.Lays.n137 Tryz.prog lays137_ren := {
  mixed := by kernel_rfl
  f137 := Tryz.func71.trans (congrArg some (by kernel_rfl))
  f217 := Tryz.func92.trans (congrArg some (by kernel_rfl))
  f266 := Tryz.func116.trans (congrArg some (by kernel_rfl))
  t3 := Tryz.underlying3
  a3 := Tryz.isAgg3
  z3 := Tryz.sizeOf3
  v3 := Tryz.zeroValue3
  t5 := Tryz.underlying5
  a5 := Tryz.isAgg5
  z5 := Tryz.sizeOf5
  v5 := Tryz.zeroValue5
  t9 := Tryz.underlying9
  a9 := Tryz.isAgg9
  z9 := Tryz.sizeOf9
  v9 := Tryz.zeroValue9 }
def lays217_ren : Go.Shelf.Ren := ⟨fun | 217 => 92 | 266 => 116 | n => n, fun | 3 => 3 | 5 => 5 | 9 => 9 | n => n, fun  | n => n⟩
theorem lays217 : Go.Proofs.Lays.n217 Tryz.prog lays217_ren := {
  mixed := by kernel_rfl
  f217 := Tryz.func92.trans (congrArg some (by kernel_rfl))
  f266 := Tryz.func116.trans (congrArg some (by kernel_rfl))
  t3 := Tryz.underlying3
  a3 := Tryz.isAgg3
  z3 := Tryz.sizeOf3
  v3 := Tryz.zeroValue3
  t5 := Tryz.underlying5
  a5 := Tryz.isAgg5
  z5 := Tryz.sizeOf5
  v5 := Tryz.zeroValue5
  t9 := Tryz.underlying9
  a9 := Tryz.isAgg9
  z9 := Tryz.sizeOf9
  v9 := Tryz.zeroValue9 }
def lays316_ren : Go.Shelf.Ren := ⟨fun | 316 => 43 | n => n, fun | 0 => 0 | 3 => 3 | 4 => 4 | 5 => 5 | 9 => 9 | 37 => 56 | 127 => 110 | n => n, fun  | n => n⟩
theorem lays316 : Go.Proofs.Lays.n316 Tryz.prog lays316_ren := {
  mixed := by kernel_rfl
  f316 := Tryz.func43.trans (congrArg some (by kernel_rfl))
  t0 := Tryz.underlying0
  a0 := Tryz.isAgg0
  z0 := Tryz.sizeOf0
  v0 := Tryz.zeroValue0
  t3 := Tryz.underlying3
  a3 := Tryz.isAgg3
  z3 := Tryz.sizeOf3
  v3 := Tryz.zeroValue3
  t4 := Tryz.underlying4
  a4 := Tryz.isAgg4
  z4 := Tryz.sizeOf4
  v4 := Tryz.zeroValue4
  t9 := Tryz.underlying9
  a9 := Tryz.isAgg9
  z9 := Tryz.sizeOf9
  v9 := Tryz.zeroValue9
  t37 := Tryz.underlying56
  a37 := Tryz.isAgg56
  z37 := Tryz.sizeOf56
  v37 := Tryz.zeroValue56
  t127 := Tryz.underlying110
  a127 := Tryz.isAgg110
  z127 := Tryz.sizeOf110
  v127 := Tryz.zeroValue110 }
theorem laysM316 : Go.Proofs.LaysM.n316 Tryz.prog lays316_ren := { lays316 with
  t5 := Tryz.underlying5
  a5 := Tryz.isAgg5
  z5 := Tryz.sizeOf5
  v5 := Tryz.zeroValue5
  i0 := by kernel_rfl
  i3 := by kernel_rfl
  i4 := by kernel_rfl
  i5 := by kernel_rfl
  i9 := by kernel_rfl
  i37 := by kernel_rfl
  i127 := by kernel_rfl }
open Go.RowKit in
theorem bgrow (B b n : Nat) (w : World) (hB : B ≤ b) (hbk : w.heap[b]? = some (.cells #[.pointer none, .slice none 0 0] 82 (0, 0))) (hBw : B ≤ w.heap.size) (hn : n ≤ 281474976710656) :
    Calls Tryz.prog 66 #[.pointer (some ⟨b, 0, none⟩), .int .i64 n] w fun e w' => e = .returned (.tuple #[]) ∧ (Lib.BuilderAt 82 5 B b (.pointer (some ⟨b, 0, none⟩)) [] w' ∧ Below B w w') := Any.Builder_Grow_fresh lays165 extra165 B b n w hB hbk hBw hn
open Go.RowKit in
theorem bwrite (B b : Nat) (bs : List Value) (c : Int) (w : World) (h : Lib.IsBuilderF 82 5 B b bs w) (hlen : bs.length + 1 ≤ 140737488355328) (hBw : B ≤ w.heap.size) :
    Calls Tryz.prog 41 #[.pointer (some ⟨b, 0, none⟩), .int .u8 c] w fun e w' => e = .returned .nilIface ∧ (Lib.BuilderAtF 82 5 B b (.pointer (some ⟨b, 0, none⟩)) (bs ++ [.int .u8 c]) w' ∧ Below B w w' ∧ Lib.OthersKept 5 (some b) w w') := Any.Builder_WriteByte_k lays167 extra167 B b bs c w h hlen hBw
open Go.RowKit in
theorem bstring (B b : Nat) (l : List UInt8) (w : World) (h : Lib.IsBuilderF 82 5 B b (Lib.byteCells l) w) (hBw : B ≤ w.heap.size) :
    Calls Tryz.prog 42 #[.pointer (some ⟨b, 0, none⟩)] w fun e w' => e = .returned (.string ⟨l.toArray⟩) ∧ (Lib.IsBuilderF 82 5 B b (Lib.byteCells l) w' ∧ Below B w w' ∧ Lib.OthersKept 5 (some b) w w') := Any.Builder_String_any_k lays169 extra169 B b l w h hBw
open Go.RowKit in
theorem blen (B b : Nat) (bs : List Value) (w : World) (h : Lib.IsBuilderF 82 5 B b bs w) :
    Calls Tryz.prog 70 #[.pointer (some ⟨b, 0, none⟩)] w fun e w' => e = .returned (.int .i64 bs.length) ∧ w' = w := Any.Builder_Len_f lays170 B b bs w h
open Go.RowKit in
theorem indexByte (s : ByteArray) (c : Int) (w : World) :
    Calls Tryz.prog 71 #[.string s, .int .u8 c] w fun e w' => e = .returned (.int .i64 (Lib.indexByte s.data.toList c.toNat.toUInt8)) ∧ w' = w := Any.strings_IndexByte lays137 s c w
open Go.RowKit in
theorem sindexByte (s : ByteArray) (c : Int) (w : World) :
    Calls Tryz.prog 92 #[.string s, .int .u8 c] w fun e w' => e = .returned (.int .i64 (Lib.indexByte s.data.toList c.toNat.toUInt8)) ∧ w' = w := Any.stringslite_IndexByte lays217 s c w
open Go.RowKit in
theorem sclone (s : ByteArray) (w : World) (hlim : s.size ≤ 281474976710656) :
    Calls Tryz.prog 43 #[.string s] w fun e w' => e = .returned (.string s) ∧ Below w.heap.size w w' := Any.stringslite_Clone laysM316 s w hlim
end Go.Proofs.YtfeafhagnhbmiaaGreatDoor.shf

namespace Go.Proofs.YtfeafhagnhbmiaaGreatDoor.fdv
open Go.RowKit
open Go.Proofs.YtfeafhagnhbmiaaGreatDoor.oct Go.Proofs.YtfeafhagnhbmiaaGreatDoor.ref Go.Proofs.YtfeafhagnhbmiaaGreatDoor.fld
open Go.Lib (byteCells)

theorem ix_miss (c : UInt8) : ∀ l : List UInt8, c ∉ l → Lib.indexByte l c = -1
  | [], _ => rfl
  | b :: l, h => by
    have hb : ¬ b = c := fun e => h (by simp [e])
    have := ix_miss c l (fun e => h (by simp [e]))
    simp [Lib.indexByte, hb, this]
theorem ix_hit (c : UInt8) : ∀ l : List UInt8, c ∈ l → Lib.indexByte l c = ((l.takeWhile (· ≠ c)).length : Int)
  | [], h => by cases h
  | b :: l, h => by
    by_cases hb : b = c
    · simp [Lib.indexByte, hb]
    · have hl : c ∈ l := by
        rcases List.mem_cons.1 h with e | e
        · exact absurd e.symm hb
        · exact e
      have := ix_hit c l hl
      unfold Lib.indexByte
      rw [if_neg (by simpa using hb), this, if_neg (by simp)]
      simp [hb]
theorem tw_miss (c : UInt8) (l : List UInt8) (h : c ∉ l) : l.takeWhile (· ≠ c) = l ∧ l.dropWhile (· ≠ c) = [] := by
  have h2 : ∀ x ∈ l, (decide (x ≠ c)) = true := fun x hx => by simpa using fun e : x = c => h (e ▸ hx)
  constructor
  · have := List.takeWhile_append_of_pos (l₂ := []) h2
    simpa using this
  · have := List.dropWhile_append_of_pos (l₂ := []) h2
    simpa using this
theorem tw_hit (c : UInt8) : ∀ l : List UInt8, c ∈ l → (l.takeWhile (· ≠ c)).length < l.length ∧ l.takeWhile (· ≠ c) = l.take (l.takeWhile (· ≠ c)).length ∧ (l.dropWhile (· ≠ c)).drop 1 = l.drop ((l.takeWhile (· ≠ c)).length + 1)
  | [], h => by cases h
  | b :: l, h => by
    by_cases hb : b = c
    · simp [hb]
    · have hl : c ∈ l := by
        rcases List.mem_cons.1 h with e | e
        · exact absurd e.symm hb
        · exact e
      obtain ⟨h1, h2, h3⟩ := tw_hit c l hl
      have e1 : (b :: l).takeWhile (· ≠ c) = b :: l.takeWhile (· ≠ c) := by simp [hb]
      have e2 : (b :: l).dropWhile (· ≠ c) = l.dropWhile (· ≠ c) := by simp [hb]
      rw [e1, e2]
      refine ⟨by rw [List.length_cons, List.length_cons]; omega, ?_, ?_⟩
      · rw [List.length_cons, List.take_succ_cons, ← h2]
      · rw [h3]; simp
/-- what strings.Cut answers at a separator of one byte -/
def cut1 (c : UInt8) (l : List UInt8) : Value := .tuple #[.string ⟨(l.takeWhile (· ≠ c)).toArray⟩, .string ⟨((l.dropWhile (· ≠ c)).drop 1).toArray⟩, .bool (decide (c ∈ l))]
set_option maxRecDepth 100000 in
set_option maxHeartbeats 1000000 in
theorem sindex1 (s : ByteArray) (c : UInt8) (w : World) : Calls Tryz.prog 113 #[.string s, .string ⟨#[c]⟩] w fun e w' => e = .returned (.int .i64 (Lib.indexByte s.data.toList c)) ∧ w = w' := by
  have HI : Hid (∀ w, Calls Tryz.prog 92 #[.string s, .int .u8 (c.toNat : Int)] w fun e w' => e = .returned (.int .i64 (Lib.indexByte s.data.toList c)) ∧ w' = w) := fun w => by
    have := shf.sindexByte s (c.toNat : Int) w
    simpa using this
  have hsz : (⟨#[c]⟩ : ByteArray).size = 1 := rfl
  go_enter Tryz.func113, Tryz.ntmps113
  go_wp2_with (go_at_call 92; refine (HI.out _).mono ?_; rintro e w' ⟨rfl, rfl⟩)
  · have h : ([c] == s.toList) = true := by assumption
    go_ret
    refine ⟨ret_int ?_, rfl⟩
    have h0 := Lib.zero s ⟨#[c]⟩ (Or.inr (by simpa using h))
    have h1 := Lib.one s ⟨#[c]⟩ rfl
    rw [h0] at h1
    have h2 : (⟨#[c]⟩ : ByteArray)[0] = c := rfl
    rw [h2] at h1
    simpa using h1
  · go_ret
    exact ⟨rfl, rfl⟩
set_option maxRecDepth 100000 in
set_option maxHeartbeats 1000000 in
theorem scut1 (s : ByteArray) (c : UInt8) (w : World) (hs : s.size ≤ 140737488351232) : Calls Tryz.prog 86 #[.string s, .string ⟨#[c]⟩] w fun e w' => e = .returned (cut1 c s.data.toList) ∧ ∃ n, w' = w.drewN n := by
  have HI := Lib.hid (sindex1 s c w)
  have hsz : (⟨#[c]⟩ : ByteArray).size = 1 := rfl
  by_cases hm : c ∈ s.data.toList
  · have HX := Lib.hid (ix_hit c _ hm)
    obtain ⟨t1, t2, t3⟩ := tw_hit c _ hm
    have hl : s.data.toList.length = s.size := by rw [Array.length_toList]; rfl
    rw [hl] at t1
    obtain ⟨i, hi⟩ : ∃ i, (s.data.toList.takeWhile (· ≠ c)).length = i := ⟨_, rfl⟩
    rw [hi] at t1 t2 t3 HX
    have HE1 : Hid ((⟨(s.data.toList.takeWhile (· ≠ c)).toArray⟩ : ByteArray) = s.extract 0 i) := by
      show _ = _
      rw [t2, Lib.extract_eq]; simp
    have HE2 : Hid ((⟨((s.data.toList.dropWhile (· ≠ c)).drop 1).toArray⟩ : ByteArray) = s.extract (i + 1) s.size) := by
      show _ = _
      rw [t3, Lib.extract_eq]
      have ht : List.take (s.size - (i + 1)) (List.drop (i + 1) s.data.toList) = List.drop (i + 1) s.data.toList :=
        List.take_of_length_le (by rw [List.length_drop, hl]; exact Nat.le_refl _)
      rw [ht]
    have HM := Lib.hid hm
    have c1 : (0 : Int) ≤ ↑i := by omega
    have c2 : (↑i : Int) ≤ ↑s.size := by omega
    have c3 : (0 : Int) ≤ ↑i + 1 := by omega
    have c4 : (↑i + 1 : Int) ≤ ↑s.size := by omega
    have c5 : IntKind.i64.wrap ((i : Int) + 1) = (i : Int) + 1 := by rw [IntKind.wrap_i64]; omega
    clear hm t2 t3 hl hi
    go_enter Tryz.func86, Tryz.ntmps86
    go_wp2_with (go_at_call 113; refine HI.out.mono ?_; rintro e w' ⟨rfl, rfl⟩; rw [HX.out])
    go_quiet (fail)
    go_wp2_with fail
    go_ret3
    exact ⟨by unfold cut1; rw [HE1.out, HE2.out, decide_eq_true HM.out]; rfl, _, rfl⟩
  · have HX := Lib.hid (ix_miss c _ hm)
    have HV : Hid (cut1 c s.data.toList = .tuple #[.string s, .string ⟨#[]⟩, .bool false]) := by
      show _ = _
      unfold cut1
      rw [(tw_miss c _ hm).1, (tw_miss c _ hm).2, Lib.mk_data, decide_eq_false hm]; rfl
    clear hm
    go_enter Tryz.func86, Tryz.ntmps86
    go_wp2_with (go_at_call 113; refine HI.out.mono ?_; rintro e w' ⟨rfl, rfl⟩; rw [HX.out])
    go_ret3
    exact ⟨by rw [HV.out]; rfl, 0, rfl⟩
set_option maxHeartbeats 1000000 in
theorem cut_c (s : ByteArray) (c : UInt8) (w : World) (hs : s.size ≤ 140737488351232) : Calls Tryz.prog 64 #[.string s, .string ⟨#[c]⟩] w fun e w' => e = .returned (cut1 c s.data.toList) ∧ ∃ n, w' = w.drewN n := by
  obtain ⟨A, B, F, hV⟩ : ∃ A B F, cut1 c s.data.toList = .tuple #[.string A, .string B, .bool F] := ⟨_, _, _, rfl⟩
  have h := scut1 s c w hs
  rw [hV] at h ⊢
  have HI := Lib.hid h
  clear h hV
  go_enter Tryz.func64, Tryz.ntmps64
  go_wp2_with (go_at_call 86; refine HI.out.mono ?_; rintro e w' ⟨rfl, n, rfl⟩)
  go_ret3
  exact ⟨rfl, n, rfl⟩
set_option maxHeartbeats 1000000 in
theorem clone_c (s : ByteArray) (w : World) (hs : s.size ≤ 281474976710656) : Calls Tryz.prog 23 #[.string s] w fun e w' => e = .returned (.string s) ∧ Below w.heap.size w w' := by
  have HI := Lib.hid (shf.sclone s w hs)
  go_enter Tryz.func23, Tryz.ntmps23
  go_wp2_with (go_at_call 43; refine HI.out.mono ?_; rintro e w' ⟨rfl, hb⟩)
  go_ret
  exact ⟨rfl, hb⟩
end Go.Proofs.YtfeafhagnhbmiaaGreatDoor.fdv

namespace Go.Proofs.YtfeafhagnhbmiaaGreatDoor.fdv
open Go.RowKit
open Go.Proofs.YtfeafhagnhbmiaaGreatDoor.oct Go.Proofs.YtfeafhagnhbmiaaGreatDoor.ref Go.Proofs.YtfeafhagnhbmiaaGreatDoor.fld
open Go.Lib (byteCells)

def hexL : List UInt8 := [48, 49, 50, 51, 52, 53, 54, 55, 56, 57, 65, 66, 67, 68, 69, 70]
def wI (c : UInt8) : Int := if worth c < 16 then (worth c : Int) else -1
theorem hex_low (c : UInt8) : 97 ≤ c.toNat ∧ c.toNat ≤ 102 → Lib.indexByte hexL (((c.toNat : Int) - 32).toNat.toUInt8) = wI c := by
  revert c
  exact fun c => all_bytes (p := fun c => 97 ≤ c.toNat ∧ c.toNat ≤ 102 → Lib.indexByte hexL (((c.toNat : Int) - 32).toNat.toUInt8) = wI c) (by decide +kernel) c
theorem hex_else (c : UInt8) : ¬ (97 ≤ c.toNat ∧ c.toNat ≤ 102) → Lib.indexByte hexL c = wI c := by
  revert c
  exact fun c => all_bytes (p := fun c => ¬ (97 ≤ c.toNat ∧ c.toNat ≤ 102) → Lib.indexByte hexL c = wI c) (by decide +kernel) c
set_option maxHeartbeats 1000000 in
theorem dworth_c (c : UInt8) (w : World) : Calls Tryz.prog 114 #[.int .u8 (c.toNat : Int)] w fun e w' => e = .returned (.int .i64 (wI c)) ∧ w = w' := by
  have hc := c.toNat_lt
  by_cases h : 97 ≤ c.toNat ∧ c.toNat ≤ 102
  · have HI : Hid (∀ w, Calls Tryz.prog 71 #[.string ⟨hexL.toArray⟩, .int .u8 ((c.toNat : Int) - 32)] w fun e w' => e = .returned (.int .i64 (wI c)) ∧ w' = w) := fun w => by
      have := shf.indexByte ⟨hexL.toArray⟩ ((c.toNat : Int) - 32) w
      rw [show (⟨hexL.toArray⟩ : ByteArray).data.toList = hexL from rfl, hex_low c h] at this
      exact this
    obtain ⟨h1, h2⟩ := h
    obtain ⟨n, hn⟩ : ∃ n, c.toNat = n := ⟨_, rfl⟩
    rw [hn] at h1 h2 hc HI ⊢
    clear hn
    have i1 : (97 : Int) ≤ (n : Int) := by omega
    have i2 : (n : Int) ≤ 102 := by omega
    go_enter Tryz.func114, Tryz.ntmps114
    go_wp2_with (go_at_call 71; refine (HI.out _).mono ?_; rintro e w' ⟨rfl, rfl⟩)
    go_ret
    exact ⟨rfl, rfl⟩
  · have HI : Hid (∀ w, Calls Tryz.prog 71 #[.string ⟨hexL.toArray⟩, .int .u8 (c.toNat : Int)] w fun e w' => e = .returned (.int .i64 (wI c)) ∧ w' = w) := fun w => by
      have := shf.indexByte ⟨hexL.toArray⟩ (c.toNat : Int) w
      rw [show (⟨hexL.toArray⟩ : ByteArray).data.toList = hexL from rfl, show (c.toNat : Int).toNat.toUInt8 = c by simp, hex_else c h] at this
      exact this
    obtain ⟨n, hn⟩ : ∃ n, c.toNat = n := ⟨_, rfl⟩
    rw [hn] at h hc HI ⊢
    clear hn
    by_cases h1 : 97 ≤ n
    · have i1 : (97 : Int) ≤ (n : Int) := by omega
      have i2 : ¬ ((n : Int) ≤ 102) := by omega
      go_enter Tryz.func114, Tryz.ntmps114
      go_wp2_with (go_at_call 71; refine (HI.out _).mono ?_; rintro e w' ⟨rfl, rfl⟩)
      go_ret
      exact ⟨rfl, rfl⟩
    · have i1 : ¬ ((97 : Int) ≤ (n : Int)) := by omega
      go_enter Tryz.func114, Tryz.ntmps114
      go_wp2_with (go_at_call 71; refine (HI.out _).mono ?_; rintro e w' ⟨rfl, rfl⟩)
      go_ret
      exact ⟨rfl, rfl⟩

/-- what two signs by sixteen say -/
def fstP : List UInt8 → Option (UInt8 × Nat)
  | a :: b :: _ => if worth a < 16 ∧ worth b < 16 then some (UInt8.ofNat (16 * worth a + worth b), 3) else none
  | _ => none
/-- the byte that a text begins with, and how many signs say it -/
def fst : List UInt8 → Option (UInt8 × Nat)
  | [] => none
  | c :: r => if c.toNat < 33 ∨ 126 < c.toNat then none else if c = 43 then some (32, 1) else if c = 37 then fstP r else some (c, 1)
theorem fst_cons (c : UInt8) (r : List UInt8) : fst (c :: r) = if c.toNat < 33 ∨ 126 < c.toNat then none else if c = 43 then some (32, 1) else if c = 37 then fstP r else some (c, 1) := rfl
theorem fstP_two (a b : UInt8) (r : List UInt8) : fstP (a :: b :: r) = if worth a < 16 ∧ worth b < 16 then some (UInt8.ofNat (16 * worth a + worth b), 3) else none := rfl
theorem fstP_short (r : List UInt8) (h : r.length < 2) : fstP r = none := by
  match r, h with
  | [], _ => rfl
  | [_], _ => rfl
theorem unq_fst (c : UInt8) (r : List UInt8) : unq (c :: r) = match fst (c :: r) with | none => none | some x => (unq ((c :: r).drop x.2)).map (x.1 :: ·) := by
  by_cases h1 : c.toNat < 33 ∨ 126 < c.toNat
  · rw [unq_bad h1, fst_cons, if_pos h1]
  · by_cases h3 : c = 37
    · subst h3
      rw [fst_cons, if_neg h1, if_neg (by decide), if_pos rfl]
      match r with
      | [] => rw [unq_pct_end (by decide)]; rfl
      | [x] => rw [unq_pct_end (by simp)]; rfl
      | a :: b :: r' =>
        by_cases h4 : worth a < 16 ∧ worth b < 16
        · rw [unq_pct h4.1 h4.2, fstP_two, if_pos h4]; rfl
        · rw [unq_pct_bad h4, fstP_two, if_neg h4]
    · rw [unq_else h1 h3, fst_cons, if_neg h1]
      by_cases h2 : c = 43
      · rw [if_pos h2, if_pos h2]; rfl
      · rw [if_neg h2, if_neg h2, if_neg h3]; rfl
theorem fst_len (l : List UInt8) (x : UInt8 × Nat) (h : fst l = some x) : 1 ≤ x.2 ∧ x.2 ≤ l.length ∧ x.2 ≤ 3 := by
  match l, h with
  | c :: r, h =>
    rw [fst_cons] at h
    by_cases h1 : c.toNat < 33 ∨ 126 < c.toNat
    · rw [if_pos h1] at h; cases h
    · rw [if_neg h1] at h
      by_cases h2 : c = 43
      · rw [if_pos h2] at h; cases h; exact ⟨by simp, by simp, by simp⟩
      · rw [if_neg h2] at h
        by_cases h3 : c = 37
        · rw [if_pos h3] at h
          match r, h with
          | a :: b :: r', h =>
            rw [fstP_two] at h
            by_cases h4 : worth a < 16 ∧ worth b < 16
            · rw [if_pos h4] at h; cases h; exact ⟨by simp, by simp, by simp⟩
            · rw [if_neg h4] at h; cases h
        · rw [if_neg h3] at h; cases h; exact ⟨by simp, by simp, by simp⟩
theorem or_hex : ∀ x : Fin 16, ∀ y : Fin 16, bits BinOp.or IntKind.i64 ((x.val : Int) * 16) (y.val : Int) % 256 = ((UInt8.ofNat (16 * x.val + y.val)).toNat : Int) := by decide +kernel
def fstV : Option (UInt8 × Nat) → Value
  | none => .tuple #[.int .u8 0, .int .i64 0]
  | some x => .tuple #[.int .u8 (x.1.toNat : Int), .int .i64 (x.2 : Int)]
theorem dworth_q (c : UInt8) (m : Int) (hm : m = (c.toNat : Int)) (w : World) : Calls Tryz.prog 114 #[.int .u8 m] w fun e w' => e = .returned (.int .i64 (wI c)) ∧ w' = w := by
  subst hm; exact (dworth_c c w).mono fun e w' ⟨a, b⟩ => ⟨a, b.symm⟩
set_option maxRecDepth 100000 in
set_option maxHeartbeats 2000000 in
theorem first_c (s : ByteArray) (w : World) (hs : s.size ≤ 140737488351232) (h0 : 0 < s.size) : Calls Tryz.prog 87 #[.string s] w fun e w' => e = .returned (fstV (fst s.data.toList)) ∧ ∃ n, w' = w.drewN n := by
  have hsl : s.data.toList.length = s.size := by rw [Array.length_toList]; rfl
  obtain ⟨c, hc⟩ : ∃ c, s[0] = c := ⟨_, rfl⟩
  have hd := drop_text s 0 h0
  rw [hc] at hd
  simp only [List.drop_zero, Nat.zero_add] at hd
  have hcl := c.toNat_lt
  have hcc : (s[0].toNat : Int) = (c.toNat : Int) := by rw [hc]
  by_cases hbad : c.toNat < 33 ∨ 126 < c.toNat
  · have HR : Hid (fst s.data.toList = none) := by show _ = _; rw [hd, fst_cons, if_pos hbad]
    clear hd hsl hc
    by_cases h : c.toNat < 33
    · have i1 : (c.toNat : Int) < 33 := by omega
      go_enter Tryz.func87, Tryz.ntmps87
      go_wp2_with fail
      go_ret2
      exact ⟨by rw [HR.out]; rfl, 0, rfl⟩
    · have i1 : ¬ ((c.toNat : Int) < 33) := by omega
      have i2 : (c.toNat : Int) > 126 := by omega
      go_enter Tryz.func87, Tryz.ntmps87
      go_wp2_with fail
      go_ret2
      exact ⟨by rw [HR.out]; rfl, 0, rfl⟩
  · have i1 : ¬ ((c.toNat : Int) < 33) := by omega
    have i2 : ¬ ((c.toNat : Int) > 126) := by omega
    by_cases h43 : c = 43
    · have HR : Hid (fst s.data.toList = some (32, 1)) := by show _ = _; rw [hd, fst_cons, if_neg hbad, if_pos h43]
      have hb43 : ((c.toNat : Int) == 43) = true := by rw [h43]; rfl
      clear hd hsl hc hbad h43
      go_enter Tryz.func87, Tryz.ntmps87
      go_wp2_with fail
      go_ret2
      exact ⟨by rw [HR.out]; rfl, 0, rfl⟩
    · have hb43 : ((c.toNat : Int) == 43) = false := ne_byte h43
      by_cases h37 : c = 37
      · have hb37 : ((c.toNat : Int) != 37) = false := by rw [h37]; rfl
        by_cases hend : s.size < 3
        · have HR : Hid (fst s.data.toList = none) := by
            show _ = _
            rw [hd, fst_cons, if_neg hbad, if_neg h43, if_pos h37, fstP_short _ (by rw [List.length_drop, hsl]; omega)]
          have hE : (s.size : Int) < 3 := by omega
          clear hd hsl hc hbad h43 h37
          go_enter Tryz.func87, Tryz.ntmps87
          go_wp2_with fail
          go_ret2
          exact ⟨by rw [HR.out]; rfl, 0, rfl⟩
        · have hE : ¬ ((s.size : Int) < 3) := by omega
          have hk1 : 1 < s.size := Nat.lt_of_lt_of_le (by decide) (Nat.le_of_not_lt hend)
          have hk2 : 2 < s.size := Nat.lt_of_lt_of_le (by decide) (Nat.le_of_not_lt hend)
          have hd1 := drop_text s 1 hk1
          have hd2 := drop_text s 2 hk2
          obtain ⟨a, ha⟩ : ∃ a, s[1] = a := ⟨_, rfl⟩
          obtain ⟨b, hb⟩ : ∃ b, s[2] = b := ⟨_, rfl⟩
          rw [ha] at hd1
          rw [hb] at hd2
          have haa : (s[1].toNat : Int) = (a.toNat : Int) := by rw [ha]
          have hbb : (s[2].toNat : Int) = (b.toNat : Int) := by rw [hb]
          have HF : Hid (fst s.data.toList = if worth a < 16 ∧ worth b < 16 then some (UInt8.ofNat (16 * worth a + worth b), 3) else none) := by
            show _ = _
            rw [hd, hd1, hd2, fst_cons, if_neg hbad, if_neg h43, if_pos h37, fstP_two]
          have HWA := Lib.hid (fun w => dworth_q a (a.toNat : Int) rfl w)
          have HWB := Lib.hid (fun w => dworth_q b (b.toNat : Int) rfl w)
          have m6 : (1 : Int) < (s.size : Int) := by omega
          have m7 : (2 : Int) < (s.size : Int) := by omega
          clear hd hd1 hd2 hsl hc hbad h43 h37 ha hb
          unfold wI at HWA HWB
          by_cases hxa : worth a < 16
          · rw [if_pos hxa] at HWA
            by_cases hxb : worth b < 16
            · rw [if_pos hxb] at HWB
              rw [if_pos ⟨hxa, hxb⟩] at HF
              obtain ⟨x, hx⟩ : ∃ x, worth a = x := ⟨_, rfl⟩
              obtain ⟨y, hy⟩ : ∃ y, worth b = y := ⟨_, rfl⟩
              rw [hx] at HWA HF hxa
              rw [hy] at HWB HF hxb
              clear hx hy
              go_enter Tryz.func87, Tryz.ntmps87
              go_wp2_with fail
              go_quiet ((first | (go_at_call_of 114 (Value.int .u8 (a.toNat : Int)); exact Calls.quiet_of_same (HWA.out _)) | (go_at_call 114; exact Calls.quiet_of_same (HWB.out _))))
              go_wp2_with fail
              go_ret2
              exact ⟨by rw [HF.out]; exact congrArg (fun z => Ending.returned (.tuple #[.int .u8 z, .int .i64 3])) (or_hex ⟨x, hxa⟩ ⟨y, hxb⟩), _, rfl⟩
            · rw [if_neg hxb] at HWB
              rw [if_neg (fun h => hxb h.2)] at HF
              obtain ⟨x, hx⟩ : ∃ x, worth a = x := ⟨_, rfl⟩
              rw [hx] at HWA hxa
              clear hx
              go_enter Tryz.func87, Tryz.ntmps87
              go_wp2_with fail
              go_quiet ((first | (go_at_call_of 114 (Value.int .u8 (a.toNat : Int)); exact Calls.quiet_of_same (HWA.out _)) | (go_at_call 114; exact Calls.quiet_of_same (HWB.out _))))
              go_wp2_with fail
              go_ret2
              exact ⟨by rw [HF.out]; rfl, _, rfl⟩
          · rw [if_neg hxa] at HWA
            rw [if_neg (fun h => hxa h.1)] at HF
            obtain ⟨y, hy⟩ : ∃ y, (if worth b < 16 then (worth b : Int) else -1) = y := ⟨_, rfl⟩
            rw [hy] at HWB
            clear hy
            go_enter Tryz.func87, Tryz.ntmps87
            go_wp2_with fail
            go_quiet ((first | (go_at_call_of 114 (Value.int .u8 (a.toNat : Int)); exact Calls.quiet_of_same (HWA.out _)) | (go_at_call 114; exact Calls.quiet_of_same (HWB.out _))))
            go_wp2_with fail
            go_ret2
            exact ⟨by rw [HF.out]; rfl, _, rfl⟩
      · have HR : Hid (fst s.data.toList = some (c, 1)) := by show _ = _; rw [hd, fst_cons, if_neg hbad, if_neg h43, if_neg h37]
        have hb37 : ((c.toNat : Int) != 37) = true := by have := ne_byte h37; simp only [bne]; rw [show (37 : Int) = (((37 : UInt8).toNat : Nat) : Int) from rfl, this]; rfl
        clear hd hsl hc hbad h43 h37
        go_enter Tryz.func87, Tryz.ntmps87
        go_wp2_with fail
        go_ret2
        exact ⟨by rw [HR.out]; rfl, 0, rfl⟩
end Go.Proofs.YtfeafhagnhbmiaaGreatDoor.fdv

namespace Go.Proofs.YtfeafhagnhbmiaaGreatDoor.fdv
open Go.RowKit
open Go.Proofs.YtfeafhagnhbmiaaGreatDoor.oct Go.Proofs.YtfeafhagnhbmiaaGreatDoor.ref Go.Proofs.YtfeafhagnhbmiaaGreatDoor.fld
open Go.Lib (byteCells)

abbrev IsB (B b : Nat) (l : List UInt8) (w : World) : Prop := Lib.IsBuilderF 82 5 B b (byteCells l) w
/-- the frame of a builder's call: what lay below B, and every block that is neither the builder's nor a row of bytes -/
structure BK (B b : Nat) (w w' : World) : Prop where
  below : Below B w w'
  others : Lib.OthersKept 5 (some b) w w'
theorem BK.refl (B b : Nat) (w : World) : BK B b w w := ⟨Below.refl _ _, Lib.OthersKept.refl _ _ _⟩
theorem BK.trans {B b : Nat} {u v w : World} (h : BK B b u v) (k : BK B b v w) : BK B b u w := ⟨h.below.trans k.below, h.others.trans k.others⟩
theorem BK.size {B b : Nat} {u v : World} (h : BK B b u v) : u.heap.size ≤ v.heap.size := h.below.size
/-- a block of another type than bytes, not the builder's, stands -/
theorem BK.blk {B b k : Nat} {u v : World} {c : Array Value} {T : TypeId} {fz : Nat × Nat} (h : BK B b u v) (hk : u.heap[k]? = some (.cells c T fz)) (hb : k ≠ b) (hT : T ≠ 5) : v.heap[k]? = some (.cells c T fz) :=
  h.others k _ hk (fun e => hb (by injection e)) (fun c' fz' e => hT (by injection e))
theorem new_builder (w : World) : (w.alloc (.cells #[.pointer none, .slice none 0 0] 82)).heap[w.heap.size]? = some (.cells #[.pointer none, .slice none 0 0] 82 (0, 0)) := heap_alloc_new w _
theorem isB_new (w : World) : IsB w.heap.size w.heap.size [] (w.alloc (.cells #[.pointer none, .slice none 0 0] 82)) :=
  Lib.IsBuilderF.of (Or.inl ⟨Nat.le_refl _, _, new_builder w, World.ownsRow_nil _ _ _ _, by simp [Value.ownBlock]⟩)
theorem drop_bytes (r : ByteArray) (n : Nat) : (r.extract n r.size).data.toList = r.data.toList.drop n := by
  rw [Lib.extract_eq]
  have hl : r.data.toList.length = r.size := by rw [Array.length_toList]; rfl
  show (List.take (r.size - n) (List.drop n r.data.toList)).toArray.toList = _
  rw [List.toList_toArray]
  exact List.take_of_length_le (by rw [List.length_drop, hl]; exact Nat.le_refl _)
theorem isB_write (B b : Nat) (l : List UInt8) (c : UInt8) (w : World) (h : IsB B b l w) (hlen : l.length + 1 ≤ 140737488355328) (hBw : B ≤ w.heap.size) :
    Calls Tryz.prog 41 #[.pointer (some ⟨b, 0, none⟩), .int .u8 (c.toNat : Int)] w fun e w' => e = .returned .nilIface ∧ IsB B b (l ++ [c]) w' ∧ BK B b w w' :=
  (shf.bwrite B b _ (c.toNat : Int) w h (by rw [byteCells_len]; exact hlen) hBw).mono fun e w' ⟨h1, h2, h3, h4⟩ => ⟨h1, Or.inr (by rw [byteCells_snoc]; exact h2), h3, h4⟩
theorem unq_none {l : List UInt8} (h : l ≠ []) (h1 : fst l = none) : unq l = none := by
  match l, h with
  | c :: r, _ => rw [unq_fst, h1]
theorem unq_some {l : List UInt8} {c : UInt8} {n : Nat} (h1 : fst l = some (c, n)) : unq l = (unq (l.drop n)).map (c :: ·) := by
  match l with
  | [] => cases h1
  | _ :: _ => rw [unq_fst, h1]
set_option maxRecDepth 100000 in
set_option maxHeartbeats 2000000 in
theorem unquote_c (s : ByteArray) (w : World) (hs : s.size ≤ 140737488351232) :
    Calls Tryz.prog 65 #[.string s] w fun e w' => e = .returned (unqV (unq s.data.toList)) ∧ Below w.heap.size w w' := by
  have HSL : Hid (s.data.toList.length = s.size) := by show _ = _; rw [Array.length_toList]; rfl
  have HG := Lib.hid (shf.bgrow w.heap.size w.heap.size s.size _ (Nat.le_refl _) (new_builder w) (by simp) (by omega))
  go_enter Tryz.func65, Tryz.ntmps65
  go_wp2_with (go_at_call 66; refine HG.out.mono ?_; rintro e w1 ⟨rfl, hB1, hb1⟩)
  have hB1' : IsB w.heap.size w.heap.size [] w1 := Lib.IsBuilderF.of (Or.inr hB1)
  have hbw : Below w.heap.size w w1 := ((Below.refl _ w).alloc (Nat.le_refl _) _).trans hb1
  clear HG hB1 hb1
  go_loopg [0, 2, 3, 5, 6] s.size (fun g s0 s2 s3 s5 s6 wx => ∃ (r : ByteArray) (acc : List UInt8), r.size ≤ g ∧ s0 = .string r ∧ r.size + acc.length ≤ s.size ∧ Hid (unq s.data.toList = (unq r.data.toList).map (acc ++ ·)) ∧ IsB w.heap.size w.heap.size acc wx ∧ Below w.heap.size w wx)
  case atStart => exact ⟨s, [], Nat.le_refl _, rfl, by simp, by show _ = _; simp, hB1', hbw⟩
  case round =>
    obtain ⟨r, acc, hg, rfl, hsz, HU, hB, hb⟩ := hrel
    have hl : r.data.toList.length = r.size := by rw [Array.length_toList]; rfl
    by_cases h0 : r.size = 0
    · have HR : Hid (unq s.data.toList = some acc) := by
        show _ = _
        have : r.data.toList = [] := List.length_eq_zero_iff.1 (by rw [hl]; exact h0)
        rw [HU.out, this]; simp [unq]
      have hz : ¬ ((r.size : Int) > 0) := by omega
      have HS := Lib.hid (shf.bstring w.heap.size w.heap.size acc _ hB hb.size)
      have HB := Lib.hid hb
      clear HU hl h0 hB hb hsz hg
      go_wp2_with (go_at_call 42; refine HS.out.mono ?_; rintro e w2 ⟨rfl, _, hb2, _⟩)
      go_ret2
      exact ⟨by rw [HR.out]; rfl, HB.out.trans hb2⟩
    · have hz : (r.size : Int) > 0 := by omega
      have HF := Lib.hid (first_c r wr (by omega) (by omega))
      cases hf : fst r.data.toList with
      | none =>
        rw [hf] at HF
        have HR : Hid (unq s.data.toList = none) := by
          show _ = _
          rw [HU.out, unq_none (fun e => h0 (by rw [← hl, e]; rfl)) hf]; rfl
        have HB := Lib.hid hb
        clear HU hl h0 hB hb hsz hg hf
        unfold fstV at HF
        go_wp2_with (go_at_call 87; refine HF.out.mono ?_; rintro e w2 ⟨rfl, n, rfl⟩)
        go_ret2
        exact ⟨by rw [HR.out]; rfl, below_drewN HB.out _⟩
      | some x =>
        obtain ⟨c, n⟩ := x
        rw [hf] at HF
        obtain ⟨n1, n2, n3⟩ := fst_len _ _ hf
        rw [hl] at n2
        simp only at n1 n2 n3
        have HN : Hid (unq s.data.toList = (unq (r.extract n r.size).data.toList).map ((acc ++ [c]) ++ ·)) := by
          show _ = _
          rw [HU.out, unq_some hf, map_snoc, drop_bytes]
        have HZ : Hid ((r.extract n r.size).size = r.size - n) := by
          show _ = _
          have : (r.extract n r.size).data.toList.length = (r.extract n r.size).size := by rw [Array.length_toList]; rfl
          rw [← this, drop_bytes, List.length_drop, hl]
        have hnz : ((n : Int) == 0) = false := by rw [beq_eq_false_iff_ne]; omega
        have m1 : (0 : Int) ≤ (n : Int) := by omega
        have m2 : (n : Int) ≤ (r.size : Int) := by omega
        have hsz2 : acc.length + 1 ≤ 140737488355328 := by omega
        clear HU hl h0 hf
        unfold fstV at HF
        go_wp2_with (go_at_call 87; refine HF.out.mono ?_; rintro e w2 ⟨rfl, nd, rfl⟩)
        have hBd : IsB w.heap.size w.heap.size acc (wr.drewN nd) := hB
        refine (isB_write w.heap.size w.heap.size acc c (wr.drewN nd) hBd hsz2 hb.size).mono ?_
        rintro e w3 ⟨rfl, hB3, hb3⟩
        have hb4 : Below w.heap.size w w3 := (below_drewN hb nd).trans hb3.below
        clear hB hBd hb hb3
        go_wp2_with fail
        go_roundg (gk - 1)
        case measure => omega
        case rel => exact ⟨r.extract n r.size, acc ++ [c], by rw [HZ.out]; omega, rfl, by rw [HZ.out, List.length_append, List.length_singleton]; omega, HN, hB3, hb4⟩
end Go.Proofs.YtfeafhagnhbmiaaGreatDoor.fdv

namespace Go.Proofs.YtfeafhagnhbmiaaGreatDoor.fdv
open Go.RowKit
open Go.Proofs.YtfeafhagnhbmiaaGreatDoor.oct Go.Proofs.YtfeafhagnhbmiaaGreatDoor.ref Go.Proofs.YtfeafhagnhbmiaaGreatDoor.fld
open Go.Lib (byteCells)

def plainL : List UInt8 := [65, 66, 67, 68, 69, 70, 71, 72, 73, 74, 75, 76, 77, 78, 79, 80, 81, 82, 83, 84, 85, 86, 87, 88, 89, 90, 97, 98, 99, 100, 101, 102, 103, 104, 105, 106, 107, 108, 109, 110, 111, 112, 113, 114, 115, 116, 117, 118, 119, 120, 121, 122, 48, 49, 50, 51, 52, 53, 54, 55, 56, 57, 42, 45, 46, 95]
theorem plain_ix (c : UInt8) : if itself c = true then 0 ≤ Lib.indexByte plainL c else Lib.indexByte plainL c < 0 := by
  revert c
  exact fun c => all_bytes (p := fun c => if itself c = true then 0 ≤ Lib.indexByte plainL c else Lib.indexByte plainL c < 0) (by decide +kernel) c
theorem plainIx_c (c : UInt8) (w : World) : Calls Tryz.prog 71 #[.string ⟨plainL.toArray⟩, .int .u8 (c.toNat : Int)] w fun e w' => e = .returned (.int .i64 (Lib.indexByte plainL c)) ∧ w' = w := by
  have := shf.indexByte ⟨plainL.toArray⟩ (c.toNat : Int) w
  rw [show (⟨plainL.toArray⟩ : ByteArray).data.toList = plainL from rfl, show (c.toNat : Int).toNat.toUInt8 = c by simp] at this
  exact this
set_option maxHeartbeats 400000 in
/-- Quote's closure: it takes every sign -/
theorem putQ_c (B b : Nat) (acc : List UInt8) (c : UInt8) (w : World) (h : IsB B b acc w) (hlen : acc.length + 1 ≤ 140737488355328) (hBw : B ≤ w.heap.size) :
    Calls Tryz.prog 40 #[.int .u8 (c.toNat : Int), .pointer (some ⟨b, 0, none⟩)] w fun e w' => e = .returned (.bool true) ∧ IsB B b (acc ++ [c]) w' ∧ BK B b w w' := by
  have HI := Lib.hid (isB_write B b acc c w h hlen hBw)
  clear h
  go_enter Tryz.func40, Tryz.ntmps40
  go_wp2_with (go_at_call 41; refine HI.out.mono ?_; rintro e w' ⟨rfl, h1, h2⟩)
  go_ret
  exact ⟨rfl, h1, h2⟩
theorem putQ_q (B b : Nat) (acc : List UInt8) (c : UInt8) (m : Int) (hm : m = (c.toNat : Int)) (w : World) (h : IsB B b acc w) (hlen : acc.length + 1 ≤ 140737488355328) (hBw : B ≤ w.heap.size) :
    Calls Tryz.prog 40 #[.int .u8 m, .pointer (some ⟨b, 0, none⟩)] w fun e w' => e = .returned (.bool true) ∧ IsB B b (acc ++ [c]) w' ∧ BK B b w w' := by
  subst hm; exact putQ_c B b acc c w h hlen hBw
def hexB : ByteArray := ⟨#[48, 49, 50, 51, 52, 53, 54, 55, 56, 57, 65, 66, 67, 68, 69, 70]⟩
theorem hex_at : ∀ n : Fin 16, (hexB[n.val]'(by have := n.isLt; exact this)).toNat = (sg n.val).toNat := by decide
theorem quote_take_le (l : List UInt8) (k : Nat) : (quote (l.take k)).length ≤ (quote l).length := by
  have h := quote_append (l.take k) (l.drop k)
  rw [List.take_append_drop] at h
  rw [h, List.length_append]
  omega
set_option maxRecDepth 8000 in
set_option maxHeartbeats 4000000 in
theorem quoteQ_c (B b : Nat) (acc : List UInt8) (s : ByteArray) (w : World) (h : IsB B b acc w) (hBw : B ≤ w.heap.size) (hsz : s.size ≤ 140737488351232) (hs : acc.length + (quote s.data.toList).length ≤ 140737488355328) :
    Calls Tryz.prog 39 #[.string s, .func (.func 40) #[] #[.pointer (some ⟨b, 0, none⟩)]] w fun e w' => e = .returned (.bool true) ∧ IsB B b (acc ++ quote s.data.toList) w' ∧ BK B b w w' := by
  have HSL : Hid (s.data.toList.length = s.size) := by show _ = _; rw [Array.length_toList]; rfl
  go_enter Tryz.func39, Tryz.ntmps39
  go_wp2_with fail
  go_loopg [4, 5, 6, 7, 10] s.size (fun g s4 s5 s6 s7 s10 wx => ∃ k : Nat, k + g = s.size ∧ s10 = .int .i64 k ∧ IsB B b (acc ++ quote (s.data.toList.take k)) wx ∧ BK B b w wx)
  case atStart => exact ⟨0, by omega, rfl, by simpa [quote] using h, BK.refl _ _ _⟩
  case round =>
    obtain ⟨k, hkg, rfl, hB, hb⟩ := hrel
    cases gk with
    | zero =>
      have hkz : ¬ ((k : Int) < (s.size : Int)) := by omega
      have HK : Hid (s.data.toList.take k = s.data.toList) := List.take_of_length_le (by rw [HSL.out]; omega)
      rw [HK.out] at hB
      have HB := Lib.hid hB
      have HBX := Lib.hid hb
      clear hB hb
      go_wp2_with fail
      go_ret
      exact ⟨rfl, HB.out, HBX.out⟩
    | succ g =>
      have hkz : (k : Int) < (s.size : Int) := by omega
      have hks : k < s.size := by omega
      have HQ := Lib.hid (quote_snoc (s.data.toList.take k) s[k])
      have HT := Lib.hid (take_text s k hks)
      have hle := quote_take_le s.data.toList (k + 1)
      obtain ⟨c, hc⟩ : ∃ c, s[k] = c := ⟨_, rfl⟩
      rw [hc] at HQ HT
      obtain ⟨L, hL⟩ : ∃ L, acc ++ quote (s.data.toList.take k) = L := ⟨_, rfl⟩
      rw [hL] at hB
      have HL : Hid (acc ++ quote (s.data.toList.take (k + 1)) = L ++ qB c) := by show _ = _; rw [HT.out, HQ.out, ← hL, List.append_assoc]
      have hLn : L.length + (qB c).length ≤ acc.length + (quote s.data.toList).length := by
        have := congrArg List.length HL.out
        rw [List.length_append, List.length_append] at this
        omega
      have hcc : (s[k].toNat : Int) = (c.toNat : Int) := by rw [hc]
      have HIX := Lib.hid (fun w => plainIx_c c w)
      have hpx := plain_ix c
      obtain ⟨x, hx⟩ : ∃ x, Lib.indexByte plainL c = x := ⟨_, rfl⟩
      rw [hx] at HIX hpx
      clear hL hx HQ HT hle
      have hBr : B ≤ wr.heap.size := Nat.le_trans hBw hb.size
      by_cases h1 : itself c = true
      · rw [if_pos h1] at hpx
        have HQB : Hid (qB c = [c]) := by show _ = _; unfold qB; rw [if_pos h1]
        rw [HQB.out] at HL hLn
        rw [List.length_singleton] at hLn
        clear h1
        go_wp2_with (go_at_call 71; refine (HIX.out _).mono ?_; rintro e w' ⟨rfl, rfl⟩)
        refine (putQ_c B b L c _ hB (by omega) hBr).mono ?_
        rintro e w2 ⟨rfl, hB2, hb2⟩
        have hb3 := hb.trans hb2
        clear hB hb hb2
        go_wp2_with fail
        go_roundg g
        case measure => omega
        case rel => exact ⟨k + 1, by omega, by go_num, by rw [HL.out]; exact hB2, hb3⟩
      · rw [if_neg h1] at hpx
        by_cases h2 : c = 32
        · have HQB : Hid (qB c = [43]) := by show _ = _; unfold qB; rw [if_neg h1, if_pos h2]
          rw [HQB.out] at HL hLn
          rw [List.length_singleton] at hLn
          have hb32 : ((c.toNat : Int) == 32) = true := by rw [h2]; rfl
          clear h1 h2
          go_wp2_with (go_at_call 71; refine (HIX.out _).mono ?_; rintro e w' ⟨rfl, rfl⟩)
          refine (putQ_c B b L 43 _ hB (by omega) hBr).mono ?_
          rintro e w2 ⟨rfl, hB2, hb2⟩
          have hb3 := hb.trans hb2
          clear hB hb hb2
          go_wp2_with fail
          go_roundg g
          case measure => omega
          case rel => exact ⟨k + 1, by omega, by go_num, by rw [HL.out]; exact hB2, hb3⟩
        · have HQB : Hid (qB c = [37, sg (c.toNat / 16), sg (c.toNat % 16)]) := by show _ = _; unfold qB; rw [if_neg h1, if_neg h2]
          rw [HQB.out] at HL hLn
          simp only [List.length_cons, List.length_nil] at hLn
          have hb32 : ((c.toNat : Int) == 32) = false := ne_byte h2
          have hcl := c.toNat_lt
          clear h1 h2
          go_wp2_with (go_at_call 71; refine (HIX.out _).mono ?_; rintro e w' ⟨rfl, rfl⟩)
          refine (putQ_c B b L 37 _ hB (by omega) hBr).mono ?_
          rintro e w2 ⟨rfl, hB2, hb2⟩
          have hb3 := hb.trans hb2
          clear hB hb hb2
          go_wp2_with fail
          refine (putQ_q B b (L ++ [37]) (sg (c.toNat / 16)) _ (congrArg Nat.cast (hex_at ⟨c.toNat / 16, by omega⟩)) _ hB2 (by rw [List.length_append, List.length_singleton]; omega) (Nat.le_trans hBw hb3.size)).mono ?_
          rintro e w3 ⟨rfl, hB3, hb4⟩
          have hb5 := hb3.trans hb4
          clear hB2 hb3 hb4
          go_wp2_with fail
          refine (putQ_q B b (L ++ [37] ++ [sg (c.toNat / 16)]) (sg (c.toNat % 16)) _ (congrArg Nat.cast (hex_at ⟨c.toNat % 16, by omega⟩)) _ hB3 (by rw [List.length_append, List.length_append, List.length_singleton, List.length_singleton]; omega) (Nat.le_trans hBw hb5.size)).mono ?_
          rintro e w4 ⟨rfl, hB4, hb6⟩
          have hb7 := hb5.trans hb6
          clear hB3 hb5 hb6
          go_wp2_with fail
          go_roundg g
          case measure => omega
          case rel => exact ⟨k + 1, by omega, by go_num, by rw [HL.out]; simpa using hB4, hb7⟩
end Go.Proofs.YtfeafhagnhbmiaaGreatDoor.fdv

namespace Go.Proofs.YtfeafhagnhbmiaaGreatDoor.fdv
open Go.RowKit
open Go.Proofs.YtfeafhagnhbmiaaGreatDoor.oct Go.Proofs.YtfeafhagnhbmiaaGreatDoor.ref Go.Proofs.YtfeafhagnhbmiaaGreatDoor.fld
open Go.Lib (byteCells)

set_option maxHeartbeats 400000 in
theorem dquote_c (l : List UInt8) (w : World) (hs : l.length ≤ 1048576) : Calls Tryz.prog 22 #[.string ⟨l.toArray⟩] w fun e w' => e = .returned (.string ⟨(quote l).toArray⟩) ∧ Below w.heap.size w w' := by
  have hsz : (⟨l.toArray⟩ : ByteArray).size = l.length := by show l.toArray.size = _; simp
  have HQ := Lib.hid (quoteQ_c w.heap.size w.heap.size [] ⟨l.toArray⟩ _ (isB_new w) (by simp) (by rw [hsz]; omega) (by have := quote_len l; show 0 + (quote l.toArray.toList).length ≤ _; rw [List.toList_toArray]; omega))
  clear hsz
  go_enter Tryz.func22, Tryz.ntmps22
  go_wp2_with (go_at_call 39; refine HQ.out.mono ?_; rintro e w2 ⟨rfl, hB, hb⟩)
  rw [List.nil_append] at hB
  have HS := Lib.hid (shf.bstring w.heap.size w.heap.size (quote l) _ hB (Nat.le_trans (by simp) hb.size))
  have HB := Lib.hid (((Below.refl _ w).alloc (Nat.le_refl _) _).trans hb.below)
  clear hB hb
  refine HS.out.mono ?_
  rintro e w3 ⟨rfl, _, hb3, _⟩
  go_wp2_with fail
  go_ret
  exact ⟨rfl, HB.out.trans hb3⟩
end Go.Proofs.YtfeafhagnhbmiaaGreatDoor.fdv

namespace Go.Proofs.YtfeafhagnhbmiaaGreatDoor.fdv
open Go.RowKit
open Go.Proofs.YtfeafhagnhbmiaaGreatDoor.oct Go.Proofs.YtfeafhagnhbmiaaGreatDoor.ref Go.Proofs.YtfeafhagnhbmiaaGreatDoor.fld
open Go.Lib (byteCells)

theorem getV_len (ps : List Pr) (n : List UInt8) (m : Nat) (h : ∀ x ∈ ps, x.2.length ≤ m) : (getV ps n).length ≤ m := by
  unfold getV
  cases hf : ps.find? (fun x => x.1 == n) with
  | none => exact Nat.zero_le _
  | some x => exact h x (List.mem_of_find?_eq_some hf)
set_option maxHeartbeats 2000000 in
theorem dget_c (P : Option Addr) (C : Nat) (ps : List Pr) (n : List UInt8) (w : World) (hp : InPr w P ps) (hl : ps.length ≤ 140737488355328) (hv : ∀ x ∈ ps, x.2.length ≤ 140737488355328) :
    Calls Tryz.prog 33 #[.slice P ps.length C, tx n] w fun e w' => e = .returned (.tuple #[tx (getV ps n), .int .i64 (getN ps n : Nat)]) ∧ Below w.heap.size w w' := by
  have HV := Lib.hid (getV_len ps n _ hv)
  have HP := Lib.hid hp
  clear hv hp
  unfold tx
  go_enter Tryz.func33, Tryz.ntmps33
  go_wp2_with fail
  go_loopg [6, 7, 12] ps.length (fun g s6 s7 s12 wx => ∃ k : Nat, k + g = ps.length ∧ s12 = .int .i64 k ∧ s7 = .int .i64 (getN (ps.take k) n : Nat) ∧ s6 = .string ⟨(getV (ps.take k) n).toArray⟩ ∧ Below w.heap.size w wx)
  case atStart => exact ⟨0, by omega, rfl, rfl, rfl, Below.refl _ _⟩
  case round =>
    obtain ⟨k, hk, rfl, rfl, rfl, hb⟩ := hrel
    cases gk with
    | succ g =>
      have hlt : k < ps.length := by omega
      have hkI : (k : Int) < (ps.length : Int) := by omega
      obtain ⟨b, o, rfl, hc⟩ := (HP.out.below hb) (by omega)
      obtain ⟨c1, c2⟩ := hc k hlt
      unfold tx at c1 c2
      have hT : ps.take (k + 1) = ps.take k ++ [ps[k]] := List.take_succ_eq_append_getElem hlt
      have HN := Lib.hid (getN_snoc (ps.take k) ps[k] n)
      have HH := Lib.hid (getV_hit (ps.take k) ps[k] n)
      have HM := Lib.hid (getV_miss (ps.take k) ps[k] n)
      have HA := Lib.hid (getV_append (ps.take k) [ps[k]] n)
      have hle : getN (ps.take k) n ≤ ps.length := Nat.le_trans (getN_le _ _) (by rw [List.length_take]; omega)
      rw [← hT] at HN HH HM HA
      obtain ⟨x, hx⟩ : ∃ x, ps[k] = x := ⟨_, rfl⟩
      rw [hx] at c1 c2 HN HH HM
      obtain ⟨x1, x2⟩ := x
      dsimp only at c1 c2 HN HH HM
      have HT := Lib.hid hT
      clear hT hx hc
      obtain ⟨m, hm⟩ : ∃ m, getN (ps.take k) n = m := ⟨_, rfl⟩
      rw [hm] at HN HH HA hle ⊢
      clear hm
      have hb9 := hb.alloc hb.size (.cells #[.string ⟨x1.toArray⟩, .string ⟨x2.toArray⟩] 63)
      go_wp2_with fail
      · have he : (!x1 == n) = true := by assumption
        have hef : (x1 == n) = false := by simpa using he
        have H1 : Hid (getN (ps.take (k + 1)) n = m) := by show _ = _; rw [HN.out, hef]; rfl
        have H2 : Hid (getV (ps.take (k + 1)) n = getV (ps.take k) n) := HM.out hef
        go_roundg g
        case measure => omega
        case rel => exact ⟨k + 1, by omega, by go_num, by rw [H1.out], by rw [H2.out], hb9⟩
      · have he : (!x1 == n) = false := by assumption
        have hef : (x1 == n) = true := by simpa using he
        have hm0' : ((m : Int) == 0) = true := by assumption
        have hm0 : m = 0 := by have := (beq_iff_eq.1 hm0'); omega
        have H1 : Hid (getN (ps.take (k + 1)) n = m + 1) := by show _ = _; rw [HN.out, if_pos hef]
        have H2 : Hid (getV (ps.take (k + 1)) n = x2) := HH.out hm0 hef
        go_roundg g
        case measure => omega
        case rel => exact ⟨k + 1, by omega, by go_num, by rw [H1.out]; go_num, by rw [H2.out], hb9⟩
      · have he : (!x1 == n) = false := by assumption
        have hef : (x1 == n) = true := by simpa using he
        have hm0' : ((m : Int) == 0) = false := by assumption
        have hm0 : m ≠ 0 := by have := (beq_eq_false_iff_ne.1 hm0'); omega
        have H1 : Hid (getN (ps.take (k + 1)) n = m + 1) := by show _ = _; rw [HN.out, if_pos hef]
        have H2 : Hid (getV (ps.take (k + 1)) n = getV (ps.take k) n) := HA.out hm0
        go_roundg g
        case measure => omega
        case rel => exact ⟨k + 1, by omega, by go_num, by rw [H1.out]; go_num, by rw [H2.out], hb9⟩
    | zero =>
      obtain rfl : k = ps.length := by omega
      have e : ps.take ps.length = ps := List.take_length
      rw [e]
      clear e
      have HC := Lib.hid (clone_c ⟨(getV ps n).toArray⟩ wr (by have := HV.out; show (getV ps n).toArray.size ≤ _; rw [List.size_toArray]; omega))
      have HB := Lib.hid hb
      clear hb
      go_wp2_with (go_at_call 23; refine HC.out.mono ?_; rintro e w2 ⟨rfl, hb2⟩)
      go_ret2
      exact ⟨rfl, bnext HB.out hb2⟩
end Go.Proofs.YtfeafhagnhbmiaaGreatDoor.fdv
