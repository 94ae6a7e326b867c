/- The cells of a hash (Hash) as a row; what sha needs of its tables (Tabs); the contract of Hash.words. Condition: the two tables hold what the program's text lays. -/
import Derived.Test.YtohmhcglmaifpaaDoorDev2
import Derived.Deep.MidRow
namespace Go.Proofs.YtohmhcglmaifpaaDoor.sha
open Go.RowKit
open Go.Proofs.YtohmhcglmaifpaaDoor.oct Go.Proofs.YtohmhcglmaifpaaDoor.ref Go.Proofs.YtohmhcglmaifpaaDoor.rows
open Go.Lib (byteCells)

/-- an element of an array by value -/
theorem run_index_row {P : Program} (w : World) (t e : TypeId) (n : Nat) (d : TypeDesc) (cs : List Value) (i : Nat) (v : Value) (h : P.underlying t = some (.array n e)) (hd : P.underlying e = some d) (hda : (match d with | .struct _ | .array _ _ => true | _ => false) = false)
    (he : (P.info? e).map (·.size) = some 1) (hi : i < n) (hc : cs[i]? = some v) : (Instr.index t (.agg cs.toArray) (.int .i64 i)).run P w = .ok v w := by
  have hagg : (isAgg e).run P w = .ok false w := by
    unfold isAgg
    rw [Sem.run_bind, run_underlying hd w]
    cases d <;> simp_all
  cases hq : P.info? e with
  | none => simp [hq] at he
  | some j =>
    have hs : j.size = 1 := by simpa [hq] using he
    have hb : (0 : Int) ≤ (i : Int) ∧ (i : Int) < (n : Int) := by omega
    simp [Instr.index, run_underlying h, asIntOf, hb, sizeOf, typeInfo, hq, hs, Go.part, hagg, hc, hi, Sem.run_bind]
theorem wpList_index_row {P : Program} {ops : Array Oper} {rest : List Oper} {o : Oper} {a : Act} {w : World} {Q : Exit → Act → World → Prop} (hgd : o.guard = none) (t : TypeId) (x y : Operand) (ho : o.op = .index t x y)
    (e : TypeId) (n : Nat) (d : TypeDesc) (cs : List Value) (i : Nat) (v : Value) (hx : a.eval x = .agg cs.toArray) (hy : a.eval y = .int .i64 i)
    (h : P.underlying t = some (.array n e)) (hd : P.underlying e = some d) (hda : (match d with | .struct _ | .array _ _ => true | _ => false) = false) (he : (P.info? e).map (·.size) = some 1) (hi : i < n) (hc : cs[i]? = some v)
    (hk : wpList P ops Q rest (a.put o.dst v) w) : wpList P ops Q (o :: rest) a w :=
  wpList_plain hgd fun K hK => by
    unfold Oper.wp execOp
    simp only [ho, hx, hy, run_index_row w t e n d cs i v h hd hda he hi hc, Result.andThen_ok, Sem.run_bind, Sem.run_pure]
    exact hK _ _ hk

/-- what sha needs of the package's variables -/
structure Tabs (w : World) : Prop where
  k : ∀ i, i < 64 → w.cell? ⟨0, i, none⟩ = some (.int .u32 ((kt.getD i 0 : Nat) : Int))
  h : ∀ i, i < 8 → w.cell? ⟨1, i, none⟩ = some (.int .u32 ((st0.at i : Nat) : Int))
theorem Tabs.below {w w' : World} (h : Tabs w) (hb : Below w.heap.size w w') : Tabs w' :=
  ⟨fun i hi => (hb.cell (p := ⟨0, i, none⟩) (cell_lt (h.k i hi))).trans (h.k i hi), fun i hi => (hb.cell (p := ⟨1, i, none⟩) (cell_lt (h.h i hi))).trans (h.h i hi)⟩
theorem Tabs.lt {w : World} (h : Tabs w) : 0 < w.heap.size ∧ 1 < w.heap.size := ⟨cell_lt (h.k 0 (by decide)), cell_lt (h.h 0 (by decide))⟩
theorem Tabs.grown {w w' : World} {g : Nat} (h : Tabs w) (hg : w.grownBy w' (some g)) (h0 : g ≠ 0) (h1 : g ≠ 1) : Tabs w' := by
  have e0 := hg.block 0 h.lt.1 (fun e => h0 (by cases e; rfl))
  have e1 := hg.block 1 h.lt.2 (fun e => h1 (by cases e; rfl))
  refine ⟨fun i hi => ?_, fun i hi => ?_⟩
  · rw [← h.k i hi]; simp only [World.cell?, e0]
  · rw [← h.h i hi]; simp only [World.cell?, e1]

/-- the cells of a hash: eight words, a block, a number -/
def hrow (f : Nat → Nat) (b : Nat → UInt8) (n : Nat) : List Value := wcells (row 8 f) ++ (byteCells (brow 64 b) ++ [.int .i64 ((n : Nat) : Int)])
theorem hrow_len (f b n) : (hrow f b n).length = 73 := by simp [hrow, row_len, bcells_len]
theorem hrow_word (f b n) {i : Nat} (h : i < 8) : (hrow f b n)[i]? = some (.int .u32 ((f i : Nat) : Int)) := by
  unfold hrow
  rw [List.getElem?_append_left (by rw [row_len]; exact h), row_at f h]
theorem hrow_byte (f b n) {j : Nat} (h : j < 64) : (hrow f b n)[8 + j]? = some (.int .u8 ((b j).toNat : Int)) := by
  unfold hrow
  rw [List.getElem?_append_right (by rw [row_len]; omega), row_len, Nat.add_sub_cancel_left, List.getElem?_append_left (by rw [bcells_len]; exact h), brow_at b h]
theorem hrow_told (f b n) : (hrow f b n)[72]? = some (.int .i64 ((n : Nat) : Int)) := by
  unfold hrow
  rw [List.getElem?_append_right (by rw [row_len]; omega), row_len, List.getElem?_append_right (by rw [bcells_len]; omega), bcells_len]
  rfl
theorem hrow_one (f b n) : ∀ v ∈ hrow f b n, v.oneCell' = true := by
  intro v hv
  simp only [hrow, List.mem_append, List.mem_singleton] at hv
  rcases hv with h | h | rfl
  · exact row_one _ _ v h
  · exact bytes_one _ v h
  · rfl
theorem hrow_setw (f b n) {i : Nat} (h : i < 8) (v : Nat) : (hrow f b n).set i (.int .u32 ((v : Nat) : Int)) = hrow (upd f i v) b n := by
  unfold hrow
  rw [List.set_append_left _ _ (by rw [row_len]; exact h), row_set]
theorem hrow_sett (f b n) (m : Nat) : (hrow f b n).set 72 (.int .i64 ((m : Nat) : Int)) = hrow f b m := by
  unfold hrow
  rw [List.set_append_right _ _ (by rw [row_len]; omega), row_len, List.set_append_right _ _ (by rw [bcells_len]; omega), bcells_len]
  rfl
/-- m bytes laid into a block from r on -/
def lay (b : Nat → UInt8) (r : Nat) (m : List UInt8) : Nat → UInt8 := fun j => if r ≤ j ∧ j < r + m.length then m.getD (j - r) 0 else b j
theorem hrow_splice (f b n) (r : Nat) (m : List UInt8) (h : r + m.length ≤ 64) : splice (hrow f b n) (8 + r) (byteCells m) = hrow f (lay b r m) n := by
  have hm : (byteCells m).length = m.length := byteCells_len m
  apply List.ext_getElem?
  intro i
  unfold splice
  by_cases h1 : i < 8 + r
  · rw [List.getElem?_append_left (by rw [List.length_take, hrow_len]; omega), List.getElem?_take, if_pos h1]
    by_cases h8 : i < 8
    · rw [hrow_word _ _ _ h8, hrow_word _ _ _ h8]
    · obtain ⟨j, rfl⟩ : ∃ j, i = 8 + j := ⟨i - 8, by omega⟩
      rw [hrow_byte _ _ _ (by omega), hrow_byte _ _ _ (by omega)]
      unfold lay
      rw [if_neg (by omega)]
  · rw [List.getElem?_append_right (by rw [List.length_take, hrow_len]; omega), List.length_take, hrow_len, Nat.min_eq_left (by omega)]
    by_cases h2 : i < 8 + r + m.length
    · rw [List.getElem?_append_left (by rw [hm]; omega)]
      obtain ⟨j, rfl⟩ : ∃ j, i = 8 + j := ⟨i - 8, by omega⟩
      rw [hrow_byte _ _ _ (by omega)]
      unfold lay
      rw [if_pos (by omega)]
      have hj : 8 + j - (8 + r) = j - r := by omega
      have hj2 : j - r < m.length := by omega
      rw [hj]
      simp [byteCells, List.getD, List.getElem?_eq_getElem hj2]
    · rw [List.getElem?_append_right (by rw [hm]; omega), List.getElem?_drop, hm]
      have hi : 8 + r + m.length + (i - (8 + r) - m.length) = i := by omega
      rw [hi]
      by_cases h72 : i < 72
      · obtain ⟨j, rfl⟩ : ∃ j, i = 8 + j := ⟨i - 8, by omega⟩
        rw [hrow_byte _ _ _ (by omega), hrow_byte _ _ _ (by omega)]
        unfold lay
        rw [if_neg (by omega)]
      · by_cases he : i = 72
        · subst he; rw [hrow_told, hrow_told]
        · rw [List.getElem?_eq_none (by rw [hrow_len]; omega), List.getElem?_eq_none (by rw [hrow_len]; omega)]
theorem range_words {w : World} {g e : Nat} {f b n} (h : Blk w g e (hrow f b n)) : w.rangeAt g 0 (wcells (row 8 f)) := by
  intro j v hj
  have hl : j < 8 := by
    rcases Nat.lt_or_ge j 8 with h1 | h1
    · exact h1
    · rw [List.getElem?_eq_none (by rw [row_len]; exact h1)] at hj; cases hj
  rw [Nat.zero_add, h.cell j, hrow_word _ _ _ hl, ← hj, row_at f hl]
theorem range_bytes {w : World} {g e : Nat} {f b n} (h : Blk w g e (hrow f b n)) : w.rangeAt g 8 (byteCells (brow 64 b)) := by
  intro j v hj
  have hl : j < 64 := by
    rcases Nat.lt_or_ge j 64 with h1 | h1
    · exact h1
    · rw [List.getElem?_eq_none (by rw [bcells_len]; exact h1)] at hj; cases hj
  rw [h.cell (8 + j), hrow_byte _ _ _ hl, ← hj, brow_at b hl]
theorem range_h0 {w : World} (h : Tabs w) : w.rangeAt 1 0 (wcells (row 8 st0.at)) := by
  intro j v hj
  have hl : j < 8 := by
    rcases Nat.lt_or_ge j 8 with h1 | h1
    · exact h1
    · rw [List.getElem?_eq_none (by rw [row_len]; exact h1)] at hj; cases hj
  rw [Nat.zero_add, h.h j hl, ← hj, row_at _ hl]
theorem infoW : (Tryd.prog.info? 45).map (·.size) = some 1 := by kernel_rfl
/-- the words that a hash comes to -/
def wsum (f : Nat → Nat) (i : Nat) : Nat := (st0.at i + f i) % 4294967296

set_option maxHeartbeats 2000000 in
theorem hwords_c (g : Nat) (f : Nat → Nat) (b : Nat → UInt8) (n : Nat) (w : World) (ht : Tabs w) (hf : ∀ i, i < 8 → f i < 4294967296) (hB : Blk w g 52 (hrow f b n)) :
    Calls Tryd.prog 32 #[.pointer (some ⟨g, 0, none⟩)] w fun e w' => e = .returned (.agg (wcells (row 8 (wsum f))).toArray) ∧ Below w.heap.size w w' := by
  have HT := Lib.hid ht
  have HF := Lib.hid hf
  have HB := Lib.hid hB
  have hi8 : Hid ((Tryd.prog.info? 46).map (·.size) = some (wcells (row 8 st0.at)).length) := by show _ = _; rw [row_len]; exact info8
  have hi8f : Hid ((Tryd.prog.info? 46).map (·.size) = some (wcells (row 8 f)).length) := by show _ = _; rw [row_len]; exact info8
  have HLF : Hid ((wcells (row 8 f)).length = 8) := row_len 8 f
  have HF8 : Hid (∀ i, i < 8 → (wcells (row 8 f))[i]? = some (.int .u32 ((f i : Nat) : Int))) := fun i hi => row_at f hi
  obtain ⟨F, hFe⟩ : ∃ F, wcells (row 8 f) = F := ⟨_, rfl⟩
  have HFE := Lib.hid hFe
  rw [hFe] at hi8f HF8 HLF
  clear ht hf hB hFe
  have HL0 : Hid ((wcells (row 8 st0.at)).length = 8) := row_len 8 st0.at
  have HO0 : Hid (∀ v ∈ wcells (row 8 st0.at), v.oneCell' = true) := row_one _ _
  obtain ⟨S0, hS0⟩ : ∃ S0, wcells (row 8 st0.at) = S0 := ⟨_, rfl⟩
  have HS0 := Lib.hid hS0
  have HR0 : Hid (∀ w', Below w.heap.size w w' → w'.rangeAt 1 0 S0) := fun w' hb => hS0 ▸ range_h0 (HT.out.below hb)
  rw [hS0] at hi8 HL0 HO0
  clear hS0
  have hZ0 : Blk (w.alloc (.cells (wcells (row 8 fun _ => 0)).toArray 46)) w.heap.size 46 (wcells (row 8 fun _ => 0)) := blk_new w _ _ _ rfl
  have hb0 := (Below.refl w.heap.size w).alloc (Nat.le_refl _) (.cells (wcells (row 8 fun _ => 0)).toArray 46)
  have HZ0 := Lib.hid hZ0
  have HB0 := Lib.hid hb0
  clear hZ0 hb0
  go_enter Tryd.func32, Tryd.ntmps32
  go_wp2_with (first
    | (with_reducible refine wpList_load_mid rfl 46 (.global 1) rfl 1 0 rfl S0 _ (HR0.out _ ((Below.refl _ _).alloc (Nat.le_refl _) _)) Tryd.underlying46 rfl hi8.out ?_)
    | ((with_reducible refine wpList_store_new_at rfl 46 (.tmp 3) (.tmp 6) rfl (w.heap.size + 1) (by simp) S0 46 _ rfl rfl hi8.out (Eq.trans (by decide) HL0.out.symm) HO0.out ?_); intro w1 hS hSb; have hbw := bnext HB0.out hSb; have hBw := HB.out.below hbw; have hZw := HZ0.out.below hSb; have HRG := Lib.hid (HFE.out ▸ range_words hBw))
    | (with_reducible refine wpList_load_mid rfl 46 (.tmp 9) rfl g 0 rfl F _ HRG.out Tryd.underlying46 rfl hi8f.out ?_))
  rw [← HS0.out] at hS
  obtain ⟨g3, hg3⟩ : ∃ g3, g3 = w.heap.size + 1 := ⟨_, rfl⟩
  rw [← hg3] at hS ⊢
  have HG := Lib.hid hg3
  clear hg3 hSb hBw HRG
  go_loopg [11] 8 (fun k s11 wy => ∃ (i : Nat) (h : Nat → Nat), i + k = 8 ∧ s11 = .int .i64 i ∧ Hid ((∀ j, j < i → h j = wsum f j) ∧ (∀ j, i ≤ j → h j = st0.at j)) ∧ Blk wy g3 46 (wcells (row 8 h)) ∧ Blk wy w.heap.size 46 (wcells (row 8 fun _ => 0)) ∧ Below w.heap.size w wy)
  case atStart => exact ⟨0, st0.at, rfl, rfl, ⟨fun j h => by omega, fun j _ => rfl⟩, hS, hZw, hbw⟩
  case round =>
    clear hS hZw hbw
    obtain ⟨i, h, hik, rfl, HH, hS, hZ, hbx⟩ := hrel
    rcases gk with _ | k
    · obtain rfl : i = 8 := by omega
      have he : row 8 h = row 8 (wsum f) := row_eq HH.out.1
      rw [he] at hS
      have hX := row_len 8 (wsum f)
      have h1 := row_one 8 (wsum f)
      have hXi : Hid ((Tryd.prog.info? 46).map (·.size) = some (wcells (row 8 (wsum f))).length) := by show _ = _; rw [hX]; exact info8
      have hO : (wcells (row 8 fun _ => 0)).length = (wcells (row 8 (wsum f))).length := by rw [row_len, row_len]
      have HS := Lib.hid hS
      have HZ := Lib.hid hZ
      obtain ⟨X, hXe⟩ : ∃ X, wcells (row 8 (wsum f)) = X := ⟨_, rfl⟩
      rw [hXe] at HS h1 hXi hO
      have HXE := Lib.hid hXe
      generalize wcells (row 8 fun _ => 0) = O at HZ hO
      clear hXe hS hZ he HH hX
      go_wp2_with (first
        | (with_reducible refine wpList_load_blk rfl 46 (.tmp 3) rfl g3 X 46 HS.out rfl _ Tryd.underlying46 rfl hXi.out ?_)
        | (with_reducible refine wpList_store_blk rfl 46 (.tmp 2) (.tmp 22) rfl w.heap.size X O 46 HZ.out rfl rfl hXi.out hO h1 ?_; intro w2 hR hW))
      refine bodyPost_ret (v := .agg X.toArray) (results_blk Tryd.results32 _ _ w.heap.size 46 X _ rfl hR Tryd.underlying46 rfl hXi.out) rfl ⟨by rw [HXE.out], hW.below _ _ hbx (Nat.le_refl _)⟩
    · have hi8' : i < 8 := by omega
      have hiI : (i : Int) < 8 := by omega
      have c1 := (hS.cell i).trans (row_at h hi8')
      have f1 := hS.frozen i
      rw [HH.out.2 i (Nat.le_refl _)] at c1
      have k1 := st_at st0_ok i hi8'
      have k2 := HF.out i hi8'
      have HFI := Lib.hid (HF8.out i hi8')
      have hne : g3 ≠ w.heap.size ∧ w.heap.size ≤ g3 := by have := HG.out; omega
      have HS1 : Hid (∀ j, j < i + 1 → upd h i (wsum f i) j = wsum f j) := by
        intro j hj
        by_cases he : j = i
        · rw [he, upd_at]
        · rw [upd_ne he]; exact HH.out.1 j (by omega)
      have HS2 : Hid (∀ j, i + 1 ≤ j → upd h i (wsum f i) j = st0.at j) := fun j hj => by rw [upd_ne (by omega)]; exact HH.out.2 j (by omega)
      have HWS : Hid (wsum f i = (st0.at i + f i) % 4294967296) := rfl
      obtain ⟨a, ha⟩ : ∃ a, st0.at i = a := ⟨_, rfl⟩
      obtain ⟨c, hc⟩ : ∃ c, f i = c := ⟨_, rfl⟩
      rw [ha] at c1 k1 HWS
      rw [hc] at k2 HFI HWS
      obtain ⟨A, q, hA⟩ := add32 k1 k2
      have HWA : Hid (wsum f i = A) := by show _ = _; rw [HWS.out, hA.2]
      rw [HWA.out] at HS1 HS2
      clear ha hc hA HWS
      have HSET : Hid (Blk (wr.setCell ⟨g3, i, none⟩ (.int .u32 (A : Int))) g3 46 (wcells (row 8 (upd h i A)))) := by
        have h := Blk.set (w := wr) hS i (.int .u32 (A : Int))
        rw [row_set] at h
        exact h
      have HZ : Hid (Blk (wr.setCell ⟨g3, i, none⟩ (.int .u32 (A : Int))) w.heap.size 46 (wcells (row 8 fun _ => 0))) := Blk.set_other (w := wr) hZ hne.1 i _
      have HBX : Hid (Below w.heap.size w (wr.setCell ⟨g3, i, none⟩ (.int .u32 (A : Int)))) := hbx.setCell hne.2 _
      clear hS hZ hbx HH HWA hne
      go_wp2_with (with_reducible refine wpList_index_row rfl 46 (.tmp 10) (.tmp 11) rfl 45 8 _ F i _ rfl rfl Tryd.underlying46 Tryd.underlying45 rfl infoW hi8' HFI.out ?_)
      go_roundg k
      case measure => omega
      case rel => exact ⟨i + 1, _, by omega, by go_num, ⟨HS1.out, HS2.out⟩, HSET.out, HZ.out, HBX.out⟩
end Go.Proofs.YtohmhcglmaifpaaDoor.sha
