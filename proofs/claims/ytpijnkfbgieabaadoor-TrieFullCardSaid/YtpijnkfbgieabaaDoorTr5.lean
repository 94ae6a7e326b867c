/- The developers' pathOf, measured, the digest of parts. No condition but sha's package variables (Tabs). -/
import Derived.Test.YtpijnkfbgieabaaDoorTr4
import Derived.Test.YtpijnkfbgieabaaDoorDevA0
import Derived.Test.YtpijnkfbgieabaaDoorBaseA
import Derived.Lib.AppendStr
import Derived.Lib.AtoiErrMem
namespace Go.Proofs.YtpijnkfbgieabaaDoor.tri
open Go.RowKit
open Go.Proofs.YtpijnkfbgieabaaDoor.oct Go.Proofs.YtpijnkfbgieabaaDoor.ref Go.Proofs.YtpijnkfbgieabaaDoor.rows Go.Proofs.YtpijnkfbgieabaaDoor.rowg Go.Proofs.YtpijnkfbgieabaaDoor.trn
open Go.Proofs.YtpijnkfbgieabaaDoor.sha (digest digest_len dval Tabs sum_top Rm hnew_c hwrite_c hsum_c Holds Part InP joined)
open Go.Lib (byteCells)

abbrev txt (s : T) : Value := .string ⟨s.toArray⟩
/-- a text as a new row of bytes -/
theorem conv_row (l : T) (w : World) : ∃ W cp, (convert 9 66 (.string ⟨l.toArray⟩)).run Tryd.prog w = .ok (.slice (some ⟨w.heap.size, 0, none⟩) l.length cp) W ∧ In8 W (some ⟨w.heap.size, 0, none⟩) l ∧ l.length ≤ cp ∧ Below w.heap.size w W := by
  have h := Lib.run_convert_string_bytes (P := Tryd.prog) w 9 66 5 ⟨l.toArray⟩ Tryd.underlying9 Tryd.underlying66 Tryd.underlying5
  have hs : (⟨l.toArray⟩ : ByteArray).size = l.length := List.size_toArray
  refine ⟨_, _, by rw [h, hs], fun _ => ⟨w.heap.size, 0, rfl, fun i hi => ?_⟩, grownCap_ge _ _ _ _, Lib.bytesWorld_below w _ _⟩
  rw [Nat.zero_add]
  have hc := Lib.bytesWorld_cell w 5 ⟨l.toArray⟩ i (by rw [hs]; exact hi)
  rw [hc]
theorem zeroW (w : World) : (zeroValue 103).run Tryd.prog w = .ok (.agg (byteCells zeros).toArray) w := by kernel_rfl
set_option maxRecDepth 100000 in
set_option maxHeartbeats 4000000 in
theorem pathOf_c (s : T) (w : World) (ht : Tabs w) (hs : s.length ≤ 140737488351232) :
    Calls Tryd.prog 50 #[txt s] w fun e w' => e = .returned (dval (digest s)) ∧ Below w.heap.size w w' := by
  have hz := zeroW
  have hzl : (byteCells zeros).length = 32 := by rfl
  obtain ⟨Z, hZ⟩ : ∃ Z, byteCells zeros = Z := ⟨_, rfl⟩
  rw [hZ] at hz hzl
  have hb1 := (Below.refl w.heap.size w).alloc (Nat.le_refl _) (.cells Z.toArray 103)
  have hB1 := blk_new w Z.toArray 103 Z rfl
  obtain ⟨w1, hw1⟩ : ∃ w1, w.alloc (.cells Z.toArray 103) = w1 := ⟨_, rfl⟩
  have hs1 : w1.heap.size = w.heap.size + 1 := by rw [← hw1]; simp
  rw [hw1] at hb1 hB1
  obtain ⟨W, cp, hcv, h8, hcp, hbW⟩ := conv_row s w1
  have HS := Lib.hid (sum_top (some ⟨w1.heap.size, 0, none⟩) cp s W ((ht.below hb1).below hbW) h8 (by omega) ⟨(fun h => by cases h), hcp⟩)
  have hdl : (byteCells (digest s)).length = 32 := by rw [byteCells_len, digest_len]
  have ho := bytes_one (digest s)
  unfold dval at *
  obtain ⟨D, hD⟩ : ∃ D, byteCells (digest s) = D := ⟨_, rfl⟩
  rw [hD] at HS hdl ho ⊢
  have hi : Hid ((Tryd.prog.info? 103).map (·.size) = some D.length) := by show _ = _; rw [hdl]; exact infoPath
  have HO := Lib.hid ho
  have HZL : Hid (Z.length = D.length) := by show _ = _; rw [hzl, hdl]
  have HBW := Lib.hid (bnext hb1 hbW)
  have HBLK := Lib.hid (hB1.below hbW)
  unfold txt
  clear h8 hcp hbW ho hdl hzl hZ hD ht hb1 hB1 hs hs1
  go_enter Tryd.func50, Tryd.ntmps50
  go_wp2_with fail
  refine HS.out.mono ?_
  rintro e w2 ⟨rfl, hb2⟩
  have HB2 := Lib.hid (HBLK.out.below hb2)
  have HBB := Lib.hid (bnext HBW.out hb2)
  clear hb2
  go_wp2_with (with_reducible refine wpList_store_blk rfl 103 (.tmp 2) (.tmp 5) rfl w.heap.size D Z 103 HB2.out rfl rfl hi.out HZL.out HO.out ?_; intro w3 hR hW)
  exact bodyPost_ret (v := .agg D.toArray) (results_blk Tryd.results50 _ _ w.heap.size 103 D _ rfl hR Tryd.underlying103 rfl hi.out) rfl ⟨rfl, hW.below _ _ HBB.out (Nat.le_refl _)⟩
/-- a text appended to a row of the call's own -/
theorem wpList_append_text {w : World} {ops : Array Oper} {rest : List Oper} {o : Oper} {a : Act} {Q : Exit → Act → World → Prop} (hgd : o.guard = none) (s x : Operand)
    (ho : o.op = .call { callee := .builtin .append, args := #[s, x], argTypes := #[66, 9] }) (base : Nat)
    (v : Value) (n : Nat) (l : T) (hs : a.eval s = v) (hown : w.ownsRow base 5 1 v n (byteCells l)) (q : T) (hx : a.eval x = .string ⟨q.toArray⟩) (hb : n + q.length ≤ 140737488355328) (hbase : base ≤ w.heap.size)
    (h : ∀ v' w', w'.ownsRow base 5 1 v' (n + q.length) (byteCells (l ++ q)) → w.grownBy w' v.ownBlock → wpList Tryd.prog ops Q rest (a.put o.dst v') w') :
    wpList Tryd.prog ops Q (o :: rest) a w := by
  obtain ⟨j0, hj, hy0, hy1, hy2⟩ := info_parts infoByte
  have hsz : (⟨q.toArray⟩ : ByteArray).size = q.length := List.size_toArray
  refine Lib.wpList_append_own_string w hgd s x 66 9 ho base 5 j0 Tryd.underlying66 Tryd.underlying9 hj hy0 hy1 hy2 v n (byteCells l) hs hown ⟨q.toArray⟩ hx (by rw [hsz]; unfold maxLen; omega) (by rw [hsz]; exact hb) hbase ?_
  intro v' w' h1 h2 _
  rw [hsz, show Lib.strCells ⟨q.toArray⟩ = byteCells q from rfl, ← byteCells_append] at h1
  exact h v' w' h1 h2
theorem own_four (W : World) (a b c d : UInt8) (fr : Nat × Nat) (hfr : fr = (0, 0)) : (W.alloc (.cells #[.int .u8 (a.toNat : Int), .int .u8 (b.toNat : Int), .int .u8 (c.toNat : Int), .int .u8 (d.toNat : Int)] 5 fr)).ownsRow W.heap.size 5 1 (.slice (some ⟨W.heap.size, 0, none⟩) 4 4) 4 (byteCells [a, b, c, d]) := by
  subst hfr
  exact ⟨by simp [byteCells], Or.inr ⟨W.heap.size, 4, _, rfl, Nat.le_refl _, heap_alloc_new W _, by decide, by decide, by simp, by simp [byteCells]⟩⟩
/-- what a call answers: a row of its own -/
theorem ofNat_val (n : Nat) : ((UInt8.ofNat n).toNat : Int) = (n : Int) % 256 := by
  have h1 : (UInt8.ofNat n).toNat = n % 256 := by simp
  rw [h1]
  omega
theorem own_len4 (W : World) (n : Nat) (h : n ≤ 1048576) : (W.alloc (.cells #[.int .u8 ((n : Int) / 16777216), .int .u8 ((n : Int) / 65536), .int .u8 ((n : Int) / 256 % 256), .int .u8 ((n : Int) % 256)] 5)).ownsRow W.heap.size 5 1 (.slice (some ⟨W.heap.size, 0, none⟩) 4 4) 4 (byteCells (len4 n)) := by
  have h1 := own_four W (UInt8.ofNat (n / 16777216)) (UInt8.ofNat (n / 65536)) (UInt8.ofNat (n / 256)) (UInt8.ofNat n) (0, 0) rfl
  rw [ofNat_val, ofNat_val, ofNat_val, ofNat_val, show ((n / 16777216 : Nat) : Int) % 256 = (n : Int) / 16777216 by omega, show ((n / 65536 : Nat) : Int) % 256 = (n : Int) / 65536 by omega, show ((n / 256 : Nat) : Int) % 256 = (n : Int) / 256 % 256 by omega] at h1
  exact h1
set_option maxRecDepth 100000 in
set_option maxHeartbeats 4000000 in
theorem measured_c (s : T) (w : World) (hs : s.length ≤ 1048576) :
    Calls Tryd.prog 112 #[txt s] w fun e w' => ∃ v, e = .returned v ∧ Go.Proofs.YtpijnkfbgieabaaDoor.cln.NewB w w' (sized s) v := by
  have hsz : (⟨s.toArray⟩ : ByteArray).size = s.length := List.size_toArray
  have HO4 := Lib.hid (own_len4 w s.length hs)
  have HBW := Lib.hid ((Below.refl w.heap.size w).alloc (Nat.le_refl _) (.cells #[.int .u8 ((s.length : Int) / 16777216), .int .u8 ((s.length : Int) / 65536), .int .u8 ((s.length : Int) / 256 % 256), .int .u8 ((s.length : Int) % 256)] 5))
  unfold txt
  go_enter Tryd.func112, Tryd.ntmps112
  go_wp2_with (at_builtin; refine wpList_append_text rfl (.tmp 17) (.tmp 18) rfl w.heap.size _ 4 (len4 s.length) rfl HO4.out s rfl (by omega) HBW.out.size ?_; intro v2 w2 q1 q2)
  go_ret
  refine ⟨_, rfl, ?_, HBW.out.grown q2 HBW.out.size fun k hk => (HO4.out.lt k hk).1⟩
  have e : (sized s).length = 4 + s.length := by unfold sized len4; simp; omega
  rw [e]
  exact q1
end Go.Proofs.YtpijnkfbgieabaaDoor.tri
