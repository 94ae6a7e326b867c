/- The developers' at, ends, total, sum. No condition. -/
import Derived.Test.YtpijnkfbgieabaaDoorTr2
namespace Go.Proofs.YtpijnkfbgieabaaDoor.tri
open Go.RowKit
open Go.Proofs.YtpijnkfbgieabaaDoor.oct Go.Proofs.YtpijnkfbgieabaaDoor.ref Go.Proofs.YtpijnkfbgieabaaDoor.rows Go.Proofs.YtpijnkfbgieabaaDoor.rowg Go.Proofs.YtpijnkfbgieabaaDoor.trn
open Go.Proofs.YtpijnkfbgieabaaDoor.sha (digest digest_len dval)
open Go.Lib (byteCells)

theorem range_part {w : World} {b t : Nat} {A B C : List Value} (h : Blk w b t (A ++ (B ++ C))) : w.rangeAt b A.length B := fun j v hj => by
  have hl := (List.getElem?_eq_some_iff.1 hj).1
  rw [h.cell (A.length + j), List.getElem?_append_right (by omega), Nat.add_sub_cancel_left, List.getElem?_append_left hl]
  exact hj
theorem NodeB.dig {w : World} {F : Nat → Prop} {b : Nat} {dg : T} {n : Nat} {v : Value} {way : T} {c : Nat → Option Nat} (h : NodeB w F b dg n v way c) : w.rangeAt b 0 (byteCells dg) :=
  range_part (A := []) h.blk
theorem NodeB.wayR {w : World} {F : Nat → Prop} {b : Nat} {dg : T} {n : Nat} {v : Value} {way : T} {c : Nat → Option Nat} (h : NodeB w F b dg n v way c) : w.rangeAt b 34 (byteCells way) := by
  have h1 : Blk w b 114 ((byteCells dg ++ [.int .i64 (n : Nat), v]) ++ (byteCells way ++ kids c)) := by
    have h2 := h.blk
    unfold ncells at h2
    rw [List.append_assoc]
    exact h2
  have h3 := range_part h1
  rw [List.length_append, byteCells_len, h.dl] at h3
  exact h3
theorem NodeB.kidR {w : World} {F : Nat → Prop} {b : Nat} {dg : T} {n : Nat} {v : Value} {way : T} {c : Nat → Option Nat} (h : NodeB w F b dg n v way c) : w.rangeAt b 66 (kids c) := by
  have h1 : Blk w b 114 ((byteCells dg ++ (.int .i64 (n : Nat) :: v :: byteCells way)) ++ (kids c ++ [])) := by
    have h2 := h.blk
    unfold ncells at h2
    rw [List.append_nil, List.append_assoc]
    exact h2
  have h3 := range_part h1
  rw [List.length_append, byteCells_len, h.dl, List.length_cons, List.length_cons, byteCells_len, h.wl] at h3
  exact h3
set_option maxRecDepth 100000 in
set_option maxHeartbeats 4000000 in
theorem at_c (way : T) (d : Nat) (w : World) (hw : way.length = 32) (hd : d < 64) :
    Calls Tryd.prog 51 #[dval way, .int .i64 (d : Nat)] w fun e w' => e = .returned (.int .i64 (nibW way d : Nat)) ∧ Below w.heap.size w w' := by
  have hB := blk_new w (byteCells way).toArray 103 (byteCells way) rfl
  obtain ⟨h, hh⟩ : ∃ h, d / 2 = h := ⟨_, rfl⟩
  have hh32 : h < 32 := by omega
  have c0 := hB.cell h
  have hb : (byteCells way)[h]? = some (.int .u8 ((way.getD h 0).toNat : Int)) := by
    simp [byteCells, List.getD, List.getElem?_eq_getElem (show h < way.length by omega)]
  rw [hb] at c0
  have hlt := (way.getD h 0).toNat_lt
  obtain ⟨x, hx⟩ : ∃ x, (way.getD h 0).toNat = x := ⟨_, rfl⟩
  have HN : Hid (nibW way d = if d % 2 = 0 then x / 16 else x % 16) := by
    show nibW way d = _
    unfold nibW
    rw [hh, hx]
  rw [hx] at c0 hlt
  obtain ⟨X, hX⟩ : ∃ X, (byteCells way).toArray = X := ⟨_, rfl⟩
  unfold dval
  rw [hX] at c0 ⊢
  have hb1 := (Below.refl w.heap.size w).alloc (Nat.le_refl _) (.cells X 103)
  have HB1 := Lib.hid hb1
  clear hB hb hx hX hb1 hw
  go_enter Tryd.func51, Tryd.ntmps51
  go_wp2_with fail
  · rename_i hpar
    have h2 : d % 2 = 0 := by
      rw [beq_iff_eq] at hpar
      omega
    have h1 : ((nibW way d : Nat) : Int) = (x : Int) / 16 := by rw [HN.out, if_pos h2]; omega
    rw [h1]
    go_ret
    exact ⟨rfl, HB1.out⟩
  · rename_i hpar
    have h2 : ¬ d % 2 = 0 := by
      rw [beq_eq_false_iff_ne] at hpar
      omega
    have h1 : ((nibW way d : Nat) : Int) = (x : Int) % 16 := by rw [HN.out, if_neg h2]; omega
    rw [h1]
    go_ret
    exact ⟨rfl, HB1.out⟩
/-- does a way end here -/
def endB (f : Nat) (l : List Pr) : Bool := decide (l.length ≤ 1) || f == 0
set_option maxRecDepth 100000 in
set_option maxHeartbeats 4000000 in
theorem ends_c {w : World} {F : Nat → Prop} {f d : Nat} {p : Option Nat} {l : List Pr} (h : Nd w F f d p l) :
    Calls Tryd.prog 63 #[nptr p] w fun e w' => e = .returned (.bool (endB f l)) ∧ w = w' := by
  rcases h.cases with ⟨rfl, rfl⟩ | ⟨b, v, way, rfl, hl, h1⟩ | ⟨f', b, c, rfl, rfl, h2, hn, hk⟩
  · rw [show endB f [] = true by unfold endB; simp]
    unfold nptr
    clear h
    go_enter Tryd.func63, Tryd.ntmps63
    go_wp2_with fail
    go_ret
    exact ⟨rfl, rfl⟩
  · rw [show endB f l = true by unfold endB; rcases h1 with h1 | h1 <;> simp [h1]]
    have c0 := hl.nb.row
    have hpos := hl.pos
    obtain ⟨pv, cv, rfl⟩ := Go.Proofs.YtpijnkfbgieabaaDoor.cln.own_slice hl.own
    have hp : 0 < l.length := by omega
    unfold nptr
    clear h hl h1 hpos
    go_enter Tryd.func63, Tryd.ntmps63
    go_wp2_with fail
    go_ret
    exact ⟨rfl, rfl⟩
  · rw [show endB (f' + 1) l = false by unfold endB; simp; omega]
    have c0 := hn.row
    unfold nptr
    clear h hn hk h2
    go_enter Tryd.func63, Tryd.ntmps63
    go_wp2_with fail
    go_ret
    exact ⟨rfl, rfl⟩
set_option maxRecDepth 100000 in
set_option maxHeartbeats 4000000 in
theorem total_c {w : World} {F : Nat → Prop} {f d : Nat} {p : Option Nat} {l : List Pr} (h : Nd w F f d p l) :
    Calls Tryd.prog 41 #[nptr p] w fun e w' => e = .returned (.int .i64 (l.length : Nat)) ∧ w = w' := by
  have hc : p = none ∧ l = [] ∨ ∃ b, p = some b ∧ w.cell? ⟨b, 32, none⟩ = some (.int .i64 (l.length : Nat)) := by
    rcases h.cases with h | ⟨b, v, way, h1, hl, _⟩ | ⟨f', b, c, _, h1, _, hn, _⟩
    · exact Or.inl h
    · exact Or.inr ⟨b, h1, hl.nb.count⟩
    · exact Or.inr ⟨b, h1, hn.count⟩
  clear h
  rcases hc with ⟨rfl, rfl⟩ | ⟨b, rfl, c0⟩
  · unfold nptr
    go_enter Tryd.func41, Tryd.ntmps41
    go_wp2_with fail
    go_ret
    exact ⟨rfl, rfl⟩
  · unfold nptr
    go_enter Tryd.func41, Tryd.ntmps41
    go_wp2_with fail
    go_ret
    exact ⟨rfl, rfl⟩
theorem zeroD (w : World) : (zeroValue 32).run Tryd.prog w = .ok (.agg (byteCells zeros).toArray) w := by kernel_rfl
theorem infoDg : (Tryd.prog.info? 32).map (·.size) = some 32 := by kernel_rfl
set_option maxRecDepth 100000 in
set_option maxHeartbeats 4000000 in
theorem sum_c {w : World} {F : Nat → Prop} {f d : Nat} {p : Option Nat} {l : List Pr} (h : Nd w F f d p l) :
    Calls Tryd.prog 36 #[nptr p] w fun e w' => e = .returned (dval (digP f d l)) ∧ Below w.heap.size w w' := by
  have hc : p = none ∧ l = [] ∨ ∃ b, p = some b ∧ w.rangeAt b 0 (byteCells (digP f d l)) ∧ b < w.heap.size := by
    rcases h.cases with h | ⟨b, v, way, h1, hl, h2⟩ | ⟨f', b, c, rfl, h1, _, hn, _⟩
    · exact Or.inl h
    · refine Or.inr ⟨b, h1, ?_, hl.nb.lt⟩
      rw [← leaf_dig hl.pos h2]
      exact hl.nb.dig
    · exact Or.inr ⟨b, h1, hn.dig, hn.lt⟩
  clear h
  rcases hc with ⟨rfl, rfl⟩ | ⟨b, rfl, hr, hlt⟩
  · rw [digP_nil]
    unfold nptr dval
    have hz := zeroD
    have hzl : (byteCells zeros).length = 32 := by rfl
    have ho := bytes_one zeros
    obtain ⟨Z, hZ⟩ : ∃ Z, byteCells zeros = Z := ⟨_, rfl⟩
    rw [hZ] at hz hzl ho ⊢
    clear hZ
    go_enter Tryd.func36, Tryd.ntmps36
    have hi : Hid ((Tryd.prog.info? 32).map (·.size) = some Z.length) := by show _ = _; rw [hzl]; exact infoDg
    have HO := Lib.hid ho
    have HZL := Lib.hid hzl
    clear ho hzl
    go_wp2_with ((with_reducible refine wpList_store_new rfl 32 (.tmp 2) (.tmp 5) rfl Z 32 _ rfl rfl hi.out (by rw [List.size_toArray]) HO.out ?_); intro w1 hS hSb _)
    exact bodyPost_ret (v := .agg Z.toArray) (results_blk Tryd.results36 _ _ w.heap.size 32 Z _ rfl hS Tryd.underlying32 rfl hi.out) rfl ⟨rfl, hSb⟩
  · unfold nptr dval
    have hz := zeroD
    have hzl : (byteCells zeros).length = 32 := by rfl
    have hdl : (byteCells (digP f d l)).length = 32 := by rw [byteCells_len, digP_len]
    have ho := bytes_one (digP f d l)
    obtain ⟨Z, hZ⟩ : ∃ Z, byteCells zeros = Z := ⟨_, rfl⟩
    obtain ⟨D, hD⟩ : ∃ D, byteCells (digP f d l) = D := ⟨_, rfl⟩
    rw [hZ] at hz hzl
    rw [hD] at hdl ho hr ⊢
    have hi : Hid ((Tryd.prog.info? 32).map (·.size) = some D.length) := by show _ = _; rw [hdl]; exact infoDg
    have HO := Lib.hid ho
    have HR : Hid ((w.alloc (.cells Z.toArray 32)).rangeAt b 0 D) := fun j v hj => by
      have h1 := hr j v hj
      exact (((Below.refl w.heap.size w).alloc (Nat.le_refl _) (.cells Z.toArray 32)).cell (p := ⟨b, 0 + j, none⟩) hlt).trans h1
    have HZL : Hid (Z.toArray.size = D.length) := by show _ = _; rw [List.size_toArray, hzl, hdl]
    clear ho hzl hdl hr hZ hD
    go_enter Tryd.func36, Tryd.ntmps36
    go_wp2_with (first
      | (with_reducible refine wpList_load_mid rfl 32 (.tmp 8) rfl b 0 rfl D _ HR.out Tryd.underlying32 rfl hi.out ?_)
      | ((with_reducible refine wpList_store_new rfl 32 (.tmp 2) (.tmp 9) rfl D 32 _ rfl rfl hi.out HZL.out HO.out ?_); intro w1 hS hSb _))
    exact bodyPost_ret (v := .agg D.toArray) (results_blk Tryd.results36 _ _ w.heap.size 32 D _ rfl hS Tryd.underlying32 rfl hi.out) rfl ⟨rfl, hSb⟩
end Go.Proofs.YtpijnkfbgieabaaDoor.tri
