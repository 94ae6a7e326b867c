/- The developers' token, has, isShownBy, refusal. No condition beyond what slices and texts are. -/
import Derived.Test.YthagdkipipldlaaGreatDoorGrb
namespace Go.Proofs.YthagdkipipldlaaGreatDoor.gra
open Go.RowKit
open Go.Proofs.YthagdkipipldlaaGreatDoor.oct Go.Proofs.YthagdkipipldlaaGreatDoor.ref Go.Proofs.YthagdkipipldlaaGreatDoor.rows Go.Proofs.YthagdkipipldlaaGreatDoor.rowg Go.Proofs.YthagdkipipldlaaGreatDoor.mpt Go.Proofs.YthagdkipipldlaaGreatDoor.trn Go.Proofs.YthagdkipipldlaaGreatDoor.krd
open Go.Proofs.YthagdkipipldlaaGreatDoor.sha (Tabs)
open Go.Proofs.YthagdkipipldlaaGreatDoor.scp (tx senc senc_len senc_one InS ins_below ins_cell ins_one lt Lst lval lenc GoodL FitS RowA own_good infoStr clone_c)

/-- an element of an own row: where it lies -/
theorem own_at {α : Type} {enc : α → List Value} {k : Nat} (hk : ∀ a, (enc a).length = k) (h0 : 0 < k) {w : World} {B e c : Nat} {p : Option Addr} {l : List α} (h : w.ownsRow B e k (.slice p l.length c) l.length (cells enc l)) {i : Nat} (hi : i < l.length) :
    ∃ b, p = some ⟨b, 0, none⟩ ∧ l.length ≤ c ∧ (∀ j, j < k → w.cell? ⟨b, i * k + j, none⟩ = (enc l[i])[j]?) ∧ ∀ j, j < k → w.frozen? ⟨b, i * k + j, none⟩ = false := by
  obtain ⟨p2, c2, hv, hc, hn, hin⟩ := own_g hk h0 h
  injection hv with e1 e2 e3
  subst e1
  subst e3
  obtain ⟨b, o, rfl, hat⟩ := hin (by omega)
  have ho : o = 0 := by
    rcases h.2 with ⟨h1, _⟩ | ⟨g, cap, cur, h1, _⟩
    · injection h1 with h1; cases h1
    · injection h1 with h1; injection h1 with h1; injection h1
  subst ho
  refine ⟨b, rfl, hc, fun j hj => ?_, fun j hj => ?_⟩
  · have h2 := hat i hi j hj
    rw [Nat.zero_add] at h2
    exact h2
  · have h3 : (i + 1) * k ≤ l.length * k := Nat.mul_le_mul_right k hi
    rw [Nat.succ_mul] at h3
    exact (own_frozen h (i * k + j) (by omega)).1
theorem tokG_none {f : FT} {k n : Int} (h : ¬ (1 ≤ n ∧ n ≤ f.tk.length)) : tokG f k n = none := by unfold tokG; rw [if_neg h]
theorem tokG_at {f : FT} {k : Int} {i : Nat} {t : IT} (h : f.tk[i]? = some t) : tokG f k ((i : Int) + 1) = if t.k = k then some t else none := by
  have hi := (List.getElem?_eq_some_iff.1 h).1
  unfold tokG
  rw [if_pos ⟨by omega, by omega⟩, show ((i : Int) + 1 - 1).toNat = i by omega, h]
  by_cases hk : t.k = k
  · rw [if_pos hk, Option.filter_some]; simp [hk]
  · rw [if_neg hk, Option.filter_some]; simp [hk]
/-- what token answers -/
def TokA (x : DF) (k n : Int) (e : Ending) : Prop :=
  (tokG x.f k n = none ∧ e = .returned (.pointer none)) ∨ ∃ (i b : Nat) (t : IM), x.tk[i]? = some t ∧ n = (i : Int) + 1 ∧ x.tp = some ⟨b, 0, none⟩ ∧ t.k = k ∧ tokG x.f k n = some t.t ∧ e = .returned (.pointer (some ⟨b, i * 3, none⟩))
set_option maxRecDepth 100000 in
set_option maxHeartbeats 4000000 in
theorem token_c {w : World} {R : Nat → Prop} {x : DF} (h : FamM w R x) (hl : x.tk.length ≤ 4194304) (k n : Int) :
    Calls Tryz.prog 111 #[dptr x.g, .int .i64 k, .int .i64 n] w fun e w' => TokA x k n e ∧ w' = w := by
  have c8 : w.cell? ⟨x.g, 8, none⟩ = some (.slice x.tp x.tk.length x.tc) := h.blk.cell 8
  have hfl : x.f.tk.length = x.tk.length := List.length_map ..
  by_cases h0 : n ≤ 0
  · have HR : Hid (TokA x k n (.returned (.pointer none))) := Or.inl ⟨tokG_none (by omega), rfl⟩
    clear h hfl
    go_enter Tryz.func111, Tryz.ntmps111
    go_wp2_with fail
    go_ret
    exact ⟨HR.out, rfl⟩
  by_cases h1 : n > (x.tk.length : Int)
  · have HR : Hid (TokA x k n (.returned (.pointer none))) := Or.inl ⟨tokG_none (by omega), rfl⟩
    obtain ⟨m, hm⟩ : ∃ m, x.tk.length = m := ⟨_, rfl⟩
    rw [hm] at c8 h1
    clear h hfl hm hl
    go_enter Tryz.func111, Tryz.ntmps111
    go_wp2_with fail
    go_ret
    exact ⟨HR.out, rfl⟩
  obtain ⟨i, rfl⟩ : ∃ i : Nat, n = (i : Int) + 1 := ⟨(n - 1).toNat, by omega⟩
  have hi : i < x.tk.length := by omega
  obtain ⟨b, hb, hcap, hat, _⟩ := own_at ienc_len (by decide) h.own.tk hi
  have t0 : w.cell? ⟨b, i * 3, none⟩ = some (.int .i64 x.tk[i].k) := hat 0 (by decide)
  have hx : x.tk[i]? = some x.tk[i] := List.getElem?_eq_getElem hi
  have hxf : x.f.tk[i]? = some (x.tk[i]).t := by
    show (x.tk.map IM.t)[i]? = _
    rw [List.getElem?_map, hx]; rfl
  have HT := Lib.hid (tokG_at (k := k) hxf)
  obtain ⟨t, ht⟩ : ∃ t, x.tk[i] = t := ⟨_, rfl⟩
  rw [ht] at t0 HT hx
  rw [hb] at c8
  obtain ⟨m, hm⟩ : ∃ m, x.tk.length = m := ⟨_, rfl⟩
  rw [hm] at c8 h1 hl hi
  have hiI : (i : Int) < (m : Int) := by omega
  have HX := Lib.hid hx
  have HB := Lib.hid hb
  by_cases hk : t.k = k
  · have HR : Hid (TokA x k ((i : Int) + 1) (.returned (.pointer (some ⟨b, i * 3, none⟩)))) := Or.inr ⟨i, b, t, HX.out, rfl, HB.out, hk, by rw [HT.out, if_pos (show t.t.k = k from hk)], rfl⟩
    obtain ⟨tk, ts, tu⟩ := t
    dsimp only at hk t0
    subst hk
    clear h hfl hm hat hxf ht hcap hx hb HT
    go_enter Tryz.func111, Tryz.ntmps111
    go_wp2_with fail
    go_ret
    exact ⟨HR.out, rfl⟩
  · have HR : Hid (TokA x k ((i : Int) + 1) (.returned (.pointer none))) := Or.inl ⟨by rw [HT.out, if_neg (show ¬ t.t.k = k from hk)], rfl⟩
    obtain ⟨tk, ts, tu⟩ := t
    dsimp only at hk t0
    have hne : (tk != k) = true := by rw [bne_iff_ne]; exact hk
    clear h hfl hm hat hxf ht hcap hx hb HT
    go_enter Tryz.func111, Tryz.ntmps111
    go_wp2_with fail
    go_ret
    exact ⟨HR.out, rfl⟩
set_option maxRecDepth 100000 in
set_option maxHeartbeats 4000000 in
theorem has_c {w : World} {R : Nat → Prop} {x : DF} (h : FamM w R x) (hl : x.tk.length ≤ 4194304) (k n : Int) :
    Calls Tryz.prog 112 #[dptr x.g, .int .i64 k, .int .i64 n] w fun e w' => e = .returned (.bool (isG x.f k n)) ∧ w' = w := by
  have c7 : w.cell? ⟨x.g, 7, none⟩ = some (.int .i64 x.code) := h.blk.cell 7
  unfold isG
  by_cases hk : k = 1
  · subst hk
    rw [if_pos rfl, show x.f.code = x.code from rfl]
    obtain ⟨cd, hcd⟩ : ∃ cd, x.code = cd := ⟨_, rfl⟩
    rw [hcd] at c7 ⊢
    clear h hcd
    by_cases hn : n = 0
    · subst hn
      go_enter Tryz.func112, Tryz.ntmps112
      go_wp2_with fail
      go_ret
      exact ⟨ret_bool (by rw [Bool.eq_iff_iff]; simp), rfl⟩
    · rw [decide_eq_false hn]
      have hne : (n == 0) = false := by rw [beq_eq_false_iff_ne]; exact hn
      go_enter Tryz.func112, Tryz.ntmps112
      go_wp2_with fail
      go_ret
      exact ⟨rfl, rfl⟩
  · rw [if_neg hk]
    have hke : (k == 1) = false := by rw [beq_eq_false_iff_ne]; exact hk
    have HT := Lib.hid (token_c h hl k n)
    obtain ⟨r, hr⟩ : ∃ r, (tokG x.f k n).isSome = r := ⟨_, rfl⟩
    have HR := Lib.hid hr
    rw [hr]
    clear h hr c7 hk
    go_enter Tryz.func112, Tryz.ntmps112
    go_wp2_with fail
    refine HT.out.mono ?_
    rintro e w1 ⟨hta, rfl⟩
    rcases hta with ⟨h1, rfl⟩ | ⟨i, b, t, _, _, _, _, h1, rfl⟩
    · have HZ : Hid (r = false) := by show _ = _; rw [← HR.out, h1]; rfl
      clear h1
      go_wp2_with fail
      go_ret
      exact ⟨ret_bool HZ.out.symm, rfl⟩
    · have HZ : Hid (r = true) := by show _ = _; rw [← HR.out, h1]; rfl
      clear h1
      go_wp2_with fail
      go_ret
      exact ⟨ret_bool HZ.out.symm, rfl⟩
set_option maxRecDepth 100000 in
set_option maxHeartbeats 4000000 in
theorem shownBy_c {w : World} {R : Nat → Prop} {x : DF} (h : FamM w R x) (ht : Tabs w) (v : T) (hc : x.ch.length ≤ 140737488351232) (hm : x.me.length ≤ 140737488351232) (hv : v.length ≤ 140737488351232) :
    Calls Tryz.prog 109 #[dptr x.g, .string ⟨v.toArray⟩] w fun e w' => e = .returned (.bool (checkG x.f v)) ∧ Below w.heap.size w w' := by
  have c5 : w.cell? ⟨x.g, 5, none⟩ = some (.string ⟨x.ch.toArray⟩) := h.blk.cell 5
  have c6 : w.cell? ⟨x.g, 6, none⟩ = some (.string ⟨x.me.toArray⟩) := h.blk.cell 6
  have HK : Hid (∀ W, Below w.heap.size w W → Calls Tryz.prog 137 #[.string ⟨x.ch.toArray⟩, .string ⟨x.me.toArray⟩, .string ⟨v.toArray⟩] W fun e w' => e = .returned (.bool (pkc.checkP x.ch x.me v)) ∧ Below W.heap.size W w') := Lib.hid fun W hW => pkc.the_papi.check x.ch x.me v W (ht.below hW) (by omega) (by omega) (by omega)
  have HF : Hid (checkG x.f v = if x.ch = [] then decide (v = []) else pkc.checkP x.ch x.me v) := rfl
  have y1 := mk_empty x.ch
  have y2 := mk_empty v
  obtain ⟨r, hr⟩ : ∃ r, checkG x.f v = r := ⟨_, rfl⟩
  rw [hr] at HF ⊢
  obtain ⟨ch, hch⟩ : ∃ ch : T, x.ch = ch := ⟨_, rfl⟩
  obtain ⟨me, hme⟩ : ∃ me : T, x.me = me := ⟨_, rfl⟩
  obtain ⟨g, hg⟩ : ∃ g, x.g = g := ⟨_, rfl⟩
  rw [hch, hme] at HK HF
  rw [hch] at c5 y1
  rw [hme] at c6
  rw [hg] at c5 c6 ⊢
  clear h ht hc hm hv hr hch hme hg
  cases ch with
  | nil =>
    have HR : Hid (r = v.isEmpty) := by show _ = _; rw [HF.out, if_pos rfl]; cases v <;> rfl
    clear HK HF y1
    go_enter Tryz.func109, Tryz.ntmps109
    go_wp2_with fail
    go_ret
    exact ⟨ret_bool (by rw [HR.out]), Below.refl _ _⟩
  | cons a ch =>
    have HR : Hid (pkc.checkP (a :: ch) me v = r) := by show _ = _; rw [HF.out, if_neg (by simp)]
    have HK2 : Hid (∀ W, Below w.heap.size w W → Calls Tryz.prog 137 #[.string ⟨(a :: ch).toArray⟩, .string ⟨me.toArray⟩, .string ⟨v.toArray⟩] W fun e w' => e = .returned (.bool r) ∧ Below W.heap.size W w') := by
      have h := HK.out
      rw [HR.out] at h
      exact h
    have he : (⟨(a :: ch).toArray⟩ : ByteArray).toList.isEmpty = false := by rw [y1]; rfl
    obtain ⟨S, hS⟩ : ∃ S, (⟨(a :: ch).toArray⟩ : ByteArray) = S := ⟨_, rfl⟩
    rw [hS] at HK2 he c5
    have HB0 : Hid (Below w.heap.size w w.drew) := Lib.hid (Below.refl _ _).drew
    clear HK HF HR y1 y2 hS
    go_enter Tryz.func109, Tryz.ntmps109
    go_wp2_with fail
    go_region_with (go_at_call 137; (with_reducible refine (HK2.out _ HB0.out).mono ?_); rintro e w2 ⟨rfl, hb2⟩; have HB2 := Lib.hid (bnext HB0.out hb2); clear hb2)
    all_goals
      go_wp2_with fail
      go_ret
      exact ⟨rfl, HB2.out⟩
/-- an answer's value: its scope lies at p, with the room q -/
def ansv (a : AT) (p : Option Addr) (q : Nat) : Value := .agg #[.int .i64 a.why, .int .i64 a.acc, .int .i64 a.ref, .slice p a.sc.length q, tx a.cl, tx a.us, .bool a.act, .bool a.wait]
def aenc (a : AT) (p : Option Addr) (q : Nat) : List Value := [.int .i64 a.why, .int .i64 a.acc, .int .i64 a.ref, .slice p a.sc.length q, tx a.cl, tx a.us, .bool a.act, .bool a.wait]
def zerA : List Value := [.int .i64 0, .int .i64 0, .int .i64 0, .slice none 0 0, .string ⟨#[]⟩, .string ⟨#[]⟩, .bool false, .bool false]
theorem aenc_one (a : AT) (p : Option Addr) (q : Nat) : ∀ v ∈ aenc a p q, v.oneCell' = true := by
  intro v hv
  unfold aenc at hv
  simp only [List.mem_cons, List.not_mem_nil, or_false] at hv
  rcases hv with rfl | rfl | rfl | rfl | rfl | rfl | rfl | rfl <;> rfl
theorem infoAn : (Tryz.prog.info? 59).map (·.size) = some 8 := by kernel_rfl
set_option maxRecDepth 100000 in
theorem refusal_c (k : Int) (w : World) : Calls Tryz.prog 59 #[.int .i64 k] w fun e w' => e = .returned (.agg #[.int .i64 k, .int .i64 0, .int .i64 0, .slice none 0 0, .string ⟨#[]⟩, .string ⟨#[]⟩, .bool false, .bool false]) ∧ Below w.heap.size w w' := by
  have HB : Hid (∀ X, Below w.heap.size w (w.alloc X)) := fun X => (Below.refl _ _).alloc (Nat.le_refl _) _
  have HK : Hid (∀ X : List Value, Blk (w.alloc (.cells X.toArray 59)) w.heap.size 59 X) := fun X => blk_new w _ _ _ rfl
  go_enter Tryz.func59, Tryz.ntmps59
  go_wp2_with fail
  refine bodyPost_ret (results_blk Tryz.results59 _ _ w.heap.size 59 [.int .i64 k, .int .i64 0, .int .i64 0, .slice none 0 0, .string ⟨#[]⟩, .string ⟨#[]⟩, .bool false, .bool false] _ rfl (HK.out [.int .i64 k, .int .i64 0, .int .i64 0, .slice none 0 0, .string ⟨#[]⟩, .string ⟨#[]⟩, .bool false, .bool false]) Tryz.underlying59 rfl infoAn) rfl ?_
  exact ⟨rfl, HB.out _⟩
end Go.Proofs.YthagdkipipldlaaGreatDoor.gra
