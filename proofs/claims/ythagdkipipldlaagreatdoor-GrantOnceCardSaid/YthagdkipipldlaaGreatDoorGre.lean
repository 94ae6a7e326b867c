/- What a family is made of while blocks of the call's own stay apart (IS); the developers' issued. No condition beyond what slices and texts are. -/
import Derived.Test.YthagdkipipldlaaGreatDoorGrd
namespace Go.Proofs.YthagdkipipldlaaGreatDoor.gra
open Go.RowKit
open Go.Proofs.YthagdkipipldlaaGreatDoor.oct Go.Proofs.YthagdkipipldlaaGreatDoor.ref Go.Proofs.YthagdkipipldlaaGreatDoor.rows Go.Proofs.YthagdkipipldlaaGreatDoor.rowg Go.Proofs.YthagdkipipldlaaGreatDoor.mpt Go.Proofs.YthagdkipipldlaaGreatDoor.trn Go.Proofs.YthagdkipipldlaaGreatDoor.krd
open Go.Proofs.YthagdkipipldlaaGreatDoor.sha (Tabs)
open Go.Proofs.YthagdkipipldlaaGreatDoor.scp (tx senc senc_len senc_one InS ins_below ins_cell ins_one lt Lst lval lenc GoodL FitS RowA own_good infoStr clone_c key_txt skeyed)

/-- the family x of w is y in wz; the blocks of E, which are new, are none of its own -/
structure IS (w wz : World) (x y : DF) (f : FT) (E : Nat → Prop) : Prop where
  id : y.id = x.id
  g : y.g = x.g
  f : y.f = f
  fam : FamM wz (xn x w wz) y
  turn : Turn x.has w wz
  ex : ∀ k, E k → ¬ y.has k
  lt : ∀ k, E k → k < wz.heap.size
  ge : ∀ k, E k → w.heap.size ≤ k
theorem IS.start {w W : World} {R : Nat → Prop} {x : DF} (h : FamM w R x) (hb : Below w.heap.size w W) : IS w W x x x.f (fun k => w.heap.size ≤ k ∧ k < W.heap.size) :=
  ⟨rfl, rfl, rfl, ⟨h.blk.below hb, h.own.below hb, fun _ hk => Or.inl hk⟩, Turn.of_below hb, fun k hk h2 => by have := h.lt k h2; omega, fun k hk => hk.2, fun k hk => hk.1⟩
theorem IS.below {w wz W : World} {x y : DF} {f : FT} {E : Nat → Prop} (h : IS w wz x y f E) (hb : Below wz.heap.size wz W) : IS w W x y f E :=
  ⟨h.id, h.g, h.f, ⟨h.fam.blk.below hb, h.fam.own.below hb, fun k hk => (h.fam.foot k hk).imp_right fun e => ⟨e.1, Nat.lt_of_lt_of_le e.2 hb.size⟩⟩, h.turn.next (Turn.of_below hb), h.ex, fun k hk => Nat.lt_of_lt_of_le (h.lt k hk) hb.size, h.ge⟩
/-- a block of E is turned -/
theorem IS.own {w wz W : World} {x y : DF} {f : FT} {E S : Nat → Prop} (h : IS w wz x y f E) (ht : Turn S wz W) (hs : ∀ k, S k → E k) : IS w W x y f E := by
  have hf := h.fam.turn ht fun k hk hk2 => h.ex k (hs k hk2) hk
  refine ⟨h.id, h.g, h.f, ⟨hf.blk, hf.own, fun k hk => (h.fam.foot k hk).imp_right fun e => ⟨e.1, Nat.lt_of_lt_of_le e.2 ht.size⟩⟩, ?_, h.ex, fun k hk => Nat.lt_of_lt_of_le (h.lt k hk) ht.size, h.ge⟩
  refine ⟨ht.os.trans h.turn.os, ht.tape.trans h.turn.tape, ht.output.trans h.turn.output, Nat.le_trans h.turn.size ht.size, fun k hk hn => ?_⟩
  rw [ht.block k (Nat.lt_of_lt_of_le hk h.turn.size) fun h3 => by have := h.ge k (hs k h3); omega, h.turn.block k hk hn]
theorem IS.of_fto {w W : World} {x : DF} {f : FT} (h : FTo w W x f) : ∃ y, IS w W x y f (fun _ => False) := by
  obtain ⟨y, d1, d2, d3, d4, d5⟩ := h
  exact ⟨y, d1, d2, d3, d4, d5, fun _ h => h.elim, fun _ h => h.elim, fun _ h => h.elim⟩
theorem IS.trans {w wz W : World} {x y z : DF} {f f2 : FT} {E E2 : Nat → Prop} (h : IS w wz x y f E) (h2 : IS wz W y z f2 E2) : IS w W x z f2 (fun k => E k ∨ E2 k) := by
  have hf := fto_next (f2 := f2) h.id h.g h.fam h.turn ⟨z, h2.id, h2.g, h2.f, h2.fam, h2.turn⟩
  refine ⟨h2.id.trans h.id, h2.g.trans h.g, h2.f, ?_, ?_, ?_, ?_, ?_⟩
  · refine ⟨h2.fam.blk, h2.fam.own, fun k hk => ?_⟩
    rcases h2.fam.foot k hk with h3 | h3
    · exact (h.fam.foot k h3).imp_right fun e => ⟨e.1, Nat.lt_of_lt_of_le e.2 h2.turn.size⟩
    · exact Or.inr ⟨Nat.le_trans h.turn.size h3.1, h3.2⟩
  · obtain ⟨_, _, _, _, _, h5⟩ := hf
    exact h5
  · rintro k (hk | hk) h3
    · rcases h2.fam.foot k h3 with h4 | h4
      · exact h.ex k hk h4
      · have := h.lt k hk; omega
    · exact h2.ex k hk h3
  · rintro k (hk | hk)
    · exact Nat.lt_of_lt_of_le (h.lt k hk) h2.turn.size
    · exact h2.lt k hk
  · rintro k (hk | hk)
    · exact h.ge k hk
    · exact Nat.le_trans h.turn.size (h2.ge k hk)
theorem IS.weak {w wz : World} {x y : DF} {f : FT} {E E2 : Nat → Prop} (h : IS w wz x y f E) (hs : ∀ k, E2 k → E k) : IS w wz x y f E2 := ⟨h.id, h.g, h.f, h.fam, h.turn, fun k hk => h.ex k (hs k hk), fun k hk => h.lt k (hs k hk), fun k hk => h.ge k (hs k hk)⟩
/-- blocks that are newer still -/
theorem IS.more {w wz W : World} {x y : DF} {f : FT} {E : Nat → Prop} (h : IS w wz x y f E) (hb : Below wz.heap.size wz W) : IS w W x y f (fun k => E k ∨ (wz.heap.size ≤ k ∧ k < W.heap.size)) := by
  have h2 := h.below hb
  refine ⟨h2.id, h2.g, h2.f, h2.fam, h2.turn, ?_, ?_, ?_⟩
  · rintro k (hk | hk) h3
    · exact h.ex k hk h3
    · have := h.fam.lt k h3; omega
  · rintro k (hk | hk)
    · exact h2.lt k hk
    · exact hk.2
  · rintro k (hk | hk)
    · exact h.ge k hk
    · exact Nat.le_trans h.turn.size hk.1
/-- a row that lies in blocks of E -/
theorem IS.row {w wz W : World} {x y z : DF} {f f2 : FT} {E E2 : Nat → Prop} (h : IS w wz x y f E) (h2 : IS wz W y z f2 E2) {B e k n : Nat} {v : Value} {xs : List Value} (ho : wz.ownsRow B e k v n xs) (hv : ∀ b, v.ownBlock = some b → E b) : W.ownsRow B e k v n xs :=
  own_turn ho h2.turn fun b hb h3 => h.ex b (hv b hb) h3
theorem IS.blk {w wz W : World} {x y z : DF} {f f2 : FT} {E E2 : Nat → Prop} (h : IS w wz x y f E) (h2 : IS wz W y z f2 E2) {b e : Nat} {X : List Value} (hB : Blk wz b e X) (hv : E b) : Blk W b e X :=
  blk_turn hB h2.turn fun h3 => h.ex b hv h3
theorem own_goodR {w : World} {B : Nat} {s : Lst} (h : w.ownsRow B 9 1 (lval s) s.2.2.length (cells senc s.2.2)) (hf : FitS s.2.2) (hl : s.2.2.length ≤ 4194304) : GoodL w s := by
  obtain ⟨p, c, hv, hg⟩ := own_good h hf hl
  obtain ⟨P, C, l⟩ := s
  unfold lval at hv
  injection hv with e1 e2 e3
  dsimp only at e1 e3
  subst e1
  subst e3
  exact hg
theorem wrote_turn {w w1 : World} {g : Nat} (h : Wrote w w1 g) (hg : g < w.heap.size) : Turn (fun k => k = g) w w1 := by
  have hb := h.below g w (Below.refl _ _) (Nat.le_refl _)
  have _ := hg
  exact ⟨hb.os, hb.tape, hb.output, by rw [h.size]; exact Nat.le_refl _, fun k _ hn => h.other k hn⟩
/-- the answer is written into its variable -/
theorem iss_end {w w3 w4 w5 : World} {x y : DF} {f : FT} {E : Nat → Prop} {l : List T} {p : Option Addr} {q b1 : Nat} (hI : IS w w3 x y f E) (hE : ∀ k, w.heap.size ≤ k → k < b1 → E k) (hb1 : w.heap.size < b1) (ho : w3.ownsRow w.heap.size 9 1 (.slice p l.length q) l.length (cells senc l)) (hob : ∀ b, (Value.slice p l.length q).ownBlock = some b → w.heap.size < b ∧ b < b1) (hb : Below w3.heap.size w3 w4) (ht : Turn (fun k => k = w.heap.size) w4 w5) :
    w5.ownsRow w.heap.size 9 1 (.slice p l.length q) l.length (cells senc l) ∧ IS w w5 x y f (fun k => (Value.slice p l.length q).ownBlock = some k) :=
  ⟨own_turn (own_belowG ho hb) ht fun b e e2 => by have := hob b e; omega, ((hI.below hb).own ht fun k hk => by rw [hk]; exact hE _ (Nat.le_refl _) hb1).weak fun k hk => hE k (Nat.le_of_lt (hob k hk).1) (hob k hk).2⟩
/-- what issued answers -/
def IssA (w w' : World) (x : DF) (l : List T) (r : Bool) (e : Ending) : Prop :=
  ∃ p q y, e = .returned (ansv (issG x.f l r).2 p q) ∧ w'.ownsRow w.heap.size 9 1 (.slice p l.length q) l.length (cells senc l) ∧ IS w w' x y (issG x.f l r).1 (fun k => (Value.slice p l.length q).ownBlock = some k)
set_option maxRecDepth 100000 in
set_option maxHeartbeats 16000000 in
theorem issued_c {w : World} {R : Nat → Prop} {x : DF} (h : FamM w R x) (hl : x.tk.length ≤ 4000000) (hxs : FitS x.sc.2.2) (hxl : x.sc.2.2.length ≤ 4194304) (s : Lst) (hs : GoodL w s) (r : Bool) :
    Calls Tryz.prog 110 #[dptr x.g, lval s, .bool r] w fun e w' => IssA w w' x s.2.2 r e := by
  have hb1 : Below w.heap.size w (w.alloc (.cells zerA.toArray 59)) := (Below.refl _ _).alloc (Nat.le_refl _) _
  have hB1 : Blk (w.alloc (.cells zerA.toArray 59)) w.heap.size 59 zerA := blk_new w _ _ _ rfl
  obtain ⟨w1, hw1⟩ : ∃ w1, w.alloc (.cells zerA.toArray 59) = w1 := ⟨_, rfl⟩
  rw [hw1] at hb1 hB1
  obtain ⟨P, C, l⟩ := s
  have HC : Hid (Calls Tryz.prog 71 #[.slice P l.length C] w1 fun e w' => ∃ p c, e = .returned (.slice p l.length c) ∧ w'.ownsRow w1.heap.size 9 1 (.slice p l.length c) l.length (cells senc l) ∧ GoodL w' (p, c, l) ∧ Below w1.heap.size w1 w') := Lib.hid (cloned_c (P, C, l) w1 ((LL.of_good hs).below hb1) hs.few)
  have HA : Hid (∀ W, Below w.heap.size w W → Calls Tryz.prog 138 #[dptr x.g, .int .i64 2, .slice P l.length C] W fun e w' => e = .returned (.int .i64 (x.tk.length + 1 : Nat)) ∧ FTo W w' x (addG x.f 2 l)) := Lib.hid fun W hW => add_c (⟨h.blk.below hW, h.own.below hW, h.foot⟩ : FamM W R x) (by omega) 2 (P, C, l) (hs.below hW)
  have HF := Lib.hid h
  have HXS := Lib.hid hxs
  have HXL : Hid (x.sc.2.2.length ≤ 4194304 ∧ x.tk.length ≤ 4000000) := ⟨hxl, hl⟩
  have HB1 := Lib.hid hB1
  have HBW1 := Lib.hid hb1
  show Calls _ _ #[dptr x.g, .slice P l.length C, .bool r] w fun e w' => IssA w w' x l r e
  unfold zerA at hw1
  obtain ⟨n, hn⟩ : ∃ n, l.length = n := ⟨_, rfl⟩
  rw [hn] at HC HA ⊢
  obtain ⟨g, hg⟩ : ∃ g, x.g = g := ⟨_, rfl⟩
  rw [hg] at HA ⊢
  have HN := Lib.hid (And.intro hn hg)
  obtain ⟨m, hm⟩ : ∃ m : Nat, x.tk.length = m := ⟨_, rfl⟩
  have HM := Lib.hid hm
  rw [hm] at HA
  clear h hl hxs hxl hs hb1 hB1 hn hg hm
  go_enter Tryz.func110, Tryz.ntmps110
  go_wp2_with fail
  refine HC.out.mono ?_
  rintro e w2 ⟨p, q, rfl, ho, _, hb2⟩
  have hbw2 := bnext HBW1.out hb2
  have HI0 := Lib.hid (IS.start HF.out hbw2)
  have HO2 : Hid (w2.ownsRow w.heap.size 9 1 (.slice p l.length q) l.length (cells senc l) ∧ ∀ b, (Value.slice p l.length q).ownBlock = some b → w1.heap.size ≤ b ∧ b < w2.heap.size) := by
    rw [HN.out.1]
    exact ⟨own_baseR ho HBW1.out.size, fun b hb => ho.lt b hb⟩
  have HB2 := Lib.hid (HB1.out.below hb2)
  have HADD := Lib.hid (HA.out w2 hbw2)
  have hs1 : w.heap.size < w1.heap.size := HB1.out.lt
  have H12 : Hid (w1.heap.size ≤ w2.heap.size) := hb2.size
  have HS1 := Lib.hid hs1
  clear ho hb2 hbw2 HC HA hs1 HBW1
  go_wp2_with fail
  refine HADD.out.mono ?_
  rintro e w3 ⟨rfl, hf3⟩
  obtain ⟨y, hy⟩ := IS.of_fto hf3
  have HI1 : Hid (IS w w3 x y (addG x.f 2 l) (fun k => w.heap.size ≤ k ∧ k < w2.heap.size)) := (HI0.out.trans hy).weak fun k hk => Or.inl hk
  have HO3 : Hid (w3.ownsRow w.heap.size 9 1 (.slice p l.length q) l.length (cells senc l)) := HI0.out.row hy HO2.out.1 fun b hb => by have := HO2.out.2 b hb; have := HS1.out; omega
  have HB3 : Hid (Blk w3 w.heap.size 59 zerA) := HI0.out.blk hy HB2.out ⟨Nat.le_refl _, HB2.out.lt⟩
  have h23 : w2.heap.size ≤ w3.heap.size := hy.turn.size
  have H23 := Lib.hid h23
  clear hf3 hy h23 HADD HI0 HB2
  have hgl3 : g < w3.heap.size := by
    have h := HI1.out.fam.blk.lt
    rw [HI1.out.g, HN.out.2] at h
    exact h
  have hm1 : (m : Int) ≤ 4000000 := by have := HXL.out.2; have := HM.out; omega
  cases r with
  | false =>
    go_upto_region 4 with fail
    have hbA : Below w3.heap.size w3 (w3.alloc (.cells #[.int .i64 0, .int .i64 ((m : Int) + 1), .int .i64 0, .slice p n q, .string ⟨#[]⟩, .string ⟨#[]⟩, .bool false, .bool false] 59)) := (Below.refl _ _).alloc (Nat.le_refl _) _
    have hA : Blk (w3.alloc (.cells #[.int .i64 0, .int .i64 ((m : Int) + 1), .int .i64 0, .slice p n q, .string ⟨#[]⟩, .string ⟨#[]⟩, .bool false, .bool false] 59)) w3.heap.size 59 [.int .i64 0, .int .i64 ((m : Int) + 1), .int .i64 0, .slice p n q, .string ⟨#[]⟩, .string ⟨#[]⟩, .bool false, .bool false] := blk_new w3 _ _ _ rfl
    obtain ⟨w4, hw4⟩ : ∃ w4, w3.alloc (.cells #[.int .i64 0, .int .i64 ((m : Int) + 1), .int .i64 0, .slice p n q, .string ⟨#[]⟩, .string ⟨#[]⟩, .bool false, .bool false] 59) = w4 := ⟨_, rfl⟩
    rw [hw4] at hbA hA ⊢
    obtain ⟨X, hX⟩ : ∃ X : List Value, [.int .i64 0, .int .i64 ((m : Int) + 1), .int .i64 0, .slice p n q, .string ⟨#[]⟩, .string ⟨#[]⟩, .bool false, .bool false] = X := ⟨_, rfl⟩
    have hXi : (Tryz.prog.info? 59).map (·.size) = some X.length := by rw [← hX]; exact infoAn
    have hX1 : ∀ v ∈ X, v.oneCell' = true := by
      rw [← hX]
      intro v hv
      simp only [List.mem_cons, List.not_mem_nil, or_false] at hv
      rcases hv with rfl | rfl | rfl | rfl | rfl | rfl | rfl | rfl <;> rfl
    have hXl : zerA.length = X.length := by rw [← hX]; rfl
    have HX := Lib.hid hX
    rw [hX] at hA
    have HAB := Lib.hid hA
    have HBA := Lib.hid hbA
    have HB4 := Lib.hid (HB3.out.below hbA)
    clear hX hA hbA hw4
    go_wp2_with (first
      | (with_reducible refine wpList_load_blk rfl 59 (.tmp 7) rfl w3.heap.size X 59 HAB.out rfl _ Tryz.underlying59 rfl hXi ?_)
      | ((with_reducible refine wpList_store_blk rfl 59 (.tmp 6) (.tmp 23) rfl w.heap.size X zerA 59 HB4.out rfl rfl hXi hXl hX1 ?_); intro w5 hR hW; have HRES := Lib.hid hR; have HWR := Lib.hid hW; clear hR hW))
    refine bodyPost_ret (results_blk Tryz.results110 _ _ w.heap.size 59 X _ rfl HRES.out Tryz.underlying59 rfl hXi) rfl ?_
    have hT := wrote_turn HWR.out HB4.out.lt
    obtain ⟨a1, a2⟩ := iss_end HI1.out (fun k h1 h2 => ⟨h1, h2⟩) (Nat.lt_of_lt_of_le HS1.out H12.out) HO3.out (fun b hb => by have := HO2.out.2 b hb; have := HS1.out; omega) HBA.out hT
    refine ⟨p, q, y, ?_, a1, a2⟩
    unfold ansv issG
    rw [← HX.out]
    simp only [Bool.false_eq_true, if_false]
    rw [HN.out.1, show x.f.tk.length = m from by rw [← HM.out]; exact List.length_map ..]
    rfl
  | true =>
    go_upto_region 3 with fail
    have hbA : Below w3.heap.size w3 (w3.alloc (.cells #[.int .i64 0, .int .i64 ((m : Int) + 1), .int .i64 0, .slice p n q, .string ⟨#[]⟩, .string ⟨#[]⟩, .bool false, .bool false] 59)) := (Below.refl _ _).alloc (Nat.le_refl _) _
    have hA : Blk (w3.alloc (.cells #[.int .i64 0, .int .i64 ((m : Int) + 1), .int .i64 0, .slice p n q, .string ⟨#[]⟩, .string ⟨#[]⟩, .bool false, .bool false] 59)) w3.heap.size 59 [.int .i64 0, .int .i64 ((m : Int) + 1), .int .i64 0, .slice p n q, .string ⟨#[]⟩, .string ⟨#[]⟩, .bool false, .bool false] := blk_new w3 _ _ _ rfl
    obtain ⟨w4, hw4⟩ : ∃ w4, w3.alloc (.cells #[.int .i64 0, .int .i64 ((m : Int) + 1), .int .i64 0, .slice p n q, .string ⟨#[]⟩, .string ⟨#[]⟩, .bool false, .bool false] 59) = w4 := ⟨_, rfl⟩
    rw [hw4] at hbA hA ⊢
    have hI4 := HI1.out.more hbA
    have htk : y.tk.length = m + 1 := by
      have h := congrArg (fun f => f.tk.length) HI1.out.f
      have h2 : y.f.tk.length = y.tk.length := List.length_map ..
      have h3 : x.f.tk.length = x.tk.length := List.length_map ..
      simp only [addG, List.length_append, List.length_singleton] at h
      rw [h2, h3, HM.out] at h
      exact h
    have hsc : y.sc.2.2 = x.sc.2.2 := congrArg FT.sc HI1.out.f
    have hadd := add_c hI4.fam (by omega) 3 y.sc (own_goodR hI4.fam.own.sc (by rw [hsc]; exact HXS.out) (by rw [hsc]; exact HXL.out.1))
    have d3 : w4.cell? ⟨y.g, 3, none⟩ = some (lval y.sc) := hI4.fam.blk.cell 3
    rw [htk, show ((m + 1 + 1 : Nat) : Int) = (m : Int) + 2 by omega] at hadd
    rw [HI1.out.g, HN.out.2] at hadd d3
    obtain ⟨V3, n3, C3, e3⟩ : ∃ P n C, lval y.sc = .slice P n C := ⟨_, _, _, rfl⟩
    rw [e3] at hadd d3
    have HADD2 := Lib.hid hadd
    have HI4 := Lib.hid hI4
    have HAB := Lib.hid hA
    have HO4 := Lib.hid (own_belowG HO3.out hbA)
    have HB4 := Lib.hid (HB3.out.below hbA)
    have H34 := Lib.hid hbA.size
    have HSC := Lib.hid hsc
    have HL34 : Hid (w3.heap.size < w4.heap.size) := hA.lt
    have HL03 : Hid (w.heap.size < w3.heap.size) := HB3.out.lt
    clear hadd hA hI4 hbA hw4 htk hsc e3
    go_wp2_with fail
    refine HADD2.out.mono ?_
    rintro e w5 ⟨rfl, hf5⟩
    obtain ⟨z, hz⟩ := IS.of_fto hf5
    have HI5 : Hid (IS w w5 x z (addG (addG x.f 2 l) 3 x.sc.2.2) (fun k => (w.heap.size ≤ k ∧ k < w2.heap.size) ∨ (w3.heap.size ≤ k ∧ k < w4.heap.size))) := by
      have h := (HI4.out.trans hz).weak (E2 := fun k => (w.heap.size ≤ k ∧ k < w2.heap.size) ∨ (w3.heap.size ≤ k ∧ k < w4.heap.size)) fun k hk => Or.inl hk
      rw [HI4.out.f, HSC.out] at h
      exact h
    have hA5 := HI4.out.blk hz HAB.out (Or.inr ⟨Nat.le_refl _, HL34.out⟩)
    have hB5 := HI4.out.blk hz HB4.out (Or.inl ⟨Nat.le_refl _, Nat.lt_of_lt_of_le HS1.out H12.out⟩)
    have HO5 : Hid (w5.ownsRow w.heap.size 9 1 (.slice p l.length q) l.length (cells senc l)) := HI4.out.row hz HO4.out fun b hb => Or.inl (by have := HO2.out.2 b hb; have := HS1.out; omega)
    have a2 : w5.cell? ⟨w3.heap.size, 2, none⟩ = some (.int .i64 0) := hA5.cell 2
    have f2 := hA5.frozen 2
    have hA6 : Blk (w5.setCell ⟨w3.heap.size, 2, none⟩ (.int .i64 ((m : Int) + 2))) w3.heap.size 59 [.int .i64 0, .int .i64 ((m : Int) + 1), .int .i64 ((m : Int) + 2), .slice p n q, .string ⟨#[]⟩, .string ⟨#[]⟩, .bool false, .bool false] := hA5.set 2 _
    have hB6 := blk_turn hB5 (Turn.set (S := fun k => k = w3.heap.size) w5 w3.heap.size 2 (.int .i64 ((m : Int) + 2)) rfl) (by have := HL03.out; omega)
    have hT6 := Turn.set (S := fun k => k = w3.heap.size) w5 w3.heap.size 2 (.int .i64 ((m : Int) + 2)) rfl
    have HO6 := Lib.hid (own_turn HO5.out hT6 fun b hb e => by have := HO2.out.2 b hb; have := H23.out; omega)
    have HI6 := Lib.hid ((HI5.out.own hT6 fun k hk => Or.inr (by rw [hk]; exact ⟨Nat.le_refl _, HL34.out⟩)).weak (E2 := fun k => w.heap.size ≤ k ∧ k < w2.heap.size) fun k hk => Or.inl hk)
    clear hf5 hz HADD2 hA5 hB5 HI4 hT6
    go_upto_region 4 with fail
    obtain ⟨w6, hw6⟩ : ∃ w6, w5.setCell ⟨w3.heap.size, 2, none⟩ (.int .i64 ((m : Int) + 2)) = w6 := ⟨_, rfl⟩
    rw [hw6] at hA6 hB6 HO6 HI6 ⊢
    obtain ⟨X, hX⟩ : ∃ X : List Value, [.int .i64 0, .int .i64 ((m : Int) + 1), .int .i64 ((m : Int) + 2), .slice p n q, .string ⟨#[]⟩, .string ⟨#[]⟩, .bool false, .bool false] = X := ⟨_, rfl⟩
    have hXi : (Tryz.prog.info? 59).map (·.size) = some X.length := by rw [← hX]; exact infoAn
    have hX1 : ∀ v ∈ X, v.oneCell' = true := by
      rw [← hX]
      intro v hv
      simp only [List.mem_cons, List.not_mem_nil, or_false] at hv
      rcases hv with rfl | rfl | rfl | rfl | rfl | rfl | rfl | rfl <;> rfl
    have hXl : zerA.length = X.length := by rw [← hX]; rfl
    have HX := Lib.hid hX
    rw [hX] at hA6
    have HAB6 := Lib.hid hA6
    have HB6 := Lib.hid hB6
    clear hX hA6 hB6 hw6 a2 f2
    go_wp2_with (first
      | (with_reducible refine wpList_load_blk rfl 59 (.tmp 7) rfl w3.heap.size X 59 HAB6.out rfl _ Tryz.underlying59 rfl hXi ?_)
      | ((with_reducible refine wpList_store_blk rfl 59 (.tmp 6) (.tmp 23) rfl w.heap.size X zerA 59 HB6.out rfl rfl hXi hXl hX1 ?_); intro w7 hR hW; have HRES := Lib.hid hR; have HWR := Lib.hid hW; clear hR hW))
    refine bodyPost_ret (results_blk Tryz.results110 _ _ w.heap.size 59 X _ rfl HRES.out Tryz.underlying59 rfl hXi) rfl ?_
    have hT := wrote_turn HWR.out HB6.out.lt
    obtain ⟨a1, a2⟩ := iss_end HI6.out (fun k h1 h2 => ⟨h1, h2⟩) (Nat.lt_of_lt_of_le HS1.out H12.out) HO6.out (fun b hb => by have := HO2.out.2 b hb; have := HS1.out; omega) (Below.refl _ _) hT
    refine ⟨p, q, z, ?_, a1, a2⟩
    unfold ansv issG
    rw [← HX.out]
    simp only [if_true]
    rw [HN.out.1, show x.f.tk.length = m from by rw [← HM.out]; exact List.length_map ..]
    rfl
end Go.Proofs.YthagdkipipldlaaGreatDoor.gra
