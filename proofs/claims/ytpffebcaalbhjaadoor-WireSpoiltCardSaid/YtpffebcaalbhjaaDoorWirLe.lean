/- WireNil by WApi. -/
import Derived.Test.YtpffebcaalbhjaaDoorWirK
import Derived.Test.YtpffebcaalbhjaaDoorBaseA
namespace Go.Proofs.YtpffebcaalbhjaaDoor.wir
open Go.RowKit
open Go.Proofs.YtpffebcaalbhjaaDoor.oct Go.Proofs.YtpffebcaalbhjaaDoor.ref Go.Proofs.YtpffebcaalbhjaaDoor.rows Go.Proofs.YtpffebcaalbhjaaDoor.rowg
open Go.Lib (byteCells)

theorem Stay.none {w w' : World} {b : Nat} (h : Stay b b w w') (B : Nat) (hB : B ≤ w.heap.size) : Below B w w' := ⟨h.os, h.tape, h.output, h.size, fun k hk => h.block k (by omega) (by omega)⟩
set_option maxRecDepth 100000 in
set_option maxHeartbeats 4000000 in
theorem law_nil {T' : World → Prop} {Cap : Nat → Prop} (X : WApi T' Cap) (x : PutA) (w : World) (hx : GoodP w x) (hc7 : Cap 7) (ht : T' w) :
    Calls Tryd.prog 9 #[.agg (penc x).toArray] w fun e w' => e = .returned (.bool true) ∧ Below w.heap.size w w' := by
  have hb0 := (Below.refl w.heap.size w).alloc (Nat.le_refl _) (.cells #[.int .i64 x.k, .int .i64 x.n, .string ⟨x.s.toArray⟩, .slice x.p x.l.length x.c] 43)
  have HP := Lib.hid (put_c X _ (.pointer none) .nil x w _ (X.wnil (w.alloc (.cells #[.int .i64 x.k, .int .i64 x.n, .string ⟨x.s.toArray⟩, .slice x.p x.l.length x.c] 43)) _ (Nat.le_refl _)) hx hb0 hb0.size (X.capmono hc7 (Nat.zero_le _)))
  have HB0 : Hid (Blk (w.alloc (.cells #[.int .i64 x.k, .int .i64 x.n, .string ⟨x.s.toArray⟩, .slice x.p x.l.length x.c] 43)) w.heap.size 43 [.int .i64 x.k, .int .i64 x.n, .string ⟨x.s.toArray⟩, .slice x.p x.l.length x.c]) := blk_new w _ _ _ rfl
  have HBL := Lib.hid hb0
  have HT := Lib.hid (fun w1 (hb : Below w.heap.size w w1) => X.tbelow _ _ ht hb)
  have HK := Lib.hid (fun w1 (hb : Below w.heap.size w w1) => wknown_c X w1 (X.tbelow _ _ ht hb) hc7)
  unfold penc at HP ⊢
  unfold WrA at HP
  clear hb0 hx ht hc7
  go_enter Tryd.func9, Tryd.ntmps9
  go_wp2_with fail
  refine HP.out.mono ?_
  rintro e w1 ⟨rfl, hw1, hb1⟩
  have HF := Lib.hid (X.wframe _ _ _ w1 (HT.out w1 (bnext HBL.out hb1)) hw1)
  have HB1 := Lib.hid (bnext HBL.out hb1)
  have HZ1 := Lib.hid (HB0.out.below hb1)
  clear HP HBL HB0 hw1 hb1
  go_wp2_with fail
  refine HF.out.mono ?_
  rintro e w2 ⟨u, rfl, ho, hb2⟩
  obtain ⟨p2, c2, rfl⟩ := own_slice ho
  have HB2 := Lib.hid (bnext HB1.out hb2)
  have Z2 := HZ1.out.below hb2
  have HL0 : Hid ((WS.frame (WS.nil.put x.put)).2.length = 0) := rfl
  have HE0 : Hid ((WS.frame (WS.nil.put x.put)).1 = 12) := rfl
  obtain ⟨n, hn⟩ : ∃ n, (WS.frame (WS.nil.put x.put)).2.length = n := ⟨_, rfl⟩
  rw [hn] at HL0 ⊢
  rw [HE0.out, HL0.out]
  obtain ⟨k, hk⟩ : ∃ k, x.k = k := ⟨_, rfl⟩
  rw [hk] at Z2 ⊢
  clear HF HB1 HZ1 ho hb2 hn HL0 HE0 HT hk
  have C0 := Lib.hid (fun z : After w2 => after_of z (HK.out z.v (bnext HB2.out z.below)))
  have C1 : Hid (∀ z : After w2, Calls Tryd.prog 18 #[.pointer none, .int .i64 k] z.v fun e w'' => e = .returned (.agg #[.int .i64 k, .int .i64 0, .string ⟨#[]⟩, .slice none 0 0]) ∧ ∃ y : After w2, w'' = y.v) := fun z => after_of z ((read_bad X k z.v (X.rnil z.v z.v.heap.size z.v.heap.size (Nat.le_refl _) (Nat.le_refl _))).mono fun e w' h => ⟨h.1, h.2.2.none _ (Nat.le_refl _)⟩)
  have C2 : Hid (∀ z : After w2, Calls Tryd.prog 20 #[.agg #[.int .i64 k, .int .i64 0, .string ⟨#[]⟩, .slice none 0 0], .agg #[.int .i64 k, .int .i64 0, .string ⟨#[]⟩, .slice none 0 0]] z.v fun e w'' => e = .returned (.bool true) ∧ ∃ y : After w2, w'' = y.v) := fun z => after_of z (by
    have hg : GoodP z.v ⟨k, 0, [], none, 0, []⟩ := ⟨⟨(by show (-9223372036854775808 : Int) ≤ 0; omega), (by show (0 : Int) ≤ 9223372036854775807; omega)⟩, (by simp), ins_none _, fun _ => rfl, Nat.le_refl _, by simp, by simp⟩
    have h := psame_c ⟨k, 0, [], none, 0, []⟩ ⟨k, 0, [], none, 0, []⟩ z.v hg hg
    rw [decide_eq_true rfl] at h
    exact h)
  have C3 : Hid (∀ z : After w2, Calls Tryd.prog 21 #[.pointer none] z.v fun e w'' => e = .returned (.int .i64 12) ∧ ∃ y : After w2, w'' = y.v) := fun z => after_of z (X.rend z.v (X.rnil z.v z.v.heap.size z.v.heap.size (Nat.le_refl _) (Nat.le_refl _)))
  have d0 : ∀ z : After w2, z.v.cell? ⟨w.heap.size, 0, none⟩ = some (.int .i64 k) := fun z => (Z2.below z.below).cell 0
  clear Z2
  go_wp2_with fail
  refine wp_region_after (by kernel_rfl) (by kernel_rfl) ?_
  repeat (go_big_quiet_step (first | (rename_i x; go_at_call 14; with_reducible exact C0.out x) | (rename_i x; go_at_call 18; with_reducible exact C1.out x) | (rename_i x; go_at_call 20; with_reducible exact C2.out x) | (rename_i x; go_at_call 21; with_reducible exact C3.out x)))
  refine wpQuiet_nil ?_
  rintro ⟨wq, hxb⟩
  dsimp only
  have HXQ := Lib.hid (bnext HB2.out hxb)
  clear hxb C0 C1 C2 C3 d0
  go_wp2_with fail
  go_ret
  exact ⟨rfl, HXQ.out⟩
end Go.Proofs.YtpffebcaalbhjaaDoor.wir
