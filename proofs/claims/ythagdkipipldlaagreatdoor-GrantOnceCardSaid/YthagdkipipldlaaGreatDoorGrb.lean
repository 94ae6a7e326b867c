/- A family in memory changes: FTo; the developers' add. No condition beyond what slices and texts are. -/
import Derived.Test.YthagdkipipldlaaGreatDoorGra
import Derived.Deep.AppendLies
namespace Go.Proofs.YthagdkipipldlaaGreatDoor.gra
open Go.RowKit
open Go.Proofs.YthagdkipipldlaaGreatDoor.oct Go.Proofs.YthagdkipipldlaaGreatDoor.ref Go.Proofs.YthagdkipipldlaaGreatDoor.rows Go.Proofs.YthagdkipipldlaaGreatDoor.rowg Go.Proofs.YthagdkipipldlaaGreatDoor.mpt Go.Proofs.YthagdkipipldlaaGreatDoor.trn Go.Proofs.YthagdkipipldlaaGreatDoor.krd
open Go.Proofs.YthagdkipipldlaaGreatDoor.scp (tx senc senc_len senc_one InS ins_below ins_cell ins_one lt Lst lval lenc GoodL FitS RowA own_good infoStr)

/-- the blocks of a family, and what is new -/
def xn (x : DF) (w w' : World) (i : Nat) : Prop := x.has i ∨ (w.heap.size ≤ i ∧ i < w'.heap.size)
/-- what a call makes of a family -/
def FTo (w w' : World) (x : DF) (f : FT) : Prop := ∃ y : DF, y.id = x.id ∧ y.g = x.g ∧ y.f = f ∧ FamM w' (xn x w w') y ∧ Turn x.has w w'
theorem FTo.same {w w' : World} {R : Nat → Prop} {x : DF} (h : FamM w R x) (hb : Below w.heap.size w w') : FTo w w' x x.f :=
  ⟨x, rfl, rfl, rfl, ⟨h.blk.below hb, h.own.below hb, fun _ hk => Or.inl hk⟩, Turn.of_below hb⟩
/-- one of the family's own cells is turned -/
theorem FamM.cell {w w1 : World} {R : Nat → Prop} {x y : DF} (h : FamM w R x) (hb : Below w.heap.size w w1) (i : Nat) (v : Value) (hg : y.g = x.g) (hi : y.id = x.id) (he : fenc y = (fenc x).set i v) (hsc : y.sc = x.sc) (htp : y.tp = x.tp) (htc : y.tc = x.tc) (htk : y.tk = x.tk) (hlp : y.lp = x.lp) (hlc : y.lc = x.lc) (hle : y.le = x.le) :
    FTo w (w1.setCell ⟨x.g, i, none⟩ v) x y.f := by
  have t : Turn (fun k => k = x.g) w1 (w1.setCell ⟨x.g, i, none⟩ v) := Turn.set _ _ _ _ rfl
  have ho : OwnF (w1.setCell ⟨x.g, i, none⟩ v) 0 x := (h.own.below hb).turn t fun k hk e => by subst e; exact (h.own.below hb).noBlk hk (h.blk.below hb) (Or.inl rfl)
  have hrow : ∀ k, y.row k ↔ x.row k := fun k => by unfold DF.row DF.tv DF.lv; rw [hsc, htp, htc, htk, hlp, hlc, hle]
  refine ⟨y, hi, hg, rfl, ⟨?_, ?_, ?_⟩, ?_⟩
  · rw [hg, he]; exact (h.blk.below hb).set i v
  · refine ⟨by rw [hsc]; exact ho.sc, by unfold DF.tv; rw [htp, htc, htk]; exact ho.tk, by rw [htk]; exact ho.ts, by unfold DF.lv; rw [hlp, hlc, hle]; exact ho.le⟩
  · rintro k (rfl | hk)
    · exact Or.inl (Or.inl hg)
    · exact Or.inl (Or.inr ((hrow k).1 hk))
  · exact (Turn.of_below hb).next (t.mono fun k _ e => Or.inl e)
/-- one call behind another -/
theorem FTo.next {w w1 w2 : World} {x : DF} {f : FT} (h : FTo w w1 x f) (h2 : ∀ y : DF, y.id = x.id → y.g = x.g → y.f = f → FamM w1 (xn x w w1) y → ∃ f2, FTo w1 w2 y f2) : ∃ f2, FTo w w2 x f2 := by
  obtain ⟨y, e1, e2, e3, e4, e5⟩ := h
  obtain ⟨f2, z, d1, d2, d3, d4, d5⟩ := h2 y e1 e2 e3 e4
  refine ⟨f2, z, d1.trans e1, d2.trans e2, d3, d4.mono fun k hk => ?_, ?_⟩
  · rcases hk with hk | hk
    · rcases e4.foot k hk with h3 | h3
      · exact Or.inl h3
      · exact Or.inr ⟨h3.1, Nat.lt_of_lt_of_le h3.2 d5.size⟩
    · exact Or.inr ⟨Nat.le_trans e5.size hk.1, hk.2⟩
  · refine ⟨d5.os.trans e5.os, d5.tape.trans e5.tape, d5.output.trans e5.output, Nat.le_trans e5.size d5.size, fun k hk hn => ?_⟩
    rw [d5.block k (Nat.lt_of_lt_of_le hk e5.size) fun h3 => ?_, e5.block k hk hn]
    rcases e4.foot k h3 with h4 | h4
    · exact hn h4
    · omega
theorem fto_next {w w1 w2 : World} {x y : DF} {f2 : FT} (e1 : y.id = x.id) (e2 : y.g = x.g) (e4 : FamM w1 (xn x w w1) y) (e5 : Turn x.has w w1) (h : FTo w1 w2 y f2) : FTo w w2 x f2 := by
  obtain ⟨z, d1, d2, d3, d4, d5⟩ := h
  refine ⟨z, d1.trans e1, d2.trans e2, d3, d4.mono fun k hk => ?_, ?_⟩
  · rcases hk with hk | hk
    · rcases e4.foot k hk with h3 | h3
      · exact Or.inl h3
      · exact Or.inr ⟨h3.1, Nat.lt_of_lt_of_le h3.2 d5.size⟩
    · exact Or.inr ⟨Nat.le_trans e5.size hk.1, hk.2⟩
  · refine ⟨d5.os.trans e5.os, d5.tape.trans e5.tape, d5.output.trans e5.output, Nat.le_trans e5.size d5.size, fun k hk hn => ?_⟩
    rw [d5.block k (Nat.lt_of_lt_of_le hk e5.size) fun h3 => ?_, e5.block k hk hn]
    rcases e4.foot k h3 with h4 | h4
    · exact hn h4
    · omega
/-- a token more -/
theorem FamM.token {w w1 w2 : World} {R : Nat → Prop} {x : DF} (h : FamM w R x) (hb : Below w.heap.size w w1) (k : Int) (p2 : Option Addr) (c2 : Nat) (l : List T) (o : Obj) (ho : w1.ownsRow w.heap.size 9 1 (.slice p2 l.length c2) l.length (cells senc l)) {g2 cap : Nat}
    (hg : (w1.alloc o).grownBy w2 x.tv.ownBlock) (how : w2.ownsRow 0 50 3 (.slice (some ⟨g2, 0, none⟩) (x.tk.length + 1) cap) (x.tk.length + 1) (cells ienc x.tk ++ ienc ⟨k, (p2, c2, l), false⟩)) (hn : x.tv.ownBlock = some g2 ∨ w.heap.size ≤ g2) :
    FTo w (w2.setCell ⟨x.g, 8, none⟩ (.slice (some ⟨g2, 0, none⟩) (x.tk.length + 1) cap)) x (addG x.f k l) := by
  have hba : Below w.heap.size w (w1.alloc o) := hb.alloc hb.size o
  have t1 : Turn (fun i => x.tv.ownBlock = some i) (w1.alloc o) w2 := Turn.of_row hg fun b e => e
  have hx1 := h.own.below hba
  have hB1 := h.blk.below hba
  have hB2 : Blk w2 x.g 82 (fenc x) := blk_turn hB1 t1 fun e => hx1.noBlk (Or.inr (Or.inl e)) hB1 (Or.inl rfl)
  have t2 : Turn (fun i => i = x.g) w2 (w2.setCell ⟨x.g, 8, none⟩ (.slice (some ⟨g2, 0, none⟩) (x.tk.length + 1) cap)) := Turn.set _ _ _ _ rfl
  have keep : ∀ {B e z n : Nat} {v : Value} {xs : List Value}, (w1.alloc o).ownsRow B e z v n xs → e ≠ 50 → e ≠ 82 → (w2.setCell ⟨x.g, 8, none⟩ (.slice (some ⟨g2, 0, none⟩) (x.tk.length + 1) cap)).ownsRow B e z v n xs := fun {B e z n v xs} hr h1 h2 => by
    have a1 := own_turn hr t1 fun b hb2 e2 => h1 (row_row hr hx1.tk hb2 e2)
    exact own_turn a1 t2 fun b hb2 e2 => h2 (by subst e2; exact (row_blk a1 hb2 hB2).symm)
  have hsz : w.heap.size ≤ w2.heap.size := Nat.le_trans hba.size hg.size
  have hg2 : g2 < w2.heap.size := (how.lt g2 rfl).2
  refine ⟨⟨x.g, x.id, x.cl, x.us, x.sc, x.re, x.ch, x.me, x.code, some ⟨g2, 0, none⟩, cap, x.tk ++ [⟨k, (p2, c2, l), false⟩], x.rev, x.lp, x.lc, x.le⟩, rfl, rfl, ?_, ⟨?_, ⟨?_, ?_, ?_, ?_⟩, ?_⟩, ?_⟩
  · unfold DF.f addG
    simp only [List.map_append, List.map_cons, List.map_nil]
    rfl
  · have := hB2.set 8 (.slice (some ⟨g2, 0, none⟩) (x.tk.length + 1) cap)
    unfold fenc DF.tv
    simp only [List.length_append, List.length_singleton]
    exact this
  · exact keep hx1.sc (by decide) (by decide)
  · have a1 := own_turn how t2 fun b hb2 e2 => by subst e2; exact absurd (row_blk how hb2 hB2) (by decide)
    unfold DF.tv
    simp only [List.length_append, List.length_singleton]
    rw [cells_append, cells_one]
    exact a1
  · intro t ht
    rcases List.mem_append.1 ht with ht | ht
    · exact keep (hx1.ts t ht) (by decide) (by decide)
    · rw [List.mem_singleton.1 ht]
      exact keep (own_baseR (ho.alloc o) (Nat.zero_le _)) (by decide) (by decide)
  · exact keep hx1.le (by decide) (by decide)
  · rintro i (rfl | hi)
    · exact Or.inl (Or.inl rfl)
    · have hnew : ∀ i, w.heap.size ≤ i → i < w2.heap.size → xn x w (w2.setCell ⟨x.g, 8, none⟩ (.slice (some ⟨g2, 0, none⟩) (x.tk.length + 1) cap)) i := fun i a b => Or.inr ⟨a, by simpa using b⟩
      rcases hi with e | e | ⟨t, ht, e⟩ | e
      · exact Or.inl (Or.inr (Or.inl e))
      · have : g2 = i := by unfold DF.tv at e; injection e
        subst this
        rcases hn with hn | hn
        · exact Or.inl (Or.inr (Or.inr (Or.inl hn)))
        · exact hnew _ hn hg2
      · rcases List.mem_append.1 ht with ht | ht
        · exact Or.inl (Or.inr (Or.inr (Or.inr (Or.inl ⟨t, ht, e⟩))))
        · rw [List.mem_singleton.1 ht] at e
          have := ho.lt i e
          have h3 : w1.heap.size ≤ w2.heap.size := Nat.le_trans (by simp) hg.size
          exact hnew i this.1 (by omega)
      · exact Or.inl (Or.inr (Or.inr (Or.inr (Or.inr e))))
  · exact (Turn.of_below hba).next ((t1.mono fun i _ e => Or.inr (Or.inr (Or.inl e))).next (t2.mono fun i _ e => Or.inl e))
theorem i_new (W : World) (t : IM) (e : Nat) : ∀ j u, (ienc t)[j]? = some u → (W.alloc (.cells #[.int .i64 t.k, lval t.sc, .bool t.used] e)).cell? ((⟨W.heap.size, 0, none⟩ : Addr).add j) = some u := new_cellsG W W.heap.size e rfl (ienc t)
set_option maxRecDepth 100000 in
set_option maxHeartbeats 8000000 in
theorem add_c {w : World} {R : Nat → Prop} {x : DF} (h : FamM w R x) (hl : x.tk.length ≤ 4194304) (k : Int) (s : Lst) (hs : GoodL w s) :
    Calls Tryz.prog 138 #[dptr x.g, .int .i64 k, lval s] w fun e w' => e = .returned (.int .i64 (x.tk.length + 1 : Nat)) ∧ FTo w w' x (addG x.f k s.2.2) := by
  obtain ⟨P, C, l⟩ := s
  show Calls _ _ #[dptr x.g, .int .i64 k, .slice P l.length C] w fun e w' => _ ∧ FTo w w' x (addG x.f k l)
  have HC : Hid (∀ W, Below w.heap.size w W → Calls Tryz.prog 71 #[.slice P l.length C] W fun e w' => ∃ p c, e = .returned (.slice p l.length c) ∧ w'.ownsRow W.heap.size 9 1 (.slice p l.length c) l.length (cells senc l) ∧ GoodL w' (p, c, l) ∧ Below W.heap.size W w') := Lib.hid fun W hW => cloned_c (P, C, l) W ((LL.of_good hs).below hW) hs.few
  have HB1 : Hid (∀ W, Below w.heap.size w W → Blk W x.g 82 (fenc x)) := Lib.hid fun W hW => h.blk.below hW
  have HOW : Hid (∀ W, Below w.heap.size w W → W.ownsRow 0 50 3 (.slice x.tp x.tk.length x.tc) x.tk.length (cells ienc x.tk)) := Lib.hid fun W hW => (h.own.below hW).tk
  have HFIN : Hid (∀ (w1 w2 : World) (p2 : Option Addr) (c2 : Nat) (o : Obj) (g2 cap : Nat), Below w.heap.size w w1 → w1.ownsRow w.heap.size 9 1 (.slice p2 l.length c2) l.length (cells senc l) → (w1.alloc o).grownBy w2 (Value.slice x.tp x.tk.length x.tc).ownBlock → w2.ownsRow 0 50 3 (.slice (some ⟨g2, 0, none⟩) (x.tk.length + 1) cap) (x.tk.length + 1) (cells ienc x.tk ++ ienc ⟨k, (p2, c2, l), false⟩) → ((Value.slice x.tp x.tk.length x.tc).ownBlock = some g2 ∨ w.heap.size ≤ g2) → FTo w (w2.setCell ⟨x.g, 8, none⟩ (.slice (some ⟨g2, 0, none⟩) (x.tk.length + 1) cap)) x (addG x.f k l)) := by
    intro w1 w2 p2 c2 o g2 cap a1 a2 a3 a4 a5
    exact h.token a1 k p2 c2 l o a2 a3 a4 a5
  have HNG : Hid ((Value.slice x.tp x.tk.length x.tc).ownBlock ≠ some x.g) := fun e => h.own.noBlk (Or.inr (Or.inl e)) h.blk (Or.inl rfl)
  have hglt : x.g < w.heap.size := h.blk.lt
  have c8 : w.cell? ⟨x.g, 8, none⟩ = some (.slice x.tp x.tk.length x.tc) := h.blk.cell 8
  obtain ⟨G, hG⟩ : ∃ G, addG x.f k l = G := ⟨_, rfl⟩
  rw [hG] at HFIN ⊢
  obtain ⟨n, hn⟩ : ∃ n, x.tk.length = n := ⟨_, rfl⟩
  rw [hn] at HOW HFIN HNG c8 hl ⊢
  obtain ⟨g, hgx⟩ : ∃ g, x.g = g := ⟨_, rfl⟩
  rw [hgx] at HB1 HFIN HNG c8 hglt ⊢
  obtain ⟨j0, hj, hy0, hy1, hy2⟩ := info_parts infoIss
  have HB : Hid (Below w.heap.size w w) := Lib.hid (Below.refl _ _)
  have HN := Lib.hid hn
  clear h hs hG hn hgx
  go_enter Tryz.func138, Tryz.ntmps138
  go_wp2_with fail
  go_region_law (first
    | (refine step_append_lies _ rfl (.tmp 12) (.tmp 17) 38 rfl 0 50 j0 (.agg #[.int .i64 0, .slice none 0 0, .bool false]) 3 40 Tryz.underlying38 hj hy0 hy1 hy2 rfl (by decide) _ _ _ rfl (HOW1.out.alloc _) ⟨w1.heap.size, 0, none⟩ 1 1 (ienc ⟨k, (q, c, l), false⟩) rfl rfl (i_new w1 ⟨k, (q, c, l), false⟩ _) (ienc_one _) (by decide) (by unfold maxLen; omega) (by omega) (Nat.zero_le _) _ rfl ?_; intro g2 cap w2 how hgr hg2 _; have HHOW := Lib.hid how; have HGR : Hid ((w1.alloc (.cells #[.int .i64 k, .slice q l.length c, .bool false] 50)).grownBy w2 (Value.slice x.tp n x.tc).ownBlock) := hgr; have HG2 : Hid ((Value.slice x.tp n x.tc).ownBlock = some g2 ∨ w.heap.size ≤ g2) := Or.imp id (fun e => by have hsz := HBW.out.size; simp at e; omega) hg2; have hb2 : Blk w2 g 82 _ := (hgr.block g (by simp; omega) (fun e => HNG.out e.symm)).trans (blk_old HBK.out _); have d1 : w2.cell? ⟨g, 8, none⟩ = some (.slice x.tp n x.tc) := (by rw [← HN.out]; exact hb2.cell 8); have e1 := hb2.frozen 8; have hl2 := hb2.lt; clear how hgr hg2 hb2)
    | (go_simp; go_at_call 71; (with_reducible refine (HC.out _ ?_).mono ?_); exact HB.out.drew; rintro e w1 ⟨q, c, rfl, hnv, _, hbv⟩; have hbw := HB.out.drew.trans (hbv.mono HB.out.size); have HBW := Lib.hid hbw; have HNV : Hid (w1.ownsRow w.heap.size 9 1 (.slice q l.length c) l.length (cells senc l)) := own_baseR hnv HB.out.size; have HOW1 := Lib.hid (HOW.out w1 hbw); have HBK := Lib.hid (HB1.out w1 hbw); have hgl1 : g < w1.heap.size := Nat.lt_of_lt_of_le hglt hbw.size; have hg3 : g ≠ w1.heap.size := Nat.ne_of_lt hgl1; have hg4 : w1.heap.size ≠ g := Nat.ne_of_gt hgl1; have cw8 : w1.cell? ⟨g, 8, none⟩ = some (.slice x.tp n x.tc) := (by rw [← HN.out]; exact HBK.out.cell 8); clear hnv hbw hbv))
  all_goals
    have HFF := Lib.hid (HFIN.out w1 w2 q c _ g2 cap HBW.out HNV.out HGR.out HHOW.out HG2.out)
    go_wp2_with fail
    go_ret
    exact ⟨rfl, HFF.out⟩
end Go.Proofs.YthagdkipipldlaaGreatDoor.gra
