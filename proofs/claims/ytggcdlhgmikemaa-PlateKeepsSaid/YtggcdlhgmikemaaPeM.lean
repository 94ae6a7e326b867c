/- Several texts in one: PcA, PeA, PeB, PeOp. Conditions: as each theorem says. -/
import Derived.Test.YtggcdlhgmikemaaPnA
import Derived.Test.YtggcdlhgmikemaaAptM
import Derived.Deep.CutRange
import Derived.Test.YtggcdlhgmikemaaPltOp
namespace Go.Proofs.Ytggcdlhgmikemaa.plt
open Go.RowKit
open Go.Proofs.Ytggcdlhgmikemaa.oct Go.Proofs.Ytggcdlhgmikemaa.ref Go.Proofs.Ytggcdlhgmikemaa.rows Go.Proofs.Ytggcdlhgmikemaa.rowg Go.Proofs.Ytggcdlhgmikemaa.trn
open Go.Lib (byteCells)
open Go.Proofs.Ytggcdlhgmikemaa.opn (SP spenc spenc_len GoodS)

theorem big_kept {f : F} (h : f.safe ≤ f.b.length) (hl : f.b.length ≤ 268435456) : kept f 4611686018427387904 = f.b.length := by
  unfold kept
  omega
theorem read_crash {s : PS} (h : Wf s) (ks : List Int) (i : Nat) (hi : i < s.fs.length) : readP (crashP s ks) (s.fs[i]).name = (0, (s.fs[i]).b.take (kept s.fs[i] ((ks[i]?).getD 0))) := by
  have h1 := h.each _ (List.getElem_mem hi)
  have hn : nameOk (s.fs[i]).name = true := name_ok.2 ⟨h1.2.2.1, h1.2.2.2⟩
  have hg := kept_get ks h.srt i hi
  have ha : askP (crashP s ks) (s.fs[i]).name false = (0, crashP s ks) := by
    unfold askP
    rw [if_neg (by rw [hn]; simp)]
    rfl
  unfold readP
  rw [ha]
  dsimp only
  rw [if_pos rfl]
  show ((0 : Nat), (getF (crashF s.fs ks) (s.fs[i]).name).b) = _
  rw [hg]
theorem safe_crash {s : PS} (h : Wf s) (ks : List Int) (i : Nat) (hi : i < s.fs.length) : (getF (crashP s ks).fs (s.fs[i]).name).safe = kept s.fs[i] ((ks[i]?).getD 0) := by
  show (getF (crashF s.fs ks) (s.fs[i]).name).safe = _
  rw [kept_get ks h.srt i hi]
theorem read_full {s : PS} (h : Wf s) (i : Nat) (hi : i < s.fs.length) : readP (crashP s (List.replicate s.fs.length 4611686018427387904)) (s.fs[i]).name = (0, (s.fs[i]).b) := by
  have h1 := h.each _ (List.getElem_mem hi)
  have h2 := get_le h.srt (s.fs[i]).name
  rw [get_at h.srt i hi] at h2
  have h3 := h.used
  have h4 := h.room
  have h5 : ((List.replicate s.fs.length (4611686018427387904 : Int))[i]?).getD 0 = 4611686018427387904 := by
    rw [List.getElem?_replicate, if_pos hi]
    rfl
  rw [read_crash h _ i hi, h5, big_kept h1.2.1 (by omega), List.take_length]
/-- a step of one plate's, by a new plate of the document's without room -/
theorem St.do {w wr : World} {gp : Nat} {sp : PS} (h : St w wr gp sp) (x : SP) (hg : GoodS w x) :
    Calls Try.prog 11 #[dptr gp, dptr wr.heap.size, .agg (spenc x).toArray] (wr.alloc (.cells (rzero 0) 31)) fun e w2 => (∃ b : Bool, e = .returned (.bool b)) ∧ St w w2 gp (doP sp x).2 := by
  obtain ⟨R, h1, h2, h3, h4⟩ := h
  have hq := qs_start (n := 0) (j := 0) h1 h4 h2 h3 (Below.refl _ _) (fun _ => False) (fun _ e => e.elim) (by omega) rfl
  refine (do_c hq False (fun e => e.elim) x hg).mono ?_
  rintro e w2 ⟨⟨b, e1, _⟩, ⟨R1, R2, r⟩, _⟩
  exact ⟨⟨b, e1⟩, R1, r.la, r.lo, r.below, r.ws⟩
theorem St.names {w wy : World} {gp : Nat} {sp : PS} (h : St w wy gp sp) : Calls Try.prog 15 #[dptr gp] wy fun e w' => (∃ p c, e = .returned (.slice p sp.fs.length c) ∧ w'.ownsRow wy.heap.size 9 1 (.slice p sp.fs.length c) sp.fs.length (cells tenc (sp.fs.map (·.name)))) ∧ Below wy.heap.size wy w' := by
  obtain ⟨Rp, h1, _, _, h4⟩ := h
  refine (pnames_c h1 h4).mono fun e w' ⟨v, e1, ho, hb⟩ => ⟨?_, hb⟩
  rw [List.length_map] at ho
  obtain ⟨p, c, rfl⟩ := Go.Proofs.Ytggcdlhgmikemaa.cln.own_slice ho
  exact ⟨p, c, e1, ho⟩
theorem St.synced2 {w wy : World} {g : Nat} {s : PS} (h : St w wy g s) (n : T) (hn : n.length ≤ 140737488351232) :
    Calls Try.prog 16 #[dptr g, .string ⟨n.toArray⟩] wy fun e w' => e = .returned (.int .i64 ((getF s.fs n).safe : Nat)) ∧ Below wy.heap.size wy w' := by
  obtain ⟨R, h1, h2, h3, h4⟩ := h
  exact psynced_c h1 n hn
/-- a copy; the law's rows that came to be behind w3 are none of its blocks, nor of the plate's -/
theorem St.copyZ {w w3 wy : World} {gp : Nat} {sp : PS} (h : St w w3 gp sp) (hb : Below w3.heap.size w3 wy) :
    Calls Try.prog 13 #[dptr gp] wy fun e w2 => (∃ gq, e = .returned (dptr gq) ∧ TW w w2 gp gq sp sp (fun k => w3.heap.size ≤ k ∧ k < wy.heap.size)) ∧ Below wy.heap.size wy w2 := by
  obtain ⟨R, h1, h2, h3, h4⟩ := h
  refine (pcopy_c (h1.below hb) h4).mono ?_
  rintro e w2 ⟨g2, R2, e1, e2, e3, e4⟩
  have hs := e4.size
  have hws := h3.size
  have hb2 := hb.size
  refine ⟨⟨g2, e1, R, R2, ⟨(h1.below hb).below e4, e2, fun k k1 k2 => by have := h1.lt k k1; have := e3 k k2; omega, h2, fun k hk => by have := e3 k hk; omega, fun k hk hr => by have := h1.lt k hr; omega, fun k hk hr => by have := e3 k hr; omega, fun k hk => by omega, h4, h4, bnext h3 (bnext hb e4)⟩⟩, e4⟩
/-- a call of the first plate's, which may look at rows of Z; nothing of Z turns -/
theorem TW.runZ {w wy : World} {gp gq : Nat} {sp sq s2 : PS} {Z : Nat → Prop} (h : TW w wy gp gq sp sq Z) (hw : Wf s2) {P : Program} {f : FuncId} {args : Array Value} {Q : Ending → Prop} (hc : ∀ R, (∀ k, R k → w.heap.size ≤ k) → (∀ k, Z k → ¬ R k) → PA wy R gp sp → Wf sp → Calls P f args wy fun e w2 => Q e ∧ To wy w2 R gp s2) :
    Calls P f args wy fun e w2 => Q e ∧ TW w w2 gp gq s2 sq Z ∧ Turn (fun k => ¬ Z k) wy w2 := by
  obtain ⟨Rp, Rq, h⟩ := h
  refine (hc Rp h.plo h.pz h.pa h.wp).mono fun e w2 ⟨hq, R', t1, t2, t3⟩ => ⟨hq, ⟨R', Rq, ⟨t1, h.qa.turn t2 fun k hk hr => h.two k hr hk, fun k hk hr => (t3 k hk).elim (fun e => h.two k e hr) fun e => (by have := h.qa.lt k hr; omega),
    fun k hk => (t3 k hk).elim (h.plo k) fun e => Nat.le_trans h.below.size e, h.qlo, fun k hk hr => (t3 k hr).elim (h.pz k hk) fun e => (by have := h.zlt k hk; omega), h.qz, fun k hk => Nat.lt_of_lt_of_le (h.zlt k hk) t2.size, hw, h.wq, t2.below h.below h.plo h.below.size⟩⟩, t2.mono fun k _ hr hz => h.pz k hz hr⟩
theorem TW.crash {w wy : World} {gp gq : Nat} {sp sq : PS} {Z : Nat → Prop} (h : TW w wy gp gq sp sq Z) (pk : Option Addr) (ck : Nat) (ks : List Int) (hk8 : InG ienc 1 wy pk ks) (hkl : ks.length ≤ 9223372036854775807) (hki : ∀ n ∈ ks, -9223372036854775808 ≤ n ∧ n ≤ 9223372036854775807) (ho : ks ≠ [] → ∀ i o x, pk = some ⟨i, o, x⟩ → Z i ∨ i < w.heap.size) :
    Calls Try.prog 14 #[dptr gp, .slice pk ks.length ck] wy fun e w' => e = .returned (.tuple #[]) ∧ TW w w' gp gq (crashP sp ks) sq Z ∧ Turn (fun k => ¬ Z k) wy w' := by
  have hw := h.wfp
  exact h.runZ (wf_crash hw ks) fun R lo hz hR hwf => pcrash_c hR hwf pk ck ks hk8 hkl hki fun hne i o x e _ hr => (ho hne i o x e).elim (fun e2 => hz i e2 hr) fun e2 => by have := lo i hr; omega
theorem two_new (W : World) (a b : Int) : InG ienc 1 (W.alloc (.cells #[.int .i64 a, .int .i64 b] 3)) (some ⟨W.heap.size, 0, none⟩) [a, b] := fun _ =>
  ⟨W.heap.size, 0, rfl, fun i hi j hj => by
    have hb := blk_new W #[.int .i64 a, .int .i64 b] 3 [.int .i64 a, .int .i64 b] rfl
    rw [hb.cell]
    obtain rfl : j = 0 := by omega
    have h2 : i < 2 := hi
    rcases i with _ | _ | i
    · rfl
    · rfl
    · omega⟩
/-- both of a copy's first crash: the plate itself stays -/
theorem TW.crash_two {w w2 : World} {gp gq : Nat} {sp : PS} {Z : Nat → Prop} (h : TW w w2 gp gq sp sp Z) (a b : Int) (ha : -9223372036854775808 ≤ a ∧ a ≤ 9223372036854775807) (hb : -9223372036854775808 ≤ b ∧ b ≤ 9223372036854775807) :
    Calls Try.prog 14 #[dptr gq, .slice (some ⟨w2.heap.size, 0, none⟩) 2 2] (w2.alloc (.cells #[.int .i64 a, .int .i64 b] 3)) fun e w' => e = .returned (.tuple #[]) ∧ St w w' gp sp := by
  have hb1 := (Below.refl w2.heap.size w2).alloc (Nat.le_refl _) (.cells #[.int .i64 a, .int .i64 b] 3)
  have hs : (w2.alloc (.cells #[.int .i64 a, .int .i64 b] 3)).heap.size = w2.heap.size + 1 := by simp
  have h2 := (h.more (Z2 := fun k => k = w2.heap.size) hb1 fun k hk => Or.inr ⟨by omega, by omega⟩).swap
  refine (h2.crash (some ⟨w2.heap.size, 0, none⟩) 2 [a, b] (two_new w2 a b) (show 2 ≤ 9223372036854775807 by decide) (fun n hn => ?_) (fun _ i o x e => ?_)).mono ?_
  · rcases List.mem_cons.1 hn with rfl | hn
    · exact ha
    · rw [List.mem_singleton.1 hn]; exact hb
  · injection e with e
    injection e with e
    exact Or.inl e.symm
  · rintro e w' ⟨e1, e2, _⟩
    exact ⟨e1, e2.swap.st⟩
theorem infoI64 : (Try.prog.info? 3).map (fun i => (i.zero, i.size, i.bytes)) = some (some (.int .i64 0), 1, 8) := by kernel_rfl
theorem ienc_one : ∀ a : Int, ∀ u ∈ ienc a, u.oneCell' = true := fun a u hu => by rw [List.mem_singleton.1 hu]; rfl
theorem i64_new (W : World) (x : Int) (g : Nat) (hg : g = W.heap.size) : InG ienc 1 (W.alloc (.cells #[.int .i64 x] 3)) (some ⟨g, 0, none⟩) [x] := one_new W x g hg
/-- an int of an own row -/
theorem ienc_at {w : World} {B : Nat} {v : Value} {l : List Int} (h : w.ownsRow B 3 1 v l.length (cells ienc l)) (i : Nat) (hi : i < l.length) : ∃ b, v.ownBlock = some b ∧ w.cell? ⟨b, i, none⟩ = some (.int .i64 l[i]) := by
  rcases h.2 with ⟨h1, h2⟩ | ⟨g, cap, cur, h1, _⟩
  · omega
  · obtain ⟨p, c, rfl, _, _, hin⟩ := own_g ienc_len (by decide) h
    obtain ⟨b, o, rfl, hc⟩ := hin (by omega)
    injection h1 with h1
    injection h1 with h1
    injection h1 with h1 h5
    subst h1
    subst h5
    have h4 := hc i hi 0 (by decide)
    rw [Nat.zero_add, Nat.mul_one, Nat.add_zero] at h4
    exact ⟨b, rfl, h4⟩
/-- an own row's address is a block's beginning -/
theorem own_ptr {w : World} {B e k n c m : Nat} {p : Option Addr} {xs : List Value} (h : w.ownsRow B e k (.slice p n c) m xs) {b : Nat} (hb : (Value.slice p n c).ownBlock = some b) : p = some ⟨b, 0, none⟩ := by
  rcases h.2 with ⟨h1, _⟩ | ⟨gg, cap, cur, h1, _⟩
  · rw [h1] at hb; cases hb
  · injection h1 with h1
    subst h1
    injection hb with hb
    subst hb
    rfl
/-- how things stand while the synced ones are noted: v the row of them, vn the names' -/
structure CSI (w3 wy : World) (v vn : Value) (sp : PS) (i : Nat) : Prop where
  bel : Below w3.heap.size w3 wy
  own : wy.ownsRow w3.heap.size 3 1 v i (cells ienc ((sp.fs.map fun f => (f.safe : Int)).take i))
  nam : wy.ownsRow w3.heap.size 9 1 vn sp.fs.length (cells tenc (sp.fs.map (·.name)))
theorem CSI.start {w3 wy : World} {vn : Value} {sp : PS} (hb : Below (w3.alloc (.cells #[] 3)).heap.size (w3.alloc (.cells #[] 3)) wy) (hn : wy.ownsRow (w3.alloc (.cells #[] 3)).heap.size 9 1 vn sp.fs.length (cells tenc (sp.fs.map (·.name)))) :
    CSI w3 wy (.slice (some ⟨w3.heap.size, 0, none⟩) 0 0) vn sp 0 := by
  have hb1 := (Below.refl w3.heap.size w3).alloc (Nat.le_refl _) (.cells #[] 3)
  exact ⟨bnext hb1 hb, own_belowG (own_emptyG (enc := ienc) (k := 1) w3 3) hb, Go.Proofs.Ytggcdlhgmikemaa.cln.own_base hn hb1.size⟩
theorem CSI.step {w3 wy wz w7 : World} {v v2 vn : Value} {sp : PS} {i : Nat} (h : CSI w3 wy v vn sp i) (hi : i < sp.fs.length) (hb : Below wy.heap.size wy wz) (ho : w7.ownsRow w3.heap.size 3 1 v2 (i + 1) (cells ienc ((sp.fs.map fun f => (f.safe : Int)).take i) ++ cells ienc [((sp.fs[i]).safe : Int)])) (hg : wz.grownBy w7 v.ownBlock) :
    CSI w3 w7 v2 vn sp (i + 1) := by
  have hoz := own_belowG h.own hb
  have hnz := own_belowG h.nam hb
  refine ⟨?_, ?_, ?_⟩
  · have h1 := bnext h.bel hb
    exact h1.grown hg h1.size fun k hk => (hoz.lt k hk).1
  · have hl : i < (sp.fs.map fun f => (f.safe : Int)).length := by rw [List.length_map]; exact hi
    rw [List.take_succ_eq_append_getElem hl, cells_append, List.getElem_map]
    exact ho
  · refine own_turn hnz (Turn.of_row (S := fun k => v.ownBlock = some k) hg fun b hb => hb) fun b hb1 hb2 => ?_
    obtain ⟨X, hX⟩ := row_obj hnz hb1
    obtain ⟨Y, hY⟩ := row_obj hoz hb2
    have h1 := hX.symm.trans hY
    injection h1 with h1
    injection h1 with _ h1
    exact absurd h1 (by decide)
theorem own_in {w : World} {B e n c : Nat} {p : Option Addr} {l : List Int} (h : w.ownsRow B e 1 (.slice p n c) l.length (cells ienc l)) : InG ienc 1 w p l := by
  obtain ⟨p2, c2, e2, _, _, h2⟩ := own_g ienc_len (by decide) h
  injection e2 with e2
  rw [e2]
  exact h2
/-- a plate, its copy, the rows of synced ones and of names (of the state s0) beside them -/
structure CJ (w wy : World) (gp gf : Nat) (sp sq s0 : PS) (v vn : Value) (Z : Nat → Prop) : Prop where
  tw : TW w wy gp gf sp sq Z
  vz : ∀ k, v.ownBlock = some k → Z k
  nz : ∀ k, vn.ownBlock = some k → Z k
  own : wy.ownsRow 0 3 1 v s0.fs.length (cells ienc (s0.fs.map fun f => (f.safe : Int)))
  nam : wy.ownsRow 0 9 1 vn s0.fs.length (cells tenc (s0.fs.map (·.name)))
def CSJ (w wy : World) (gp gf : Nat) (sp sq s0 : PS) (v vn : Value) : Prop := ∃ Z, CJ w wy gp gf sp sq s0 v vn Z
theorem CJ.turn {w wy w2 : World} {gp gf : Nat} {sp sq sp2 sq2 s0 : PS} {v vn : Value} {Z Z2 : Nat → Prop} (h : CJ w wy gp gf sp sq s0 v vn Z) (hz : ∀ k, Z k → Z2 k) (h2 : TW w w2 gp gf sp2 sq2 Z2) (ht : Turn (fun k => ¬ Z k) wy w2) : CJ w w2 gp gf sp2 sq2 s0 v vn Z2 :=
  ⟨h2, fun k hk => hz k (h.vz k hk), fun k hk => hz k (h.nz k hk), own_turn h.own ht fun b hb hn => hn (h.vz b hb), own_turn h.nam ht fun b hb hn => hn (h.nz b hb)⟩
theorem CSJ.same {w wy w2 : World} {gp gf : Nat} {sp sq s0 : PS} {v vn : Value} (h : CSJ w wy gp gf sp sq s0 v vn) (hb : Below wy.heap.size wy w2) : CSJ w w2 gp gf sp sq s0 v vn := by
  obtain ⟨Z, h⟩ := h
  exact ⟨Z, h.turn (fun _ => id) (h.tw.same hb) (Turn.of_below hb)⟩
theorem CSI.copy {w w3 wy : World} {gp : Nat} {v vn : Value} {sp : PS} (h : CSI w3 wy v vn sp sp.fs.length) (hs : St w w3 gp sp) :
    Calls Try.prog 13 #[dptr gp] wy fun e w2 => ∃ gf, e = .returned (dptr gf) ∧ CSJ w w2 gp gf sp sp sp v vn := by
  refine (hs.copyZ h.bel).mono ?_
  rintro e w2 ⟨⟨gf, e1, htw⟩, hb⟩
  have ho := h.own
  rw [List.take_of_length_le (by rw [List.length_map]; exact Nat.le_refl _)] at ho
  exact ⟨gf, e1, _, htw, fun k hk => ho.lt k hk, fun k hk => h.nam.lt k hk, own_belowG (Go.Proofs.Ytggcdlhgmikemaa.cln.own_base ho (Nat.zero_le _)) hb, own_belowG (Go.Proofs.Ytggcdlhgmikemaa.cln.own_base h.nam (Nat.zero_le _)) hb⟩
/-- the copy crashes, by a row that has come to be behind w5 -/
theorem CSJ.crash_full {w w5 wy : World} {gp gf : Nat} {sp sq s0 : PS} {v vn : Value} (h : CSJ w w5 gp gf sp sq s0 v vn) (hb : Below w5.heap.size w5 wy) (pm : Option Addr) (cm : Nat) (ks : List Int) (ho : wy.ownsRow w5.heap.size 3 1 (.slice pm ks.length cm) ks.length (cells ienc ks)) (hkl : ks.length ≤ 9223372036854775807) (hki : ∀ n ∈ ks, -9223372036854775808 ≤ n ∧ n ≤ 9223372036854775807) :
    Calls Try.prog 14 #[dptr gf, .slice pm ks.length cm] wy fun e w' => e = .returned (.tuple #[]) ∧ CSJ w w' gp gf sp (crashP sq ks) s0 v vn := by
  obtain ⟨Z, h⟩ := h
  have h2 := h.turn (Z2 := fun k => Z k ∨ (w5.heap.size ≤ k ∧ k < wy.heap.size)) (fun _ => Or.inl) (h.tw.more hb fun k hk => hk) (Turn.of_below hb)
  refine (h2.tw.swap.crash pm cm ks (own_in ho) hkl hki fun _ i o x e => Or.inl (Or.inr ?_)).mono ?_
  · subst e
    rcases ho.2 with ⟨h1, _⟩ | ⟨gg, cap, cur, h1, h3, h4, _⟩
    · cases h1
    · injection h1 with h1
      injection h1 with h1
      injection h1 with h1
      subst h1
      exact ⟨h3, (Array.getElem?_eq_some_iff.1 h4).1⟩
  · rintro e w' ⟨e1, e2, e3⟩
    exact ⟨e1, _, h2.turn (fun _ => id) e2.swap e3⟩
theorem CSJ.crash_p {w wy : World} {gp gf : Nat} {sp sq s0 : PS} {v vn : Value} (h : CSJ w wy gp gf sp sq s0 v vn) (pk : Option Addr) (ck : Nat) (ks : List Int) (hk : InG ienc 1 w pk ks) (hkl : ks.length ≤ 9223372036854775807) (hki : ∀ n ∈ ks, -9223372036854775808 ≤ n ∧ n ≤ 9223372036854775807) :
    Calls Try.prog 14 #[dptr gp, .slice pk ks.length ck] wy fun e w' => e = .returned (.tuple #[]) ∧ CSJ w w' gp gf (crashP sp ks) sq s0 v vn := by
  obtain ⟨Z, h⟩ := h
  refine (h.tw.crash pk ck ks (InG.below ienc_len (by decide) hk h.tw.below) hkl hki fun hne i o x e => Or.inr (out_of_ing hk hne e)).mono ?_
  rintro e w' ⟨e1, e2, e3⟩
  exact ⟨e1, _, h.turn (fun _ => id) e2 e3⟩
/-- what a place of the rows has -/
theorem CSJ.at {w w9 wy : World} {gp gf : Nat} {sp sq s0 : PS} {ps pn : Option Addr} {L cs cn : Nat} (h : CSJ w w9 gp gf sp sq s0 (.slice ps L cs) (.slice pn L cn)) (hb : Below w9.heap.size w9 wy) (i : Nat) (hi : i < s0.fs.length) :
    ∃ b1 b2, pn = some ⟨b1, 0, none⟩ ∧ ps = some ⟨b2, 0, none⟩ ∧ wy.cell? ⟨b1, i, none⟩ = some (.string ⟨(s0.fs[i]).name.toArray⟩) ∧ wy.cell? ⟨b2, i, none⟩ = some (.int .i64 ((s0.fs[i]).safe : Nat)) := by
  obtain ⟨Z, h⟩ := h.same hb
  have hl : (s0.fs.map (·.name)).length = s0.fs.length := List.length_map _
  have hl2 : (s0.fs.map fun f => (f.safe : Int)).length = s0.fs.length := List.length_map _
  obtain ⟨b1, e1, q1⟩ := tenc_at (l := s0.fs.map (·.name)) (by rw [hl]; exact h.nam) i (by rw [hl]; exact hi)
  obtain ⟨b2, e2, q2⟩ := ienc_at (l := s0.fs.map fun f => (f.safe : Int)) (by rw [hl2]; exact h.own) i (by rw [hl2]; exact hi)
  rw [List.getElem_map] at q1 q2
  exact ⟨b1, b2, own_ptr h.nam e1, own_ptr h.own e2, q1, q2⟩
theorem CSJ.down {w wy : World} {gp gf : Nat} {sp sq s0 : PS} {v vn : Value} (h : CSJ w wy gp gf sp sq s0 v vn) : Calls Try.prog 17 #[dptr gp] wy fun e w' => e = .returned (.bool sp.down) ∧ wy = w' := by
  obtain ⟨Z, h⟩ := h
  exact h.tw.down
theorem CSJ.names {w wy : World} {gp gf : Nat} {sp sq s0 : PS} {v vn : Value} (h : CSJ w wy gp gf sp sq s0 v vn) : Calls Try.prog 15 #[dptr gp] wy fun e w' => (∃ p c, e = .returned (.slice p sp.fs.length c)) ∧ Below wy.heap.size wy w' := by
  obtain ⟨Z, h⟩ := h
  exact h.tw.names.mono fun e w' ⟨⟨p, c, e1, _⟩, hb⟩ => ⟨⟨p, c, e1⟩, hb⟩
theorem CSJ.tws {w wy : World} {gp gf : Nat} {sp sq s0 : PS} {v vn : Value} (h : CSJ w wy gp gf sp sq s0 v vn) : ∃ Z, TW w wy gp gf sp sq Z := by
  obtain ⟨Z, h⟩ := h
  exact ⟨Z, h.tw⟩
theorem TW.synced {w wy : World} {gp gq : Nat} {sp sq : PS} {Z : Nat → Prop} (h : TW w wy gp gq sp sq Z) (n : T) (hn : n.length ≤ 140737488351232) :
    Calls Try.prog 16 #[dptr gp, .string ⟨n.toArray⟩] wy fun e w' => e = .returned (.int .i64 ((getF sp.fs n).safe : Nat)) ∧ Below wy.heap.size wy w' := h.st.synced2 n hn
/-- the row of great numbers -/
def MoreI (w5 wy : World) (v : Value) (i : Nat) : Prop := Below w5.heap.size w5 wy ∧ wy.ownsRow w5.heap.size 3 1 v i (cells ienc (List.replicate i 4611686018427387904))
theorem MoreI.step {w5 wr wz w6 : World} {v v2 : Value} {i : Nat} (h : MoreI w5 wr v i) (hb : Below wr.heap.size wr wz) (q2 : w6.ownsRow w5.heap.size 3 1 v2 (i + 1) (cells ienc (List.replicate i 4611686018427387904) ++ cells ienc [4611686018427387904])) (q3 : wz.grownBy w6 v.ownBlock) : MoreI w5 w6 v2 (i + 1) := by
  have h1 := bnext h.1 hb
  refine ⟨h1.grown q3 h1.size fun k hk => ((own_belowG h.2 hb).lt k hk).1, ?_⟩
  rw [List.replicate_succ', cells_append]
  exact q2
theorem in8_cut {w : World} {p : Option Addr} {l : T} (h : In8 w p l) (k : Nat) : In8 w p (l.take k) := fun hl => by
  rw [List.length_take] at hl
  obtain ⟨b, o, e, hc⟩ := h (by omega)
  refine ⟨b, o, e, fun i hi => ?_⟩
  rw [List.length_take] at hi
  have h1 := hc i (by omega)
  rw [h1]
  simp only [List.getD, List.getElem?_take]
  rw [if_pos (by omega)]
theorem TW.readC {w wy : World} {gp gq : Nat} {sp sq : PS} {Z : Nat → Prop} (h : TW w wy gp gq sp sq Z) (n : T) (hn : n.length ≤ 140737488351232) : Calls Try.prog 18 #[dptr gp, .string ⟨n.toArray⟩] wy fun e w' => ∃ p c, e = .returned (.tuple #[.slice p (readP sp n).2.length c, .int .i64 ((readP sp n).1 : Nat)]) ∧ In8 w' p (readP sp n).2 ∧ (readP sp n).2.length ≤ c ∧ (p = none → c = 0) ∧ Below wy.heap.size wy w' := by
  obtain ⟨Rp, Rq, h⟩ := h
  refine (pread_c h.pa h.wp n hn).mono fun e w' ⟨v, e1, ho, hb⟩ => ?_
  obtain ⟨p, c, rfl, h8⟩ := own_in8' ho
  refine ⟨p, c, e1, h8, ?_, ?_, hb⟩
  · rcases ho.2 with ⟨h1, h2⟩ | ⟨g, cp, cur, h1, _, _, h4, _⟩
    · rw [h2]
      exact Nat.zero_le _
    · injection h1 with h1 h2 h3
      omega
  · intro e
    rcases ho.2 with ⟨h1, h2⟩ | ⟨g, cp, cur, h1, _, _, h4, _⟩
    · injection h1
    · injection h1 with h1 h2 h3
      rw [h1] at e
      cases e
end Go.Proofs.Ytggcdlhgmikemaa.plt

namespace Go.Proofs.Ytggcdlhgmikemaa.plt
open Go.RowKit
open Go.Proofs.Ytggcdlhgmikemaa.oct Go.Proofs.Ytggcdlhgmikemaa.ref Go.Proofs.Ytggcdlhgmikemaa.rows Go.Proofs.Ytggcdlhgmikemaa.rowg Go.Proofs.Ytggcdlhgmikemaa.trn Go.Proofs.Ytggcdlhgmikemaa.apt
open Go.Lib (byteCells)
open Go.Proofs.Ytggcdlhgmikemaa.opn (SP spenc spenc_len GoodS)

/-- blocks of X turn, some come to be -/
theorem QR.other {w wx w2 : World} {gl gr : Nat} {s t : PS} {X Y S R1 R2 : Nat → Prop} (h : QR w wx gl gr s t X R1 R2) (hx : ∀ k, S k → X k) (hlo : ∀ k, S k → w.heap.size ≤ k) (ht : Turn S wx w2) (hY : ∀ k, Y k → X k ∨ (wx.heap.size ≤ k ∧ k < w2.heap.size)) : QR w w2 gl gr s t Y R1 R2 :=
  ⟨h.la.turn ht fun k hk hr => h.x1 k (hx k hr) hk, h.ra.turn ht fun k hk hr => h.x2 k (hx k hr) hk, h.two, h.lo, h.ro, fun k hk hr => (hY k hk).elim (fun e => h.x1 k e hr) fun e => (by have := h.la.lt k hr; omega),
    fun k hk hr => (hY k hk).elim (fun e => h.x2 k e hr) fun e => (by have := h.ra.lt k hr; omega), fun k hk => (hY k hk).elim (fun e => Nat.lt_of_lt_of_le (h.ext k e) ht.size) fun e => e.2, h.ws, h.wt, ht.below h.below hlo h.below.size⟩
structure QT (w wx : World) (gl gr gq : Nat) (s t sq : PS) (X Rq : Nat → Prop) : Prop where
  qs : QS w wx gl gr s t (fun k => X k ∨ Rq k)
  qa : PA wx Rq gq sq
  qlo : ∀ k, Rq k → w.heap.size ≤ k
  qx : ∀ k, X k → ¬ Rq k
  wq : Wf sq
def QTS (w wx : World) (gl gr gq : Nat) (s t sq : PS) (X : Nat → Prop) : Prop := ∃ Rq, QT w wx gl gr gq s t sq X Rq
theorem QTS.below {w wx : World} {gl gr gq : Nat} {s t sq : PS} {X : Nat → Prop} (h : QTS w wx gl gr gq s t sq X) : Below w.heap.size w wx := by
  obtain ⟨_, h⟩ := h
  exact h.qs.below
theorem QTS.ext {w wx : World} {gl gr gq : Nat} {s t sq : PS} {X : Nat → Prop} (h : QTS w wx gl gr gq s t sq X) : ∀ k, X k → k < wx.heap.size := by
  obtain ⟨_, h⟩ := h
  obtain ⟨_, _, h⟩ := h.qs
  exact fun k hk => h.ext k (Or.inl hk)
theorem QTS.more {w wx w2 : World} {gl gr gq : Nat} {s t sq : PS} {X Y : Nat → Prop} (h : QTS w wx gl gr gq s t sq X) (hb : Below wx.heap.size wx w2) (hY : ∀ k, Y k → X k ∨ (wx.heap.size ≤ k ∧ k < w2.heap.size)) : QTS w w2 gl gr gq s t sq Y := by
  obtain ⟨Rq, h⟩ := h
  exact ⟨Rq, h.qs.more hb fun k hk => hk.elim (fun e => (hY k e).elim (fun e => Or.inl (Or.inl e)) Or.inr) fun e => Or.inl (Or.inr e), h.qa.below hb, h.qlo, fun k hk hr => (hY k hk).elim (fun e => h.qx k e hr) fun e => (by have := h.qa.lt k hr; omega), h.wq⟩
theorem QTS.runL {w wx : World} {gl gr gq : Nat} {s t sq s2 : PS} {X : Nat → Prop} (h : QTS w wx gl gr gq s t sq X) {P : Program} {f : FuncId} {args : Array Value} {Q : Ending → Prop} (hw : Wf s2)
    (hc : ∀ R, (∀ k, X k → ¬ R k) → PA wx R gl s → Wf s → Calls P f args wx fun e w2 => Q e ∧ To wx w2 R gl s2) : Calls P f args wx fun e w2 => Q e ∧ QTS w w2 gl gr gq s2 t sq X ∧ Turn (fun k => ¬ X k) wx w2 := by
  obtain ⟨Rq, h⟩ := h
  obtain ⟨R1, R2, hq⟩ := h.qs
  refine (hc R1 (fun k hk => hq.x1 k (Or.inl hk)) hq.la hq.ws).mono fun e w2 ⟨h1, h2⟩ => ?_
  have h3 := hq.left hw h2
  exact ⟨h1, ⟨Rq, h3.1, h.qa.turn h3.2 (fun k hk hn => hn (Or.inr hk)), h.qlo, h.qx, h.wq⟩, h3.2.mono fun k _ hn hx => hn (Or.inl hx)⟩
theorem QTS.runR {w wx : World} {gl gr gq : Nat} {s t sq t2 : PS} {X : Nat → Prop} (h : QTS w wx gl gr gq s t sq X) {P : Program} {f : FuncId} {args : Array Value} {Q : Ending → Prop} (hw : Wf t2)
    (hc : ∀ R, (∀ k, R k → w.heap.size ≤ k) → RB wx R gr t → Wf t → Calls P f args wx fun e w2 => Q e ∧ RTo wx w2 R gr t2) : Calls P f args wx fun e w2 => Q e ∧ QTS w w2 gl gr gq s t2 sq X ∧ Turn (fun k => ¬ X k) wx w2 := by
  obtain ⟨Rq, h⟩ := h
  obtain ⟨R1, R2, hq⟩ := h.qs
  refine (hc R2 hq.ro hq.ra hq.wt).mono fun e w2 ⟨h1, h2⟩ => ?_
  have h3 := hq.right hw h2
  exact ⟨h1, ⟨Rq, h3.1, h.qa.turn h3.2 (fun k hk hn => hn (Or.inr hk)), h.qlo, h.qx, h.wq⟩, h3.2.mono fun k _ hn hx => hn (Or.inl hx)⟩
theorem QTS.runQ {w wx : World} {gl gr gq : Nat} {s t sq sq2 : PS} {X : Nat → Prop} (h : QTS w wx gl gr gq s t sq X) {P : Program} {f : FuncId} {args : Array Value} {Q : Ending → Prop} (hw : Wf sq2)
    (hc : ∀ R, (∀ k, X k → ¬ R k) → PA wx R gq sq → Wf sq → Calls P f args wx fun e w2 => Q e ∧ To wx w2 R gq sq2) : Calls P f args wx fun e w2 => Q e ∧ QTS w w2 gl gr gq s t sq2 X ∧ Turn (fun k => ¬ X k) wx w2 := by
  obtain ⟨Rq, h⟩ := h
  obtain ⟨R1, R2, hq⟩ := h.qs
  refine (hc Rq h.qx h.qa h.wq).mono fun e w2 ⟨h1, R', t1, t2, t3⟩ => ?_
  have hQR := hq.other (S := Rq) (Y := fun k => X k ∨ R' k) (fun k hk => Or.inr hk) h.qlo t2 (fun k hk => hk.elim (fun e => Or.inl (Or.inl e)) fun e => (t3 k e).elim (fun e => Or.inl (Or.inr e)) (fun e2 => Or.inr ⟨e2, t1.lt k e⟩))
  exact ⟨h1, ⟨R', ⟨_, _, hQR⟩, t1, fun k hk => (t3 k hk).elim (h.qlo k) fun e => Nat.le_trans hq.below.size e, fun k hk hr => (t3 k hr).elim (h.qx k hk) fun e => (by have := hq.ext k (Or.inl hk); omega), hw⟩, t2.mono fun k _ hr hx => h.qx k hx hr⟩
/-- blocks of the law's own turn -/
theorem QTS.turn {w wx w2 : World} {gl gr gq : Nat} {s t sq : PS} {X S : Nat → Prop} (h : QTS w wx gl gr gq s t sq X) (hx : ∀ k, S k → X k) (hlo : ∀ k, S k → w.heap.size ≤ k) (ht : Turn S wx w2) : QTS w w2 gl gr gq s t sq X := by
  obtain ⟨Rq, h⟩ := h
  obtain ⟨R1, R2, hq⟩ := h.qs
  exact ⟨Rq, ⟨R1, R2, hq.other (fun k hk => Or.inl (hx k hk)) hlo ht fun k hk => Or.inl hk⟩, h.qa.turn ht fun k hk hr => h.qx k (hx k hr) hk, h.qlo, h.qx, h.wq⟩
theorem QTS.qs {w wx : World} {gl gr gq : Nat} {s t sq : PS} {X : Nat → Prop} (h : QTS w wx gl gr gq s t sq X) : ∃ Y, QS w wx gl gr s t Y := by
  obtain ⟨_, h⟩ := h
  exact ⟨_, h.qs⟩
theorem QTS.pa {w wx : World} {gl gr gq : Nat} {s t sq : PS} {X : Nat → Prop} (h : QTS w wx gl gr gq s t sq X) : ∃ R, PA wx R gl s ∧ Wf s := by
  obtain ⟨_, h⟩ := h
  obtain ⟨R1, R2, hq⟩ := h.qs
  exact ⟨R1, hq.la, hq.ws⟩
theorem QTS.wts {w wx : World} {gl gr gq : Nat} {s t sq : PS} {X : Nat → Prop} (h : QTS w wx gl gr gq s t sq X) : Wf s ∧ Wf t ∧ Wf sq := by
  obtain ⟨_, h⟩ := h
  obtain ⟨R1, R2, hq⟩ := h.qs
  exact ⟨hq.ws, hq.wt, h.wq⟩
/-- a copy comes to be -/
theorem QS.copyT {w wx : World} {gl gr : Nat} {s t : PS} {X : Nat → Prop} (h : QS w wx gl gr s t X) :
    Calls Try.prog 13 #[dptr gl] wx fun e w2 => ∃ gq, e = .returned (dptr gq) ∧ QTS w w2 gl gr gq s t s X ∧ Below wx.heap.size wx w2 := by
  have h0 := h
  obtain ⟨R1, R2, h⟩ := h
  refine (pcopy_c h.la h.ws).mono ?_
  rintro e w2 ⟨g2, R3, e1, e2, e3, e4⟩
  exact ⟨g2, e1, ⟨R3, h0.more e4 fun k hk => hk.elim Or.inl fun e => Or.inr ⟨e3 k e, e2.lt k e⟩, e2, fun k hk => Nat.le_trans h.below.size (e3 k hk), fun k hk hr => by have := h.ext k hk; have := e3 k hr; omega, h.ws⟩, e4⟩
/-- both crash -/
theorem QS.crash0 {w wx : World} {gl gr : Nat} {s t : PS} {X : Nat → Prop} (h : QS w wx gl gr s t X) : Calls Try.prog 14 #[dptr gl, .slice none 0 0] wx fun e w' => e = .returned (.tuple #[]) ∧ QS w w' gl gr (crashP s []) t X := by
  have hw := h.ws
  exact (h.runL (wf_crash hw []) fun R hR => pcrash_c hR hw none 0 [] (fun h => absurd h (by simp)) (by simp) (fun n h => by cases h) (fun h => absurd rfl h)).mono fun e w2 ⟨h1, h2, _⟩ => ⟨h1, h2⟩
theorem QS.rcrash0 {w wx : World} {gl gr : Nat} {s t : PS} {X : Nat → Prop} (h : QS w wx gl gr s t X) : Calls Try.prog 23 #[dptr gr, .slice none 0 0] wx fun e w' => e = .returned (.tuple #[]) ∧ QS w w' gl gr s (crashP t []) X := by
  obtain ⟨R1, R2, hq⟩ := h
  refine (hq.ra.crash hq.below hq.ro hq.wt none 0 [] (fun h => absurd h (by simp)) (by simp) (fun n h => by cases h)).mono fun e w2 ⟨h1, h2⟩ => ⟨h1, (hq.right (wf_crash hq.wt []) h2).1⟩
/-- what is handed in, beside them, while it is written over -/
def InS (w wx : World) (gl gr gq gi n : Nat) (s sq : PS) : Prop := ∃ Y : List Value, Blk wx gi 5 Y ∧ Y.length = n + 3 ∧ (∀ i, i < n + 3 → ∃ m : Int, Y[i]? = some (.int .u8 m)) ∧ QTS w wx gl gr gq s s sq (fun k => k = gi)
theorem ins_start (D : T) {n : Nat} (hn : D.length = n) : ∀ i, i < n + 3 → ∃ m : Int, (byteCells D ++ seven 3)[i]? = some (.int .u8 m) := by
  intro i hi
  by_cases h : i < D.length
  · rw [List.getElem?_append_left (by rw [byteCells_len]; exact h)]
    exact ⟨((D[i]).toNat : Int), by simp [byteCells, List.getElem?_eq_getElem h]⟩
  · rw [List.getElem?_append_right (by rw [byteCells_len]; omega), byteCells_len]
    exact ⟨77, by unfold seven; rw [List.getElem?_replicate, if_pos (by omega)]⟩
theorem ins_set {Y : List Value} {n : Nat} (h : ∀ i, i < n + 3 → ∃ m : Int, Y[i]? = some (.int .u8 m)) (hl : Y.length = n + 3) (k : Nat) (v : Int) : ∀ i, i < n + 3 → ∃ m : Int, (Y.set k (.int .u8 v))[i]? = some (.int .u8 m) := by
  intro i hi
  by_cases e : k = i
  · subst e
    exact ⟨v, by rw [List.getElem?_set_self (by omega)]⟩
  · rw [List.getElem?_set_ne e]; exact h i hi
theorem InS.set {w wx : World} {gl gr gq gi n : Nat} {s sq : PS} (hgi : w.heap.size ≤ gi) {Y : List Value} (hY : Blk wx gi 5 Y) (hl : Y.length = n + 3) (hm : ∀ i, i < n + 3 → ∃ m : Int, Y[i]? = some (.int .u8 m)) (h : QTS w wx gl gr gq s s sq (fun k => k = gi)) (k : Nat) (v : Int) : InS w (wx.setCell ⟨gi, k, none⟩ (.int .u8 v)) gl gr gq gi n s sq :=
  ⟨_, hY.set k _, by rw [List.length_set]; exact hl, ins_set hm hl k v, h.turn (S := fun k => k = gi) (fun _ e => e) (fun _ e => e ▸ hgi) (Turn.set _ _ _ _ rfl)⟩
/-- a row of the call's own, as Apart takes it -/
theorem own_lst {w : World} {B n : Nat} {v : Value} {xs : List Value} (h : w.ownsRow B 5 1 v n xs) : ∃ x : Lst, v = x.val ∧ x.ok ∧ x.blk = v.ownBlock ∧ ∀ g, x.blk = some g → ∃ X, Blk w g 5 X ∧ X.length = x.cap := by
  rcases h.2 with ⟨rfl, rfl⟩ | ⟨g, cap, cur, rfl, _, hg, hn, hm, hs, _⟩
  · exact ⟨⟨none, 0, 0⟩, rfl, ⟨fun _ => ⟨rfl, rfl⟩, Nat.le_refl _, Nat.zero_le _⟩, rfl, fun g e => by cases e⟩
  · exact ⟨⟨some g, n, cap⟩, rfl, ⟨(fun e => by cases e), hn, hm⟩, rfl, fun g' e => by
      injection e with e
      subst e
      exact ⟨cur.toList, hg, by simpa using hs⟩⟩
/-- two rows share no memory; nothing but they turns -/
theorem two_apart {w : World} {B1 B2 n1 n2 : Nat} {v1 v2 : Value} {x1 x2 : List Value} (gl : Nat) (hB : Blk w gl 33 [v1, v2]) (h1 : w.ownsRow B1 5 1 v1 n1 x1) (h2 : w.ownsRow B2 5 1 v2 n2 x2) (hn : ∀ b, v2.ownBlock = some b → v1.ownBlock ≠ some b) :
    Calls Try.prog 27 #[.slice (some ⟨gl, 0, none⟩) 2 2] w fun e w' => e = .returned (.bool true) ∧ Turn (fun k => v1.ownBlock = some k ∨ v2.ownBlock = some k) w w' := by
  obtain ⟨y1, a1, o1, b1, r1⟩ := own_lst h1
  obtain ⟨y2, a2, o2, b2, r2⟩ := own_lst h2
  rw [← b1, ← b2] at hn ⊢
  have bt : ∀ g, y1.blk = some g ∨ y2.blk = some g → g ≠ gl := by
    intro g hg e
    have hu : ∃ X, Blk w g 5 X := by
      rcases hg with h | h
      · obtain ⟨X, h, _⟩ := r1 g h; exact ⟨X, h⟩
      · obtain ⟨X, h, _⟩ := r2 g h; exact ⟨X, h⟩
    obtain ⟨X, hX⟩ := hu
    subst e
    exact absurd (blk_two hX hB) (by decide)
  refine apartT_c 2 (by decide) gl [y1, y2] w rfl ?_ ?_ ?_ ?_ _ ?_
  · intro x hx
    simp only [List.mem_cons, List.not_mem_nil, or_false] at hx
    rcases hx with rfl | rfl <;> assumption
  · intro i j x y g hi hj hx hy
    have hi4 : i < 2 := (List.getElem?_eq_some_iff.1 hi).1
    have hj4 : j < 2 := (List.getElem?_eq_some_iff.1 hj).1
    match i, j, hi4, hj4 with
    | 0, 0, _, _ => rfl
    | 1, 1, _, _ => rfl
    | 0, 1, _, _ => cases hi; cases hj; exact absurd hx (hn g hy)
    | 1, 0, _, _ => cases hi; cases hj; exact absurd hy (hn g hx)
  · rw [a1, a2] at hB
    exact hB
  · intro j x g hj hx
    have hj4 : j < 2 := (List.getElem?_eq_some_iff.1 hj).1
    match j, hj4 with
    | 0, _ => cases hj; obtain ⟨X, e1, e2⟩ := r1 g hx; exact ⟨X, e1, e2, fun h => by omega⟩
    | 1, _ => cases hj; obtain ⟨X, e1, e2⟩ := r2 g hx; exact ⟨X, e1, e2, fun h => by omega⟩
  · intro x hx g hg
    simp only [List.mem_cons, List.not_mem_nil, or_false] at hx
    rcases hx with rfl | rfl
    · exact ⟨Or.inl hg, bt g (Or.inl hg)⟩
    · exact ⟨Or.inr hg, bt g (Or.inr hg)⟩
/-- the row of ints that the law makes -/
def KI (wb wx : World) (v : Value) (l : List Int) : Prop := Below wb.heap.size wb wx ∧ wx.ownsRow wb.heap.size 3 1 v l.length (cells ienc l)
theorem KI.start (wb : World) : KI wb (wb.alloc (.cells #[] 3)) (.slice (some ⟨wb.heap.size, 0, none⟩) 0 0) [] :=
  ⟨(Below.refl _ _).alloc (Nat.le_refl _) _, own_emptyG (enc := ienc) (k := 1) wb 3⟩
theorem KI.step {wb wx wz w6 : World} {v v2 : Value} {l l2 : List Int} {m : Nat} (h : KI wb wx v l) (hb : Below wx.heap.size wx wz) (hm : l2.length = m) (q2 : w6.ownsRow wb.heap.size 3 1 v2 (l.length + m) (cells ienc l ++ cells ienc l2)) (q3 : wz.grownBy w6 v.ownBlock) : KI wb w6 v2 (l ++ l2) := by
  have h1 := bnext h.1 hb
  refine ⟨h1.grown q3 h1.size fun k hk => ((own_belowG h.2 hb).lt k hk).1, ?_⟩
  rw [List.length_append, hm, cells_append]
  exact q2
theorem KI.at {wb wx : World} {v : Value} {ks : List Int} (h : KI wb wx v (([] ++ ks) ++ [77])) : ∃ bk ck, v = .slice (some ⟨bk, 0, none⟩) (ks.length + 1) ck ∧ wb.heap.size ≤ bk ∧ bk < wx.heap.size ∧ ks.length + 1 ≤ ck ∧ InG ienc 1 wx (some ⟨bk, 0, none⟩) ks ∧ wx.cell? ⟨bk, ks.length, none⟩ = some (.int .i64 77) := by
  have h2 := h.2
  rw [List.nil_append] at h2
  have hl : (ks ++ [(77 : Int)]).length = ks.length + 1 := by simp
  obtain ⟨p, c, rfl, hc, _, hin⟩ := own_g ienc_len (by decide) h2
  have hlt := h2.lt
  obtain ⟨b, e1, q1⟩ := ienc_at h2 ks.length (by rw [hl]; omega)
  have hp := own_ptr h2 e1
  subst hp
  have h3 := hlt b rfl
  rw [hl] at hc ⊢
  refine ⟨b, c, rfl, h3.1, h3.2, hc, ?_, ?_⟩
  · intro h0
    obtain ⟨b2, o2, e2, hcc⟩ := hin (by omega)
    refine ⟨b2, o2, e2, fun i hi j hj => ?_⟩
    have h4 := hcc i (by omega) j hj
    rw [h4, List.getElem_append_left hi]
  · rw [q1]
    simp
/-- Append to the copy, of bytes that have just come to be -/
theorem QTS.appQ {w wx : World} {gl gr gq : Nat} {s t sq : PS} {X : Nat → Prop} (h : QTS w wx gl gr gq s t sq X) (n : T) (hn : n.length ≤ 140737488351232) (b : T) (hb : b.length ≤ 140737488355328) (c : Nat) (fr : Nat × Nat) :
    Calls Try.prog 22 #[dptr gq, .string ⟨n.toArray⟩, .slice (some ⟨wx.heap.size, 0, none⟩) b.length c] (wx.alloc (.cells (byteCells b).toArray 5 fr)) fun e w' => e = .returned (.int .i64 ((appP sq n b).1 : Nat)) ∧ QTS w w' gl gr gq s t (appP sq n b).2 X ∧ Turn (fun k => ¬ X k) wx w' := by
  have hb1 := (Below.refl wx.heap.size wx).alloc (Nat.le_refl _) (.cells (byteCells b).toArray 5 fr)
  have hs : (wx.alloc (.cells (byteCells b).toArray 5 fr)).heap.size = wx.heap.size + 1 := by simp
  have h2 := h.more (Y := fun k => X k ∨ k = wx.heap.size) hb1 fun k hk => hk.imp id fun e => ⟨by omega, by omega⟩
  refine (h2.runQ (Q := fun e => e = .returned (.int .i64 ((appP sq n b).1 : Nat))) (wf_app h2.wts.2.2 n b) (fun R hX hR hwf => pappend_c hR hwf n _ c b hn (bytes_newL wx b _ fr rfl) hb fun _ i o x e _ hr => ?_)).mono ?_
  · injection e with e
    injection e with e _ _
    exact hX i (Or.inr e.symm) hr
  · rintro e w' ⟨e1, e2, e3⟩
    exact ⟨e1, e2.more (Below.refl _ _) fun k hk => Or.inl (Or.inl hk), (Turn.of_below hb1).next (e3.mono fun k _ hn hx => hn (Or.inl hx))⟩
theorem QTS.crashQ {w wx : World} {gl gr gq : Nat} {s t sq : PS} {X : Nat → Prop} (h : QTS w wx gl gr gq s t sq X) (bk ck : Nat) (ks : List Int) (hin : InG ienc 1 wx (some ⟨bk, 0, none⟩) ks) (hX : X bk) (hkl : ks.length ≤ 9223372036854775807) (hki : ∀ n ∈ ks, -9223372036854775808 ≤ n ∧ n ≤ 9223372036854775807) :
    Calls Try.prog 14 #[dptr gq, .slice (some ⟨bk, 0, none⟩) ks.length ck] wx fun e w' => e = .returned (.tuple #[]) ∧ QTS w w' gl gr gq s t (crashP sq ks) X ∧ Turn (fun k => ¬ X k) wx w' :=
  h.runQ (wf_crash h.wts.2.2 ks) fun R hx hR hwf => pcrash_c hR hwf _ ck ks hin hkl hki fun _ i o x e _ hr => by
    injection e with e
    injection e with e _ _
    exact hx i (e ▸ hX) hr
/-- the last rows: x, y, the ints' -/
structure KL (w wx : World) (gl gr gq gi bk : Nat) (s sq : PS) (ks : List Int) (px py : Value) (n : Nat) (d : T) (Z : Nat → Prop) : Prop where
  qt : QTS w wx gl gr gq s s sq Z
  hx : ∀ k, px.ownBlock = some k → Z k ∧ w.heap.size ≤ k ∧ k ≠ bk
  hy : ∀ k, py.ownBlock = some k → Z k ∧ w.heap.size ≤ k ∧ k ≠ bk ∧ px.ownBlock ≠ some k
  hk : Z bk
  ox : wx.ownsRow 0 5 1 px n (byteCells d)
  oy : wx.ownsRow 0 5 1 py n (byteCells d)
  lt : bk < wx.heap.size
  ik : InG ienc 1 wx (some ⟨bk, 0, none⟩) ks
  ck : wx.cell? ⟨bk, ks.length, none⟩ = some (.int .i64 77)
def KLS (w wx : World) (gl gr gq gi bk : Nat) (s sq : PS) (ks : List Int) (px py : Value) (n : Nat) (d : T) : Prop := ∃ Z, KL w wx gl gr gq gi bk s sq ks px py n d Z
theorem KL.turn {w wx w2 : World} {gl gr gq gi bk : Nat} {s sq sq2 : PS} {ks : List Int} {px py : Value} {n : Nat} {d : T} {Z : Nat → Prop} (h : KL w wx gl gr gq gi bk s sq ks px py n d Z) (h2 : QTS w w2 gl gr gq s s sq2 Z) (ht : Turn (fun k => ¬ Z k) wx w2) : KL w w2 gl gr gq gi bk s sq2 ks px py n d Z :=
  ⟨h2, h.hx, h.hy, h.hk, own_turn h.ox ht fun b hb hn => hn (h.hx b hb).1, own_turn h.oy ht fun b hb hn => hn (h.hy b hb).1, Nat.lt_of_lt_of_le h.lt ht.size, ing_turn ienc_len (by decide) h.ik ht fun b o x e _ hn => by
    injection e with e
    injection e with e _ _
    exact hn (e ▸ h.hk), (cell_turn ht h.lt fun hn => hn h.hk).trans h.ck⟩
theorem KLS.same {w wx w2 : World} {gl gr gq gi bk : Nat} {s sq : PS} {ks : List Int} {px py : Value} {n : Nat} {d : T} (h : KLS w wx gl gr gq gi bk s sq ks px py n d) (hb : Below wx.heap.size wx w2) : KLS w w2 gl gr gq gi bk s sq ks px py n d := by
  obtain ⟨Z, h⟩ := h
  exact ⟨Z, h.turn (h.qt.more hb fun k hk => Or.inl hk) (Turn.of_below hb)⟩
theorem KLS.appQ {w wx : World} {gl gr gq gi bk : Nat} {s sq : PS} {ks : List Int} {px py : Value} {n : Nat} {d : T} (h : KLS w wx gl gr gq gi bk s sq ks px py n d) :
    Calls Try.prog 22 #[dptr gq, .string ⟨#[97]⟩, .slice (some ⟨wx.heap.size, 0, none⟩) 4 4] (wx.alloc (.cells #[.int .u8 109, .int .u8 111, .int .u8 114, .int .u8 101] 5 (4, 5))) fun e w' => e = .returned (.int .i64 ((appP sq [97] [109, 111, 114, 101]).1 : Nat)) ∧ KLS w w' gl gr gq gi bk s (appP sq [97] [109, 111, 114, 101]).2 ks px py n d := by
  obtain ⟨Z, h⟩ := h
  exact (h.qt.appQ [97] (by decide) [109, 111, 114, 101] (by decide) 4 (4, 5)).mono fun e w' ⟨e1, e2, e3⟩ => ⟨e1, Z, h.turn e2 e3⟩
theorem KLS.crashQ {w wx : World} {gl gr gq gi bk : Nat} {s sq : PS} {ks : List Int} {px py : Value} {n : Nat} {d : T} (h : KLS w wx gl gr gq gi bk s sq ks px py n d) (ck : Nat) (hkl : ks.length ≤ 9223372036854775807) (hki : ∀ n ∈ ks, -9223372036854775808 ≤ n ∧ n ≤ 9223372036854775807) :
    Calls Try.prog 14 #[dptr gq, .slice (some ⟨bk, 0, none⟩) ks.length ck] wx fun e w' => e = .returned (.tuple #[]) ∧ KLS w w' gl gr gq gi bk s (crashP sq ks) ks px py n d := by
  obtain ⟨Z, h⟩ := h
  exact (h.qt.crashQ bk ck ks h.ik h.hk hkl hki).mono fun e w' ⟨e1, e2, e3⟩ => ⟨e1, Z, h.turn e2 e3⟩
/-- Apart of both rows -/
theorem KLS.apart {w wx : World} {gl gr gq gi bk : Nat} {s sq : PS} {ks : List Int} {px py : Value} {n : Nat} {d : T} (h : KLS w wx gl gr gq gi bk s sq ks px py n d) :
    Calls Try.prog 27 #[.slice (some ⟨wx.heap.size, 0, none⟩) 2 2] (wx.alloc (.cells #[px, py] 33)) fun e w' => e = .returned (.bool true) ∧ (∃ Y, QS w w' gl gr s s Y) ∧ w'.cell? ⟨bk, ks.length, none⟩ = some (.int .i64 77) := by
  have hb1 := (Below.refl wx.heap.size wx).alloc (Nat.le_refl _) (.cells #[px, py] 33)
  obtain ⟨Z, h⟩ := h.same hb1
  refine (two_apart wx.heap.size (blk_new wx _ _ _ rfl) h.ox h.oy fun b hb => (h.hy b hb).2.2.2).mono ?_
  rintro e w' ⟨e1, ht⟩
  refine ⟨e1, (h.qt.turn (fun k hk => hk.elim (fun e => (h.hx k e).1) fun e => (h.hy k e).1) (fun k hk => hk.elim (fun e => (h.hx k e).2.1) fun e => (h.hy k e).2.1) ht).qs, ?_⟩
  exact (cell_turn ht h.lt fun hk => hk.elim (fun e => (h.hx bk e).2.2 rfl) fun e => (h.hy bk e).2.2.1 rfl).trans h.ck
/-- Alike, behind it -/
theorem alike_q {w wx : World} {gl gr : Nat} {s : PS} (h : ∃ Y, QS w wx gl gr s s Y) : Calls Try.prog 12 #[dptr gl, dptr gr] wx fun e w' => e = .returned (.bool true) ∧ Below wx.heap.size wx w' := by
  obtain ⟨Y, h⟩ := h
  exact alike_c h
end Go.Proofs.Ytggcdlhgmikemaa.plt

namespace Go.Proofs.Ytggcdlhgmikemaa.plt
open Go.RowKit
open Go.Proofs.Ytggcdlhgmikemaa.oct Go.Proofs.Ytggcdlhgmikemaa.ref Go.Proofs.Ytggcdlhgmikemaa.rows Go.Proofs.Ytggcdlhgmikemaa.rowg Go.Proofs.Ytggcdlhgmikemaa.trn Go.Proofs.Ytggcdlhgmikemaa.apt
open Go.Lib (byteCells)
open Go.Proofs.Ytggcdlhgmikemaa.opn (SP spenc spenc_len GoodS I64)

set_option maxRecDepth 100000 in
set_option maxHeartbeats 32000000 in
theorem g_keeps (P : Option Addr) (C : Nat) (l : List SP) (p : Option Addr) (c : Nat) (d : T) (K : Option Addr) (CK : Nat) (ks : List Int) (w : World) (hP : InG spenc 5 w P l) (hg : ∀ x ∈ l, GoodS w x) (hp : In8 w p d) (hd : d.length ≤ 140737488351232) (hdc : (p = none → c = 0) ∧ d.length ≤ c) (hK : InG ienc 1 w K ks) (hkl : ks.length * 8 ≤ 140737488351232) (hki : ∀ x ∈ ks, I64 x) (_hkc : ks.length ≤ CK) (hkn : K = none → CK = 0) :
    Calls Try.prog 7 #[.slice P l.length C, .slice p d.length c, .slice K ks.length CK] w fun e w' => e = .returned (.bool true) ∧ Below w.heap.size w w' := by
  have HP := Lib.hid hP
  have HG := Lib.hid hg
  have HK := Lib.hid hK
  have HKI := Lib.hid hki
  have HKNIL := Lib.hid hkn
  have HD := Lib.hid hp
  obtain ⟨hpn, hc⟩ := hdc
  have HPN := Lib.hid hpn
  have HNEW := Lib.hid (pnew_c w 134217728 (by decide))
  have HKN := Lib.hid (fun w0 => known_c w0 w0 (Below.refl _ _))
  clear hP hg hK hki hp hpn hkn
  go_enter Try.func7, Try.ntmps7
  go_wp2_with fail
  refine HNEW.out.mono ?_
  rintro e w1 hnp
  obtain ⟨g, R, rfl, hla, hR, hb1⟩ := newpl_pa hnp
  have HQ0 : Hid (∃ s, QS w (w1.alloc (.cells (rzero 134217728) 31)) g w1.heap.size s s (fun _ => False)) :=
    ⟨_, qs_start (n := 134217728) hla (wf_new (by decide)) hR hb1 (Below.refl _ _) _ (fun _ e => e.elim) (by decide) rfl⟩
  clear hnp hla hR hb1 HNEW
  go_upto_block 0 with (fail)
  obtain ⟨w2, hw2⟩ : ∃ w2, w1.alloc (.cells (rzero 134217728) 31) = w2 := ⟨_, rfl⟩
  rw [hw2] at HQ0
  obtain ⟨gr, hgr⟩ : ∃ gr, w1.heap.size = gr := ⟨_, rfl⟩
  rw [hgr] at HQ0 ⊢
  rw [show w1.alloc (.cells #[.slice none 0 0, .int .i64 134217728, .bool false, .int .i64 0, .bool false] 31) = w2 from hw2]
  clear hw2 hgr
  go_cut [] from 25 to 42 (fun wx => Hid (∃ s, QS w wx g gr s s (fun _ => False)))
  case first =>
    go_wp2_with fail
    go_loopg [10] 120 (fun gk s10 wy => ∃ i : Nat, i + gk = 120 ∧ s10 = .int .i64 (i : Int) ∧ Hid (∃ s, QS w wy g gr s s (fun _ => False)))
    case atStart => exact ⟨0, by omega, rfl, HQ0⟩
    case round =>
      obtain ⟨i, hig, rfl, HX⟩ := hrel
      clear HQ0
      by_cases hin : i < l.length ∧ i < 120
      · obtain ⟨hin1, hin2⟩ := hin
        have j1 : (i : Int) < l.length := by omega
        have j2 : (i : Int) < 120 := by omega
        obtain ⟨s, hps⟩ := HX.out
        obtain ⟨b, o, rfl, hcl⟩ := InG.cells (InG.below spenc_len (by decide) HP.out hps.below) i hin1
        have hgd := HG.out _ (List.getElem_mem hin1)
        obtain ⟨x, hx⟩ : ∃ x, l[i] = x := ⟨_, rfl⟩
        rw [hx] at hcl hgd
        have d0 : wr.cell? ⟨b, o + i * 5, none⟩ = some (.int .i64 x.k) := hcl 0 (by decide)
        have d1 : wr.cell? ⟨b, o + i * 5 + 1, none⟩ = some (.string ⟨x.n.toArray⟩) := hcl 1 (by decide)
        have d2 : wr.cell? ⟨b, o + i * 5 + 2, none⟩ = some (.slice x.p x.d.length x.c) := hcl 2 (by decide)
        have d3 : wr.cell? ⟨b, o + i * 5 + 3, none⟩ = some (.int .i64 x.m) := hcl 3 (by decide)
        have d4 : wr.cell? ⟨b, o + i * 5 + 4, none⟩ = some (.slice x.q x.ks.length x.e) := hcl 4 (by decide)
        have HDO : Hid (Calls Try.prog 11 #[dptr g, dptr gr, .agg #[.int .i64 x.k, .string ⟨x.n.toArray⟩, .slice x.p x.d.length x.c, .int .i64 x.m, .slice x.q x.ks.length x.e]] wr fun e w2 => e = .returned (.bool true) ∧ ∃ s2, QS w w2 g gr s2 s2 (fun _ => False)) :=
          (do_c hps True (fun _ => rfl) x hgd).mono fun e w2 ⟨⟨b, e1, e2⟩, e3, _⟩ => ⟨by rw [e1, e2 trivial], _, e3⟩
        clear hcl hx hgd hps
        go_wp2_with fail
        refine HDO.out.mono ?_
        rintro e w4 ⟨rfl, HP4⟩
        have HP4 := Lib.hid HP4
        go_wp2_with fail
        go_roundg (gk - 1)
        case measure => omega
        case rel => exact ⟨i + 1, by omega, by go_num, HP4⟩
      · have hex : ¬ ((i : Int) < l.length) ∨ ((i : Int) < l.length ∧ ¬ ((i : Int) < 120)) := by omega
        clear hin
        rcases hex with e1 | ⟨e1, e2⟩
        all_goals
          go_wp2_with fail
          go_meet
          case rel => exact HX
  case rest =>
    obtain ⟨s, hqs⟩ := hcut.out
    have HC1 := Lib.hid hqs.crash0
    clear hqs hcut HQ0 HP HG
    go_wp2_with fail
    refine HC1.out.mono ?_
    rintro e w3 ⟨rfl, hq3⟩
    have HC2 := Lib.hid hq3.rcrash0
    clear hq3 HC1
    go_wp2_with fail
    refine HC2.out.mono ?_
    rintro e w4 ⟨rfl, hq4⟩
    obtain ⟨s0, hs0⟩ : ∃ s0, crashP s [] = s0 := ⟨_, rfl⟩
    rw [hs0] at hq4
    have HQ4 := Lib.hid hq4
    clear hq4 hs0 HC2
    go_upto_if 48 with (fail)
    go_cut [1] from 49 to 51 (fun s1 wx => (∃ (P0 : Option Addr) (n0 : Nat), s1 = .slice P0 n0 c ∧ Hid (In8 w P0 (d.take 65536) ∧ (d.take 65536).length = n0 ∧ (P0 = none → c = 0))) ∧ wx = w4)
    case first =>
      by_cases hlong : 65536 < d.length
      · obtain ⟨b0, o0, hp0, _⟩ := HD.out (by omega)
        subst hp0
        have HR : Hid (In8 w (some ⟨b0, o0, none⟩) (d.take 65536) ∧ (d.take 65536).length = 65536 ∧ ((some ⟨b0, o0, none⟩ : Option Addr) = none → c = 0)) := ⟨in8_cut HD.out 65536, by rw [List.length_take]; omega, fun e => by cases e⟩
        have i0 : (d.length : Int) > 65536 := by omega
        have i1 : (65536 : Int) ≤ c := by omega
        go_wp2_with fail
        go_meet
        case rel => exact ⟨⟨_, _, rfl, HR⟩, rfl⟩
      · have HR : Hid (In8 w p (d.take 65536) ∧ (d.take 65536).length = d.length ∧ (p = none → c = 0)) := ⟨in8_cut HD.out 65536, by rw [List.length_take]; omega, HPN.out⟩
        have i0 : ¬ ((d.length : Int) > 65536) := by omega
        go_wp2_with fail
        go_meet
        case rel => exact ⟨⟨_, _, rfl, HR⟩, rfl⟩
    case rest =>
      obtain ⟨⟨P0, n0, rfl, HR⟩, rfl⟩ := hcut
      have HDL : Hid ((d.take 65536).length ≤ 65536) := by show _ ≤ _; rw [List.length_take]; omega
      obtain ⟨D, hD⟩ : ∃ D, d.take 65536 = D := ⟨_, rfl⟩
      rw [hD] at HR HDL
      have HLN := Lib.hid HR.out.2.1
      have hn0 : n0 ≤ 65536 := by rw [← HLN.out]; exact HDL.out
      clear hD HD HPN hc hd
      have hroom : Calls Try.prog 24 #[.slice P0 n0 c] wc fun e w' => e = .returned (.slice (some ⟨wc.heap.size, 0, none⟩) n0 (n0 + 3)) ∧ Blk w' wc.heap.size 5 (byteCells D ++ seven 3) ∧ Below wc.heap.size wc w' := by
        have h := room_c P0 c D wc (HR.out.1.below HQ4.out.below) (by rw [HLN.out]; omega)
        rw [HLN.out] at h
        exact h
      have HROOM := Lib.hid hroom
      have hgiw := HQ4.out.below.size
      obtain ⟨gi, hgi⟩ : ∃ gi, wc.heap.size = gi := ⟨_, rfl⟩
      have HGI := Lib.hid hgi
      clear hroom
      go_wp2_with fail
      refine HROOM.out.mono ?_
      rintro e w5 ⟨rfl, hB5, hb5⟩
      have hq5 := HQ4.out.more (Y := fun k => k = wc.heap.size) hb5 (fun k e => Or.inr ⟨by omega, by have := hB5.lt; omega⟩)
      rw [hgi] at hB5 hq5 hgiw ⊢
      have HB5 := Lib.hid hB5
      have HQ5 := Lib.hid hq5
      have HGW := Lib.hid hgiw
      have HC := Lib.hid hq5.copyT
      clear hB5 hb5 hq5 hgi hgiw HGI HROOM HQ4
      go_wp2_with fail
      refine HC.out.mono ?_
      rintro e w6 ⟨gq, rfl, ht6, hb6⟩
      have HB6 := Lib.hid (HB5.out.below hb6)
      have HT6 := Lib.hid ht6
      have hap := ht6.runL (s2 := (appP s0 [122, 122] D).2) (Q := fun e => e = .returned (.int .i64 ((appP s0 [122, 122] D).1 : Nat))) (wf_app ht6.wts.1 _ _) (fun R hX hR hwf => pappend_c hR hwf [122, 122] (some ⟨gi, 0, none⟩) (n0 + 3) D (by decide) (in8_blk HB6.out) (by rw [HLN.out]; omega) (fun _ i o x e _ hr => by
        injection e with e
        injection e with e
        exact hX i e.symm hr))
      rw [HLN.out] at hap
      have HC := Lib.hid hap
      clear ht6 hb6 hap HB5 HQ5
      go_wp2_with fail
      refine HC.out.mono ?_
      rintro e w7 ⟨rfl, ht7, htu7⟩
      have HB7 := Lib.hid (blk_turn HB6.out htu7 (fun h => h rfl))
      have hap := ht7.runR (t2 := (appP s0 [122, 122] D).2) (Q := fun e => e = .returned (.int .i64 ((appP s0 [122, 122] D).1 : Nat))) (wf_app ht7.wts.2.1 _ _) (fun R lo hR hwf => hR.append ht7.below lo hwf [122, 122] (by decide) P0 c D HR.out.1 HR.out.2.2 (by rw [HLN.out]; omega))
      rw [HLN.out] at hap
      have HC := Lib.hid hap
      clear ht7 htu7 hap HB6 HT6
      go_wp2_with fail
      refine HC.out.mono ?_
      rintro e w8 ⟨rfl, ht8, htu8⟩
      have HB8 := Lib.hid (blk_turn HB7.out htu8 (fun h => h rfl))
      obtain ⟨s1, hs1⟩ : ∃ s1, (appP s0 [122, 122] D).2 = s1 := ⟨_, rfl⟩
      rw [hs1] at ht8
      have hkept : Calls Try.prog 26 #[.slice (some ⟨gi, 0, none⟩) n0 (n0 + 3), .slice P0 n0 c] w8 fun e w' => e = .returned (.bool true) ∧ Below w8.heap.size w8 w' := by
        have h := kept_c gi P0 c D w8 HB8.out (HR.out.1.below ht8.below) (by rw [HLN.out]; omega)
        rw [HLN.out] at h
        exact h.mono fun e w' ⟨e1, n, e2⟩ => ⟨e1, by rw [e2]; exact below_drewN (Below.refl _ _) n⟩
      have HKP := Lib.hid hkept
      have HT8 := Lib.hid ht8
      clear ht8 htu8 hkept HB7 HC hs1
      go_wp2_with fail
      refine HKP.out.mono ?_
      rintro e w9 ⟨rfl, hb9⟩
      have HIN : Hid (InS w w9 g gr gq gi n0 s1 s0) := ⟨_, HB8.out.below hb9, by rw [List.length_append, byteCells_len, HLN.out]; rfl, ins_start D HLN.out, HT8.out.more hb9 fun k e => Or.inl e⟩
      clear hb9 HKP HT8 HB8
      go_wp2_with fail
      go_loopg [13] n0 (fun gk s13 wx => ∃ k : Nat, k + gk = n0 ∧ s13 = .int .i64 (k : Int) ∧ Hid (InS w wx g gr gq gi n0 s1 s0))
      case atStart => exact ⟨0, by omega, rfl, HIN⟩
      case round =>
        obtain ⟨k, hkg, rfl, HX⟩ := hrel
        obtain ⟨Y, hY, hYl, hYm, hks⟩ := HX.out
        clear HIN
        rcases gk with _ | gk
        · obtain rfl : n0 = k := by omega
          clear hY hYl hYm HX
          obtain ⟨R, hR, hwf⟩ := hks.pa
          have hrd := pread_c hR hwf [122, 122] (by decide)
          have HRL := Lib.hid (read_len hwf [122, 122])
          obtain ⟨q, hq⟩ : ∃ q, readP s1 [122, 122] = q := ⟨_, rfl⟩
          rw [hq] at hrd HRL
          have HQ := Lib.hid hq
          have HRD := Lib.hid hrd
          have HKS := Lib.hid hks
          clear hks hR hwf hrd hq
          go_wp2_with fail
          refine HRD.out.mono ?_
          rintro e wa ⟨vx, rfl, hvx, hba⟩
          obtain ⟨px, cx, rfl⟩ := Go.Proofs.Ytggcdlhgmikemaa.cln.own_slice hvx
          have hka := HKS.out.more (Y := fun k => k = gi ∨ (Value.slice px q.2.length cx).ownBlock = some k) hba (fun k e => e.imp id fun e => hvx.lt k e)
          have HKA := Lib.hid hka
          have HVX := Lib.hid hvx
          obtain ⟨R, hR, hwf⟩ := hka.pa
          have hrd := pread_c hR hwf [122, 122] (by decide)
          rw [HQ.out] at hrd
          have HRD2 := Lib.hid hrd
          have HSA : Hid (wr.heap.size ≤ wa.heap.size) := hba.size
          clear hka hvx hba hR hwf hrd HRD
          go_wp2_with fail
          refine HRD2.out.mono ?_
          rintro e wb ⟨vy, rfl, hvy, hbb⟩
          obtain ⟨py, cy, rfl⟩ := Go.Proofs.Ytggcdlhgmikemaa.cln.own_slice hvy
          have HNE : Hid (∀ b, (Value.slice py q.2.length cy).ownBlock = some b → (Value.slice px q.2.length cx).ownBlock ≠ some b) := fun b h1 h2 => by
            have h3 := (hvy.lt b h1).1
            have h4 := (HVX.out.lt b h2).2
            omega
          have HKB := Lib.hid (HKA.out.more (Y := fun k => (k = gi ∨ (Value.slice px q.2.length cx).ownBlock = some k) ∨ (Value.slice py q.2.length cy).ownBlock = some k) hbb (fun k e => e.imp id fun e => hvy.lt k e))
          have HVX2 := Lib.hid (own_belowG HVX.out hbb)
          have HVY := Lib.hid hvy
          have HXLO : Hid (∀ b, (Value.slice px q.2.length cx).ownBlock = some b → w.heap.size ≤ b) := fun b h => Nat.le_trans HKS.out.below.size (HVX.out.lt b h).1
          have HYLO : Hid (∀ b, (Value.slice py q.2.length cy).ownBlock = some b → w.heap.size ≤ b) := fun b h => Nat.le_trans HKA.out.below.size (hvy.lt b h).1
          have HK0 := Lib.hid (KI.start wb)
          obtain ⟨j0, hj, hy0, hy1, hy2⟩ := info_parts infoI64
          have HKIN : Hid (∀ wx, Below wb.heap.size wb wx → InG ienc 1 wx K ks) := fun wx hb => InG.below ienc_len (by decide) (InG.below ienc_len (by decide) HK.out HKB.out.below) hb
          have HHB : Hid (∀ wx v l, KI wb wx v l → wb.heap.size ≤ wx.heap.size) := fun wx v l h => h.1.size
          clear hvy hbb HRD2 HKA HVX
          have n1 : (0 + ks.length) * 8 ≤ 140737488355328 := by omega
          have n2 : ((([] : List Int) ++ ks).length + 1) * 8 ≤ 140737488355328 := by rw [List.nil_append]; omega
          have n3 : (([] : List Int) ++ ks).length + 1 ≤ maxLen := by rw [List.nil_append]; unfold maxLen; omega
          have HN2 := Lib.hid n2
          have HN3 := Lib.hid n3
          clear n2 n3
          have cv := fun (w : World) (C : Array Value) n c => Lib.run_convert_bytes_const (P := Try.prog) w 33 5 C n c Try.underlying33 Try.underlying5
          go_upto_region 24 with (first
            | (at_builtin; (refine wpList_append_g ienc_len (by decide) ienc_one rfl (.tmp 87) (.tmp 88) 34 3 rfl Try.underlying34 hj hy0 hy1 hy2 rfl wb.heap.size _ 0 _ rfl HK0.out.2 K ks.length CK ks rfl (HKIN.out _ HK0.out.1) rfl HKNIL.out (by unfold maxLen; omega) n1 (HHB.out _ _ _ HK0.out) ?_; intro v2 w6 q2 q3; have HK1 := Lib.hid (HK0.out.step (Below.refl _ _) rfl q2 q3); clear q2 q3))
            | (at_builtin; (refine wpList_append_g ienc_len (by decide) ienc_one rfl (.tmp 89) (.tmp 90) 34 3 rfl Try.underlying34 hj hy0 hy1 hy2 rfl wb.heap.size _ _ _ rfl (own_belowG HK1.out.2 ((Below.refl _ _).alloc (Nat.le_refl _) _)) _ 1 1 [(77 : Int)] rfl (i64_new w6 _ _ rfl) rfl (fun h => by cases h) HN3.out HN2.out (Nat.le_trans (HHB.out _ _ _ HK1.out) ((Below.refl _ _).alloc (Nat.le_refl _) _).size) ?_; intro v3 w7b q2 q3; have HK2 := Lib.hid (HK1.out.step ((Below.refl _ _).alloc (Nat.le_refl _) _) rfl q2 q3); clear q2 q3))
            | go_in)
          obtain ⟨bk, ck, rfl, h31, h32, hck, hin, h77⟩ := HK2.out.at
          have hkl2 : KLS w w7b g gr gq gi bk s1 s0 ks (.slice px q.2.length cx) (.slice py q.2.length cy) q.2.length q.2 := by
            refine ⟨fun k => ((k = gi ∨ (Value.slice px q.2.length cx).ownBlock = some k) ∨ (Value.slice py q.2.length cy).ownBlock = some k) ∨ k = bk, HKB.out.more HK2.out.1 (fun k hk => hk.elim Or.inl fun e => Or.inr (by have e2 : k = bk := e; rw [e2]; exact ⟨h31, h32⟩)), fun k hk => ⟨Or.inl (Or.inl (Or.inr hk)), HXLO.out k hk, ?_⟩, fun k hk => ⟨Or.inl (Or.inr hk), HYLO.out k hk, ?_, HNE.out k hk⟩, Or.inr rfl, own_belowG (Go.Proofs.Ytggcdlhgmikemaa.cln.own_base HVX2.out (Nat.zero_le _)) HK2.out.1, own_belowG (Go.Proofs.Ytggcdlhgmikemaa.cln.own_base HVY.out (Nat.zero_le _)) HK2.out.1, h32, hin, h77⟩
            · have := (HVX2.out.lt k hk).2
              omega
            · have := (HVY.out.lt k hk).2
              omega
          have HC := Lib.hid hkl2.appQ
          clear hkl2 h31 h32 hin h77 HK1 HK2 HKB HXLO HYLO HNE HVX2 HVY HK0 HKIN HHB hj hy0 hy1 hy2
          go_wp2_with fail
          refine HC.out.mono ?_
          rintro e wd ⟨rfl, hkl3⟩
          have HC := Lib.hid (hkl3.crashQ ck (by omega) HKI.out)
          have hck2 : (ks.length : Int) ≤ (ck : Int) := by omega
          clear hkl3
          go_wp2_with fail
          refine HC.out.mono ?_
          rintro e we ⟨rfl, hkl4⟩
          have HL4 := Lib.hid hkl4
          clear hkl4 hck2
          go_wp2_with fail
          refine (HKN.out _).mono ?_
          rintro e wf ⟨rfl, hbf⟩
          have HC := Lib.hid (HL4.out.same hbf).apart
          clear hbf HL4
          go_wp2_with fail
          refine HC.out.mono ?_
          rintro e wg ⟨rfl, hqg, h77⟩
          have HQG := Lib.hid hqg
          have HC := Lib.hid (alike_q hqg)
          clear hqg
          go_wp2_with fail
          refine HC.out.mono ?_
          rintro e wh ⟨rfl, hbh⟩
          have g77 : wh.cell? ⟨bk, ks.length, none⟩ = some (.int .i64 77) := (hbh.cell (p := ⟨bk, ks.length, none⟩) (cell_lt h77)).trans h77
          have HBH := Lib.hid hbh
          have hkI : (ks.length : Int) < ((ks.length + 1 : Nat) : Int) := by omega
          clear hbh h77
          go_wp2_with fail
          go_ret
          obtain ⟨Y9, hq9⟩ := HQG.out
          exact ⟨rfl, bnext hq9.below HBH.out⟩
        · have hkI : (k : Int) < n0 := by omega
          have hk3 : k < n0 + 3 := by omega
          obtain ⟨m, hm⟩ := hYm k hk3
          have c0 := hY.cell k
          rw [hm] at c0
          have f0 := hY.frozen k
          have HST : Hid (∀ v : Int, InS w (wr.setCell ⟨gi, k, none⟩ (.int .u8 v)) g gr gq gi n0 s1 s0) := fun v => InS.set HGW.out hY hYl hYm hks k v
          have hlt := hY.lt
          clear hY hYl hYm hks hm HX
          go_wp2_with fail
          go_roundg gk
          case measure => omega
          case rel => exact ⟨k + 1, by omega, by go_num, HST.out _⟩
end Go.Proofs.Ytggcdlhgmikemaa.plt

namespace Go.Proofs.Ytggcdlhgmikemaa.opn
open Go.ChangeShapes Go.WideShapes Go.ChangeAt Go.RowKit
open Go.Proofs.Ytggcdlhgmikemaa.oct (In8)
open Go.Proofs.Ytggcdlhgmikemaa.plt (T ienc ienc_len)
open Go.Proofs.Ytggcdlhgmikemaa.rowg (InG)

theorem open_nts8 {H : Type} {enc : TypeId × Value → H} {W : World} {a0 : Option Addr} {len cap : Nat} {d0 : DataW H} {p : List MemPlace}
    (h0 : DataW.Trod enc Try.prog W 0 (fun _ => true) true 34 (.slice a0 len cap) d0 p) :
    ∃ l : List Int, l.length = len ∧ InG ienc 1 W a0 l ∧ (a0 = none → cap = 0) ∧ l.length ≤ cap ∧ ((∃ n, n ∈ d0.weights Try.prog 34 ∧ l.length * 8 ≤ n) ∨ l.length * 8 = 0) ∧ ∀ x ∈ l, NtQ W 34 x d0 := by
  obtain ⟨l, hl, hin, hn, hcp, hx⟩ := rowg.open_g (enc := ienc) (k := 1) ienc_len (by decide) Try.underlying34 (by kernel_rfl) (NtQ (H := H) W 3) open_nt h0
  rcases hx with ⟨rfl, rfl⟩ | ⟨D, m, hlm, rfl, hq⟩
  · obtain rfl : l = [] := by simpa using hl
    exact ⟨[], hl, hin, hn, hcp, Or.inr rfl, fun x hx => by cases hx⟩
  · refine ⟨l, hl, hin, hn, hcp, Or.inl ⟨(((List.range len).map D).length + ((List.range (m - len)).map fun j => D (len + j)).length) * Try.prog.bytesOf 3, ?_, ?_⟩, fun x hx => ?_⟩
    · simp only [DataW.weights, Try.underlying34]
      exact List.mem_cons_self
    · have hb : Try.prog.bytesOf 3 = 8 := by kernel_rfl
      have h1 : ((List.range len).map D).length = len := by rw [List.length_map, List.length_range]
      rw [hl, h1]
      rw [hb]
      exact Nat.mul_le_mul_right 8 (Nat.le_add_right _ _)
    · obtain ⟨i, hi, rfl⟩ := List.mem_iff_getElem.1 hx
      have q := hq i hi
      have hm : D i ∈ (List.range len).map D := List.mem_map_of_mem (List.mem_range.2 (by omega))
      have hw : ∀ n, n ∈ (D i).weights Try.prog 3 → n ∈ (DataW.slice ((List.range len).map D) ((List.range (m - len)).map fun j => D (len + j))).weights Try.prog 34 := fun n hn => by
        simp only [DataW.weights, Try.underlying34]
        exact List.mem_cons_of_mem _ (List.mem_append_left _ (lAll_mem hm hn))
      exact q.up hw
end Go.Proofs.Ytggcdlhgmikemaa.opn
