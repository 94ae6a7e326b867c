/- PlateCrashes: in plain lists; a plate, its copies, rows of the law's own beside them. -/
import Derived.Test.YtggcdlhgmikemaaPnA
namespace Go.Proofs.Ytggcdlhgmikemaa.plt
open Go.RowKit
open Go.Proofs.Ytggcdlhgmikemaa.oct Go.Proofs.Ytggcdlhgmikemaa.ref Go.Proofs.Ytggcdlhgmikemaa.rows Go.Proofs.Ytggcdlhgmikemaa.rowg Go.Proofs.Ytggcdlhgmikemaa.trn
open Go.Lib (byteCells)
open Go.Proofs.Ytggcdlhgmikemaa.opn (SP spenc spenc_len GoodS)

theorem big_kept {f : F} (h : f.safe ≤ f.b.length) (hl : f.b.length ≤ 268435456) : kept f 4611686018427387904 = f.b.length := by
  unfold kept
  omega
theorem read_crash {s : PS} (h : Wf s) (ks : List Int) (i : Nat) (hi : i < s.fs.length) : readP (crashP s ks) (s.fs[i]).name = (0, (s.fs[i]).b.take (kept s.fs[i] ((ks[i]?).getD 0))) := by
  have h1 := h.each _ (List.getElem_mem hi)
  have hn : nameOk (s.fs[i]).name = true := name_ok.2 ⟨h1.2.2.1, h1.2.2.2⟩
  have hg := kept_get ks h.srt i hi
  have ha : askP (crashP s ks) (s.fs[i]).name false = (0, crashP s ks) := by
    unfold askP
    rw [if_neg (by rw [hn]; simp)]
    rfl
  unfold readP
  rw [ha]
  dsimp only
  rw [if_pos rfl]
  show ((0 : Nat), (getF (crashF s.fs ks) (s.fs[i]).name).b) = _
  rw [hg]
theorem safe_crash {s : PS} (h : Wf s) (ks : List Int) (i : Nat) (hi : i < s.fs.length) : (getF (crashP s ks).fs (s.fs[i]).name).safe = kept s.fs[i] ((ks[i]?).getD 0) := by
  show (getF (crashF s.fs ks) (s.fs[i]).name).safe = _
  rw [kept_get ks h.srt i hi]
theorem read_full {s : PS} (h : Wf s) (i : Nat) (hi : i < s.fs.length) : readP (crashP s (List.replicate s.fs.length 4611686018427387904)) (s.fs[i]).name = (0, (s.fs[i]).b) := by
  have h1 := h.each _ (List.getElem_mem hi)
  have h2 := get_le h.srt (s.fs[i]).name
  rw [get_at h.srt i hi] at h2
  have h3 := h.used
  have h4 := h.room
  have h5 : ((List.replicate s.fs.length (4611686018427387904 : Int))[i]?).getD 0 = 4611686018427387904 := by
    rw [List.getElem?_replicate, if_pos hi]
    rfl
  rw [read_crash h _ i hi, h5, big_kept h1.2.1 (by omega), List.take_length]
/-- a step of one plate's, by a new plate of the document's without room -/
theorem St.do {w wr : World} {gp : Nat} {sp : PS} (h : St w wr gp sp) (x : SP) (hg : GoodS w x) :
    Calls Try.prog 11 #[dptr gp, dptr wr.heap.size, .agg (spenc x).toArray] (wr.alloc (.cells (rzero 0) 31)) fun e w2 => (∃ b : Bool, e = .returned (.bool b)) ∧ St w w2 gp (doP sp x).2 := by
  obtain ⟨R, h1, h2, h3, h4⟩ := h
  have hq := qs_start (n := 0) (j := 0) h1 h4 h2 h3 (Below.refl _ _) (fun _ => False) (fun _ e => e.elim) (by omega) rfl
  refine (do_c hq False (fun e => e.elim) x hg).mono ?_
  rintro e w2 ⟨⟨b, e1, _⟩, ⟨R1, R2, r⟩, _⟩
  exact ⟨⟨b, e1⟩, R1, r.la, r.lo, r.below, r.ws⟩
theorem St.names {w wy : World} {gp : Nat} {sp : PS} (h : St w wy gp sp) : Calls Try.prog 15 #[dptr gp] wy fun e w' => (∃ p c, e = .returned (.slice p sp.fs.length c) ∧ w'.ownsRow wy.heap.size 9 1 (.slice p sp.fs.length c) sp.fs.length (cells tenc (sp.fs.map (·.name)))) ∧ Below wy.heap.size wy w' := by
  obtain ⟨Rp, h1, _, _, h4⟩ := h
  refine (pnames_c h1 h4).mono fun e w' ⟨v, e1, ho, hb⟩ => ⟨?_, hb⟩
  rw [List.length_map] at ho
  obtain ⟨p, c, rfl⟩ := Go.Proofs.Ytggcdlhgmikemaa.cln.own_slice ho
  exact ⟨p, c, e1, ho⟩
theorem St.synced2 {w wy : World} {g : Nat} {s : PS} (h : St w wy g s) (n : T) (hn : n.length ≤ 140737488351232) :
    Calls Try.prog 16 #[dptr g, .string ⟨n.toArray⟩] wy fun e w' => e = .returned (.int .i64 ((getF s.fs n).safe : Nat)) ∧ Below wy.heap.size wy w' := by
  obtain ⟨R, h1, h2, h3, h4⟩ := h
  exact psynced_c h1 n hn
/-- a copy; the law's rows that came to be behind w3 are none of its blocks, nor of the plate's -/
theorem St.copyZ {w w3 wy : World} {gp : Nat} {sp : PS} (h : St w w3 gp sp) (hb : Below w3.heap.size w3 wy) :
    Calls Try.prog 13 #[dptr gp] wy fun e w2 => (∃ gq, e = .returned (dptr gq) ∧ TW w w2 gp gq sp sp (fun k => w3.heap.size ≤ k ∧ k < wy.heap.size)) ∧ Below wy.heap.size wy w2 := by
  obtain ⟨R, h1, h2, h3, h4⟩ := h
  refine (pcopy_c (h1.below hb) h4).mono ?_
  rintro e w2 ⟨g2, R2, e1, e2, e3, e4⟩
  have hs := e4.size
  have hws := h3.size
  have hb2 := hb.size
  refine ⟨⟨g2, e1, R, R2, ⟨(h1.below hb).below e4, e2, fun k k1 k2 => by have := h1.lt k k1; have := e3 k k2; omega, h2, fun k hk => by have := e3 k hk; omega, fun k hk hr => by have := h1.lt k hr; omega, fun k hk hr => by have := e3 k hr; omega, fun k hk => by omega, h4, h4, bnext h3 (bnext hb e4)⟩⟩, e4⟩
/-- a call of the first plate's, which may look at rows of Z; nothing of Z turns -/
theorem TW.runZ {w wy : World} {gp gq : Nat} {sp sq s2 : PS} {Z : Nat → Prop} (h : TW w wy gp gq sp sq Z) (hw : Wf s2) {P : Program} {f : FuncId} {args : Array Value} {Q : Ending → Prop} (hc : ∀ R, (∀ k, R k → w.heap.size ≤ k) → (∀ k, Z k → ¬ R k) → PA wy R gp sp → Wf sp → Calls P f args wy fun e w2 => Q e ∧ To wy w2 R gp s2) :
    Calls P f args wy fun e w2 => Q e ∧ TW w w2 gp gq s2 sq Z ∧ Turn (fun k => ¬ Z k) wy w2 := by
  obtain ⟨Rp, Rq, h⟩ := h
  refine (hc Rp h.plo h.pz h.pa h.wp).mono fun e w2 ⟨hq, R', t1, t2, t3⟩ => ⟨hq, ⟨R', Rq, ⟨t1, h.qa.turn t2 fun k hk hr => h.two k hr hk, fun k hk hr => (t3 k hk).elim (fun e => h.two k e hr) fun e => (by have := h.qa.lt k hr; omega),
    fun k hk => (t3 k hk).elim (h.plo k) fun e => Nat.le_trans h.below.size e, h.qlo, fun k hk hr => (t3 k hr).elim (h.pz k hk) fun e => (by have := h.zlt k hk; omega), h.qz, fun k hk => Nat.lt_of_lt_of_le (h.zlt k hk) t2.size, hw, h.wq, t2.below h.below h.plo h.below.size⟩⟩, t2.mono fun k _ hr hz => h.pz k hz hr⟩
theorem TW.crash {w wy : World} {gp gq : Nat} {sp sq : PS} {Z : Nat → Prop} (h : TW w wy gp gq sp sq Z) (pk : Option Addr) (ck : Nat) (ks : List Int) (hk8 : InG ienc 1 wy pk ks) (hkl : ks.length ≤ 9223372036854775807) (hki : ∀ n ∈ ks, -9223372036854775808 ≤ n ∧ n ≤ 9223372036854775807) (ho : ks ≠ [] → ∀ i o x, pk = some ⟨i, o, x⟩ → Z i ∨ i < w.heap.size) :
    Calls Try.prog 14 #[dptr gp, .slice pk ks.length ck] wy fun e w' => e = .returned (.tuple #[]) ∧ TW w w' gp gq (crashP sp ks) sq Z ∧ Turn (fun k => ¬ Z k) wy w' := by
  have hw := h.wfp
  exact h.runZ (wf_crash hw ks) fun R lo hz hR hwf => pcrash_c hR hwf pk ck ks hk8 hkl hki fun hne i o x e _ hr => (ho hne i o x e).elim (fun e2 => hz i e2 hr) fun e2 => by have := lo i hr; omega
theorem two_new (W : World) (a b : Int) : InG ienc 1 (W.alloc (.cells #[.int .i64 a, .int .i64 b] 3)) (some ⟨W.heap.size, 0, none⟩) [a, b] := fun _ =>
  ⟨W.heap.size, 0, rfl, fun i hi j hj => by
    have hb := blk_new W #[.int .i64 a, .int .i64 b] 3 [.int .i64 a, .int .i64 b] rfl
    rw [hb.cell]
    obtain rfl : j = 0 := by omega
    have h2 : i < 2 := hi
    rcases i with _ | _ | i
    · rfl
    · rfl
    · omega⟩
/-- both of a copy's first crash: the plate itself stays -/
theorem TW.crash_two {w w2 : World} {gp gq : Nat} {sp : PS} {Z : Nat → Prop} (h : TW w w2 gp gq sp sp Z) (a b : Int) (ha : -9223372036854775808 ≤ a ∧ a ≤ 9223372036854775807) (hb : -9223372036854775808 ≤ b ∧ b ≤ 9223372036854775807) :
    Calls Try.prog 14 #[dptr gq, .slice (some ⟨w2.heap.size, 0, none⟩) 2 2] (w2.alloc (.cells #[.int .i64 a, .int .i64 b] 3)) fun e w' => e = .returned (.tuple #[]) ∧ St w w' gp sp := by
  have hb1 := (Below.refl w2.heap.size w2).alloc (Nat.le_refl _) (.cells #[.int .i64 a, .int .i64 b] 3)
  have hs : (w2.alloc (.cells #[.int .i64 a, .int .i64 b] 3)).heap.size = w2.heap.size + 1 := by simp
  have h2 := (h.more (Z2 := fun k => k = w2.heap.size) hb1 fun k hk => Or.inr ⟨by omega, by omega⟩).swap
  refine (h2.crash (some ⟨w2.heap.size, 0, none⟩) 2 [a, b] (two_new w2 a b) (show 2 ≤ 9223372036854775807 by decide) (fun n hn => ?_) (fun _ i o x e => ?_)).mono ?_
  · rcases List.mem_cons.1 hn with rfl | hn
    · exact ha
    · rw [List.mem_singleton.1 hn]; exact hb
  · injection e with e
    injection e with e
    exact Or.inl e.symm
  · rintro e w' ⟨e1, e2, _⟩
    exact ⟨e1, e2.swap.st⟩
theorem infoI64 : (Try.prog.info? 3).map (fun i => (i.zero, i.size, i.bytes)) = some (some (.int .i64 0), 1, 8) := by kernel_rfl
theorem ienc_one : ∀ a : Int, ∀ u ∈ ienc a, u.oneCell' = true := fun a u hu => by rw [List.mem_singleton.1 hu]; rfl
theorem i64_new (W : World) (x : Int) (g : Nat) (hg : g = W.heap.size) : InG ienc 1 (W.alloc (.cells #[.int .i64 x] 3)) (some ⟨g, 0, none⟩) [x] := one_new W x g hg
/-- an int of an own row -/
theorem ienc_at {w : World} {B : Nat} {v : Value} {l : List Int} (h : w.ownsRow B 3 1 v l.length (cells ienc l)) (i : Nat) (hi : i < l.length) : ∃ b, v.ownBlock = some b ∧ w.cell? ⟨b, i, none⟩ = some (.int .i64 l[i]) := by
  rcases h.2 with ⟨h1, h2⟩ | ⟨g, cap, cur, h1, _⟩
  · omega
  · obtain ⟨p, c, rfl, _, _, hin⟩ := own_g ienc_len (by decide) h
    obtain ⟨b, o, rfl, hc⟩ := hin (by omega)
    injection h1 with h1
    injection h1 with h1
    injection h1 with h1 h5
    subst h1
    subst h5
    have h4 := hc i hi 0 (by decide)
    rw [Nat.zero_add, Nat.mul_one, Nat.add_zero] at h4
    exact ⟨b, rfl, h4⟩
/-- an own row's address is a block's beginning -/
theorem own_ptr {w : World} {B e k n c m : Nat} {p : Option Addr} {xs : List Value} (h : w.ownsRow B e k (.slice p n c) m xs) {b : Nat} (hb : (Value.slice p n c).ownBlock = some b) : p = some ⟨b, 0, none⟩ := by
  rcases h.2 with ⟨h1, _⟩ | ⟨gg, cap, cur, h1, _⟩
  · rw [h1] at hb; cases hb
  · injection h1 with h1
    subst h1
    injection hb with hb
    subst hb
    rfl
/-- how things stand while the synced ones are noted: v the row of them, vn the names' -/
structure CSI (w3 wy : World) (v vn : Value) (sp : PS) (i : Nat) : Prop where
  bel : Below w3.heap.size w3 wy
  own : wy.ownsRow w3.heap.size 3 1 v i (cells ienc ((sp.fs.map fun f => (f.safe : Int)).take i))
  nam : wy.ownsRow w3.heap.size 9 1 vn sp.fs.length (cells tenc (sp.fs.map (·.name)))
theorem CSI.start {w3 wy : World} {vn : Value} {sp : PS} (hb : Below (w3.alloc (.cells #[] 3)).heap.size (w3.alloc (.cells #[] 3)) wy) (hn : wy.ownsRow (w3.alloc (.cells #[] 3)).heap.size 9 1 vn sp.fs.length (cells tenc (sp.fs.map (·.name)))) :
    CSI w3 wy (.slice (some ⟨w3.heap.size, 0, none⟩) 0 0) vn sp 0 := by
  have hb1 := (Below.refl w3.heap.size w3).alloc (Nat.le_refl _) (.cells #[] 3)
  exact ⟨bnext hb1 hb, own_belowG (own_emptyG (enc := ienc) (k := 1) w3 3) hb, Go.Proofs.Ytggcdlhgmikemaa.cln.own_base hn hb1.size⟩
theorem CSI.step {w3 wy wz w7 : World} {v v2 vn : Value} {sp : PS} {i : Nat} (h : CSI w3 wy v vn sp i) (hi : i < sp.fs.length) (hb : Below wy.heap.size wy wz) (ho : w7.ownsRow w3.heap.size 3 1 v2 (i + 1) (cells ienc ((sp.fs.map fun f => (f.safe : Int)).take i) ++ cells ienc [((sp.fs[i]).safe : Int)])) (hg : wz.grownBy w7 v.ownBlock) :
    CSI w3 w7 v2 vn sp (i + 1) := by
  have hoz := own_belowG h.own hb
  have hnz := own_belowG h.nam hb
  refine ⟨?_, ?_, ?_⟩
  · have h1 := bnext h.bel hb
    exact h1.grown hg h1.size fun k hk => (hoz.lt k hk).1
  · have hl : i < (sp.fs.map fun f => (f.safe : Int)).length := by rw [List.length_map]; exact hi
    rw [List.take_succ_eq_append_getElem hl, cells_append, List.getElem_map]
    exact ho
  · refine own_turn hnz (Turn.of_row (S := fun k => v.ownBlock = some k) hg fun b hb => hb) fun b hb1 hb2 => ?_
    obtain ⟨X, hX⟩ := row_obj hnz hb1
    obtain ⟨Y, hY⟩ := row_obj hoz hb2
    have h1 := hX.symm.trans hY
    injection h1 with h1
    injection h1 with _ h1
    exact absurd h1 (by decide)
theorem own_in {w : World} {B e n c : Nat} {p : Option Addr} {l : List Int} (h : w.ownsRow B e 1 (.slice p n c) l.length (cells ienc l)) : InG ienc 1 w p l := by
  obtain ⟨p2, c2, e2, _, _, h2⟩ := own_g ienc_len (by decide) h
  injection e2 with e2
  rw [e2]
  exact h2
/-- a plate, its copy, the rows of synced ones and of names (of the state s0) beside them -/
structure CJ (w wy : World) (gp gf : Nat) (sp sq s0 : PS) (v vn : Value) (Z : Nat → Prop) : Prop where
  tw : TW w wy gp gf sp sq Z
  vz : ∀ k, v.ownBlock = some k → Z k
  nz : ∀ k, vn.ownBlock = some k → Z k
  own : wy.ownsRow 0 3 1 v s0.fs.length (cells ienc (s0.fs.map fun f => (f.safe : Int)))
  nam : wy.ownsRow 0 9 1 vn s0.fs.length (cells tenc (s0.fs.map (·.name)))
def CSJ (w wy : World) (gp gf : Nat) (sp sq s0 : PS) (v vn : Value) : Prop := ∃ Z, CJ w wy gp gf sp sq s0 v vn Z
theorem CJ.turn {w wy w2 : World} {gp gf : Nat} {sp sq sp2 sq2 s0 : PS} {v vn : Value} {Z Z2 : Nat → Prop} (h : CJ w wy gp gf sp sq s0 v vn Z) (hz : ∀ k, Z k → Z2 k) (h2 : TW w w2 gp gf sp2 sq2 Z2) (ht : Turn (fun k => ¬ Z k) wy w2) : CJ w w2 gp gf sp2 sq2 s0 v vn Z2 :=
  ⟨h2, fun k hk => hz k (h.vz k hk), fun k hk => hz k (h.nz k hk), own_turn h.own ht fun b hb hn => hn (h.vz b hb), own_turn h.nam ht fun b hb hn => hn (h.nz b hb)⟩
theorem CSJ.same {w wy w2 : World} {gp gf : Nat} {sp sq s0 : PS} {v vn : Value} (h : CSJ w wy gp gf sp sq s0 v vn) (hb : Below wy.heap.size wy w2) : CSJ w w2 gp gf sp sq s0 v vn := by
  obtain ⟨Z, h⟩ := h
  exact ⟨Z, h.turn (fun _ => id) (h.tw.same hb) (Turn.of_below hb)⟩
theorem CSI.copy {w w3 wy : World} {gp : Nat} {v vn : Value} {sp : PS} (h : CSI w3 wy v vn sp sp.fs.length) (hs : St w w3 gp sp) :
    Calls Try.prog 13 #[dptr gp] wy fun e w2 => ∃ gf, e = .returned (dptr gf) ∧ CSJ w w2 gp gf sp sp sp v vn := by
  refine (hs.copyZ h.bel).mono ?_
  rintro e w2 ⟨⟨gf, e1, htw⟩, hb⟩
  have ho := h.own
  rw [List.take_of_length_le (by rw [List.length_map]; exact Nat.le_refl _)] at ho
  exact ⟨gf, e1, _, htw, fun k hk => ho.lt k hk, fun k hk => h.nam.lt k hk, own_belowG (Go.Proofs.Ytggcdlhgmikemaa.cln.own_base ho (Nat.zero_le _)) hb, own_belowG (Go.Proofs.Ytggcdlhgmikemaa.cln.own_base h.nam (Nat.zero_le _)) hb⟩
/-- the copy crashes, by a row that has come to be behind w5 -/
theorem CSJ.crash_full {w w5 wy : World} {gp gf : Nat} {sp sq s0 : PS} {v vn : Value} (h : CSJ w w5 gp gf sp sq s0 v vn) (hb : Below w5.heap.size w5 wy) (pm : Option Addr) (cm : Nat) (ks : List Int) (ho : wy.ownsRow w5.heap.size 3 1 (.slice pm ks.length cm) ks.length (cells ienc ks)) (hkl : ks.length ≤ 9223372036854775807) (hki : ∀ n ∈ ks, -9223372036854775808 ≤ n ∧ n ≤ 9223372036854775807) :
    Calls Try.prog 14 #[dptr gf, .slice pm ks.length cm] wy fun e w' => e = .returned (.tuple #[]) ∧ CSJ w w' gp gf sp (crashP sq ks) s0 v vn := by
  obtain ⟨Z, h⟩ := h
  have h2 := h.turn (Z2 := fun k => Z k ∨ (w5.heap.size ≤ k ∧ k < wy.heap.size)) (fun _ => Or.inl) (h.tw.more hb fun k hk => hk) (Turn.of_below hb)
  refine (h2.tw.swap.crash pm cm ks (own_in ho) hkl hki fun _ i o x e => Or.inl (Or.inr ?_)).mono ?_
  · subst e
    rcases ho.2 with ⟨h1, _⟩ | ⟨gg, cap, cur, h1, h3, h4, _⟩
    · cases h1
    · injection h1 with h1
      injection h1 with h1
      injection h1 with h1
      subst h1
      exact ⟨h3, (Array.getElem?_eq_some_iff.1 h4).1⟩
  · rintro e w' ⟨e1, e2, e3⟩
    exact ⟨e1, _, h2.turn (fun _ => id) e2.swap e3⟩
theorem CSJ.crash_p {w wy : World} {gp gf : Nat} {sp sq s0 : PS} {v vn : Value} (h : CSJ w wy gp gf sp sq s0 v vn) (pk : Option Addr) (ck : Nat) (ks : List Int) (hk : InG ienc 1 w pk ks) (hkl : ks.length ≤ 9223372036854775807) (hki : ∀ n ∈ ks, -9223372036854775808 ≤ n ∧ n ≤ 9223372036854775807) :
    Calls Try.prog 14 #[dptr gp, .slice pk ks.length ck] wy fun e w' => e = .returned (.tuple #[]) ∧ CSJ w w' gp gf (crashP sp ks) sq s0 v vn := by
  obtain ⟨Z, h⟩ := h
  refine (h.tw.crash pk ck ks (InG.below ienc_len (by decide) hk h.tw.below) hkl hki fun hne i o x e => Or.inr (out_of_ing hk hne e)).mono ?_
  rintro e w' ⟨e1, e2, e3⟩
  exact ⟨e1, _, h.turn (fun _ => id) e2 e3⟩
/-- what a place of the rows has -/
theorem CSJ.at {w w9 wy : World} {gp gf : Nat} {sp sq s0 : PS} {ps pn : Option Addr} {L cs cn : Nat} (h : CSJ w w9 gp gf sp sq s0 (.slice ps L cs) (.slice pn L cn)) (hb : Below w9.heap.size w9 wy) (i : Nat) (hi : i < s0.fs.length) :
    ∃ b1 b2, pn = some ⟨b1, 0, none⟩ ∧ ps = some ⟨b2, 0, none⟩ ∧ wy.cell? ⟨b1, i, none⟩ = some (.string ⟨(s0.fs[i]).name.toArray⟩) ∧ wy.cell? ⟨b2, i, none⟩ = some (.int .i64 ((s0.fs[i]).safe : Nat)) := by
  obtain ⟨Z, h⟩ := h.same hb
  have hl : (s0.fs.map (·.name)).length = s0.fs.length := List.length_map _
  have hl2 : (s0.fs.map fun f => (f.safe : Int)).length = s0.fs.length := List.length_map _
  obtain ⟨b1, e1, q1⟩ := tenc_at (l := s0.fs.map (·.name)) (by rw [hl]; exact h.nam) i (by rw [hl]; exact hi)
  obtain ⟨b2, e2, q2⟩ := ienc_at (l := s0.fs.map fun f => (f.safe : Int)) (by rw [hl2]; exact h.own) i (by rw [hl2]; exact hi)
  rw [List.getElem_map] at q1 q2
  exact ⟨b1, b2, own_ptr h.nam e1, own_ptr h.own e2, q1, q2⟩
theorem CSJ.down {w wy : World} {gp gf : Nat} {sp sq s0 : PS} {v vn : Value} (h : CSJ w wy gp gf sp sq s0 v vn) : Calls Try.prog 17 #[dptr gp] wy fun e w' => e = .returned (.bool sp.down) ∧ wy = w' := by
  obtain ⟨Z, h⟩ := h
  exact h.tw.down
theorem CSJ.names {w wy : World} {gp gf : Nat} {sp sq s0 : PS} {v vn : Value} (h : CSJ w wy gp gf sp sq s0 v vn) : Calls Try.prog 15 #[dptr gp] wy fun e w' => (∃ p c, e = .returned (.slice p sp.fs.length c)) ∧ Below wy.heap.size wy w' := by
  obtain ⟨Z, h⟩ := h
  exact h.tw.names.mono fun e w' ⟨⟨p, c, e1, _⟩, hb⟩ => ⟨⟨p, c, e1⟩, hb⟩
theorem CSJ.tws {w wy : World} {gp gf : Nat} {sp sq s0 : PS} {v vn : Value} (h : CSJ w wy gp gf sp sq s0 v vn) : ∃ Z, TW w wy gp gf sp sq Z := by
  obtain ⟨Z, h⟩ := h
  exact ⟨Z, h.tw⟩
theorem TW.synced {w wy : World} {gp gq : Nat} {sp sq : PS} {Z : Nat → Prop} (h : TW w wy gp gq sp sq Z) (n : T) (hn : n.length ≤ 140737488351232) :
    Calls Try.prog 16 #[dptr gp, .string ⟨n.toArray⟩] wy fun e w' => e = .returned (.int .i64 ((getF sp.fs n).safe : Nat)) ∧ Below wy.heap.size wy w' := h.st.synced2 n hn
/-- the row of great numbers -/
def MoreI (w5 wy : World) (v : Value) (i : Nat) : Prop := Below w5.heap.size w5 wy ∧ wy.ownsRow w5.heap.size 3 1 v i (cells ienc (List.replicate i 4611686018427387904))
theorem MoreI.step {w5 wr wz w6 : World} {v v2 : Value} {i : Nat} (h : MoreI w5 wr v i) (hb : Below wr.heap.size wr wz) (q2 : w6.ownsRow w5.heap.size 3 1 v2 (i + 1) (cells ienc (List.replicate i 4611686018427387904) ++ cells ienc [4611686018427387904])) (q3 : wz.grownBy w6 v.ownBlock) : MoreI w5 w6 v2 (i + 1) := by
  have h1 := bnext h.1 hb
  refine ⟨h1.grown q3 h1.size fun k hk => ((own_belowG h.2 hb).lt k hk).1, ?_⟩
  rw [List.replicate_succ', cells_append]
  exact q2
theorem in8_cut {w : World} {p : Option Addr} {l : T} (h : In8 w p l) (k : Nat) : In8 w p (l.take k) := fun hl => by
  rw [List.length_take] at hl
  obtain ⟨b, o, e, hc⟩ := h (by omega)
  refine ⟨b, o, e, fun i hi => ?_⟩
  rw [List.length_take] at hi
  have h1 := hc i (by omega)
  rw [h1]
  simp only [List.getD, List.getElem?_take]
  rw [if_pos (by omega)]
theorem TW.readC {w wy : World} {gp gq : Nat} {sp sq : PS} {Z : Nat → Prop} (h : TW w wy gp gq sp sq Z) (n : T) (hn : n.length ≤ 140737488351232) : Calls Try.prog 18 #[dptr gp, .string ⟨n.toArray⟩] wy fun e w' => ∃ p c, e = .returned (.tuple #[.slice p (readP sp n).2.length c, .int .i64 ((readP sp n).1 : Nat)]) ∧ In8 w' p (readP sp n).2 ∧ (readP sp n).2.length ≤ c ∧ (p = none → c = 0) ∧ Below wy.heap.size wy w' := by
  obtain ⟨Rp, Rq, h⟩ := h
  refine (pread_c h.pa h.wp n hn).mono fun e w' ⟨v, e1, ho, hb⟩ => ?_
  obtain ⟨p, c, rfl, h8⟩ := own_in8' ho
  refine ⟨p, c, e1, h8, ?_, ?_, hb⟩
  · rcases ho.2 with ⟨h1, h2⟩ | ⟨g, cp, cur, h1, _, _, h4, _⟩
    · rw [h2]
      exact Nat.zero_le _
    · injection h1 with h1 h2 h3
      omega
  · intro e
    rcases ho.2 with ⟨h1, h2⟩ | ⟨g, cp, cur, h1, _, _, h4, _⟩
    · injection h1
    · injection h1 with h1 h2 h3
      rw [h1] at e
      cases e
end Go.Proofs.Ytggcdlhgmikemaa.plt
