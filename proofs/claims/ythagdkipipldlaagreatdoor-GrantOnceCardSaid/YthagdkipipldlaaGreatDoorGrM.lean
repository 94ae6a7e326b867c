/- Commands, families, a book in memory: CV (a command's value), DF (a family: its block, where its rows are), FamM, BM (block g is the book, part by part), BA (block g is a book of these families). No condition. -/
import Derived.Test.YthagdkipipldlaaGreatDoorGr3
import Derived.Test.YthagdkipipldlaaGreatDoorBaseA
import Derived.Test.YthagdkipipldlaaGreatDoorGscp
namespace Go.Proofs.YthagdkipipldlaaGreatDoor.gra
open Go.RowKit
open Go.Proofs.YthagdkipipldlaaGreatDoor.oct Go.Proofs.YthagdkipipldlaaGreatDoor.ref Go.Proofs.YthagdkipipldlaaGreatDoor.rows Go.Proofs.YthagdkipipldlaaGreatDoor.rowg Go.Proofs.YthagdkipipldlaaGreatDoor.mpt Go.Proofs.YthagdkipipldlaaGreatDoor.trn Go.Proofs.YthagdkipipldlaaGreatDoor.krd
open Go.Proofs.YthagdkipipldlaaGreatDoor.scp (tx senc senc_len senc_one InS ins_below ins_cell lt Lst lval lenc GoodL FitS)

/-- a list that is handed in -/
structure LL (w : World) (x : Lst) : Prop where
  row : InS w x.1 x.2.2
  room : x.2.2.length ≤ x.2.1
  nil : x.1 = none → x.2.1 = 0
  fit : FitS x.2.2
  reach : x.2.2.length ≤ 140737488351232
theorem LL.below {w w' : World} {x : Lst} (h : LL w x) (hb : Below w.heap.size w w') : LL w' x := ⟨ins_below h.row hb, h.room, h.nil, h.fit, h.reach⟩
theorem LL.good {w : World} {x : Lst} (h : LL w x) (hf : x.2.2.length ≤ 4194304) : GoodL w x := ⟨h.row, h.room, h.nil, h.fit, hf⟩
theorem LL.of_good {w : World} {x : Lst} (h : GoodL w x) : LL w x := ⟨h.row, h.room, h.nil, h.fit, by have := h.few; omega⟩
/-- a command in memory: where its scope is, with what room -/
structure CM where
  c : CT
  p : Option Addr
  r : Nat
def CM.l (x : CM) : Lst := (x.p, x.r, x.c.sc)
def cenc (x : CM) : List Value := [.int .i64 x.c.kind, tx x.c.fam, .int .i64 x.c.ser, .int .i64 x.c.tok, tx x.c.cl, tx x.c.us, lval x.l, tx x.c.re, tx x.c.ch, tx x.c.me, tx x.c.ve, .bool x.c.rf, .int .i64 x.c.edge]
theorem cenc_len : ∀ a, (cenc a).length = 13 := fun _ => rfl
def cval (x : CM) : Value := .agg #[.int .i64 x.c.kind, tx x.c.fam, .int .i64 x.c.ser, .int .i64 x.c.tok, tx x.c.cl, tx x.c.us, lval x.l, tx x.c.re, tx x.c.ch, tx x.c.me, tx x.c.ve, .bool x.c.rf, .int .i64 x.c.edge]
def okI (n : Int) : Prop := -9223372036854775808 ≤ n ∧ n ≤ 9223372036854775807
structure GoodC (w : World) (x : CM) : Prop where
  kind : okI x.c.kind
  ser : okI x.c.ser
  tok : okI x.c.tok
  edge : okI x.c.edge
  fam : x.c.fam.length ≤ 140737488351232
  cl : x.c.cl.length ≤ 140737488351232
  us : x.c.us.length ≤ 140737488351232
  re : x.c.re.length ≤ 140737488351232
  ch : x.c.ch.length ≤ 140737488351232
  me : x.c.me.length ≤ 140737488351232
  ve : x.c.ve.length ≤ 140737488351232
  sc : LL w x.l
theorem GoodC.below {w w' : World} {x : CM} (h : GoodC w x) (hb : Below w.heap.size w w') : GoodC w' x := ⟨h.kind, h.ser, h.tok, h.edge, h.fam, h.cl, h.us, h.re, h.ch, h.me, h.ve, h.sc.below hb⟩
/-- an issued token in memory -/
structure IM where
  k : Int
  sc : Lst
  used : Bool
instance : Inhabited IM := ⟨⟨0, (none, 0, []), false⟩⟩
def ienc (t : IM) : List Value := [.int .i64 t.k, lval t.sc, .bool t.used]
theorem ienc_len : ∀ a, (ienc a).length = 3 := fun _ => rfl
theorem ienc_one : ∀ a : IM, ∀ u ∈ ienc a, u.oneCell' = true := fun a u hu => by
  simp only [ienc, List.mem_cons, List.not_mem_nil, or_false] at hu
  rcases hu with rfl | rfl | rfl <;> rfl
def IM.t (t : IM) : IT := ⟨t.k, t.sc.2.2, t.used⟩
def nenc (n : Int) : List Value := [.int .i64 n]
theorem nenc_len : ∀ a, (nenc a).length = 1 := fun _ => rfl
theorem nenc_one : ∀ a : Int, ∀ u ∈ nenc a, u.oneCell' = true := fun a u hu => by rw [List.mem_singleton.1 hu]; rfl
/-- a family in memory: its block, its rows -/
structure DF where
  g : Nat
  id : T
  cl : T
  us : T
  sc : Lst
  re : T
  ch : T
  me : T
  code : Int
  tp : Option Addr
  tc : Nat
  tk : List IM
  rev : Bool
  lp : Option Addr
  lc : Nat
  le : List Int
instance : Inhabited DF := ⟨⟨0, [], [], [], (none, 0, []), [], [], [], 0, none, 0, [], false, none, 0, []⟩⟩
def DF.f (x : DF) : FT := ⟨x.id, x.cl, x.us, x.sc.2.2, x.re, x.ch, x.me, x.code, x.tk.map IM.t, x.rev, x.le⟩
def DF.tv (x : DF) : Value := .slice x.tp x.tk.length x.tc
def DF.lv (x : DF) : Value := .slice x.lp x.le.length x.lc
def fenc (x : DF) : List Value := [tx x.id, tx x.cl, tx x.us, lval x.sc, tx x.re, tx x.ch, tx x.me, .int .i64 x.code, x.tv, .bool x.rev, x.lv]
theorem fenc_len : ∀ a, (fenc a).length = 11 := fun _ => rfl
theorem fenc_one : ∀ a : DF, ∀ u ∈ fenc a, u.oneCell' = true := fun a u hu => by
  simp only [fenc, List.mem_cons, List.not_mem_nil, or_false] at hu
  rcases hu with rfl | rfl | rfl | rfl | rfl | rfl | rfl | rfl | rfl | rfl | rfl <;> rfl
def fval (x : DF) : Value := .agg #[tx x.id, tx x.cl, tx x.us, lval x.sc, tx x.re, tx x.ch, tx x.me, .int .i64 x.code, x.tv, .bool x.rev, x.lv]
/-- a family's rows are the call's own -/
structure OwnF (w : World) (B : Nat) (x : DF) : Prop where
  sc : w.ownsRow B 9 1 (lval x.sc) x.sc.2.2.length (cells senc x.sc.2.2)
  tk : w.ownsRow B 50 3 x.tv x.tk.length (cells ienc x.tk)
  ts : ∀ t ∈ x.tk, w.ownsRow B 9 1 (lval t.sc) t.sc.2.2.length (cells senc t.sc.2.2)
  le : w.ownsRow B 3 1 x.lv x.le.length (cells nenc x.le)
/-- the blocks of a family's rows -/
def DF.row (x : DF) (k : Nat) : Prop := (lval x.sc).ownBlock = some k ∨ x.tv.ownBlock = some k ∨ (∃ t ∈ x.tk, (lval t.sc).ownBlock = some k) ∨ x.lv.ownBlock = some k
def DF.has (x : DF) (k : Nat) : Prop := k = x.g ∨ x.row k
theorem OwnF.turn {S : Nat → Prop} {w w' : World} {B : Nat} {x : DF} (h : OwnF w B x) (ht : Turn S w w') (hd : ∀ k, x.row k → ¬ S k) : OwnF w' B x :=
  ⟨own_turn h.sc ht fun b hb => hd b (Or.inl hb), own_turn h.tk ht fun b hb => hd b (Or.inr (Or.inl hb)), fun t m => own_turn (h.ts t m) ht fun b hb => hd b (Or.inr (Or.inr (Or.inl ⟨t, m, hb⟩))), own_turn h.le ht fun b hb => hd b (Or.inr (Or.inr (Or.inr hb)))⟩
theorem OwnF.below {w w' : World} {B : Nat} {x : DF} (h : OwnF w B x) (hb : Below w.heap.size w w') : OwnF w' B x := h.turn (S := fun _ => False) (Turn.of_below hb) fun _ _ => id
theorem own_baseR {w : World} {B B2 e k n : Nat} {v : Value} {xs : List Value} (h : w.ownsRow B e k v n xs) (hb : B2 ≤ B) : w.ownsRow B2 e k v n xs := by
  refine ⟨h.1, ?_⟩
  rcases h.2 with h2 | ⟨g, cap, cur, h1, h2, h3⟩
  · exact Or.inl h2
  · exact Or.inr ⟨g, cap, cur, h1, Nat.le_trans hb h2, h3⟩
theorem OwnF.base {w : World} {B B2 : Nat} {x : DF} (h : OwnF w B x) (hb : B2 ≤ B) : OwnF w B2 x := ⟨own_baseR h.sc hb, own_baseR h.tk hb, fun t m => own_baseR (h.ts t m) hb, own_baseR h.le hb⟩
theorem OwnF.lt {w : World} {B : Nat} {x : DF} (h : OwnF w B x) : ∀ k, x.row k → B ≤ k ∧ k < w.heap.size := by
  rintro k (e | e | ⟨t, m, e⟩ | e)
  · exact h.sc.lt k e
  · exact h.tk.lt k e
  · exact (h.ts t m).lt k e
  · exact h.le.lt k e
/-- a family lies in blocks of R -/
structure FamM (w : World) (R : Nat → Prop) (x : DF) : Prop where
  blk : Blk w x.g 82 (fenc x)
  own : OwnF w 0 x
  foot : ∀ k, x.has k → R k
theorem FamM.turn {S R : Nat → Prop} {w w' : World} {x : DF} (h : FamM w R x) (ht : Turn S w w') (hd : ∀ k, x.has k → ¬ S k) : FamM w' R x :=
  ⟨blk_turn h.blk ht (hd _ (Or.inl rfl)), h.own.turn ht fun k hk => hd k (Or.inr hk), h.foot⟩
theorem FamM.mono {R R2 : Nat → Prop} {w : World} {x : DF} (h : FamM w R x) (hs : ∀ k, R k → R2 k) : FamM w R2 x := ⟨h.blk, h.own, fun k e => hs k (h.foot k e)⟩
abbrev kid (x : DF) : T := x.id
abbrev insD := insK kid
abbrev delD := delK kid
abbrev getD := getK kid
abbrev SrtD := SrtK kid
theorem f_ins (fl : List DF) (x : DF) : (insD fl x).map DF.f = insG (fl.map DF.f) x.f := insK_map kid DF.f FT.id (fun _ => rfl) fl x
theorem f_del (fl : List DF) (n : T) : (delD fl n).map DF.f = delG (fl.map DF.f) n := delK_map kid DF.f FT.id (fun _ => rfl) fl n
theorem f_get (fl : List DF) (n : T) : (getD fl n).map DF.f = getG (fl.map DF.f) n := getK_map kid DF.f FT.id (fun _ => rfl) fl n
theorem f_srt (fl : List DF) : SrtD fl ↔ SrtG (fl.map DF.f) := srtK_map kid DF.f FT.id (fun _ => rfl) fl
/-- right, but that a family without a code may have no token yet -/
def RW (f : FT) : Prop := RT f ∨ (f.tk = [] ∧ ∃ t, RT { f with tk := [t] })
theorem RW.id {f : FT} (h : RW f) : idB f.id = true := h.elim (fun h => h.id) fun h => by obtain ⟨_, t, h⟩ := h; exact h.id
/-- block g is the book, part by part -/
structure BM (w : World) (R : Nat → Prop) (g m : Nat) (D : DataW Nat) (fl : List DF) (room : Nat) : Prop where
  lt : ∀ k, R k → k < w.heap.size
  mem : R g
  blk : Blk w g 79 [.int .i64 (room : Nat), .map (some m)]
  mmem : R m
  map : w.ownsMap Tryz.prog 9 ptrElem m fl.length D
  says : MapK kid DF.g D fl
  srt : SrtD fl
  fams : ∀ x ∈ fl, FamM w R x
  apart : fl.Pairwise fun x y => ∀ k, x.has k → ¬ y.has k
  right : ∀ x ∈ fl, RW x.f
  few : fl.length ≤ room
  most : room ≤ 256
/-- block g is a book of these families -/
def BA (w : World) (R : Nat → Prop) (g : Nat) (room : Nat) (l : List FT) : Prop := ∃ m D fl, BM w R g m D fl room ∧ fl.map DF.f = l ∧ ∀ x ∈ fl, RT x.f
theorem BM.turn {S R : Nat → Prop} {w w' : World} {g m room : Nat} {D : DataW Nat} {fl : List DF} (h : BM w R g m D fl room) (ht : Turn S w w') (hd : ∀ k, R k → ¬ S k) : BM w' R g m D fl room :=
  ⟨fun k hk => Nat.lt_of_lt_of_le (h.lt k hk) ht.size, h.mem, blk_turn h.blk ht (hd g h.mem), h.mmem, map_turn h.map ht (hd m h.mmem), h.says, h.srt, fun x hx => (h.fams x hx).turn ht fun k hk => hd k ((h.fams x hx).foot k hk), h.apart, h.right, h.few, h.most⟩
theorem BM.below {R : Nat → Prop} {w w' : World} {g m room : Nat} {D : DataW Nat} {fl : List DF} (h : BM w R g m D fl room) (hb : Below w.heap.size w w') : BM w' R g m D fl room := h.turn (Turn.of_below (S := fun _ => False) hb) fun _ _ => id
theorem BA.turn {S R : Nat → Prop} {w w' : World} {g room : Nat} {l : List FT} (h : BA w R g room l) (ht : Turn S w w') (hd : ∀ k, R k → ¬ S k) : BA w' R g room l := by
  obtain ⟨m, D, fl, h1, h2⟩ := h
  exact ⟨m, D, fl, h1.turn ht hd, h2⟩
theorem BA.below {R : Nat → Prop} {w w' : World} {g room : Nat} {l : List FT} (h : BA w R g room l) (hb : Below w.heap.size w w') : BA w' R g room l := h.turn (Turn.of_below (S := fun _ => False) hb) fun _ _ => id
theorem BA.lt {R : Nat → Prop} {w : World} {g room : Nat} {l : List FT} (h : BA w R g room l) : ∀ k, R k → k < w.heap.size := by
  obtain ⟨_, _, _, h1, _⟩ := h
  exact h1.lt
theorem BA.bt {R : Nat → Prop} {w : World} {g room : Nat} {l : List FT} (h : BA w R g room l) : BT room l := by
  obtain ⟨m, D, fl, h1, rfl, h3⟩ := h
  exact ⟨(f_srt fl).1 h1.srt, fun f hf => by obtain ⟨x, hx, rfl⟩ := List.mem_map.1 hf; exact h3 x hx, by rw [List.length_map]; exact h1.few⟩
/-- what a call makes of a book; blocks that are new may be its own now -/
def To (w w' : World) (R : Nat → Prop) (g room : Nat) (l : List FT) : Prop := ∃ R', BA w' R' g room l ∧ Turn R w w' ∧ Grown R R' w
theorem To.refl {w : World} {R : Nat → Prop} {g room : Nat} {l : List FT} (h : BA w R g room l) : To w w R g room l := ⟨R, h, Turn.refl R w, Grown.refl R w⟩
theorem To.same {w w' : World} {R : Nat → Prop} {g room : Nat} {l : List FT} (h : BA w R g room l) (hb : Below w.heap.size w w') : To w w' R g room l := ⟨R, h.below hb, Turn.of_below hb, Grown.refl R w⟩
/-- an object of cells, its kind of element -/
theorem row_obj {w : World} {B e z n k : Nat} {v : Value} {xs : List Value} (h : w.ownsRow B e z v n xs) (hk : v.ownBlock = some k) : ∃ X, w.heap[k]? = some (.cells X e (0, 0)) := by
  rcases h.2 with ⟨h1, _⟩ | ⟨g, cap, cur, h1, _, h3, _⟩
  · rw [h1] at hk; cases hk
  · rw [h1] at hk
    injection hk with hk
    subst hk
    exact ⟨_, h3⟩
theorem blk_two {w : World} {a e1 e2 : Nat} {X Y : List Value} (h1 : Blk w a e1 X) (h2 : Blk w a e2 Y) : e1 = e2 := by
  have h := h1.symm.trans h2
  injection h with h
  injection h
theorem blk_map {w : World} {a e : Nat} {X : List Value} (h1 : Blk w a e X) {P : Program} {kt n : Nat} {Q : Value → Option (DataW Nat × List MemPlace)} {D : DataW Nat} (h2 : w.ownsMap P kt Q a n D) : False := by
  obtain ⟨es, clock, hb, _⟩ := h2
  have h := h1.symm.trans hb
  injection h with h
  cases h
theorem row_map {w : World} {B e z n : Nat} {v : Value} {xs : List Value} (h : w.ownsRow B e z v n xs) {k : Nat} (hk : v.ownBlock = some k) {P : Program} {kt n : Nat} {Q : Value → Option (DataW Nat × List MemPlace)} {D : DataW Nat} (h2 : w.ownsMap P kt Q k n D) : False := by
  obtain ⟨X, hX⟩ := row_obj h hk
  obtain ⟨es, clock, hb, _⟩ := h2
  have h := hX.symm.trans hb
  injection h with h
  cases h
theorem row_blk {w : World} {B e z n : Nat} {v : Value} {xs : List Value} (h : w.ownsRow B e z v n xs) {k e2 : Nat} {X : List Value} (hk : v.ownBlock = some k) (hB : Blk w k e2 X) : e2 = e := by
  obtain ⟨Y, hY⟩ := row_obj h hk
  have h := hB.symm.trans hY
  injection h with h
  injection h
theorem row_row {w : World} {B e z n B2 e2 z2 n2 : Nat} {v v2 : Value} {xs xs2 : List Value} (h : w.ownsRow B e z v n xs) (h2 : w.ownsRow B2 e2 z2 v2 n2 xs2) {k : Nat} (hk : v.ownBlock = some k) (hk2 : v2.ownBlock = some k) : e = e2 := by
  obtain ⟨X, hX⟩ := row_obj h hk
  obtain ⟨Y, hY⟩ := row_obj h2 hk2
  have h := hX.symm.trans hY
  injection h with h
  injection h
/-- which kinds of element a family's rows have -/
theorem OwnF.kind {w : World} {B : Nat} {x : DF} (h : OwnF w B x) {k : Nat} (hk : x.row k) : ∃ X e, w.heap[k]? = some (.cells X e (0, 0)) ∧ (e = 9 ∨ e = 50 ∨ e = 3) := by
  rcases hk with e | e | ⟨t, m, e⟩ | e
  · obtain ⟨X, hX⟩ := row_obj h.sc e; exact ⟨X, _, hX, Or.inl rfl⟩
  · obtain ⟨X, hX⟩ := row_obj h.tk e; exact ⟨X, _, hX, Or.inr (Or.inl rfl)⟩
  · obtain ⟨X, hX⟩ := row_obj (h.ts t m) e; exact ⟨X, _, hX, Or.inl rfl⟩
  · obtain ⟨X, hX⟩ := row_obj h.le e; exact ⟨X, _, hX, Or.inr (Or.inr rfl)⟩
theorem OwnF.noBlk {w : World} {B : Nat} {x : DF} (h : OwnF w B x) {k e2 : Nat} {X : List Value} (hk : x.row k) (hB : Blk w k e2 X) (h2 : e2 = 82 ∨ e2 = 79) : False := by
  obtain ⟨Y, e, hY, he⟩ := h.kind hk
  have h := hB.symm.trans hY
  injection h with h
  injection h with _ h
  subst h
  rcases h2 with rfl | rfl <;> rcases he with he | he | he <;> exact absurd he (by decide)
theorem OwnF.noMap {w : World} {B : Nat} {x : DF} (h : OwnF w B x) {k : Nat} (hk : x.row k) {P : Program} {kt n : Nat} {Q : Value → Option (DataW Nat × List MemPlace)} {D : DataW Nat} (h2 : w.ownsMap P kt Q k n D) : False := by
  obtain ⟨Y, e, hY, he⟩ := h.kind hk
  obtain ⟨es, clock, hb, _⟩ := h2
  have h := hY.symm.trans hb
  injection h with h
  cases h
/-- the book's block and its map are none of a family's -/
theorem BM.gout {w : World} {R : Nat → Prop} {g m room : Nat} {D : DataW Nat} {fl : List DF} (h : BM w R g m D fl room) {x : DF} (hx : x ∈ fl) : ¬ x.has g := by
  rintro (e | e)
  · have h1 := (h.fams x hx).blk
    rw [← e] at h1
    exact absurd (blk_two h.blk h1) (by decide)
  · exact (h.fams x hx).own.noBlk e h.blk (Or.inr rfl)
theorem BM.mout {w : World} {R : Nat → Prop} {g m room : Nat} {D : DataW Nat} {fl : List DF} (h : BM w R g m D fl room) {x : DF} (hx : x ∈ fl) : ¬ x.has m := by
  rintro (e | e)
  · have h1 := (h.fams x hx).blk
    rw [← e] at h1
    exact blk_map h1 h.map
  · exact (h.fams x hx).own.noMap e h.map
theorem BM.gm {w : World} {R : Nat → Prop} {g m room : Nat} {D : DataW Nat} {fl : List DF} (h : BM w R g m D fl room) : g ≠ m := fun e => by
  have h1 := h.blk
  rw [e] at h1
  exact blk_map h1 h.map
end Go.Proofs.YthagdkipipldlaaGreatDoor.gra
