/- The contract of the reference's Read, at lists of texts. -/
import Derived.Test.YtpffebcaalbhjaaDoorWirR
namespace Go.Proofs.YtpffebcaalbhjaaDoor.wir
open Go.RowKit
open Go.Proofs.YtpffebcaalbhjaaDoor.oct Go.Proofs.YtpffebcaalbhjaaDoor.ref Go.Proofs.YtpffebcaalbhjaaDoor.rows Go.Proofs.YtpffebcaalbhjaaDoor.rowg
open Go.Lib (byteCells)

/-- texts, once their number was read -/
def textsW (q : Nat × St) : List T × St := match wordsS q.1 q.2 with
  | (l, .ok t) => (l, .ok t)
  | (_, .bad e) => ([], .bad e)
theorem rd4_texts (st : St) : readS 4 st = (⟨4, 0, [], (textsW (numS 4096 st)).1⟩, (textsW (numS 4096 st)).2) := by
  unfold readS textsW textsS
  rfl
theorem wordS_bad (e : Nat) : wordS (.bad e) = ([], .bad e) := rfl
theorem wordsS_bad (n e : Nat) : (wordsS n (.bad e)).2 = .bad e := by
  cases n with
  | zero => rfl
  | succ n => rfl
/-- where the reading of n texts stands: k of them are l; cur is the reader -/
def TextI (n : Nat) (sn : St) (k : Nat) (l : List T) (cur : St) : Prop :=
  match cur with
  | .ok t => (wordsS n sn).2 = (wordsS (n - k) (.ok t)).2 ∧ ∀ t', (wordsS n sn).2 = .ok t' → (wordsS n sn).1 = l ++ (wordsS (n - k) (.ok t)).1
  | .bad e => (wordsS n sn).2 = .bad e
theorem textI_start (n : Nat) (sn st : St) (h : st = sn) : TextI n sn 0 [] st := by
  subst h
  cases st with
  | ok t => exact ⟨rfl, fun _ _ => rfl⟩
  | bad e => exact wordsS_bad n e
theorem textI_end {n k : Nat} {sn st : St} {l : List T} (hk : k = n) (h : TextI n sn k l st) {t : T} (hst : st = .ok t) : textsW (n, sn) = (l, st) := by
  subst hst hk
  obtain ⟨h1, h2⟩ := h
  rw [Nat.sub_self] at h1 h2
  have e1 : (wordsS 0 (.ok t)).2 = .ok t := rfl
  have e2 : (wordsS 0 (.ok t)).1 = [] := rfl
  rw [e1] at h1
  have h3 := h2 t h1
  rw [e2, List.append_nil] at h3
  unfold textsW
  obtain ⟨q, hq⟩ : ∃ q, wordsS k sn = q := ⟨_, rfl⟩
  rw [hq] at h1 h3 ⊢
  obtain ⟨q1, q2⟩ := q
  dsimp only at h1 h3
  subst h1 h3
  rfl
theorem textI_bad {n k e : Nat} {sn st : St} {l : List T} (h : TextI n sn k l st) (hst : st = .bad e) : textsW (n, sn) = ([], .bad e) := by
  subst hst
  have h1 : (wordsS n sn).2 = .bad e := h
  unfold textsW
  obtain ⟨q, hq⟩ : ∃ q, wordsS n sn = q := ⟨_, rfl⟩
  rw [hq] at h1 ⊢
  obtain ⟨q1, q2⟩ := q
  dsimp only at h1
  subst h1
  rfl
theorem textI_next {n k : Nat} {sn st st2 : St} {l : List T} {s : T} (hk : k < n) (h : TextI n sn k l st) {t : T} (hst : st = .ok t) (hw : wordS st = (s, st2)) : TextI n sn (k + 1) (l ++ [s]) st2 := by
  subst hst
  obtain ⟨h1, h2⟩ := h
  rw [show n - k = (n - (k + 1)) + 1 by omega, wordsS, hw] at h1 h2
  cases st2 with
  | ok t2 =>
    refine ⟨h1, fun t' ht => ?_⟩
    rw [h2 t' ht]
    simp
  | bad e => exact h1
theorem RV.st_zero (p : Option Addr) (c : Nat) (b : T) (a : Nat) : (RV.mk p c b a 0).st = .ok (b.drop a) := rfl
theorem RV.st_bad (p : Option Addr) (c : Nat) (b : T) (a : Nat) {e : Nat} (h : e ≠ 0) : (RV.mk p c b a e).st = .bad e := by unfold RV.st; exact if_neg h
theorem infoStr : (Tryd.prog.info? 9).map (fun i => (i.zero, i.size, i.bytes)) = some (some (.string ⟨#[]⟩), 1, 16) := by kernel_rfl
theorem wsenc_one : ∀ a : T, ∀ u ∈ senc a, u.oneCell' = true := fun a u hu => by rw [List.mem_singleton.1 hu]; rfl
theorem wins_one (W : World) (x : T) (e : Nat) : InS (W.alloc (.cells #[.string ⟨x.toArray⟩] e)) (some ⟨W.heap.size, 0, none⟩) [x] := fun _ =>
  ⟨W.heap.size, 0, rfl, fun i hi j hj => by
    rw [List.length_singleton] at hi
    obtain rfl : i = 0 := by omega
    obtain rfl : j = 0 := by omega
    rw [World.cell?_alloc_at _ _ _ _ rfl]
    rfl⟩
theorem blk_grow {w w' : World} {g e : Nat} {X : List Value} {r : Option Nat} (h : Blk w g e X) (hg : w.grownBy w' r) (hn : some g ≠ r) : Blk w' g e X := (hg.block g h.lt hn).trans h
theorem own_ne {w : World} {B e k n g : Nat} {v : Value} {xs : List Value} (h : w.ownsRow B e k v n xs) (hg : g < B) : some g ≠ v.ownBlock := fun hh => by
  have := (h.lt g hh.symm).1
  omega
theorem own_slice {w : World} {B e k n : Nat} {v : Value} {xs : List Value} (h : w.ownsRow B e k v n xs) : ∃ p c, v = .slice p n c := by
  rcases h.2 with ⟨h1, h2⟩ | ⟨g, cap, cur, h1, _⟩
  · exact ⟨none, 0, by rw [h1, h2]⟩
  · exact ⟨_, _, h1⟩
theorem own_keepG {w w' : World} {B e k n : Nat} {v : Value} {xs : List Value} (h : w.ownsRow B e k v n xs) (hb : ∀ g, B ≤ g → w'.heap[g]? = w.heap[g]?) : w'.ownsRow B e k v n xs := by
  refine ⟨h.1, ?_⟩
  rcases h.2 with h2 | ⟨g, cap, cur, h1, h2, h3, h4⟩
  · exact Or.inl h2
  · exact Or.inr ⟨g, cap, cur, h1, h2, by rw [hb g h2]; exact h3, h4⟩
theorem own_wrote {w w' : World} {B e k n g : Nat} {v : Value} {xs : List Value} (h : w.ownsRow B e k v n xs) (hw : Wrote w w' g) (hg : g < B) : w'.ownsRow B e k v n xs := own_keepG h fun i hi => hw.other i (by omega)
theorem own_set {w : World} {B e k n g : Nat} {v : Value} {xs : List Value} (h : w.ownsRow B e k v n xs) (hg : g < B) (i : Nat) (u : Value) : (w.setCell ⟨g, i, none⟩ u).ownsRow B e k v n xs := own_keepG h fun j hj => Below.heap_setCell _ _ _ _ (by exact fun e => by have : j = g := e; omega)
theorem own_drew {w : World} {B e k n : Nat} {v : Value} {xs : List Value} (h : w.ownsRow B e k v n xs) : w.drew.ownsRow B e k v n xs := own_keepG h fun _ _ => rfl
theorem two_rows_old {g h e e2 : Nat} {x0 x1 x2 x3 y0 y1 y2 : Value} (w : World) (_h1 : Blk w g e [x0, x1, x2, x3]) (_h2 : Blk w h e2 [y0, y1, y2]) (a b c d p q r : Value) (B z k n : Nat) (v : Value) {xs : List Value} (hw : w.ownsRow B z k v n xs) (hg : g < B) (hh : h < B) :
    (((((((((w.setCell ⟨g, 0, none⟩ a).setCell ⟨g, 1, none⟩ b).setCell ⟨g, 2, none⟩ c).setCell ⟨g, 3, none⟩ d).setCell ⟨h, 0, none⟩ p).setCell ⟨h, 1, none⟩ q).setCell ⟨h, 2, none⟩ r).drew)).ownsRow B z k v n xs :=
  own_drew (own_set (own_set (own_set (own_set (own_set (own_set (own_set hw hg 0 a) hg 1 b) hg 2 c) hg 3 d) hh 0 p) hh 1 q) hh 2 r)
theorem own_far {w : World} {B n c k e : Nat} {p : Option Addr} {xs : List Value} (h : w.ownsRow (B + 4) e k (.slice p n c) n xs) : ∀ g o, p = some ⟨g, o, none⟩ → B ≤ g := fun g o hp => by
  subst hp
  have := (h.lt g rfl).1
  omega
theorem own_row {w : World} {B n c : Nat} {p : Option Addr} {l : List T} (hl : l.length = n) (h : w.ownsRow B 9 1 (.slice p n c) n (cells senc l)) : InS w p l ∧ (p = none → c = 0) ∧ l.length ≤ c := by
  subst hl
  rcases h.2 with ⟨h1, h2⟩ | ⟨g, cap, cur, h1, _, h3, h5, h6, h7, h8⟩
  · injection h1 with e1 e2 e3
    subst e1
    have hl0 : l = [] := List.length_eq_zero_iff.1 h2
    subst hl0
    exact ⟨fun h => absurd h (by simp), fun _ => e3, Nat.zero_le _⟩
  · injection h1 with e1 e2 e3
    subst e1
    subst e3
    refine ⟨fun _ => ⟨g, 0, rfl, fun i hi j hj => ?_⟩, (fun h => by cases h), h5⟩
    rw [cell_of_row w g (0 + i * 1 + j) cur 9 (0, 0) h3]
    have h9 := cells_at senc_len l i hi j hj
    rw [← h8, List.getElem?_take, if_pos (by omega)] at h9
    rw [← h9, show 0 + i * 1 + j = i * 1 + j by omega]
    simp
set_option maxRecDepth 100000 in
set_option maxHeartbeats 4000000 in
theorem rread4_c (x : RV) (w : World) (hx : x.ok w) :
    Calls Tryd.prog 19 #[x.val, .int .i64 4] w fun e w' => ReadA w w' x (readS 4 x.st) e := by
  have HX := Lib.hid hx
  obtain ⟨r, hr⟩ : ∃ r, readS 4 x.st = r := ⟨_, rfl⟩
  have HR0 := Lib.hid hr
  rw [hr]
  clear hr hx
  have CN : Hid (∀ wx, Below w.heap.size w wx → Calls Tryd.prog 42 #[x.val, .int .u64 4096] wx fun e w' => NumA wx w' x (numS 4096 x.st) e) := fun wx hb => rnum_c x _ wx (HX.out.below hb)
  unfold RV.val RV.cells at CN ⊢
  go_enter Tryd.func19, Tryd.ntmps19
  go_wp2_with fail
  have hA0 : Blk ((((w.alloc (.cells #[.slice x.p x.b.length x.c, .int .i64 (x.a : Int), .int .i64 (x.e : Int)] 38)).alloc (.cells #[.int .i64 0, .int .i64 0, .string ⟨#[]⟩, .slice none 0 0] 43)).alloc (.cells #[.slice none 0 0, .int .i64 0, .int .i64 0] 38)).alloc (.cells #[.int .i64 4, .int .i64 0, .string ⟨#[]⟩, .slice none 0 0] 43)) w.heap.size 38 [.slice x.p x.b.length x.c, .int .i64 (x.a : Int), .int .i64 (x.e : Int)] := blk_old (blk_old (blk_old (blk_new w _ _ _ rfl) _) _) _
  have hA1 : Blk ((((w.alloc (.cells #[.slice x.p x.b.length x.c, .int .i64 (x.a : Int), .int .i64 (x.e : Int)] 38)).alloc (.cells #[.int .i64 0, .int .i64 0, .string ⟨#[]⟩, .slice none 0 0] 43)).alloc (.cells #[.slice none 0 0, .int .i64 0, .int .i64 0] 38)).alloc (.cells #[.int .i64 4, .int .i64 0, .string ⟨#[]⟩, .slice none 0 0] 43)) (w.heap.size + 1) 43 [.int .i64 0, .int .i64 0, .string ⟨#[]⟩, .slice none 0 0] := blk_old (blk_old ((by have h := blk_new (w.alloc (.cells #[.slice x.p x.b.length x.c, .int .i64 (x.a : Int), .int .i64 (x.e : Int)] 38)) #[.int .i64 0, .int .i64 0, .string ⟨#[]⟩, .slice none 0 0] 43 _ rfl; rwa [show (w.alloc (.cells #[.slice x.p x.b.length x.c, .int .i64 (x.a : Int), .int .i64 (x.e : Int)] 38)).heap.size = (w.heap.size + 1) by simp] at h)) _) _
  have hA2 : Blk ((((w.alloc (.cells #[.slice x.p x.b.length x.c, .int .i64 (x.a : Int), .int .i64 (x.e : Int)] 38)).alloc (.cells #[.int .i64 0, .int .i64 0, .string ⟨#[]⟩, .slice none 0 0] 43)).alloc (.cells #[.slice none 0 0, .int .i64 0, .int .i64 0] 38)).alloc (.cells #[.int .i64 4, .int .i64 0, .string ⟨#[]⟩, .slice none 0 0] 43)) (w.heap.size + 1 + 1) 38 [.slice none 0 0, .int .i64 0, .int .i64 0] := blk_old ((by have h := blk_new ((w.alloc (.cells #[.slice x.p x.b.length x.c, .int .i64 (x.a : Int), .int .i64 (x.e : Int)] 38)).alloc (.cells #[.int .i64 0, .int .i64 0, .string ⟨#[]⟩, .slice none 0 0] 43)) #[.slice none 0 0, .int .i64 0, .int .i64 0] 38 _ rfl; rwa [show ((w.alloc (.cells #[.slice x.p x.b.length x.c, .int .i64 (x.a : Int), .int .i64 (x.e : Int)] 38)).alloc (.cells #[.int .i64 0, .int .i64 0, .string ⟨#[]⟩, .slice none 0 0] 43)).heap.size = (w.heap.size + 1 + 1) by simp] at h)) _
  have hA3 : Blk ((((w.alloc (.cells #[.slice x.p x.b.length x.c, .int .i64 (x.a : Int), .int .i64 (x.e : Int)] 38)).alloc (.cells #[.int .i64 0, .int .i64 0, .string ⟨#[]⟩, .slice none 0 0] 43)).alloc (.cells #[.slice none 0 0, .int .i64 0, .int .i64 0] 38)).alloc (.cells #[.int .i64 4, .int .i64 0, .string ⟨#[]⟩, .slice none 0 0] 43)) (w.heap.size + 1 + 1 + 1) 43 [.int .i64 4, .int .i64 0, .string ⟨#[]⟩, .slice none 0 0] := (by have h := blk_new (((w.alloc (.cells #[.slice x.p x.b.length x.c, .int .i64 (x.a : Int), .int .i64 (x.e : Int)] 38)).alloc (.cells #[.int .i64 0, .int .i64 0, .string ⟨#[]⟩, .slice none 0 0] 43)).alloc (.cells #[.slice none 0 0, .int .i64 0, .int .i64 0] 38)) #[.int .i64 4, .int .i64 0, .string ⟨#[]⟩, .slice none 0 0] 43 _ rfl; rwa [show (((w.alloc (.cells #[.slice x.p x.b.length x.c, .int .i64 (x.a : Int), .int .i64 (x.e : Int)] 38)).alloc (.cells #[.int .i64 0, .int .i64 0, .string ⟨#[]⟩, .slice none 0 0] 43)).alloc (.cells #[.slice none 0 0, .int .i64 0, .int .i64 0] 38)).heap.size = (w.heap.size + 1 + 1 + 1) by simp] at h)
  have hAB := ((((Below.refl w.heap.size w).alloc (by simp <;> omega) (.cells #[.slice x.p x.b.length x.c, .int .i64 (x.a : Int), .int .i64 (x.e : Int)] 38)).alloc (by simp <;> omega) (.cells #[.int .i64 0, .int .i64 0, .string ⟨#[]⟩, .slice none 0 0] 43)).alloc (by simp <;> omega) (.cells #[.slice none 0 0, .int .i64 0, .int .i64 0] 38)).alloc (by simp <;> omega) (.cells #[.int .i64 4, .int .i64 0, .string ⟨#[]⟩, .slice none 0 0] 43)
  obtain ⟨wo, hwo⟩ : ∃ wo, ((((w.alloc (.cells #[.slice x.p x.b.length x.c, .int .i64 (x.a : Int), .int .i64 (x.e : Int)] 38)).alloc (.cells #[.int .i64 0, .int .i64 0, .string ⟨#[]⟩, .slice none 0 0] 43)).alloc (.cells #[.slice none 0 0, .int .i64 0, .int .i64 0] 38)).alloc (.cells #[.int .i64 4, .int .i64 0, .string ⟨#[]⟩, .slice none 0 0] 43)) = wo := ⟨_, rfl⟩
  have HSO : Hid (wo.heap.size = w.heap.size + 4) := by show _ = _; rw [← hwo]; simp
  rw [hwo] at hA0 hA1 hA2 hA3 hAB ⊢
  clear hwo
  refine (CN.out wo hAB).mono ?_
  intro e1 w1 hA
  clear CN
  obtain ⟨p, c, b, a, e0⟩ := x
  obtain ⟨q, hq⟩ : ∃ q, numS 4096 (RV.st ⟨p, c, b, a, e0⟩) = q := ⟨_, rfl⟩
  have HLE := Lib.hid (numS_le 4096 (RV.st ⟨p, c, b, a, e0⟩))
  have HR : Hid (r = (⟨4, 0, [], (textsW q).1⟩, (textsW q).2)) := by show _ = _; rw [← HR0.out, ← hq]; exact rd4_texts _
  rw [hq] at hA HLE
  clear hq HR0
  obtain ⟨n, sn⟩ := q
  unfold NumA RV.val RV.cells at hA
  dsimp only at hA HLE HR
  obtain ⟨a1, e1, rfl, hok, hst, hb1⟩ := hA
  have B0 := hA0.below hb1
  have B1 := Lib.hid (hA1.below hb1)
  have B2 := Lib.hid (hA2.below hb1)
  have B3 := Lib.hid (hA3.below hb1)
  have hbw := bnext hAB hb1
  have HS1 : Hid (w.heap.size + 4 ≤ w1.heap.size) := by have h := hb1.size; rw [HSO.out] at h; exact h
  have hx1 := hok.place
  have hx2 := hok.size
  have hx3 := hok.room
  dsimp only at hx1 hx2 hx3
  have hle : n ≤ 4096 := HLE.out
  have HOK := Lib.hid hok
  have hst0 := hst
  clear hA0 hA1 hA2 hA3 hAB hb1 hok hst HLE HSO
  have HK0 := Lib.hid (rd_k p b.length c (a1 : Int) (e1 : Int))
  have HK1 : Hid (([.slice p b.length c, .int .i64 (a : Int), .int .i64 (e0 : Int)] : List Value).length = ([.slice p b.length c, .int .i64 (a1 : Int), .int .i64 (e1 : Int)] : List Value).length) := rfl
  go_wp2_with (first
    | (with_reducible refine wpList_store_blk rfl 38 _ _ rfl w.heap.size [.slice p b.length c, .int .i64 (a1 : Int), .int .i64 (e1 : Int)] _ 38 B0 rfl rfl HK0.out.1 HK1.out HK0.out.2.2 ?_; intro wf hR hW; have b1 := hW.blk B1.out (by omega); have b2 := hW.blk B2.out (by omega); have b3 := hW.blk B3.out (by omega)))
  have ZB0 : Below w.heap.size w wf := hW.below _ _ hbw (Nat.le_refl _)
  have hsf : w.heap.size + 4 ≤ wf.heap.size := by rw [hW.size]; exact HS1.out
  have HT0 := Lib.hid (textI_start n sn (RV.mk p c b a1 e1).st hst0)
  have HRD := Lib.hid hR
  have HB1 := Lib.hid b1
  have HB2 := Lib.hid b2
  have HB3 := Lib.hid b3
  have HBF := Lib.hid ZB0
  have HOK1 : Hid ((RV.mk p c b a1 e1).ok wf) := ⟨HX.out.row.below ZB0, HX.out.nil, hx3, hx1, hx2, HOK.out.err⟩
  have hn0 : (0 : Int) ≤ (n : Int) := by omega
  clear hR b1 b2 b3 ZB0 hW hbw B0 B1 B2 B3 HK0 HK1 hx1 hx2 hx3 hst0
  go_loopg [8] n (fun g s8 wx => ∃ (k : Nat) (l : List T) (pv : Option Addr) (cv a2 e2 : Nat), k + g = n ∧ s8 = .int .i64 (k : Int) ∧ (RV.mk p c b a2 e2).ok wx ∧ Blk wx w.heap.size 38 [.slice p b.length c, .int .i64 (a2 : Int), .int .i64 (e2 : Int)] ∧ Blk wx (w.heap.size + 1) 43 [.int .i64 0, .int .i64 0, .string ⟨#[]⟩, .slice none 0 0] ∧ Blk wx (w.heap.size + 1 + 1) 38 [.slice none 0 0, .int .i64 0, .int .i64 0] ∧ Blk wx (w.heap.size + 1 + 1 + 1) 43 [.int .i64 4, .int .i64 0, .string ⟨#[]⟩, .slice pv k cv] ∧ wx.ownsRow (w.heap.size + 4) 9 1 (.slice pv k cv) k (cells senc l) ∧ l.length = k ∧ (∀ y ∈ l, y.length ≤ 65536) ∧ Hid (TextI n sn k l (RV.mk p c b a2 e2).st) ∧ w.heap.size + 4 ≤ wx.heap.size ∧ Below w.heap.size w wx)
  case atStart => exact ⟨0, [], none, 0, a1, e1, by omega, rfl, HOK1.out, HRD.out, HB1.out, HB2.out, HB3.out, ⟨rfl, Or.inl ⟨rfl, rfl⟩⟩, rfl, by simp, HT0, hsf, HBF.out⟩
  case round =>
    clear HRD HB1 HB2 HB3 HBF HT0 HOK1
    obtain ⟨k, l, pv, cv, a2, e2, hkg, rfl, hok, Z0, Z1, Z2, Z3, hown, hlk, hly, HT, hsz, ZB⟩ := hrel
    have HLK := Lib.hid hlk
    have HLY := Lib.hid hly
    have HOK := Lib.hid hok
    have HOW := Lib.hid hown
    clear hlk hly hok hown hsf
    have x0 := Z0.cell 2
    by_cases he : e2 = 0
    · subst he
      rw [Int.natCast_zero] at Z0
      rcases gk with _ | g
      · have hkn : ¬ ((k : Int) < (n : Int)) := by omega
        have HE := Lib.hid (textI_end (show k = n by omega) (HT.out : TextI n sn k l _) (RV.st_zero _ _ _ _))
        go_wp2_with fail
        clear x0
        have d0 := Z0.cell 0
        have d1 := Z0.cell 1
        have d2 := Z0.cell 2
        have c0 := Z3.cell 0
        have c1 := Z3.cell 1
        have c2 := Z3.cell 2
        have c3 := Z3.cell 3
        have y0 := Z1.cell 0
        have y1 := Z1.cell 1
        have y2 := Z1.cell 2
        have y3 := Z1.cell 3
        have z0 := Z2.cell 0
        have z1 := Z2.cell 1
        have z2 := Z2.cell 2
        have g0 := Z1.frozen 0
        have g1 := Z1.frozen 1
        have g2 := Z1.frozen 2
        have g3 := Z1.frozen 3
        have h0 := Z2.frozen 0
        have h1 := Z2.frozen 1
        have h2 := Z2.frozen 2
        go_region
        all_goals
          have D := two_rows Z1 Z2 (by omega) ZB (Nat.le_add_right w.heap.size 1) (Nat.le_add_right w.heap.size 2) (.int .i64 4) (.int .i64 (0)) (.string ⟨#[]⟩) (.slice pv k cv) (.slice p b.length c) (.int .i64 (a2 : Int)) (.int .i64 0)
          have DO := two_rows_old wr Z1 Z2 (.int .i64 4) (.int .i64 (0)) (.string ⟨#[]⟩) (.slice pv k cv) (.slice p b.length c) (.int .i64 (a2 : Int)) (.int .i64 0)
          obtain ⟨wd, hwd⟩ : ∃ wd, ((((((((wr.setCell ⟨(w.heap.size + 1), 0, none⟩ (.int .i64 4)).setCell ⟨(w.heap.size + 1), 1, none⟩ (.int .i64 (0))).setCell ⟨(w.heap.size + 1), 2, none⟩ (.string ⟨#[]⟩)).setCell ⟨(w.heap.size + 1), 3, none⟩ (.slice pv k cv)).setCell ⟨(w.heap.size + 1 + 1), 0, none⟩ (.slice p b.length c)).setCell ⟨(w.heap.size + 1 + 1), 1, none⟩ (.int .i64 (a2 : Int))).setCell ⟨(w.heap.size + 1 + 1), 2, none⟩ (.int .i64 0)).drew) = wd := ⟨_, rfl⟩
          rw [hwd] at D DO ⊢
          obtain ⟨D1, D2, D3⟩ := D
          clear hwd Z0 Z1 Z2 Z3 ZB d0 d1 d2 c0 c1 c2 c3 y0 y1 y2 y3 z0 z1 z2 g0 g1 g2 g3 h0 h1 h2
          try go_wp2_with fail
          refine bodyPost_ret (results_rowrow Tryd.results19 _ _ (w.heap.size + 1) (w.heap.size + 1 + 1) 43 38 _ _ rfl rfl D1 D2 Tryd.underlying43 rfl infoPut Tryd.underlying38 rfl infoRd) rfl ?_
          have hbf := D3
          have hown := DO _ _ _ _ _ HOW.out (by omega) (by omega)
          obtain ⟨t1, t2, t3⟩ := own_row HLK.out hown
          exact ⟨⟨4, 0, [], pv, cv, l⟩, a2, 0, by rw [← HLK.out]; rfl, by rw [HR.out, HE.out]; rfl, ⟨⟨(by show (-9223372036854775808 : Int) ≤ 0; omega), (by show (0 : Int) ≤ 9223372036854775807; omega)⟩, by simp, t1, t2, t3, (by show l.length ≤ _; have := HLK.out; omega), fun y hy => (by have := HLY.out y hy; omega)⟩, ⟨HX.out.row.below hbf, HX.out.nil, HOK.out.room, HOK.out.place, HOK.out.size, HOK.out.err⟩, by rw [HR.out, HE.out], hbf, own_far hown⟩
      · have hkn : (k : Int) < (n : Int) := by omega
        have HKN := Lib.hid (show k < n by omega)
        have HW := Lib.hid (rword_c (RV.mk p c b a2 0) wr HOK.out)
        unfold RV.val RV.cells at HW
        have x1 := Z0.cell 0
        have x2 := Z0.cell 1
        go_wp2_with fail
        refine HW.out.mono ?_
        intro e3 w3 hA
        clear HW
        unfold WordA RV.val RV.cells at hA
        obtain ⟨q, hq⟩ : ∃ q, wordS (RV.mk p c b a2 0).st = q := ⟨_, rfl⟩
        have HQL := Lib.hid (wordS_len (RV.mk p c b a2 0).st)
        rw [hq] at hA HQL
        obtain ⟨s, s3⟩ := q
        have HTN : Hid (∀ st3, st3 = s3 → TextI n sn (k + 1) (l ++ [s]) st3) := fun st3 h => textI_next HKN.out HT.out (RV.st_zero _ _ _ _) (by rw [h]; exact hq)
        dsimp only at hA HQL
        obtain ⟨a3, e3, rfl, hok3, hst3, hb3⟩ := hA
        have HT3 := Lib.hid (HTN.out _ hst3)
        have HOK3 := Lib.hid hok3
        have HB3 := Lib.hid hb3
        have A0 := Z0.below hb3
        have A1 := Lib.hid (Z1.below hb3)
        have A2 := Lib.hid (Z2.below hb3)
        have A3 := Lib.hid (Z3.below hb3)
        have HOW3 := Lib.hid (own_belowG HOW.out hb3)
        have HAB := Lib.hid (bnext ZB hb3)
        have hs3 : w.heap.size + 4 ≤ w3.heap.size := Nat.le_trans hsz hb3.size
        have HK0 := Lib.hid (rd_k p b.length c (a3 : Int) (e3 : Int))
        have HK1 : Hid (([.slice p b.length c, .int .i64 (a2 : Int), .int .i64 0] : List Value).length = ([.slice p b.length c, .int .i64 (a3 : Int), .int .i64 (e3 : Int)] : List Value).length) := rfl
        obtain ⟨i0, hi0, hz0, hz1, hz2⟩ := info_parts infoStr
        clear hq HTN hst3 hok3 hb3 Z0 Z1 Z2 Z3 ZB x0 x1 x2 HOW HOK HT
        go_wp2_with (first
          | (with_reducible refine wpList_store_blk rfl 38 _ _ rfl w.heap.size [.slice p b.length c, .int .i64 (a3 : Int), .int .i64 (e3 : Int)] _ 38 A0 rfl rfl HK0.out.1 HK1.out HK0.out.2.2 ?_; intro wf hR hW; have b1 := hW.blk A1.out (by omega); have b2 := hW.blk A2.out (by omega); have b3 := hW.blk A3.out (by omega); have HR5 := Lib.hid hR; have HO5 := Lib.hid (own_wrote HOW3.out hW (by omega)); have hwb := hW.below _ _ HAB.out (Nat.le_refl _); have hs5 : w.heap.size + 4 ≤ wf.heap.size := (by rw [hW.size]; exact hs3); have HB5 := Lib.hid hwb; have x3 := b3.cell 3; have H1 := Lib.hid b1; have H2 := Lib.hid b2; have H3 := Lib.hid b3; clear hR hW b1 b2 b3 hwb)
          | (at_builtin; refine wpList_append_g senc_len (by decide) wsenc_one rfl (.tmp 85) (.tmp 87) 41 9 rfl Tryd.underlying41 hi0 hz0 hz1 hz2 rfl (w.heap.size + 4) _ k _ rfl (HO5.out.alloc _) (some ⟨wf.heap.size, 0, none⟩) 1 1 [s] rfl (wins_one wf s _) rfl (fun h => by cases h) (by unfold maxLen; omega) (by omega) (by simp; omega) ?_; intro v6 w6 hown6 hgrow6; obtain ⟨p6, c6, rfl⟩ := own_slice hown6; have hb6 := (HB5.out.alloc (by omega) _).grown hgrow6 (by simp; omega) (fun k hk => Nat.le_trans (Nat.le_add_right _ 4) ((HO5.out.lt k hk).1)); have E0 := blk_grow (blk_old HR5.out (.cells #[.string ⟨s.toArray⟩] 9)) hgrow6 (own_ne HO5.out (by omega)); have E1 := blk_grow (blk_old H1.out (.cells #[.string ⟨s.toArray⟩] 9)) hgrow6 (own_ne HO5.out (by omega)); have E2 := blk_grow (blk_old H2.out (.cells #[.string ⟨s.toArray⟩] 9)) hgrow6 (own_ne HO5.out (by omega)); have E3 := blk_grow (blk_old H3.out (.cells #[.string ⟨s.toArray⟩] 9)) hgrow6 (own_ne HO5.out (by omega)); have HS6 : Hid (w.heap.size + 4 ≤ w6.heap.size) := Nat.le_trans hs5 (Nat.le_trans (by simp) hgrow6.size); have y3 := E3.cell 3; have y4 := E3.frozen 3; have HO6 := Lib.hid hown6; have HB6 := Lib.hid hb6; clear hown6 hgrow6 hb6))
        have F0 := Blk.set_other E0 (show (w.heap.size + 1 + 1 + 1) ≠ w.heap.size by omega) 3 (.slice p6 (k + 1) c6)
        have F1 := Blk.set_other E1 (show (w.heap.size + 1 + 1 + 1) ≠ w.heap.size + 1 by omega) 3 (.slice p6 (k + 1) c6)
        have F2 := Blk.set_other E2 (show (w.heap.size + 1 + 1 + 1) ≠ w.heap.size + 1 + 1 by omega) 3 (.slice p6 (k + 1) c6)
        have F3 := Blk.set E3 3 (.slice p6 (k + 1) c6)
        have FB := HB6.out.setCell (p := ⟨(w.heap.size + 1 + 1 + 1), 3, none⟩) (Nat.le_add_right w.heap.size 3) (.slice p6 (k + 1) c6)
        have FO := own_set HO6.out (show (w.heap.size + 1 + 1 + 1) < w.heap.size + 4 by omega) 3 (.slice p6 (k + 1) c6)
        go_roundg g
        case measure => omega
        case rel =>
          refine ⟨k + 1, l ++ [s], p6, c6, a3, e3, by omega, by go_num, ⟨HX.out.row.below FB, HX.out.nil, HOK3.out.room, HOK3.out.place, HOK3.out.size, HOK3.out.err⟩, F0, F1, F2, F3, ?_, ?_, ?_, HT3, ?_, FB⟩
          · rw [cells_append]; exact FO
          · rw [List.length_append, HLK.out]; rfl
          · intro y hy
            rcases List.mem_append.1 hy with h | h
            · exact HLY.out y h
            · rw [List.mem_singleton.1 h]; exact HQL.out
          · have h6 := HS6.out
            simpa using h6
    · have HE := Lib.hid (textI_bad (HT.out : TextI n sn k l _) (RV.st_bad p c b a2 he))
      have i0 : ((e2 : Int) == 0) = false := by rw [beq_eq_false_iff_ne]; omega
      have i1 : ((e2 : Int) != 0) = true := by rw [bne, i0]; rfl
      have x3 := Z3.frozen 3
      have x4 := Z3.cell 3
      have HEN := Lib.hid he
      clear he
      have F0 := Blk.set_other Z0 (show (w.heap.size + 1 + 1 + 1) ≠ w.heap.size by omega) 3 (.slice none 0 0)
      have F1 := Blk.set_other Z1 (show (w.heap.size + 1 + 1 + 1) ≠ w.heap.size + 1 by omega) 3 (.slice none 0 0)
      have F2 := Blk.set_other Z2 (show (w.heap.size + 1 + 1 + 1) ≠ w.heap.size + 1 + 1 by omega) 3 (.slice none 0 0)
      have F3 := Blk.set Z3 3 (.slice none 0 0)
      have FB := ZB.setCell (p := ⟨(w.heap.size + 1 + 1 + 1), 3, none⟩) (Nat.le_add_right w.heap.size 3) (.slice none 0 0)
      rcases gk with _ | g
      · have hkn : ¬ ((k : Int) < (n : Int)) := by omega
        go_wp2_with fail
        obtain ⟨wz, hwz⟩ : ∃ wz, wr.setCell ⟨(w.heap.size + 1 + 1 + 1), 3, none⟩ (.slice none 0 0) = wz := ⟨_, rfl⟩
        rw [hwz] at F0 F1 F2 F3 FB ⊢
        clear hwz x0 x3 x4 Z0 Z1 Z2 Z3 ZB
        have Z0 := F0
        have Z1 := F1
        have Z2 := F2
        have Z3 := F3
        have ZB := FB
        clear F0 F1 F2 F3 FB
        have d0 := Z0.cell 0
        have d1 := Z0.cell 1
        have d2 := Z0.cell 2
        have c0 := Z3.cell 0
        have c1 := Z3.cell 1
        have c2 := Z3.cell 2
        have c3 := Z3.cell 3
        have y0 := Z1.cell 0
        have y1 := Z1.cell 1
        have y2 := Z1.cell 2
        have y3 := Z1.cell 3
        have z0 := Z2.cell 0
        have z1 := Z2.cell 1
        have z2 := Z2.cell 2
        have g0 := Z1.frozen 0
        have g1 := Z1.frozen 1
        have g2 := Z1.frozen 2
        have g3 := Z1.frozen 3
        have h0 := Z2.frozen 0
        have h1 := Z2.frozen 1
        have h2 := Z2.frozen 2
        go_region
        all_goals
          have D := two_rows Z1 Z2 (by omega) ZB (Nat.le_add_right w.heap.size 1) (Nat.le_add_right w.heap.size 2) (.int .i64 4) (.int .i64 (0)) (.string ⟨#[]⟩) (.slice none 0 0) (.slice p b.length c) (.int .i64 (a2 : Int)) (.int .i64 (e2 : Int))
          obtain ⟨wd, hwd⟩ : ∃ wd, ((((((((wz.setCell ⟨(w.heap.size + 1), 0, none⟩ (.int .i64 4)).setCell ⟨(w.heap.size + 1), 1, none⟩ (.int .i64 (0))).setCell ⟨(w.heap.size + 1), 2, none⟩ (.string ⟨#[]⟩)).setCell ⟨(w.heap.size + 1), 3, none⟩ (.slice none 0 0)).setCell ⟨(w.heap.size + 1 + 1), 0, none⟩ (.slice p b.length c)).setCell ⟨(w.heap.size + 1 + 1), 1, none⟩ (.int .i64 (a2 : Int))).setCell ⟨(w.heap.size + 1 + 1), 2, none⟩ (.int .i64 (e2 : Int))).drew) = wd := ⟨_, rfl⟩
          rw [hwd] at D ⊢
          obtain ⟨D1, D2, D3⟩ := D
          clear hwd Z0 Z1 Z2 Z3 ZB d0 d1 d2 c0 c1 c2 c3 y0 y1 y2 y3 z0 z1 z2 g0 g1 g2 g3 h0 h1 h2
          try go_wp2_with fail
          refine bodyPost_ret (results_rowrow Tryd.results19 _ _ (w.heap.size + 1) (w.heap.size + 1 + 1) 43 38 _ _ rfl rfl D1 D2 Tryd.underlying43 rfl infoPut Tryd.underlying38 rfl infoRd) rfl ?_
          have hbf := D3
          exact ⟨⟨4, 0, [], none, 0, []⟩, a2, e2, rfl, by rw [HR.out, HE.out]; rfl, ⟨⟨(by show (-9223372036854775808 : Int) ≤ 0; omega), (by show (0 : Int) ≤ 9223372036854775807; omega)⟩, by simp, ins_none _, fun _ => rfl, Nat.le_refl _, by simp, by simp⟩, ⟨HX.out.row.below hbf, HX.out.nil, HOK.out.room, HOK.out.place, HOK.out.size, HOK.out.err⟩, by rw [HR.out, HE.out]; exact RV.st_bad p c b a2 HEN.out, hbf, fun _ _ h => absurd h (by simp)⟩
      · have hkn : (k : Int) < (n : Int) := by omega
        go_wp2_with fail
        obtain ⟨wz, hwz⟩ : ∃ wz, wr.setCell ⟨(w.heap.size + 1 + 1 + 1), 3, none⟩ (.slice none 0 0) = wz := ⟨_, rfl⟩
        rw [hwz] at F0 F1 F2 F3 FB ⊢
        clear hwz x0 x3 x4 Z0 Z1 Z2 Z3 ZB
        have Z0 := F0
        have Z1 := F1
        have Z2 := F2
        have Z3 := F3
        have ZB := FB
        clear F0 F1 F2 F3 FB
        have d0 := Z0.cell 0
        have d1 := Z0.cell 1
        have d2 := Z0.cell 2
        have c0 := Z3.cell 0
        have c1 := Z3.cell 1
        have c2 := Z3.cell 2
        have c3 := Z3.cell 3
        have y0 := Z1.cell 0
        have y1 := Z1.cell 1
        have y2 := Z1.cell 2
        have y3 := Z1.cell 3
        have z0 := Z2.cell 0
        have z1 := Z2.cell 1
        have z2 := Z2.cell 2
        have g0 := Z1.frozen 0
        have g1 := Z1.frozen 1
        have g2 := Z1.frozen 2
        have g3 := Z1.frozen 3
        have h0 := Z2.frozen 0
        have h1 := Z2.frozen 1
        have h2 := Z2.frozen 2
        go_region
        all_goals
          have D := two_rows Z1 Z2 (by omega) ZB (Nat.le_add_right w.heap.size 1) (Nat.le_add_right w.heap.size 2) (.int .i64 4) (.int .i64 (0)) (.string ⟨#[]⟩) (.slice none 0 0) (.slice p b.length c) (.int .i64 (a2 : Int)) (.int .i64 (e2 : Int))
          obtain ⟨wd, hwd⟩ : ∃ wd, ((((((((wz.setCell ⟨(w.heap.size + 1), 0, none⟩ (.int .i64 4)).setCell ⟨(w.heap.size + 1), 1, none⟩ (.int .i64 (0))).setCell ⟨(w.heap.size + 1), 2, none⟩ (.string ⟨#[]⟩)).setCell ⟨(w.heap.size + 1), 3, none⟩ (.slice none 0 0)).setCell ⟨(w.heap.size + 1 + 1), 0, none⟩ (.slice p b.length c)).setCell ⟨(w.heap.size + 1 + 1), 1, none⟩ (.int .i64 (a2 : Int))).setCell ⟨(w.heap.size + 1 + 1), 2, none⟩ (.int .i64 (e2 : Int))).drew) = wd := ⟨_, rfl⟩
          rw [hwd] at D ⊢
          obtain ⟨D1, D2, D3⟩ := D
          clear hwd Z0 Z1 Z2 Z3 ZB d0 d1 d2 c0 c1 c2 c3 y0 y1 y2 y3 z0 z1 z2 g0 g1 g2 g3 h0 h1 h2
          try go_wp2_with fail
          refine bodyPost_ret (results_rowrow Tryd.results19 _ _ (w.heap.size + 1) (w.heap.size + 1 + 1) 43 38 _ _ rfl rfl D1 D2 Tryd.underlying43 rfl infoPut Tryd.underlying38 rfl infoRd) rfl ?_
          have hbf := D3
          exact ⟨⟨4, 0, [], none, 0, []⟩, a2, e2, rfl, by rw [HR.out, HE.out]; rfl, ⟨⟨(by show (-9223372036854775808 : Int) ≤ 0; omega), (by show (0 : Int) ≤ 9223372036854775807; omega)⟩, by simp, ins_none _, fun _ => rfl, Nat.le_refl _, by simp, by simp⟩, ⟨HX.out.row.below hbf, HX.out.nil, HOK.out.room, HOK.out.place, HOK.out.size, HOK.out.err⟩, by rw [HR.out, HE.out]; exact RV.st_bad p c b a2 HEN.out, hbf, fun _ _ h => absurd h (by simp)⟩
end Go.Proofs.YtpffebcaalbhjaaDoor.wir
