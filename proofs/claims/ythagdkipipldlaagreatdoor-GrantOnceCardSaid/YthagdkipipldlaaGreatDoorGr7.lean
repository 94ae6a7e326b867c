/- The developers' copied: what stands between its steps. No condition. -/
import Derived.Test.YthagdkipipldlaaGreatDoorGr6
namespace Go.Proofs.YthagdkipipldlaaGreatDoor.gra
open Go.RowKit
open Go.Proofs.YthagdkipipldlaaGreatDoor.oct Go.Proofs.YthagdkipipldlaaGreatDoor.ref Go.Proofs.YthagdkipipldlaaGreatDoor.rows Go.Proofs.YthagdkipipldlaaGreatDoor.rowg Go.Proofs.YthagdkipipldlaaGreatDoor.mpt Go.Proofs.YthagdkipipldlaaGreatDoor.trn Go.Proofs.YthagdkipipldlaaGreatDoor.krd
open Go.Proofs.YthagdkipipldlaaGreatDoor.scp (tx senc senc_len senc_one InS ins_below ins_cell ins_one lt Lst lval lenc GoodL FitS RowA own_good infoStr setCell_same clone_c)

def zerF : List Value := [.string ⟨#[]⟩, .string ⟨#[]⟩, .string ⟨#[]⟩, .slice none 0 0, .string ⟨#[]⟩, .string ⟨#[]⟩, .string ⟨#[]⟩, .int .i64 0, .slice none 0 0, .bool false, .slice none 0 0]
/-- a family that is copied: its box, the answer's variable -/
structure CI (w wz : World) (X : List Value) : Prop where
  blk : Blk wz w.heap.size 41 X
  res : Blk wz (w.heap.size + 1) 41 zerF
  bel : Below w.heap.size w wz
theorem CI.next {w wz W : World} {X : List Value} (h : CI w wz X) (hb : Below wz.heap.size wz W) : CI w W X := ⟨h.blk.below hb, h.res.below hb, bnext h.bel hb⟩
theorem CI.size {w wz : World} {X : List Value} (h : CI w wz X) : w.heap.size + 2 ≤ wz.heap.size := by have := h.res.lt; omega
theorem CI.set {w wz : World} {X : List Value} (h : CI w wz X) (i : Nat) (v : Value) : CI w (wz.setCell ⟨w.heap.size, i, none⟩ v) (X.set i v) :=
  ⟨h.blk.set i v, blk_turn h.res (Turn.set (S := fun k => k = w.heap.size) wz _ _ _ rfl) (by omega), h.bel.setCell (p := ⟨w.heap.size, i, none⟩) (Nat.le_refl _) _⟩
theorem CI.other {w wz : World} {X : List Value} (h : CI w wz X) {b : Nat} (hb : w.heap.size + 2 ≤ b) (i : Nat) (v : Value) : CI w (wz.setCell ⟨b, i, none⟩ v) X :=
  ⟨blk_turn h.blk (Turn.set (S := fun k => k = b) wz _ _ _ rfl) (by omega), blk_turn h.res (Turn.set (S := fun k => k = b) wz _ _ _ rfl) (by omega), h.bel.setCell (p := ⟨b, i, none⟩) (show w.heap.size ≤ b by omega) _⟩
/-- a row that the copy has made -/
abbrev Row2 {α : Type} (enc : α → List Value) (e k : Nat) (w wz : World) (p : Option Addr) (c : Nat) (l : List α) : Prop := wz.ownsRow (w.heap.size + 2) e k (.slice p l.length c) l.length (cells enc l)
theorem row2_next {α : Type} {enc : α → List Value} {e k : Nat} {w wz W : World} {p : Option Addr} {c : Nat} {l : List α} (h : Row2 enc e k w wz p c l) (hb : Below wz.heap.size wz W) : Row2 enc e k w W p c l := own_belowG h hb
theorem row2_set {α : Type} {enc : α → List Value} {e k : Nat} {w wz : World} {p : Option Addr} {c : Nat} {l : List α} (h : Row2 enc e k w wz p c l) (i : Nat) (v : Value) : Row2 enc e k w (wz.setCell ⟨w.heap.size, i, none⟩ v) p c l :=
  own_turn h (Turn.set (S := fun k => k = w.heap.size) wz _ _ _ rfl) fun b hb e => by have := (h.lt b hb).1; omega
theorem boxF (w : World) (X : List Value) (C : Array Value) (hC : C = X.toArray) : CI w ((w.alloc (.cells C 41)).alloc (.cells zerF.toArray 41)) X := by
  subst hC
  have hb1 : Blk (w.alloc (.cells X.toArray 41)) w.heap.size 41 X := blk_new w _ _ _ rfl
  have hs : (w.alloc (.cells X.toArray 41)).heap.size = w.heap.size + 1 := by simp
  have hb2 := blk_new (w.alloc (.cells X.toArray 41)) zerF.toArray 41 zerF rfl
  rw [hs] at hb2
  exact ⟨blk_old hb1 _, hb2, ((Below.refl _ _).alloc (Nat.le_refl _) _).alloc (by rw [hs]; omega) _⟩
/-- the tokens' row, as far as their scopes are the copy's own -/
structure TI (w wz : World) (p : Option Addr) (c : Nat) (l ys : List IM) (k : Nat) : Prop where
  len : ys.length = k
  le : k ≤ l.length
  says : ys.map IM.t = (l.take k).map IM.t
  row : wz.ownsRow (w.heap.size + 2) 50 3 (.slice p l.length c) l.length (cells ienc (ys ++ l.drop k))
  ts : ∀ t ∈ ys, wz.ownsRow (w.heap.size + 2) 9 1 (lval t.sc) t.sc.2.2.length (cells senc t.sc.2.2)
theorem TI.next {w wz W : World} {p : Option Addr} {c k : Nat} {l ys : List IM} (h : TI w wz p c l ys k) (hb : Below wz.heap.size wz W) : TI w W p c l ys k := ⟨h.len, h.le, h.says, own_belowG h.row hb, fun t m => own_belowG (h.ts t m) hb⟩
theorem TI.set {w wz : World} {p : Option Addr} {c k : Nat} {l ys : List IM} (h : TI w wz p c l ys k) (i : Nat) (v : Value) : TI w (wz.setCell ⟨w.heap.size, i, none⟩ v) p c l ys k :=
  ⟨h.len, h.le, h.says, own_turn h.row (Turn.set (S := fun k => k = w.heap.size) wz _ _ _ rfl) fun b hb e => by have := (h.row.lt b hb).1; omega, fun t m => own_turn (h.ts t m) (Turn.set (S := fun k => k = w.heap.size) wz _ _ _ rfl) fun b hb e => by have := ((h.ts t m).lt b hb).1; omega⟩
/-- the k-th token's cells -/
theorem TI.at {w wz : World} {p : Option Addr} {c k : Nat} {l ys : List IM} (h : TI w wz p c l ys k) (hk : k < l.length) : ∃ b, p = some ⟨b, 0, none⟩ ∧ w.heap.size + 2 ≤ b ∧ b < wz.heap.size ∧ l.length ≤ c ∧
    wz.cell? ⟨b, k * 3, none⟩ = some (.int .i64 l[k].k) ∧ wz.cell? ⟨b, k * 3 + 1, none⟩ = some (lval l[k].sc) ∧ wz.cell? ⟨b, k * 3 + 2, none⟩ = some (.bool l[k].used) ∧ wz.frozen? ⟨b, k * 3 + 1, none⟩ = false := by
  have hlen : (ys ++ l.drop k).length = l.length := by rw [List.length_append, List.length_drop, h.len]; omega
  have hr := h.row
  rw [← hlen] at hr
  obtain ⟨p2, c2, hv, hc, hn, hin⟩ := own_g ienc_len (by decide) hr
  injection hv with e1 e2 e3
  subst e1
  subst e3
  obtain ⟨b, o, rfl, _⟩ := hin (by omega)
  have ho : o = 0 := by
    rcases hr.2 with ⟨h1, _⟩ | ⟨g, cap, cur, h1, _⟩
    · injection h1 with h1; cases h1
    · injection h1 with h1; injection h1 with h1; injection h1
  subst ho
  have hb := hr.lt b rfl
  have hg : (ys ++ l.drop k)[k]? = some l[k] := by
    rw [List.getElem?_append_right (by rw [h.len]; exact Nat.le_refl _), h.len, Nat.sub_self, List.getElem?_drop, Nat.add_zero, List.getElem?_eq_getElem hk]
  have hat : ∀ j, j < 3 → wz.cell? ⟨b, k * 3 + j, none⟩ = (ienc l[k])[j]? := fun j hj => by
    obtain ⟨b2, o2, e, hc⟩ := hin (by omega)
    cases e
    have h2 := hc k (by omega) j hj
    rw [Nat.zero_add] at h2
    rw [h2]
    congr 2
    have := List.getElem?_eq_getElem (show k < (ys ++ l.drop k).length by omega)
    rw [hg] at this
    injection this with this
    exact this.symm
  refine ⟨b, rfl, hb.1, hb.2, by omega, hat 0 (by decide), hat 1 (by decide), hat 2 (by decide), ?_⟩
  exact (own_frozen hr (k * 3 + 1) (by omega)).1
/-- one token on -/
theorem TI.step {w wz : World} {c k b : Nat} {l ys : List IM} (h : TI w wz (some ⟨b, 0, none⟩) c l ys k) (hk : k < l.length) (p2 : Option Addr) (c2 : Nat) (ho : wz.ownsRow (w.heap.size + 2) 9 1 (.slice p2 (l[k]).sc.2.2.length c2) (l[k]).sc.2.2.length (cells senc (l[k]).sc.2.2)) :
    TI w (wz.setCell ⟨b, k * 3 + 1, none⟩ (.slice p2 (l[k]).sc.2.2.length c2)) (some ⟨b, 0, none⟩) c l (ys ++ [⟨(l[k]).k, (p2, c2, (l[k]).sc.2.2), (l[k]).used⟩]) (k + 1) := by
  have hlen : (ys ++ l.drop k).length = l.length := by rw [List.length_append, List.length_drop, h.len]; omega
  have hr := h.row
  rw [← hlen] at hr
  have hne : ∀ {v : Value} {n : Nat} {xs : List Value}, wz.ownsRow (w.heap.size + 2) 9 1 v n xs → ∀ b2, v.ownBlock = some b2 → ¬ b2 = b := fun {v n xs} hv b2 hb2 e => by
    subst e
    have := row_row hv h.row hb2 rfl
    exact absurd this (by decide)
  have hset := own_setG ienc_len hr k 1 (by omega) (by decide) ⟨(l[k]).k, (p2, c2, (l[k]).sc.2.2), (l[k]).used⟩ (.slice p2 (l[k]).sc.2.2.length c2) (by
    have e : (ys ++ l.drop k)[k]'(by omega) = l[k] := by
      rw [List.getElem_append_right (by rw [h.len]; exact Nat.le_refl _)]
      simp [h.len]
    rw [e]
    rfl)
  have hT : Turn (fun i => i = b) wz (wz.setCell ⟨b, k * 3 + 1, none⟩ (.slice p2 (l[k]).sc.2.2.length c2)) := Turn.set _ _ _ _ rfl
  refine ⟨by rw [List.length_append, List.length_singleton, h.len], hk, ?_, ?_, ?_⟩
  · rw [List.take_succ_eq_append_getElem hk, List.map_append, List.map_append, h.says]
    rfl
  · rw [hlen] at hset
    rw [List.append_assoc, show [(⟨(l[k]).k, (p2, c2, (l[k]).sc.2.2), (l[k]).used⟩ : IM)] ++ l.drop (k + 1) = (l.drop k).set 0 ⟨(l[k]).k, (p2, c2, (l[k]).sc.2.2), (l[k]).used⟩ by rw [List.drop_eq_getElem_cons hk]; rfl]
    rw [List.set_append_right _ _ (by rw [h.len]; exact Nat.le_refl _), h.len, Nat.sub_self] at hset
    exact hset
  · intro t ht
    rcases List.mem_append.1 ht with ht | ht
    · exact own_turn (h.ts t ht) hT (hne (h.ts t ht))
    · rw [List.mem_singleton.1 ht]
      exact own_turn ho hT (hne ho)
/-- what the copy comes to -/
theorem copied_end {w wz wr : World} {x : DF} {p3 p8 p10 : Option Addr} {c3 c8 c10 : Nat} {ys : List IM} (hbel : Below w.heap.size w wz) (ht : Turn (fun k => k = w.heap.size + 1) wz wr) (hs : w.heap.size + 2 ≤ wz.heap.size)
    (h3 : Row2 senc 9 1 w wz p3 c3 x.sc.2.2) (h8 : TI w wz p8 c8 x.tk ys x.tk.length) (h10 : Row2 nenc 3 1 w wz p10 c10 x.le) :
    OwnF wr w.heap.size ⟨0, x.id, x.cl, x.us, (p3, c3, x.sc.2.2), x.re, x.ch, x.me, x.code, p8, c8, ys, x.rev, p10, c10, x.le⟩ ∧ DF.f ⟨0, x.id, x.cl, x.us, (p3, c3, x.sc.2.2), x.re, x.ch, x.me, x.code, p8, c8, ys, x.rev, p10, c10, x.le⟩ = x.f ∧ Below w.heap.size w wr ∧ ys.length = x.tk.length := by
  have hle : ys.length = x.tk.length := h8.len
  have hr := h8.row
  rw [List.drop_eq_nil_of_le (Nat.le_refl _), List.append_nil, ← hle] at hr
  refine ⟨⟨own_baseR (own_turn h3 ht fun b hb e => by have := (h3.lt b hb).1; omega) (by omega), own_baseR (own_turn hr ht fun b hb e => by have := (hr.lt b hb).1; omega) (by omega), fun t m => own_baseR (own_turn (h8.ts t m) ht fun b hb e => by have := ((h8.ts t m).lt b hb).1; omega) (by omega), own_baseR (own_turn h10 ht fun b hb e => by have := (h10.lt b hb).1; omega) (by omega)⟩, ?_, ?_, hle⟩
  · unfold DF.f
    dsimp only
    rw [h8.says, List.take_length]
  · exact Turn.below hbel ht (fun k hk => by rw [hk]; exact Nat.le_succ _) (by omega)
end Go.Proofs.YthagdkipipldlaaGreatDoor.gra
