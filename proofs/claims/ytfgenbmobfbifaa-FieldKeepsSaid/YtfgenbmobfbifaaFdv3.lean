/- The contract of the developers' Unquote. Texts of up to 2^47 - 4096 bytes. -/
import Derived.Test.YtfgenbmobfbifaaFdv2
namespace Go.Proofs.Ytfgenbmobfbifaa.fdv
open Go.RowKit
open Go.Proofs.Ytfgenbmobfbifaa.oct Go.Proofs.Ytfgenbmobfbifaa.ref Go.Proofs.Ytfgenbmobfbifaa.fld
open Go.Lib (byteCells)

abbrev IsB (B b : Nat) (l : List UInt8) (w : World) : Prop := Lib.IsBuilderF 48 5 B b (byteCells l) w
/-- the frame of a builder's call: what lay below B, and every block that is neither the builder's nor a row of bytes -/
structure BK (B b : Nat) (w w' : World) : Prop where
  below : Below B w w'
  others : Lib.OthersKept 5 (some b) w w'
theorem BK.refl (B b : Nat) (w : World) : BK B b w w := ⟨Below.refl _ _, Lib.OthersKept.refl _ _ _⟩
theorem BK.trans {B b : Nat} {u v w : World} (h : BK B b u v) (k : BK B b v w) : BK B b u w := ⟨h.below.trans k.below, h.others.trans k.others⟩
theorem BK.size {B b : Nat} {u v : World} (h : BK B b u v) : u.heap.size ≤ v.heap.size := h.below.size
/-- a block of another type than bytes, not the builder's, stands -/
theorem BK.blk {B b k : Nat} {u v : World} {c : Array Value} {T : TypeId} {fz : Nat × Nat} (h : BK B b u v) (hk : u.heap[k]? = some (.cells c T fz)) (hb : k ≠ b) (hT : T ≠ 5) : v.heap[k]? = some (.cells c T fz) :=
  h.others k _ hk (fun e => hb (by injection e)) (fun c' fz' e => hT (by injection e))
theorem new_builder (w : World) : (w.alloc (.cells #[.pointer none, .slice none 0 0] 48)).heap[w.heap.size]? = some (.cells #[.pointer none, .slice none 0 0] 48 (0, 0)) := heap_alloc_new w _
theorem isB_new (w : World) : IsB w.heap.size w.heap.size [] (w.alloc (.cells #[.pointer none, .slice none 0 0] 48)) :=
  Lib.IsBuilderF.of (Or.inl ⟨Nat.le_refl _, _, new_builder w, World.ownsRow_nil _ _ _ _, by simp [Value.ownBlock]⟩)
theorem drop_bytes (r : ByteArray) (n : Nat) : (r.extract n r.size).data.toList = r.data.toList.drop n := by
  rw [Lib.extract_eq]
  have hl : r.data.toList.length = r.size := by rw [Array.length_toList]; rfl
  show (List.take (r.size - n) (List.drop n r.data.toList)).toArray.toList = _
  rw [List.toList_toArray]
  exact List.take_of_length_le (by rw [List.length_drop, hl]; exact Nat.le_refl _)
theorem isB_write (B b : Nat) (l : List UInt8) (c : UInt8) (w : World) (h : IsB B b l w) (hlen : l.length + 1 ≤ 140737488355328) (hBw : B ≤ w.heap.size) :
    Calls Try.prog 26 #[.pointer (some ⟨b, 0, none⟩), .int .u8 (c.toNat : Int)] w fun e w' => e = .returned .nilIface ∧ IsB B b (l ++ [c]) w' ∧ BK B b w w' :=
  (sh.bwrite B b _ (c.toNat : Int) w h (by rw [byteCells_len]; exact hlen) hBw).mono fun e w' ⟨h1, h2, h3, h4⟩ => ⟨h1, Or.inr (by rw [byteCells_snoc]; exact h2), h3, h4⟩
theorem unq_none {l : List UInt8} (h : l ≠ []) (h1 : fst l = none) : unq l = none := by
  match l, h with
  | c :: r, _ => rw [unq_fst, h1]
theorem unq_some {l : List UInt8} {c : UInt8} {n : Nat} (h1 : fst l = some (c, n)) : unq l = (unq (l.drop n)).map (c :: ·) := by
  match l with
  | [] => cases h1
  | _ :: _ => rw [unq_fst, h1]
set_option maxRecDepth 100000 in
set_option maxHeartbeats 2000000 in
theorem unquote_c (s : ByteArray) (w : World) (hs : s.size ≤ 140737488351232) :
    Calls Try.prog 15 #[.string s] w fun e w' => e = .returned (unqV (unq s.data.toList)) ∧ Below w.heap.size w w' := by
  have HSL : Hid (s.data.toList.length = s.size) := by show _ = _; rw [Array.length_toList]; rfl
  have HG := Lib.hid (sh.bgrow w.heap.size w.heap.size s.size _ (Nat.le_refl _) (new_builder w) (by simp) (by omega))
  go_enter Try.func15, Try.ntmps15
  go_wp2_with (go_at_call 30; refine HG.out.mono ?_; rintro e w1 ⟨rfl, hB1, hb1⟩)
  have hB1' : IsB w.heap.size w.heap.size [] w1 := Lib.IsBuilderF.of (Or.inr hB1)
  have hbw : Below w.heap.size w w1 := ((Below.refl _ w).alloc (Nat.le_refl _) _).trans hb1
  clear HG hB1 hb1
  go_loopg [0, 2, 3, 5, 6] s.size (fun g s0 s2 s3 s5 s6 wx => ∃ (r : ByteArray) (acc : List UInt8), r.size ≤ g ∧ s0 = .string r ∧ r.size + acc.length ≤ s.size ∧ Hid (unq s.data.toList = (unq r.data.toList).map (acc ++ ·)) ∧ IsB w.heap.size w.heap.size acc wx ∧ Below w.heap.size w wx)
  case atStart => exact ⟨s, [], Nat.le_refl _, rfl, by simp, by show _ = _; simp, hB1', hbw⟩
  case round =>
    obtain ⟨r, acc, hg, rfl, hsz, HU, hB, hb⟩ := hrel
    have hl : r.data.toList.length = r.size := by rw [Array.length_toList]; rfl
    by_cases h0 : r.size = 0
    · have HR : Hid (unq s.data.toList = some acc) := by
        show _ = _
        have : r.data.toList = [] := List.length_eq_zero_iff.1 (by rw [hl]; exact h0)
        rw [HU.out, this]; simp [unq]
      have hz : ¬ ((r.size : Int) > 0) := by omega
      have HS := Lib.hid (sh.bstring w.heap.size w.heap.size acc _ hB hb.size)
      have HB := Lib.hid hb
      clear HU hl h0 hB hb hsz hg
      go_wp2_with (go_at_call 27; refine HS.out.mono ?_; rintro e w2 ⟨rfl, _, hb2, _⟩)
      go_ret2
      exact ⟨by rw [HR.out]; rfl, HB.out.trans hb2⟩
    · have hz : (r.size : Int) > 0 := by omega
      have HF := Lib.hid (first_c r wr (by omega) (by omega))
      cases hf : fst r.data.toList with
      | none =>
        rw [hf] at HF
        have HR : Hid (unq s.data.toList = none) := by
          show _ = _
          rw [HU.out, unq_none (fun e => h0 (by rw [← hl, e]; rfl)) hf]; rfl
        have HB := Lib.hid hb
        clear HU hl h0 hB hb hsz hg hf
        unfold fstV at HF
        go_wp2_with (go_at_call 31; refine HF.out.mono ?_; rintro e w2 ⟨rfl, n, rfl⟩)
        go_ret2
        exact ⟨by rw [HR.out]; rfl, below_drewN HB.out _⟩
      | some x =>
        obtain ⟨c, n⟩ := x
        rw [hf] at HF
        obtain ⟨n1, n2, n3⟩ := fst_len _ _ hf
        rw [hl] at n2
        simp only at n1 n2 n3
        have HN : Hid (unq s.data.toList = (unq (r.extract n r.size).data.toList).map ((acc ++ [c]) ++ ·)) := by
          show _ = _
          rw [HU.out, unq_some hf, map_snoc, drop_bytes]
        have HZ : Hid ((r.extract n r.size).size = r.size - n) := by
          show _ = _
          have : (r.extract n r.size).data.toList.length = (r.extract n r.size).size := by rw [Array.length_toList]; rfl
          rw [← this, drop_bytes, List.length_drop, hl]
        have hnz : ((n : Int) == 0) = false := by rw [beq_eq_false_iff_ne]; omega
        have m1 : (0 : Int) ≤ (n : Int) := by omega
        have m2 : (n : Int) ≤ (r.size : Int) := by omega
        have hsz2 : acc.length + 1 ≤ 140737488355328 := by omega
        clear HU hl h0 hf
        unfold fstV at HF
        go_wp2_with (go_at_call 31; refine HF.out.mono ?_; rintro e w2 ⟨rfl, nd, rfl⟩)
        have hBd : IsB w.heap.size w.heap.size acc (wr.drewN nd) := hB
        refine (isB_write w.heap.size w.heap.size acc c (wr.drewN nd) hBd hsz2 hb.size).mono ?_
        rintro e w3 ⟨rfl, hB3, hb3⟩
        have hb4 : Below w.heap.size w w3 := (below_drewN hb nd).trans hb3.below
        clear hB hBd hb hb3
        go_wp2_with fail
        go_roundg (gk - 1)
        case measure => omega
        case rel => exact ⟨r.extract n r.size, acc ++ [c], by rw [HZ.out]; omega, rfl, by rw [HZ.out, List.length_append, List.length_singleton]; omega, HN, hB3, hb4⟩
end Go.Proofs.Ytfgenbmobfbifaa.fdv
