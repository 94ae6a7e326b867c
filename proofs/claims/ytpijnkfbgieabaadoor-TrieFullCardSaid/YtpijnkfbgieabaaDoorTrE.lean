/- What the developers' with answers, in plain lists. No condition. -/
import Derived.Test.YtpijnkfbgieabaaDoorTrD
namespace Go.Proofs.YtpijnkfbgieabaaDoor.tri
open Go.RowKit
open Go.Proofs.YtpijnkfbgieabaaDoor.oct Go.Proofs.YtpijnkfbgieabaaDoor.ref Go.Proofs.YtpijnkfbgieabaaDoor.rows Go.Proofs.YtpijnkfbgieabaaDoor.rowg Go.Proofs.YtpijnkfbgieabaaDoor.trn Go.Proofs.YtpijnkfbgieabaaDoor.qut
open Go.Proofs.YtpijnkfbgieabaaDoor.scp (lt lt_irrefl lt_trans lt_total lt_asymm)
open Go.Proofs.YtpijnkfbgieabaaDoor.sha (digest digest_len dval Tabs)
open Go.Lib (byteCells)

theorem ins_perm {l : List Pr} (h : Srt l) (x : Pr) : (ins l x).Perm (del l x.n ++ [x]) := by
  unfold ins del
  rw [filt_ne h]
  rw [List.append_assoc, List.append_assoc]
  exact List.Perm.append_left _ List.perm_append_comm
theorem srt_ne {l : List Pr} (h : Srt l) : l.Pairwise fun x y => x.n ≠ y.n := h.imp fun h e => by rw [e, lt_irrefl] at h; cases h
theorem del_mem {l : List Pr} {k : T} {y : Pr} : y ∈ del l k ↔ y ∈ l ∧ y.n ≠ k := by
  unfold del
  rw [List.mem_filter]
  simp
theorem with_end {f d : Nat} {l : List Pr} {x : Pr} (hs : Srt l) (hu : Und l (digest x.n) d) (hdf : d + f = 64) (h : del l x.n = [] ∨ d = 64) :
    (∀ y ∈ del l x.n ++ [x], digest y.n = digest x.n) ∧ ((del l x.n ++ [x]).Pairwise fun a b => a.n ≠ b.n) ∧ (∀ l' : List Pr, l'.Perm (del l x.n ++ [x]) → Srt l' → l' = ins l x) ∧ (f = 0 ∨ (ins l x).length = 1) := by
  refine ⟨fun y hy => ?_, ?_, fun l' hp h2 => srt_ext h2 (ins_srt hs x) (hp.trans (ins_perm hs x).symm), ?_⟩
  · rcases List.mem_append.1 hy with hy | hy
    · rcases h with h | h
      · rw [h] at hy; cases hy
      · subst h
        exact hu.full (digest_len _) y (del_mem.1 hy).1
    · rw [List.mem_singleton.1 hy]
  · rw [List.pairwise_append]
    refine ⟨srt_ne (del_srt hs _), List.pairwise_singleton _ _, fun a ha b hb => ?_⟩
    rw [List.mem_singleton.1 hb]
    exact (del_mem.1 ha).2
  · rcases h with h | h
    · exact Or.inr (by rw [ins_len hs, h]; rfl)
    · exact Or.inl (by omega)
/-- what with asks -/
structure WPre (x : Pr) (w : World) (F : Nat → Prop) (f d : Nat) (p : Option Nat) (l : List Pr) : Prop where
  nd : Nd w F f d p l
  df : d + f = 64
  tabs : Tabs w
  srt : Srt l
  fit : ∀ y ∈ l, Fit y
  und : Und l (digest x.n) d
  len : l.length ≤ 4096
def WithC (x : Pr) (w : World) (F : Nat → Prop) (f d : Nat) (p : Option Nat) (l : List Pr) : Prop :=
  Calls Tryd.prog 55 #[nptr p, dval (digest x.n), .agg (penc x).toArray, .int .i64 (d : Nat)] w fun e w' => ∃ p', e = .returned (nptr p') ∧ Nd w' (FN F w w') f d p' (ins l x) ∧ Below w.heap.size w w'
theorem sub_len_le (l : List Pr) (d k : Nat) : (sub l d k).length ≤ l.length := List.length_filter_le _ _
/-- what is asked below -/
theorem WPre.sub {x : Pr} {w w2 : World} {F : Nat → Prop} {f d : Nat} {p : Option Nat} {l : List Pr} (h : WPre x w F (f + 1) d p l) {c : Nat → Option Nat} (hs : SplitA w F f d l c) (hb : Below w.heap.size w w2) :
    WPre x w2 F f (d + 1) (c (nib x.n d)) (sub l d (nib x.n d)) :=
  ⟨(hs _ (nibW_lt _ _)).below hb, by have := h.df; omega, h.tabs.below hb, sub_srt h.srt _ _, fun y hy => h.fit y (sub_mem.1 hy).1, h.und.sub, Nat.le_trans (sub_len_le _ _ _) h.len⟩
/-- only blocks that there are -/
def Sm (F : Nat → Prop) (n : Nat) (k : Nat) : Prop := F k ∧ k < n
theorem Leaf.small {F : Nat → Prop} {w : World} {b : Nat} {l : List Pr} (h : Leaf w F b l) : Leaf w (Sm F w.heap.size) b l := by
  obtain ⟨v, way, h⟩ := h
  exact ⟨v, way, ⟨h.nb.blk, h.nb.dl, h.nb.wl, h.nb.foot, h.nb.lt⟩, h.own, fun k hk => ⟨h.of k hk, (h.own.lt k hk).2⟩, h.ways, h.pos⟩
theorem Nd.small {F : Nat → Prop} {w : World} : ∀ {f d : Nat} {p : Option Nat} {l : List Pr}, Nd w F f d p l → Nd w (Sm F w.heap.size) f d p l
  | 0, _, _, _, h => h.imp id fun ⟨b, e, h⟩ => ⟨b, e, h.small⟩
  | _ + 1, _, _, _, h => h.imp id fun h => h.imp (fun ⟨b, e, h, h1⟩ => ⟨b, e, h.small, h1⟩) fun ⟨b, c, e, h2, hn, hk⟩ => ⟨b, c, e, h2, ⟨hn.blk, hn.dl, hn.wl, hn.foot, hn.lt⟩, fun k h3 => Nd.small (hk k h3)⟩
theorem SplitA.turn {S F F2 : Nat → Prop} {w w' : World} {f d : Nat} {l : List Pr} {c : Nat → Option Nat} (h : SplitA w F f d l c) (ht : Turn S w w') (hd : ∀ k, F k → ¬ S k) (hF : ∀ k, F k → F2 k) : SplitA w' F2 f d l c := fun k hk => (h k hk).turn ht hd hF
theorem SplitA.below {F : Nat → Prop} {w w' : World} {f d : Nat} {l : List Pr} {c : Nat → Option Nat} (h : SplitA w F f d l c) (hb : Below w.heap.size w w') : SplitA w' F f d l c := fun k hk => (h k hk).below hb
/-- what is below, with the pair -/
theorem splitA_with {x : Pr} {w w5 w6 wz : World} {F : Nat → Prop} {f d : Nat} {l : List Pr} {c : Nat → Option Nat} {p' : Option Nat} (h : SplitA wz F f d l c) (hs : Srt l) (h1 : w.heap.size ≤ w5.heap.size) (h6 : w6.heap.size ≤ wz.heap.size)
    (hn : Nd wz (FN F w5 w6) f (d + 1) p' (Go.Proofs.YtpijnkfbgieabaaDoor.tri.ins (Go.Proofs.YtpijnkfbgieabaaDoor.tri.sub l d (nib x.n d)) x)) : SplitA wz (FN F w wz) f d (ins l x) (setK c (nib x.n d) p') := fun k hk => by
  rw [sub_ins hs]
  unfold setK
  by_cases e : k = nib x.n d
  · rw [if_pos e, if_pos e, e]
    exact hn.mono fun i hi => hi.imp id fun ⟨a, b⟩ => ⟨Nat.le_trans h1 a, Nat.lt_of_lt_of_le b h6⟩
  · rw [if_neg e, if_neg e]
    exact (h k hk).mono fun i hi => Or.inl hi
theorem turn_from {B : Nat} {w w' : World} (h : Below B w w') : Turn (fun k => B ≤ k) w w' := ⟨h.os, h.tape, h.output, h.size, fun k _ hn => h.block k (Nat.lt_of_not_le hn)⟩
theorem splitA_keep {F : Nat → Prop} {n B : Nat} {w w' : World} {f d : Nat} {l : List Pr} {c : Nat → Option Nat} (h : SplitA w (Sm F n) f d l c) (hb : Below B w w') (hn : n ≤ B) : SplitA w' (Sm F n) f d l c :=
  h.turn (turn_from hb) (fun k hk h2 => by have := hk.2; omega) fun _ hk => hk
/-- what is asked below -/
theorem wpre_sub {x : Pr} {w wy : World} {F G : Nat → Prop} {f d : Nat} {p p2 : Option Nat} {l : List Pr} (h : WPre x w F (f + 1) d p l) (hn : Nd wy G f (d + 1) p2 (Go.Proofs.YtpijnkfbgieabaaDoor.tri.sub l d (nib x.n d))) (hb : Below w.heap.size w wy) :
    WPre x wy G f (d + 1) p2 (Go.Proofs.YtpijnkfbgieabaaDoor.tri.sub l d (nib x.n d)) :=
  ⟨hn, by have := h.df; omega, h.tabs.below hb, sub_srt h.srt _ _, fun y hy => h.fit y (sub_mem.1 hy).1, h.und.sub, Nat.le_trans (sub_len_le _ _ _) h.len⟩
theorem ins_len_le {l : List Pr} (h : Srt l) (x : Pr) : (ins l x).length ≤ l.length + 1 := by
  rw [ins_len h]
  exact Nat.succ_le_succ (List.length_filter_le _ _)
end Go.Proofs.YtpijnkfbgieabaaDoor.tri
