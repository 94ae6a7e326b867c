/- The contracts of the developers' words.has, words.sorted; strings.Clone. Sets of lists of at most 4194304 texts. -/
import Derived.Test.YtcklbbbplbboaaaDoorScq2
import Derived.Test.YtcklbbbplbboaaaDoorShScpA
import Derived.Test.YtcklbbbplbboaaaDoorShScpB
import Derived.Deep.DeepBigQuietO
namespace Go.Proofs.YtcklbbbplbboaaaDoor.scp
open Go.RowKit
open Go.Proofs.YtcklbbbplbboaaaDoor.oct Go.Proofs.YtcklbbbplbboaaaDoor.ref Go.Proofs.YtcklbbbplbboaaaDoor.rows Go.Proofs.YtcklbbbplbboaaaDoor.rowg

/-- what a cell holds, stored into it, turns nothing -/
theorem setCell_same {w : World} {g i : Nat} {v : Value} (h : w.cell? ⟨g, i, none⟩ = some v) : w.setCell ⟨g, i, none⟩ v = w := by
  have hh : (w.setCell ⟨g, i, none⟩ v).heap = w.heap := by
    apply Array.ext_getElem?
    intro k
    by_cases hk : k = g
    · subst hk
      unfold World.cell? at h
      simp only [World.setCell, Array.getElem?_modify, if_true]
      cases ho : w.heap[k]? with
      | none => rfl
      | some o =>
        rw [ho] at h
        cases o with
        | cells c t fz =>
          simp only at h
          simp only [Option.map_some]
          congr 2
          apply Array.ext_getElem?
          intro j
          have h' : c[i]? = some v := by simpa using h
          by_cases hj : j = i
          · subst hj
            rw [h']
            simp [(Array.getElem?_eq_some_iff.1 h').1]
          · simp [Ne.symm hj]
        | _ => rfl
    · exact Below.heap_setCell _ _ _ _ hk
  cases w
  simp only [World.setCell] at hh ⊢
  rw [hh]
set_option maxRecDepth 100000 in
theorem clone_c (s : ByteArray) (w : World) (hs : s.size ≤ 281474976710656) : Calls Tryd.prog 37 #[.string s] w fun e w' => e = .returned (.string s) ∧ Below w.heap.size w w' := by
  have HI := Lib.hid (sh.sclone s w hs)
  go_enter Tryd.func37, Tryd.ntmps37
  go_wp2_with (go_at_call 45; refine HI.out.mono ?_; rintro e w' ⟨rfl, hb⟩)
  go_ret
  exact ⟨rfl, hb⟩
theorem setM_below {w w' : World} {b : Nat} {L : List T} (h : SetM w b L) (hb : Below w.heap.size w w') : SetM w' b L := by
  obtain ⟨n, D, hom, hset⟩ := h
  have hl := hom.lt
  obtain ⟨es, clock, hh, F, hs, hD⟩ := hom
  exact ⟨n, D, ⟨es, clock, (hb.block b hl).trans hh, F, hs, hD⟩, hset⟩
theorem key_txt (y : T) (h : y.length ≤ 140737488351232) : keyOf Tryd.prog 9 (.string ⟨y.toArray⟩) = some (.string y) :=
  WideMaps.keyOf_string_mk (P := Tryd.prog) Tryd.underlying9 (s := ⟨y.toArray⟩) (by rw [show (⟨y.toArray⟩ : ByteArray).size = y.length from List.size_toArray]; unfold maxLen; omega)
set_option maxRecDepth 100000 in
set_option maxHeartbeats 4000000 in
/-- is a word one of a set's -/
theorem has_c (b : Nat) (L : List T) (y : T) (w : World) (h : SetM w b L) (hy : wordB y = true) :
    Calls Tryd.prog 32 #[.map (some b), .string ⟨y.toArray⟩] w fun e w' => e = .returned (.bool (hasB L y)) ∧ Below w.heap.size w w' := by
  obtain ⟨n, D, hom, hset⟩ := h
  have HB0 := Lib.hid ((Below.refl w.heap.size w).alloc (Nat.le_refl _) (.cells #[] 48))
  have HKY := Lib.hid (key_txt y (by have := (word_len hy).2; omega))
  have HR : Hid (Maps.has D (.string y) = hasB L y) := by
    show _ = _
    rw [Bool.eq_iff_iff, hset y, hasB_iff]
    exact ⟨fun h => h.1, fun h => ⟨h, hy⟩⟩
  have HOM := Lib.hid hom
  clear hom hset hy
  go_enter Tryd.func32, Tryd.ntmps32
  go_wp2_with (at_lookup; refine wpList_lookup_own_unit _ rfl _ _ 42 rfl 9 48 skeyed Tryd.underlying42 (Tryd.zeroValue48 _) b n D rfl HOM.out _ _ rfl HKY.out ?_)
  go_ret
  exact ⟨ret_bool HR.out, HB0.out⟩
theorem enc_cells (l : List T) : l.map Go.Proofs.encStr = cells senc l := by
  unfold cells
  induction l with
  | nil => rfl
  | cons x r ih => rw [List.map_cons, List.flatMap_cons, ih]; rfl
theorem le_of_lt {a b : T} (h : lt a b = true) : Go.leB a b = true := by
  have h2 : a < b := by
    have h3 : Go.Op.bytesLess a b = true := h
    rw [Go.Proofs.bytesLess_eq] at h3
    simpa using h3
  show decide (a ≤ b) = true
  exact decide_eq_true (List.le_of_lt h2)
/-- whatever the order in which a set's keys come: sorted they are the list's set; and how many they are -/
theorem set_keys {w : World} {b n : Nat} {D : DataW Unit} {L : List T} (hom : w.ownsMap Tryd.prog 9 unitElem b n D) (hset : IsSet D L) :
    (∀ ss : List T, ss.Perm (Go.strKeys D) → ss.mergeSort Go.leB = setP L ∧ ss.length = (setP L).length) ∧ Maps.size D = (setP L).length := by
  obtain ⟨es, hD, hpw, _⟩ := hom.entries skeyed
  obtain ⟨es', hD', hko⟩ := hom.keysOf
  obtain rfl : es = es' := by rw [hD] at hD'; simpa using hD'
  subst hD
  have hp := Go.perm_strKeys hpw (fun p hp => by obtain ⟨v, hv⟩ := hko p hp; obtain ⟨x, _, hx, _⟩ := Go.Maps.keyOf_str Tryd.underlying9 hv; exact ⟨x, hx⟩) (srt_nodup (setP_srt L)) (fun x => (setP_mem L x).trans (hset x).symm)
  refine ⟨fun ss hss => ?_, ?_⟩
  · have h1 := hss.trans hp.symm
    refine ⟨?_, h1.length_eq⟩
    rw [Go.mergeSort_of_perm h1]
    exact List.mergeSort_of_pairwise ((setP_srt L).imp fun {a b} h => le_of_lt h)
  · have h2 := hp.length_eq
    rw [h2]
    show es.length = (es.map fun p => Go.strOf p.1).length
    rw [List.length_map]
theorem keys_c (b : Nat) (W : World) : Calls Tryd.prog 36 #[.map (some b)] W fun e w' => e = .returned (.func (.func 44) #[] #[.pointer (some ⟨W.heap.size, 0, none⟩)]) ∧ w' = W.alloc (.cells #[.map (some b)] 42) :=
  (callsIn_wide (n := 6)).1 (AnyZ.keys_in sh.laysZ7 Fence.wide 6 trivial rfl (some b) W)
set_option maxHeartbeats 1000000 in
theorem skeys_c (b : Nat) (L : List T) (w : World) (h : SetM w b L) (hL : L.length ≤ 4194304) :
    Calls Tryd.prog 35 #[.func (.func 44) #[] #[.pointer (some ⟨w.heap.size, 0, none⟩)]] (w.alloc (.cells #[.map (some b)] 42)) fun e w' => RowA w w' (setP L) e := by
  obtain ⟨n, D, hom, hset⟩ := h
  obtain ⟨hk, hsz⟩ := set_keys hom hset
  have hsl := setP_len L
  have hbl := hom.lt
  have hseq : SeqGives Fence.wide 2 Tryd.prog 44 #[.pointer (some ⟨w.heap.size, 0, none⟩)] encStr (fun ss => ss.Perm (Go.strKeys D)) (Maps.size D) (w.alloc (.cells #[.map (some b)] 42)) :=
    AnyZ.keys_gives (ρ := sh.laysZ7_ren) { sh.laysZ7 with } Fence.wide _ trivial rfl (by omega) w.heap.size b n D _ (by simp) (by simp) (by
      obtain ⟨es, clock, hb, Ft, hs, hD⟩ := hom
      exact ⟨es, clock, (Below.heap_alloc _ _ b hbl).trans hb, Ft, hs, hD⟩)
  have cS := AnyZ.sorted_in sh.laysZ6 Fence.wide 5 trivial trivial trivial trivial rfl (by omega) (sh.sortsIn _) (enters_of Tryd.func43 (by kernel_rfl) rfl) 44 #[.pointer (some ⟨w.heap.size, 0, none⟩)] trivial (enters_of Tryd.func44 (by kernel_rfl) rfl) _ _ (by rw [hsz]; unfold maxLen; omega) (by rw [hsz]; omega) _ hseq
  refine ((callsIn_wide (n := 5)).1 cS).mono ?_
  rintro e w' ⟨v, ss, rfl, hS, hrow, _, hb⟩
  obtain ⟨h1, h2⟩ := hk ss hS
  have hrow' : w'.ownsRow w.heap.size 9 1 v (setP L).length (cells senc (setP L)) := by
    rw [← enc_cells, ← h1, List.length_mergeSort]
    exact ownsRow_base_a hrow (by simp)
  exact ⟨v, rfl, hrow', ((Below.refl _ w).alloc (Nat.le_refl _) _).trans (hb.mono (by simp))⟩
theorem own_blk {w : World} {B e k n : Nat} {v : Value} {xs : List Value} (h : w.ownsRow B e k v n xs) : v = .slice none 0 0 ∨ ∃ g X, v.ownBlock = some g ∧ Blk w g e X := by
  rcases h.2 with ⟨h1, _⟩ | ⟨g, cap, cur, h1, h2, h3, h4⟩
  · exact Or.inl h1
  · refine Or.inr ⟨g, cur.toList, by rw [h1]; rfl, ?_⟩
    unfold Blk
    rw [h3]
set_option maxRecDepth 100000 in
set_option maxHeartbeats 8000000 in
theorem sorted_c (b : Nat) (L : List T) (w : World) (h : SetM w b L) (hL : L.length ≤ 4194304) :
    Calls Tryd.prog 28 #[.map (some b)] w fun e w' => RowA w w' (setP L) e := by
  have HK := Lib.hid (keys_c b w)
  have HS := Lib.hid (skeys_c b L w h hL)
  have hlen : (setP L).length ≤ 4194304 := by have := setP_len L; omega
  have HFT := Lib.hid (fit_set L)
  obtain ⟨l, hl⟩ : ∃ l, setP L = l := ⟨_, rfl⟩
  rw [hl] at HS hlen HFT ⊢
  clear h hL hl
  go_enter Tryd.func28, Tryd.ntmps28
  go_wp2_with (first
    | (go_at_call 36; refine HK.out.mono ?_; rintro e w' ⟨rfl, rfl⟩)
    | (go_at_call 35; refine HS.out.mono ?_; rintro e w1 ⟨v, rfl, hown, hb1⟩; have HBK := Lib.hid (own_blk hown); have HOW := Lib.hid hown; have HB1 := Lib.hid hb1; obtain ⟨p, c, hv, hcc, hnn, hin⟩ := own_g senc_len (by decide) hown; subst hv; have HIN := Lib.hid hin; clear hown hb1 hin hnn hcc))
  have HAT : Hid (∀ k (h : k < l.length), ∃ g, p = some ⟨g, 0, none⟩ ∧ (∀ x : After w1, x.v.cell? ⟨g, k, none⟩ = some (.string ⟨(l[k]).toArray⟩)) ∧ (∀ x : After w1, x.v.frozen? ⟨g, k, none⟩ = false)) := fun k h => by
    obtain ⟨b2, o2, e, _⟩ := ins_cell HIN.out k h
    rcases HBK.out with hn | ⟨g, X, hg, hX⟩
    · injection hn with h1 _ _; rw [e] at h1; cases h1
    · rw [e] at hg
      injection hg with hg
      have hgb : b2 = g := hg
      subst hgb
      have ho2 : o2 = 0 := by
        rcases HOW.out.2 with ⟨h1, _⟩ | ⟨g3, cap, cur, h1, _⟩
        · injection h1 with h1 _ _; rw [e] at h1; cases h1
        · injection h1 with h1 _ _; rw [e] at h1; injection h1 with h1; injection h1
      subst ho2
      refine ⟨b2, e, fun x => ?_, fun x => (hX.below x.below).frozen k⟩
      obtain ⟨b3, o3, e3, hc⟩ := ins_cell (ins_below HIN.out x.below) k h
      rw [e] at e3
      injection e3 with e3
      injection e3 with e4 e5 _
      subst e4
      subst e5
      rw [Nat.zero_add] at hc
      exact hc
  clear HIN HBK HS HK
  go_wp2_with fail
  go_loopg [4, 5, 11] l.length (fun g _ _ s11 wx => ∃ k : Nat, k + g = l.length ∧ s11 = .int .i64 k ∧ Hid (Below w1.heap.size w1 wx))
  case atStart => exact ⟨0, by omega, rfl, Below.refl _ _⟩
  case round =>
    obtain ⟨k, hkg, rfl, HB⟩ := hrel
    rcases gk with _ | g
    · obtain rfl : k = l.length := by omega
      go_wp2_with fail
      go_ret
      exact ⟨_, rfl, own_belowG HOW.out HB.out, bnext HB1.out HB.out⟩
    · have hk : k < l.length := by omega
      have hkI : (k : Int) < (l.length : Int) := by omega
      obtain ⟨gb, rfl, hc, hz⟩ := HAT.out k hk
      have hfit := HFT.out _ (List.getElem_mem hk)
      obtain ⟨y, hy⟩ : ∃ y, l[k] = y := ⟨_, rfl⟩
      rw [hy] at hc hfit
      have HCL := Lib.hid (fun W => clone_c ⟨y.toArray⟩ W (by rw [show (⟨y.toArray⟩ : ByteArray).size = y.length from List.size_toArray]; omega))
      have c0 := hc ⟨wr, HB.out⟩
      dsimp only at c0
      have e0 : ∀ x : After wr, x.v.cell? ⟨gb, k, none⟩ = some (.string ⟨y.toArray⟩) := fun x => hc ⟨x.v, bnext HB.out x.below⟩
      have g0 : ∀ x : After wr, x.v.frozen? ⟨gb, k, none⟩ = false := fun x => hz ⟨x.v, bnext HB.out x.below⟩
      clear hc hz hy hfit
      obtain ⟨S0, hS0⟩ : ∃ S0, (⟨y.toArray⟩ : ByteArray) = S0 := ⟨_, rfl⟩
      rw [hS0] at c0 e0 HCL
      have E0 := Lib.hid e0
      have G0 := Lib.hid g0
      clear hS0 e0 g0
      go_wp2_with fail
      refine (HCL.out _).mono ?_
      rintro e w2 ⟨rfl, hb2⟩
      have d0 := E0.out ⟨w2, hb2⟩
      have z0 := G0.out ⟨w2, hb2⟩
      dsimp only at d0 z0
      have s0 := setCell_same d0
      have HB2 := Lib.hid (bnext HB.out hb2)
      clear hb2 c0
      go_wp2_with fail
      go_roundg g
      case measure => omega
      case rel => exact ⟨k + 1, by omega, by go_num, HB2⟩
end Go.Proofs.YtcklbbbplbboaaaDoor.scp
