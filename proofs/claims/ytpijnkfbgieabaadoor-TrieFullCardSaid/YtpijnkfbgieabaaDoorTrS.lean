/- TrieFull: the names in plain lists, the walk. Condition: sha's package variables (Tabs). -/
import Derived.Test.YtpijnkfbgieabaaDoorTrR
import Derived.Laws.IdiomStrings
namespace Go.Proofs.YtpijnkfbgieabaaDoor.tri
open Go.RowKit
open Go.Proofs.YtpijnkfbgieabaaDoor.oct Go.Proofs.YtpijnkfbgieabaaDoor.ref Go.Proofs.YtpijnkfbgieabaaDoor.rows Go.Proofs.YtpijnkfbgieabaaDoor.rowg Go.Proofs.YtpijnkfbgieabaaDoor.trn Go.Proofs.YtpijnkfbgieabaaDoor.qut
open Go.Proofs.YtpijnkfbgieabaaDoor.scp (lt lt_irrefl lt_trans lt_total lt_asymm lt_cons lt_nil)
open Go.Proofs.YtpijnkfbgieabaaDoor.sha (digest digest_len dval Tabs)
open Go.Lib (byteCells)

def nm (i : Nat) : T := [107, UInt8.ofNat (i / 256), UInt8.ofNat i]
def fp (i : Nat) : Pr := ⟨nm i, [118]⟩
def fl (i : Nat) : List Pr := (List.range i).map fp
theorem fl_succ (i : Nat) : fl (i + 1) = fl i ++ [fp i] := by unfold fl; rw [List.range_succ, List.map_append]; rfl
theorem fl_len (i : Nat) : (fl i).length = i := by unfold fl; simp
theorem nm_lt {j i : Nat} (h : j < i) (hi : i < 4096) : lt (nm j) (nm i) = true := by
  have a1 : (UInt8.ofNat (j / 256)).toNat = j / 256 := by rw [UInt8.toNat_ofNat']; omega
  have a2 : (UInt8.ofNat (i / 256)).toNat = i / 256 := by rw [UInt8.toNat_ofNat']; omega
  have b1 : (UInt8.ofNat j).toNat = j % 256 := by rw [UInt8.toNat_ofNat']
  have b2 : (UInt8.ofNat i).toNat = i % 256 := by rw [UInt8.toNat_ofNat']
  unfold nm
  rw [lt_cons]
  refine Or.inr ⟨rfl, ?_⟩
  rw [lt_cons]
  by_cases e : j / 256 = i / 256
  · refine Or.inr ⟨by rw [e], ?_⟩
    rw [lt_cons, UInt8.lt_iff_toNat_lt, b1, b2]
    exact Or.inl (by omega)
  · rw [UInt8.lt_iff_toNat_lt, a1, a2]
    exact Or.inl (by omega)
theorem fl_mem {i : Nat} {x : Pr} (h : x ∈ fl i) : ∃ j, j < i ∧ x = fp j := by
  unfold fl at h
  obtain ⟨j, hj, rfl⟩ := List.mem_map.1 h
  exact ⟨j, List.mem_range.1 hj, rfl⟩
theorem fl_ins {i : Nat} (hi : i < 4096) : ins (fl i) (fp i) = fl (i + 1) := by
  unfold ins
  have h1 : (fl i).filter (fun x => lt x.n (fp i).n) = fl i := List.filter_eq_self.2 fun x hx => by
    obtain ⟨j, hj, rfl⟩ := fl_mem hx
    exact nm_lt hj hi
  have h2 : (fl i).filter (fun x => lt (fp i).n x.n) = [] := List.filter_eq_nil_iff.2 fun x hx => by
    obtain ⟨j, hj, rfl⟩ := fl_mem hx
    have h3 : lt (fp i).n (fp j).n = false := lt_asymm (nm_lt hj hi)
    rw [h3]
    simp
  rw [h1, h2, List.append_nil, fl_succ]
theorem fl_get {i : Nat} (hi : i < 4096) : getP (fl i) (nm i) = none := getP_none.2 fun x hx e => by
  obtain ⟨j, hj, rfl⟩ := fl_mem hx
  have h := nm_lt hj hi
  rw [show nm j = nm i from e, lt_irrefl] at h
  cases h
theorem ref_nm (i : Nat) : refN (nm i) [118] = 0 := by
  unfold refN okKey nm
  simp
theorem fl_put {i : Nat} (hi : i < 4096) : putN (fl i) (nm i) [118] = 0 ∧ putL (fl i) (nm i) [118] = fl (i + 1) := by
  have h1 : putN (fl i) (nm i) [118] = 0 := by
    unfold putN
    rw [ref_nm, if_neg (by simp), if_neg (by rw [fl_len]; omega)]
  refine ⟨h1, ?_⟩
  unfold putL
  rw [if_pos h1]
  exact fl_ins hi
theorem fl_first : getP (fl 4096) [107, 0, 0] ≠ none := fun h => by
  have h1 := getP_none.1 h (fp 0) (by unfold fl; exact List.mem_map.2 ⟨0, List.mem_range.2 (by decide), rfl⟩)
  exact h1 rfl
theorem own_none (w : World) : w.ownsRow 0 44 2 (.slice none 0 0) 0 (cells penc []) := ⟨rfl, Or.inl ⟨rfl, rfl⟩⟩
theorem del_len_eq : ∀ {l : List Pr} {k : T}, Srt l → getP l k ≠ none → (del l k).length + 1 = l.length
  | [], k, _, h => absurd rfl h
  | x :: l, k, hs, h => by
    have hs2 := List.pairwise_cons.1 hs
    by_cases e : x.n = k
    · have h1 : del (x :: l) k = l := by
        have h2 : del l k = l := del_none fun y hy e2 => by
          have h3 := hs2.1 y hy
          rw [e, e2, lt_irrefl] at h3
          cases h3
        unfold del at h2 ⊢
        rw [fe_neg e]
        exact h2
      rw [h1]
      rfl
    · have h1 : del (x :: l) k = x :: del l k := fe_pos e
      have h2 : getP l k ≠ none := fun h3 => h (getP_none.2 fun y hy => by
        rcases List.mem_cons.1 hy with rfl | hy
        · exact e
        · exact getP_none.1 h3 y hy)
      rw [h1, List.length_cons, List.length_cons, del_len_eq hs2.2 h2]
/-- the trie as it stands, of the call's own -/
def TS (w wy : World) (l : List Pr) : Prop := Below w.heap.size w wy ∧ ∃ F, Tri wy F w.heap.size l
theorem TS.below {w wy w2 : World} {l : List Pr} (h : TS w wy l) (hb : Below wy.heap.size wy w2) : TS w w2 l := by
  obtain ⟨h1, F, h2⟩ := h
  exact ⟨bnext h1 hb, F, h2.below hb⟩
theorem TS.put {w wy : World} {l : List Pr} (h : TS w wy l) (ht : Tabs w) (k v : T) (hk : k.length ≤ 140737488355328) (hv : v.length ≤ 140737488355328) :
    Calls Tryd.prog 26 #[.pointer (some ⟨w.heap.size, 0, none⟩), .string ⟨k.toArray⟩, .string ⟨v.toArray⟩] wy fun e w' => e = .returned (.int .i64 (putN l k v : Nat)) ∧ TS w w' (putL l k v) := by
  obtain ⟨h1, F, h2⟩ := h
  exact (put_c h2 (ht.below h1) k v hk hv).mono fun _ w' ⟨a, b, c⟩ => ⟨a, c.below h1 (fun i hi => by omega) h1.size, _, b⟩
theorem TS.del {w wy : World} {l : List Pr} (h : TS w wy l) (ht : Tabs w) (k : T) (hk : k.length ≤ 140737488355328) :
    Calls Tryd.prog 28 #[.pointer (some ⟨w.heap.size, 0, none⟩), .string ⟨k.toArray⟩] wy fun e w' => e = .returned (.int .i64 (delN l k : Nat)) ∧ TS w w' (Go.Proofs.YtpijnkfbgieabaaDoor.tri.del l k) := by
  obtain ⟨h1, F, h2⟩ := h
  exact (del_c h2 (ht.below h1) k hk).mono fun _ w' ⟨a, b, c⟩ => ⟨a, c.below h1 (fun i hi => by omega) h1.size, _, b⟩
theorem TS.get {w wy : World} {l : List Pr} (h : TS w wy l) (ht : Tabs w) (k : T) (hk : k.length ≤ 140737488355328) :
    Calls Tryd.prog 27 #[.pointer (some ⟨w.heap.size, 0, none⟩), .string ⟨k.toArray⟩] wy fun e w' => ∃ s, e = .returned (.tuple #[.string s, .int .i64 (delN l k : Nat)]) ∧ TS w w' l := by
  have h' := h
  obtain ⟨h1, F, h2⟩ := h
  exact (get_c h2 (ht.below h1) k hk).mono fun _ w' ⟨a, b⟩ => ⟨_, a, h'.below b⟩
theorem TS.count {w wy : World} {l : List Pr} (h : TS w wy l) : Calls Tryd.prog 18 #[.pointer (some ⟨w.heap.size, 0, none⟩)] wy fun e w' => e = .returned (.int .i64 (l.length : Nat)) ∧ wy = w' := by
  obtain ⟨h1, F, h2⟩ := h
  exact count_c h2
theorem TS.srt {w wy : World} {l : List Pr} (h : TS w wy l) : Srt l := by
  obtain ⟨h1, F, h2⟩ := h
  exact h2.srt
theorem TS.len {w wy : World} {l : List Pr} (h : TS w wy l) : l.length ≤ 4096 := by
  obtain ⟨h1, F, h2⟩ := h
  exact h2.len
/-- the full trie: what is said of a key -/
theorem full_said {l : List Pr} (hs : Srt l) (hl : l.length = 4096) (h0 : getP l [107, 0, 0] ≠ none) (k : T) (hk : okKey k = true) :
    (delN l k = 0 ∧ putN l k [119] = 0 ∨ delN l k = 7 ∧ putN l k [119] = 8) ∧ (putL l k [119]).length = 4096 ∧ Srt (putL l k [119]) ∧ delN (putL l k [119]) [107, 0, 0] = 0 ∧ putN (del (putL l k [119]) [107, 0, 0]) k [119] = 0 := by
  have hr : refN k [119] = 0 := by unfold refN; rw [if_pos hk]; rfl
  have hd : ∀ {l2 : List Pr}, Srt l2 → l2.length = 4096 → getP l2 [107, 0, 0] ≠ none → delN l2 [107, 0, 0] = 0 ∧ putN (del l2 [107, 0, 0]) k [119] = 0 := by
    intro l2 h1 h2 h3
    constructor
    · unfold delN
      cases e : getP l2 [107, 0, 0] with
      | none => exact absurd e h3
      | some y => rfl
    · have h4 := del_len_eq h1 h3
      unfold putN
      rw [hr, if_neg (by simp), if_neg (by omega)]
  cases e : getP l k with
  | none =>
    have hp : putN l k [119] = 8 := by unfold putN; rw [hr, if_neg (by simp), if_pos ⟨e, hl⟩]
    have hpl : putL l k [119] = l := by unfold putL; rw [hp, if_neg (by decide)]
    rw [hpl]
    exact ⟨Or.inr ⟨by unfold delN; rw [e]; rfl, hp⟩, hl, hs, hd hs hl h0⟩
  | some y =>
    have hne : getP l k ≠ none := by rw [e]; simp
    have hp : putN l k [119] = 0 := by unfold putN; rw [hr, if_neg (by simp), if_neg (by rw [e]; simp)]
    have hpl : putL l k [119] = ins l ⟨k, [119]⟩ := by unfold putL; rw [if_pos hp]
    have hlen : (ins l ⟨k, [119]⟩).length = 4096 := by
      rw [ins_len hs]
      have := del_len_eq hs hne
      show (del l k).length + 1 = 4096
      omega
    have h3 : getP (ins l ⟨k, [119]⟩) [107, 0, 0] ≠ none := fun h => by
      cases e0 : getP l [107, 0, 0] with
      | none => exact h0 e0
      | some z =>
        have hz := getP_some e0
        have h4 := getP_none.1 h
        cases h5 : lt z.n k with
        | true => exact h4 z (ins_mem.2 (Or.inl ⟨hz.1, h5⟩)) hz.2
        | false =>
          cases h6 : lt k z.n with
          | true => exact h4 z (ins_mem.2 (Or.inr (Or.inr ⟨hz.1, h6⟩))) hz.2
          | false => exact h4 ⟨k, [119]⟩ (ins_mem.2 (Or.inr (Or.inl rfl))) ((lt_total h5 h6).symm.trans hz.2)
    rw [hpl]
    exact ⟨Or.inl ⟨by unfold delN; rw [e]; rfl, hp⟩, hlen, ins_srt hs _, hd (ins_srt hs _) hlen h3⟩
theorem name_conv (i : Nat) (hi : i < 4096) (W : World) : (convert 66 9 (.slice (some ⟨W.heap.size, 0, none⟩) 2 2)).run Tryd.prog (W.alloc (.cells #[.int .u8 ((i : Int) / 256), .int .u8 ((i : Int) % 256)] 5)) = .ok (.string ⟨#[UInt8.ofNat (i / 256), UInt8.ofNat i]⟩) (W.alloc (.cells #[.int .u8 ((i : Int) / 256), .int .u8 ((i : Int) % 256)] 5)) := by
  have a2 : ((UInt8.ofNat (i / 256)).toNat : Int) = (i : Int) / 256 := by rw [UInt8.toNat_ofNat']; omega
  have b2 : ((UInt8.ofNat i).toNat : Int) = (i : Int) % 256 := by rw [UInt8.toNat_ofNat']; omega
  have hB := blk_new W #[.int .u8 ((i : Int) / 256), .int .u8 ((i : Int) % 256)] 5 [.int .u8 ((i : Int) / 256), .int .u8 ((i : Int) % 256)] rfl
  refine run_convert_bytes_back _ 66 9 5 ⟨W.heap.size, 0, none⟩ 2 [UInt8.ofNat (i / 256), UInt8.ofNat i] Tryd.underlying66 Tryd.underlying5 Tryd.underlying9 (fun j hj => ?_)
  rw [add_none, Nat.zero_add, hB.cell j]
  rcases j with _ | _ | j
  · show some _ = some _
    rw [← a2]; rfl
  · show some _ = some _
    rw [← b2]; rfl
  · exact absurd hj (by simp)
set_option maxRecDepth 100000 in
set_option maxHeartbeats 16000000 in
theorem full_c (k : T) (w : World) (ht : Tabs w) (hk : k.length ≤ 140737488355328) : Calls Tryd.prog 7 #[.string ⟨k.toArray⟩] w fun e w' => e = .returned (.bool true) ∧ Below w.heap.size w w' := by
  have hnew : Calls Tryd.prog 17 #[.slice none 0 0] w fun e w' => e = .returned (.tuple #[.pointer (some ⟨w.heap.size, 0, none⟩), .int .i64 0]) ∧ TS w w' (fl 0) :=
    (new_c (own_none w) rfl ht (by decide) (fun x hx => by cases hx)).mono fun _ w' ⟨a, b, c⟩ => ⟨a, b, _, c⟩
  have HNW := Lib.hid hnew
  have HT := Lib.hid ht
  have HKL := Lib.hid hk
  have hsz := size_txt k
  obtain ⟨nk, hnk⟩ : ∃ nk, k.length = nk := ⟨_, rfl⟩
  rw [hnk] at hsz
  have HNK := Lib.hid hnk
  clear hnew ht hk hnk
  go_enter Tryd.func7, Tryd.ntmps7
  go_wp2_with fail
  refine HNW.out.mono ?_
  rintro e w2 ⟨rfl, htr⟩
  have HS0 := Lib.hid htr
  clear htr HNW
  go_wp2_with fail
  go_loopg [5] 4096 (fun gk s5 wy => ∃ i : Nat, i + gk = 4096 ∧ s5 = .int .i64 (i : Int) ∧ Hid (TS w wy (fl i)))
  case atStart => exact ⟨0, by omega, rfl, HS0⟩
  case round =>
    obtain ⟨i, hig, rfl, HS⟩ := hrel
    clear HS0
    rcases gk with _ | gk
    · obtain rfl : i = 4096 := by omega
      obtain ⟨L, hL⟩ : ∃ L, fl 4096 = L := ⟨_, rfl⟩
      have hLl : L.length = 4096 := by rw [← hL, fl_len]
      have hLf : getP L [107, 0, 0] ≠ none := by rw [← hL]; exact fl_first
      rw [hL] at HS
      have HLL := Lib.hid (And.intro hLl hLf)
      clear hL hLl hLf
      have HKN := Lib.hid (known13_c wr (HT.out.below HS.out.1))
      by_cases hok : okKey k = true
      · have hn := hok
        unfold okKey at hn
        rw [Bool.and_eq_true, decide_eq_true_iff, decide_eq_true_iff, HNK.out] at hn
        have h1 : ¬ (nk : Int) < 1 := by omega
        have h2 : ¬ (nk : Int) > 64 := by omega
        have hsd := full_said HS.out.srt HLL.out.1 HLL.out.2 k hok
        have HSD := Lib.hid hsd.2
        have HD := Lib.hid hsd.1
        obtain ⟨e1, he1⟩ : ∃ e1, delN L k = e1 := ⟨_, rfl⟩
        obtain ⟨f1, hf1⟩ : ∃ f1, putN L k [119] = f1 := ⟨_, rfl⟩
        obtain ⟨L2, hL2⟩ : ∃ L2, putL L k [119] = L2 := ⟨_, rfl⟩
        rw [he1, hf1] at HD
        rw [hL2] at HSD
        have HE1 := Lib.hid he1
        have HF1 := Lib.hid hf1
        have HL2 := Lib.hid hL2
        have hef := HD.out
        clear hsd hok hn he1 hf1 hL2
        go_wp2_with fail
        refine HKN.out.mono ?_
        rintro e w3 ⟨rfl, hb3⟩
        have HS3 := Lib.hid (HS.out.below hb3)
        have hg := HS3.out.get HT.out k HKL.out
        rw [HE1.out] at hg
        have HG := Lib.hid hg
        clear hb3 hg HKN HS
        go_wp2_with fail
        refine HG.out.mono ?_
        rintro e w4 ⟨sv, rfl, hs4⟩
        have hp := hs4.put HT.out k [119] HKL.out (by decide)
        rw [HF1.out, HL2.out] at hp
        have HP := Lib.hid hp
        clear hp hs4 HG HS3
        go_wp2_with fail
        refine HP.out.mono ?_
        rintro e w5 ⟨rfl, hs5⟩
        have HC5 := Lib.hid hs5.count
        have HD5 := Lib.hid (hs5.del HT.out [107, 0, 0] (by decide))
        rw [HSD.out.1] at HC5
        rw [HSD.out.2.2.1] at HD5
        clear hs5 HP
        rcases hef with ⟨rfl, rfl⟩ | ⟨rfl, rfl⟩
        all_goals
          go_wp2_with fail
          refine HC5.out.mono ?_
          rintro e w6 ⟨rfl, rfl⟩
          go_wp2_with fail
          refine HD5.out.mono ?_
          rintro e w7 ⟨rfl, hs7⟩
          have hp7 := hs7.put HT.out k [119] HKL.out (by decide)
          rw [HSD.out.2.2.2] at hp7
          have HP7 := Lib.hid hp7
          clear hs7 hp7 HC5 HD5
          go_wp2_with fail
          refine HP7.out.mono ?_
          rintro e w8 ⟨rfl, hs8⟩
          have HC8 := Lib.hid hs8.count
          have hle := hs8.len
          have HB8 := Lib.hid hs8.1
          obtain ⟨m8, hm8⟩ : ∃ m8, (putL (del L2 [107, 0, 0]) k [119]).length = m8 := ⟨_, rfl⟩
          rw [hm8] at HC8 hle
          have hleI : (m8 : Int) ≤ 4096 := by omega
          clear hs8 hm8 HP7
          go_wp2_with fail
          refine HC8.out.mono ?_
          rintro e w9 ⟨rfl, rfl⟩
          go_wp2_with fail
          go_ret
          exact ⟨rfl, HB8.out⟩
      · have hn : (nk : Int) < 1 ∨ ¬ (nk : Int) < 1 ∧ (nk : Int) > 64 := by
          unfold okKey at hok
          rw [Bool.and_eq_true, decide_eq_true_iff, decide_eq_true_iff, HNK.out] at hok
          omega
        have hr : putN L k [120] = 1 := by
          have h1 : refN k [120] = 1 := by unfold refN; rw [if_neg hok]
          unfold putN
          rw [h1, if_pos (by decide)]
        have HR := Lib.hid hr
        clear hok hr
        rcases hn with h1 | ⟨h1, h2⟩
        all_goals
          go_wp2_with fail
          refine HKN.out.mono ?_
          rintro e w3 ⟨rfl, hb3⟩
          have HS3 := Lib.hid (HS.out.below hb3)
          have HKN3 := Lib.hid (known13_c w3 (HT.out.below HS3.out.1))
          clear hb3 HKN HS
          go_wp2_with fail
          refine HKN3.out.mono ?_
          rintro e w4 ⟨rfl, hb4⟩
          have hp := (HS3.out.below hb4).put HT.out k [120] HKL.out (by decide)
          rw [HR.out] at hp
          have HP := Lib.hid hp
          clear hb4 hp HKN3 HS3
          go_wp2_with fail
          refine HP.out.mono ?_
          rintro e w5 ⟨rfl, hs5⟩
          have HB5 := Lib.hid hs5.1
          clear hs5 HP
          go_wp2_with fail
          go_ret
          exact ⟨rfl, HB5.out⟩
    · have hi : i < 4096 := by omega
      have hiI : (i : Int) < 4096 := by omega
      have hcv := name_conv i hi wr
      have hbq := (Below.refl wr.heap.size wr).alloc (Nat.le_refl _) (.cells #[.int .u8 ((i : Int) / 256), .int .u8 ((i : Int) % 256)] 5)
      have hp := (HS.out.below hbq).put HT.out (nm i) [118] (by show 3 ≤ _; decide) (by decide)
      rw [(fl_put hi).1, (fl_put hi).2] at hp
      have hap : (⟨#[107]⟩ : ByteArray) ++ (⟨#[UInt8.ofNat (i / 256), UInt8.ofNat i]⟩ : ByteArray) = ⟨(nm i).toArray⟩ := rfl
      obtain ⟨sn, hsn⟩ : ∃ sn, (⟨(nm i).toArray⟩ : ByteArray) = sn := ⟨_, rfl⟩
      rw [hsn] at hap hp
      have hz2 : (⟨#[UInt8.ofNat (i / 256), UInt8.ofNat i]⟩ : ByteArray).size = 2 := rfl
      obtain ⟨s2, hs2⟩ : ∃ s2, (⟨#[UInt8.ofNat (i / 256), UInt8.ofNat i]⟩ : ByteArray) = s2 := ⟨_, rfl⟩
      rw [hs2] at hap hcv hz2
      have hz3 : (⟨#[107]⟩ : ByteArray).size = 1 := rfl
      have HP := Lib.hid hp
      clear hbq hp hsn hs2 HS
      go_wp2_with fail
      refine HP.out.mono ?_
      rintro e w5 ⟨rfl, hs5⟩
      have HS5 := Lib.hid hs5
      clear hs5 HP hcv hap
      go_wp2_with fail
      go_roundg gk
      case measure => omega
      case rel => exact ⟨i + 1, by omega, by go_num, HS5⟩
end Go.Proofs.YtpijnkfbgieabaaDoor.tri
