/- Parsed members fit (parse_fit); JsonBack, JsonForth, JsonUnlike by JApi. -/
import Derived.Test.YtbgnoobgnpebdaaDoorJsnLa
namespace Go.Proofs.YtbgnoobgnpebdaaDoor.jsn
open Go.RowKit
open Go.Proofs.YtbgnoobgnpebdaaDoor.oct Go.Proofs.YtbgnoobgnpebdaaDoor.ref Go.Proofs.YtbgnoobgnpebdaaDoor.rows Go.Proofs.YtbgnoobgnpebdaaDoor.rowg
open Go.Lib (byteCells)

theorem seem_i64 : ∀ (f : Nat) (l : List UInt8), ∀ m ∈ seem f l, i64 m
  | 0, l, m, h => by rw [seem.eq_def] at h; simp at h
  | f + 1, [], m, h => by rw [seem_nil] at h; simp at h
  | f + 1, q :: r, m, h => by
    by_cases hq : q = 34
    · subst hq
      rw [seem_q] at h
      rcases hs : strP r with _ | ⟨nm, r2⟩
      · rw [hs] at h; simp at h
      · rw [hs] at h
        rcases r2 with _ | ⟨c, r3⟩
        · simp at h
        · dsimp only at h
          by_cases hc : c = 58
          · rw [if_pos hc] at h
            rcases hv : valueP nm r3 with _ | ⟨m0, r4⟩
            · rw [hv] at h; simp at h
            · rw [hv] at h
              dsimp only at h
              rcases List.mem_cons.1 h with rfl | h
              · exact (valueP_fit nm r3 _ hv).2.2.1
              · rcases r4 with _ | ⟨x, r5⟩
                · simp at h
                · dsimp only at h
                  by_cases hx : x = 44
                  · rw [if_pos hx] at h; exact seem_i64 f r5 m h
                  · rw [if_neg hx] at h; simp at h
          · rw [if_neg hc] at h; simp at h
    · rw [seem_n _ _ _ hq] at h; simp at h
theorem okM_mem : ∀ (ms : List Mem), okM ms = true → ∀ m ∈ ms, inForm m = true
  | [], _, m, hm => by cases hm
  | a :: r, h, m, hm => by
    obtain ⟨h1, _, h3⟩ := okM_cons h
    rcases List.mem_cons.1 hm with rfl | hm
    · exact h1
    · exact okM_mem r h3 m hm
theorem memsT_mem : ∀ (ms : List Mem), ∀ m ∈ ms, (memT m).length ≤ (memsT ms).length
  | [], m, hm => by cases hm
  | a :: r, m, hm => by
    rw [memsT]
    rcases List.mem_cons.1 hm with rfl | hm
    · split
      · exact Nat.le_refl _
      · rw [List.length_append]; omega
    · have h := memsT_mem r m hm
      rw [if_neg (by intro h0; obtain rfl : r = [] := by simpa using h0
                     cases hm)]
      rw [List.length_append, List.length_cons]; omega
theorem strT_len (l : List UInt8) : l.length ≤ (strT l).length := by
  have := (strB_len l).1
  unfold strT
  rw [List.length_cons, List.length_append]; omega
theorem memT_len (m : Mem) (h : inForm m = true) : m.name.length ≤ (memT m).length ∧ m.text.length ≤ (memT m).length := by
  have h1 := strT_len m.name
  unfold memT
  rw [List.length_append, List.length_cons]
  refine ⟨by omega, ?_⟩
  rcases inForm_cases h with ⟨a, _, _⟩ | ⟨_, a, _⟩ | ⟨_, a, _⟩
  · have h2 := strT_len m.text
    unfold valT
    rw [if_pos a]; omega
  · rw [a]; simp
  · rw [a]; simp
theorem parse_i64 (l : List UInt8) : ∀ m ∈ (parseJ l).2, i64 m := by
  intro m hm
  unfold parseJ at hm
  by_cases h1 : 16384 < l.length
  · rw [if_pos h1] at hm; cases hm
  · rw [if_neg h1] at hm
    by_cases h2 : printJ (seem 65 (l.drop 1)) = (0, l)
    · rw [if_pos h2] at hm; exact seem_i64 _ _ m hm
    · rw [if_neg h2] at hm; cases hm
theorem parse_fit (l : List UInt8) : FitM (parseJ l).2 := by
  by_cases h : (parseJ l).1 = 0
  · intro m hm
    obtain ⟨_, h2, h3, h4⟩ := printJ_ok (parse_ok h)
    have h5 := memsT_mem _ m hm
    have h6 := memT_len m (okM_mem _ h2 m hm)
    have h7 : (memsT (parseJ l).2).length ≤ (objT (parseJ l).2).length := by unfold objT; rw [List.length_cons, List.length_append]; omega
    rw [← h3] at h7
    exact ⟨by omega, by omega, parse_i64 l m hm⟩
  · rw [parse_err h]; exact fitM_nil
theorem print_err {ms : List Mem} {k : Nat} {s : List UInt8} (h : printJ ms = (k, s)) (hk : k ≠ 0) : s = [] := by
  unfold printJ at h
  split at h
  · cases h; rfl
  · split at h
    · split at h
      · cases h; rfl
      · cases h; exact absurd rfl hk
    · cases h; rfl

set_option maxRecDepth 8000 in
set_option maxHeartbeats 2000000 in
theorem law_back {T : World → Prop} (X : JApi T) (P : Option Addr) (C : Nat) (ms : List Mem) (w : World) (hp : InM w P ms) (hl : ms.length ≤ 2513169434916) (hC : ms.length ≤ C) (hN : P = none → C = 0) (hf : FitM ms) (ht : T w) :
    Calls Tryd.prog 5 #[.slice P ms.length C] w fun e w' => e = .returned (.bool true) ∧ Below w.heap.size w w' := by
  have HT := Lib.hid ht
  have HX := Lib.hid X
  have HP := Lib.hid hp
  have HF := Lib.hid hf
  have HK := Lib.hid (X.print P C ms w ht hp hl hC hN hf)
  obtain ⟨⟨k, s⟩, hr⟩ : ∃ r, printJ ms = r := ⟨_, rfl⟩
  have HR := Lib.hid hr
  rw [hr] at HK
  unfold tx at HK
  have HL := Lib.hid hl
  have HE : Hid (k ≠ 0 → s = []) := fun h => print_err hr h
  obtain ⟨n, hn⟩ : ∃ n, ms.length = n := ⟨_, rfl⟩
  have HN := Lib.hid hn
  rw [hn] at HK ⊢
  clear hr ht X hp hl hC hN hf hn
  go_enter Tryd.func5, Tryd.ntmps5
  go_wp2_with fail
  refine HK.out.mono ?_
  rintro e w1 ⟨rfl, hb1⟩
  have HB1 := Lib.hid hb1
  have HP1 := Lib.hid (inm_below HP.out hb1)
  clear hb1 HK HP
  go_wp2_with fail
  refine (jknown_c HX.out w1 (HX.out.tbelow _ _ HT.out HB1.out)).mono ?_
  rintro e w2 ⟨rfl, hb2⟩
  have HB2 := Lib.hid (bnext HB1.out hb2)
  have HP2 := Lib.hid (inm_below HP1.out hb2)
  clear hb2 HP1 HB1
  by_cases hk : k = 0
  · subst hk
    obtain ⟨h1, h2, h3, h4⟩ := printJ_ok HR.out
    have hpp := parse_printed HR.out (fit_of HF.out)
    have HK := Lib.hid (HX.out.parse s w2 (HX.out.tbelow _ _ HT.out HB2.out) (by omega))
    rw [hpp] at HK
    clear h1 h2 h3 h4 hpp
    go_wp2_with fail
    refine HK.out.mono ?_
    rintro e w3 ⟨v, rfl, hown, hb3⟩
    obtain ⟨q, d, rfl, _, _, hin⟩ := own_ms hown
    have HS := Lib.hid (rsame_c P C ms q d ms w3 (inm_below HP2.out hb3) hin (by have := HL.out; omega) (by have := HL.out; omega))
    have HB3 := Lib.hid (bnext HB2.out hb3)
    clear hown hin hb3 HK
    rw [decide_eq_true rfl, HN.out] at HS
    dsimp only
    rw [HN.out]
    go_wp2_with fail
    refine HS.out.mono ?_
    rintro e w4 ⟨rfl, nd, rfl⟩
    go_wp2_with fail
    go_ret
    exact ⟨rfl, below_drewN HB3.out nd⟩
  · have hkb : (((k : Nat) : Int) != 0) = true := by rw [bne_iff_ne]; omega
    obtain rfl := HE.out hk
    clear hk
    go_wp2_with fail
    refine (jknown_c HX.out w2 (HX.out.tbelow _ _ HT.out HB2.out)).mono ?_
    rintro e w3 ⟨rfl, hb3⟩
    have HB3 := Lib.hid (bnext HB2.out hb3)
    clear hb3
    go_wp2_with fail
    go_ret
    exact ⟨rfl, HB3.out⟩

set_option maxRecDepth 8000 in
set_option maxHeartbeats 2000000 in
theorem law_forth {T : World → Prop} (X : JApi T) (l : List UInt8) (w : World) (hl : l.length ≤ 140737488351232) (ht : T w) :
    Calls Tryd.prog 6 #[.string ⟨l.toArray⟩] w fun e w' => e = .returned (.bool true) ∧ Below w.heap.size w w' := by
  have HT := Lib.hid ht
  have HX := Lib.hid X
  have HK := Lib.hid (X.parse l w ht hl)
  have HW := Lib.hid (parse_few l)
  have HF := Lib.hid (parse_fit l)
  have HE : Hid ((parseJ l).1 ≠ 0 → (parseJ l).2 = []) := fun h => parse_err h
  have HO : Hid ((parseJ l).1 = 0 → printJ (parseJ l).2 = (0, l)) := fun h => parse_ok h
  obtain ⟨⟨k, ms⟩, hr⟩ : ∃ r, parseJ l = r := ⟨_, rfl⟩
  rw [hr] at HK HW HF HE HO
  dsimp only at HW HF HE HO
  clear hr ht X hl
  go_enter Tryd.func6, Tryd.ntmps6
  go_wp2_with fail
  refine HK.out.mono ?_
  rintro e w1 ⟨v, rfl, hown, hb1⟩
  obtain ⟨p, c, rfl, hC, hN, hin⟩ := own_ms hown
  have HB1 := Lib.hid hb1
  have HP1 := Lib.hid hin
  have HC := Lib.hid hC
  have HN := Lib.hid hN
  clear hown hin hb1 HK hC hN
  dsimp only
  go_wp2_with fail
  refine (jknown_c HX.out w1 (HX.out.tbelow _ _ HT.out HB1.out)).mono ?_
  rintro e w2 ⟨rfl, hb2⟩
  have HB2 := Lib.hid (bnext HB1.out hb2)
  have HP2 := Lib.hid (inm_below HP1.out hb2)
  clear hb2 HP1 HB1
  by_cases hk : k = 0
  · subst hk
    have HK := Lib.hid (HX.out.print p c ms w2 (HX.out.tbelow _ _ HT.out HB2.out) HP2.out (by have := HW.out; omega) HC.out HN.out HF.out)
    rw [HO.out rfl] at HK
    unfold tx at HK
    go_wp2_with fail
    refine HK.out.mono ?_
    rintro e w3 ⟨rfl, hb3⟩
    have HB3 := Lib.hid (bnext HB2.out hb3)
    clear hb3 HK
    go_wp2_with fail
    go_ret
    exact ⟨rfl, HB3.out⟩
  · have hkb : (((k : Nat) : Int) != 0) = true := by rw [bne_iff_ne]; omega
    obtain rfl := HE.out hk
    clear hk
    go_wp2_with fail
    refine (jknown_c HX.out w2 (HX.out.tbelow _ _ HT.out HB2.out)).mono ?_
    rintro e w3 ⟨rfl, hb3⟩
    have HB3 := Lib.hid (bnext HB2.out hb3)
    clear hb3
    go_wp2_with fail
    go_ret
    exact ⟨rfl, HB3.out⟩
end Go.Proofs.YtbgnoobgnpebdaaDoor.jsn
