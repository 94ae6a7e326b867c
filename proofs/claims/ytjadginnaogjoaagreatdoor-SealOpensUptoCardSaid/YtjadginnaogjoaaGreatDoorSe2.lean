/- The developers' areWeb, isKind, isFamily, isSerial, Right, demand, kindOf; the package's letters in memory (Lt). No condition beside these. -/
import Derived.Test.YtjadginnaogjoaaGreatDoorSe1
import Derived.Test.YtjadginnaogjoaaGreatDoorOctA
import Derived.Test.YtjadginnaogjoaaGreatDoorBaseA
namespace Go.Proofs.YtjadginnaogjoaaGreatDoor.sea
open Go.RowKit
open Go.Proofs.YtjadginnaogjoaaGreatDoor.oct Go.Proofs.YtjadginnaogjoaaGreatDoor.rows

def txt (l : T) : Value := .string ⟨l.toArray⟩
def tok (t : Tk) : Value := .agg #[.int .i64 t.k, txt t.f, .int .i64 t.n]
def webL : T := [65, 66, 67, 68, 69, 70, 71, 72, 73, 74, 75, 76, 77, 78, 79, 80, 81, 82, 83, 84, 85, 86, 87, 88, 89, 90, 97, 98, 99, 100, 101, 102, 103, 104, 105, 106, 107, 108, 109, 110, 111, 112, 113, 114, 115, 116, 117, 118, 119, 120, 121, 122, 48, 49, 50, 51, 52, 53, 54, 55, 56, 57, 45, 95]
theorem all_bytes {p : UInt8 → Prop} (h : ∀ n : Fin 256, p n.val.toUInt8) (c : UInt8) : p c := by
  have := h ⟨c.toNat, c.toNat_lt⟩
  rwa [show (⟨c.toNat, c.toNat_lt⟩ : Fin 256).val.toUInt8 = c by simp] at this
theorem web_ix (c : UInt8) : if webC c = true then ¬ Lib.indexByte webL c < 0 else Lib.indexByte webL c < 0 :=
  all_bytes (p := fun c => if webC c = true then ¬ Lib.indexByte webL c < 0 else Lib.indexByte webL c < 0) (by decide +kernel) c
theorem webIx_c (c : UInt8) (w : World) : Calls Tryz.prog 33 #[.string ⟨webL.toArray⟩, .int .u8 (c.toNat : Int)] w fun e w' => e = .returned (.int .i64 (Lib.indexByte webL c)) ∧ w' = w := by
  have := sh.indexByte ⟨webL.toArray⟩ (c.toNat : Int) w
  rw [show (⟨webL.toArray⟩ : ByteArray).data.toList = webL from rfl, show (c.toNat : Int).toNat.toUInt8 = c by simp] at this
  exact this
theorem webs_step (s : ByteArray) (k : Nat) (hk : k < s.size) (h : webs (s.data.toList.take k) = true) :
    (webC s[k] = true → webs (s.data.toList.take (k + 1)) = true) ∧ (webC s[k] = false → webs s.data.toList = false) := by
  have hl : k < s.data.toList.length := by rw [Array.length_toList]; exact hk
  have he : s.data.toList[k] = s[k] := by rw [Array.getElem_toList]; rfl
  unfold webs at *
  constructor
  · intro hw
    rw [List.take_succ_eq_append_getElem hl, List.all_append, h, he]
    simp [hw]
  · intro hw
    rw [Bool.eq_false_iff]
    intro ha
    have := List.all_eq_true.1 ha _ (List.getElem_mem hl)
    rw [he, hw] at this
    cases this
set_option maxRecDepth 100000 in
set_option maxHeartbeats 4000000 in
theorem areWeb_b (s : ByteArray) (w : World) (hs : s.size ≤ 9223372036854775806) :
    Calls Tryz.prog 18 #[.string s] w fun e w' => e = .returned (.bool (webs s.data.toList)) ∧ w = w' := by
  have HSL : Hid (s.data.toList.length = s.size) := by show _ = _; rw [Array.length_toList]; rfl
  go_enter Tryz.func18, Tryz.ntmps18
  go_wp2_with fail
  go_loopg [3, 6] s.size (fun g _ s6 wx => ∃ k : Nat, k + g = s.size ∧ s6 = .int .i64 k ∧ Hid (webs (s.data.toList.take k) = true) ∧ wx = w)
  case atStart => exact ⟨0, by omega, rfl, rfl, rfl⟩
  case round =>
    obtain ⟨k, hkg, rfl, HN, rfl⟩ := hrel
    rcases gk with _ | g
    · obtain rfl : k = s.size := by omega
      have HR : Hid (webs s.data.toList = true) := by
        have h := HN.out
        rw [List.take_of_length_le (by rw [HSL.out]; exact Nat.le_refl _)] at h
        exact h
      go_wp2_with fail
      go_ret
      exact ⟨ret_bool HR.out.symm, rfl⟩
    · have hk : k < s.size := by omega
      have hkI : (k : Int) < (s.size : Int) := by omega
      obtain ⟨h1, h2⟩ := webs_step s k hk HN.out
      obtain ⟨c, hc⟩ : ∃ c, s[k] = c := ⟨_, rfl⟩
      have hix := web_ix c
      have hcc : (s[k].toNat : Int) = (c.toNat : Int) := by rw [hc]
      rw [hc] at h1 h2
      have H1 := Lib.hid h1
      have H2 := Lib.hid h2
      have HC := Lib.hid (webIx_c c wr)
      clear h1 h2 hc
      obtain ⟨ix, hixe⟩ : ∃ ix, Lib.indexByte webL c = ix := ⟨_, rfl⟩
      rw [hixe] at HC hix
      clear hixe
      unfold webL at HC
      cases hok : webC c
      · have hneg : ix < 0 := by rw [hok] at hix; simpa using hix
        clear hix
        have HR := Lib.hid (H2.out hok)
        clear H1 H2 hok
        go_wp2_with (go_at_call 33; refine HC.out.mono ?_; rintro e w' ⟨rfl, rfl⟩)
        go_ret
        exact ⟨ret_bool HR.out.symm, rfl⟩
      · have hneg : ¬ ix < 0 := by rw [hok] at hix; simpa using hix
        clear hix
        have HR := Lib.hid (H1.out hok)
        clear H1 H2 hok
        go_wp2_with (go_at_call 33; refine HC.out.mono ?_; rintro e w' ⟨rfl, rfl⟩)
        go_roundg g
        case measure => omega
        case rel => exact ⟨k + 1, by omega, by go_num, HR, rfl⟩
theorem areWeb_c (l : T) (w : World) (hl : l.length ≤ 9223372036854775806) : Calls Tryz.prog 18 #[txt l] w fun e w' => e = .returned (.bool (webs l)) ∧ w = w' := areWeb_b ⟨l.toArray⟩ w (by rw [show (⟨l.toArray⟩ : ByteArray).size = l.length from List.size_toArray]; exact hl)
/-- the package's letters -/
structure Lt (w : World) (b o cp : Nat) : Prop where
  v : w.cell? ⟨0, 0, none⟩ = some (.slice (some ⟨b, o, none⟩) 3 cp)
  c0 : w.cell? ⟨b, o, none⟩ = some (.string ⟨#[99]⟩)
  c1 : w.cell? ⟨b, o + 1, none⟩ = some (.string ⟨#[97]⟩)
  c2 : w.cell? ⟨b, o + 2, none⟩ = some (.string ⟨#[114]⟩)
theorem cellB_lt {w : World} {a : Addr} {v : Value} (h : w.cell? a = some v) : a.block < w.heap.size := by
  rcases Nat.lt_or_ge a.block w.heap.size with h1 | h1
  · exact h1
  · have hn : w.heap[a.block]? = none := Array.getElem?_eq_none h1
    simp [World.cell?, hn] at h
theorem Lt.below {w w' : World} {b o cp : Nat} (h : Lt w b o cp) (hb : Below w.heap.size w w') : Lt w' b o cp :=
  ⟨(hb.cell (cellB_lt h.v)).trans h.v, (hb.cell (cellB_lt h.c0)).trans h.c0, (hb.cell (cellB_lt h.c1)).trans h.c1, (hb.cell (cellB_lt h.c2)).trans h.c2⟩
def kB (k : Int) : Bool := decide (1 ≤ k) && decide (k ≤ 3)
def sB (n : Int) : Bool := decide (0 ≤ n) && decide (n ≤ 1099511627776)
def fB (f : T) : Bool := decide (0 < f.length) && (decide (f.length ≤ 32) && webs f)
theorem isKind_c (k : Int) (w : World) {b o cp : Nat} (h : Lt w b o cp) : Calls Tryz.prog 36 #[.int .i64 k] w fun e w' => e = .returned (.bool (kB k)) ∧ w = w' := by
  have hv := h.v
  clear h
  by_cases h1 : 1 ≤ k
  · by_cases h3 : k ≤ 3
    · have HR : Hid (kB k = true) := by show _ = _; unfold kB; rw [decide_eq_true h1, decide_eq_true h3]; rfl
      have i1 : k ≥ 1 := h1
      have i2 : k < 4 := by omega
      clear h1 h3
      go_enter Tryz.func36, Tryz.ntmps36
      go_wp2_with fail
      go_ret
      exact ⟨ret_bool HR.out.symm, rfl⟩
    · have HR : Hid (kB k = false) := by show _ = _; unfold kB; rw [decide_eq_true h1, decide_eq_false h3]; rfl
      have i1 : k ≥ 1 := h1
      have i2 : ¬ k < 4 := by omega
      clear h1 h3
      go_enter Tryz.func36, Tryz.ntmps36
      go_wp2_with fail
      go_ret
      exact ⟨ret_bool HR.out.symm, rfl⟩
  · have HR : Hid (kB k = false) := by show _ = _; unfold kB; rw [decide_eq_false h1]; rfl
    have i1 : ¬ k ≥ 1 := h1
    clear h1
    go_enter Tryz.func36, Tryz.ntmps36
    go_wp2_with fail
    go_ret
    exact ⟨ret_bool HR.out.symm, rfl⟩
theorem isSerial_c (n : Int) (w : World) : Calls Tryz.prog 38 #[.int .i64 n] w fun e w' => e = .returned (.bool (sB n)) ∧ w = w' := by
  by_cases h1 : 0 ≤ n
  · by_cases h3 : n ≤ 1099511627776
    · have HR : Hid (sB n = true) := by show _ = _; unfold sB; rw [decide_eq_true h1, decide_eq_true h3]; rfl
      have i1 : n ≥ 0 := h1
      go_enter Tryz.func38, Tryz.ntmps38
      go_wp2_with fail
      go_ret
      exact ⟨ret_bool HR.out.symm, rfl⟩
    · have HR : Hid (sB n = false) := by show _ = _; unfold sB; rw [decide_eq_true h1, decide_eq_false h3]; rfl
      have i1 : n ≥ 0 := h1
      go_enter Tryz.func38, Tryz.ntmps38
      go_wp2_with fail
      go_ret
      exact ⟨ret_bool HR.out.symm, rfl⟩
  · have HR : Hid (sB n = false) := by show _ = _; unfold sB; rw [decide_eq_false h1]; rfl
    have i1 : ¬ n ≥ 0 := h1
    go_enter Tryz.func38, Tryz.ntmps38
    go_wp2_with fail
    go_ret
    exact ⟨ret_bool HR.out.symm, rfl⟩
theorem tl_mk (l : T) : (⟨l.toArray⟩ : ByteArray).toList = l := by
  rw [Lib.toList_data]
theorem isFamily_c (l : T) (w : World) : Calls Tryz.prog 37 #[txt l] w fun e w' => e = .returned (.bool (fB l)) ∧ w = w' := by
  have hsz : (⟨l.toArray⟩ : ByteArray).size = l.length := List.size_toArray
  have htl := tl_mk l
  obtain ⟨W, hW⟩ : ∃ W, webs l = W := ⟨_, rfl⟩
  have HF : Hid (fB l = (decide (0 < l.length) && (decide (l.length ≤ 32) && W))) := by show _ = _; unfold fB; rw [hW]
  by_cases h0 : 0 < l.length
  · have hne : ¬ l = [] := fun e => by rw [e] at h0; exact absurd h0 (by decide)
    have hem : l.isEmpty = false := by cases l with | nil => exact absurd rfl hne | cons _ _ => rfl
    by_cases h3 : l.length ≤ 32
    · have HC := Lib.hid (areWeb_c l w (by omega))
      rw [hW] at HC
      have HR : Hid (fB l = W) := by show _ = _; rw [HF.out, decide_eq_true h0, decide_eq_true h3]; rfl
      have i1 : ((⟨l.toArray⟩ : ByteArray).size : Int) ≤ 32 := by omega
      unfold txt at *
      obtain ⟨s, hs⟩ : ∃ s, (⟨l.toArray⟩ : ByteArray) = s := ⟨_, rfl⟩
      rw [hs] at HC i1 htl ⊢
      have e1 : s.toList.isEmpty = false := by rw [htl]; exact hem
      have e2 : ¬ s.toList = [] := by rw [htl]; exact hne
      clear HF h0 h3 hsz hs htl hW hem hne
      go_enter Tryz.func37, Tryz.ntmps37
      go_wp2_with (go_at_call 18; refine HC.out.mono ?_; rintro e w' ⟨rfl, rfl⟩)
      go_ret
      exact ⟨ret_bool (by rw [HR.out]; try rw [e1]; simp), rfl⟩
    · have HR : Hid (fB l = false) := by show _ = _; rw [HF.out, decide_eq_true h0, decide_eq_false h3]; rfl
      have i1 : ¬ ((⟨l.toArray⟩ : ByteArray).size : Int) ≤ 32 := by omega
      unfold txt at *
      obtain ⟨s, hs⟩ : ∃ s, (⟨l.toArray⟩ : ByteArray) = s := ⟨_, rfl⟩
      rw [hs] at i1 htl ⊢
      have e1 : s.toList.isEmpty = false := by rw [htl]; exact hem
      have e2 : ¬ s.toList = [] := by rw [htl]; exact hne
      clear HF h0 h3 hsz hs htl hW hem hne
      go_enter Tryz.func37, Tryz.ntmps37
      go_wp2_with fail
      go_ret
      exact ⟨ret_bool (by rw [HR.out]; try simp), rfl⟩
  · have hne : l = [] := List.length_eq_zero_iff.1 (by omega)
    have HR : Hid (fB l = false) := by show _ = _; rw [HF.out, decide_eq_false h0]; rfl
    subst hne
    unfold txt at *
    clear HF h0 hsz hW htl
    go_enter Tryz.func37, Tryz.ntmps37
    go_wp2_with fail
    go_ret
    exact ⟨ret_bool (by rw [HR.out]; try simp), rfl⟩
theorem rt_dec (t : Tk) : decide (Rt t) = (kB t.k && (fB t.f && sB t.n)) := by
  unfold kB fB sB
  by_cases h : Rt t
  · rw [decide_eq_true h, decide_eq_true h.k1, decide_eq_true h.k3, decide_eq_true h.f1, decide_eq_true h.f32, h.fw, decide_eq_true h.n0, decide_eq_true h.n1]; rfl
  · rw [decide_eq_false h]
    symm
    rw [Bool.eq_false_iff]
    intro ha
    simp only [Bool.and_eq_true, decide_eq_true_eq] at ha
    exact h ⟨ha.1.1, ha.1.2, ha.2.1.1, ha.2.1.2.1, ha.2.1.2.2, ha.2.2.1, ha.2.2.2⟩
end Go.Proofs.YtjadginnaogjoaaGreatDoor.sea
