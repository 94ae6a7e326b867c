/- The contracts of octet's Basic and Unbasic (rows up to 2097152 bytes, texts up to 4194304 signs). -/
import Derived.Test.YtddihhpahghajaaDoorOct9
namespace Go.Proofs.YtddihhpahghajaaDoor.oct
open Go.RowKit
open Go.Proofs.YtddihhpahghajaaDoor.pl
open Go.Lib (byteCells)

theorem repeat_one (c : UInt8) (n : Nat) : Lib.repeatL [c] n = List.replicate n c := by
  induction n with
  | zero => rfl
  | succ n ih => simp [Lib.repeatL, ih, List.replicate_succ]
theorem basB_nofill (l : List UInt8) : (61 : UInt8) ∉ basB l := by
  intro h
  obtain ⟨d, hd, he⟩ := List.mem_map.1 h
  exact basS_fill d ((enc_tells (w := 6) (by decide) l).1 d hd) he
theorem dropWhile_rep (c : UInt8) (k : Nat) (t : List UInt8) (h : t.head? ≠ some c) : (List.replicate k c ++ t).dropWhile (· == c) = t := by
  induction k with
  | zero =>
    cases t with
    | nil => rfl
    | cons a t =>
      have : (a == c) = false := by rw [beq_eq_false_iff_ne]; intro e; exact h (by simp [e])
      simp [this]
  | succ k ih => simpa [List.replicate_succ, List.dropWhile] using ih
theorem trimR_fill (t : List UInt8) (k : Nat) (h : (61 : UInt8) ∉ t) : Lib.trimRightB (t ++ List.replicate k 61) 61 = t := by
  unfold Lib.trimRightB
  rw [List.reverse_append, List.reverse_replicate, dropWhile_rep, List.reverse_reverse]
  intro he
  apply h
  rw [List.head?_reverse] at he
  exact List.mem_of_getLast? he
theorem trimR_back (c : UInt8) (l : List UInt8) : Lib.trimRightB l c ++ List.replicate (l.length - (Lib.trimRightB l c).length) c = l ∧ (Lib.trimRightB l c).length ≤ l.length := by
  unfold Lib.trimRightB
  generalize hr : l.reverse = r
  have hl : l = r.reverse := by rw [← hr, List.reverse_reverse]
  subst hl
  clear hr
  induction r with
  | nil => simp
  | cons a r ih =>
    by_cases ha : a = c
    · subst ha
      simp only [List.dropWhile, beq_self_eq_true]
      obtain ⟨h1, h2⟩ := ih
      rw [List.length_reverse] at h1 h2 ⊢
      rw [List.length_reverse] at h1 h2
      rw [List.length_reverse, List.length_cons]
      refine ⟨?_, by omega⟩
      rw [Nat.succ_sub h2, List.replicate_succ', ← List.append_assoc, h1, List.reverse_cons]
    · have : (a == c) = false := by rw [beq_eq_false_iff_ne]; exact ha
      simp [List.dropWhile, this]

theorem ba_append (a b : List UInt8) : ((⟨a.toArray⟩ : ByteArray) ++ (⟨b.toArray⟩ : ByteArray)) = ⟨(a ++ b).toArray⟩ := by
  ext1
  simp
theorem ret_string {a b : ByteArray} (h : a = b) : Ending.returned (.string a) = .returned (.string b) := by rw [h]

set_option maxHeartbeats 400000 in
theorem bas_c (p : Option Addr) (cp : Nat) (l : List UInt8) (w : World) (hp : In8 w p l) (hl : l.length ≤ 105553116266496) :
    Calls Tryd.prog 25 #[.slice p l.length cp] w fun e w' => e = .returned (.string ⟨(basT l).toArray⟩) ∧ Below w.heap.size w w' := by
  have H := Lib.hid (spell_c p cp l basS 6 w hp (by omega) (Or.inr rfl) rfl)
  have hbl := basB_len l
  obtain ⟨B, hB⟩ : ∃ B, basB l = B := ⟨_, rfl⟩
  have HE : Hid (text (sgS basS) (enc 6 l) = B) := hB
  have hT : basT l = B ++ List.replicate (lack B.length) 61 := by rw [← hB]; rfl
  rw [hB] at hbl
  have hb2 : B.length ≤ 140737488355328 := by omega
  have hlk : lack B.length ≤ 3 := by unfold lack; omega
  have hR := fun W => sh.repeat_c ⟨#[61]⟩ (lack B.length) W (by omega) (by show 1 * _ ≤ _; omega)
  rw [show (⟨#[61]⟩ : ByteArray).data.toList = [61] from rfl, repeat_one] at hR
  obtain ⟨F, hF⟩ : ∃ F, List.replicate (lack B.length) (61 : UInt8) = F := ⟨_, rfl⟩
  have hFl : F.length ≤ 3 := by rw [← hF, List.length_replicate]; exact hlk
  rw [hF] at hR hT
  have HT := Lib.hid hT
  have HR := Lib.hid hR
  clear hbl hB hF hR hT
  rw [HE.out] at H
  go_enter Tryd.func25, Tryd.ntmps25
  go_wp2_with (first
    | (go_at_call 34; refine H.out.mono ?_; rintro e w1 ⟨rfl, hb⟩)
    | (go_at_call 41; refine (lacking_c B.length (by omega) _).mono ?_; rintro e w2 ⟨rfl, rfl⟩)
    | (go_at_call 40; refine (HR.out _).mono ?_; rintro e w3 ⟨rfl, hb3⟩))
  go_ret
  exact ⟨ret_string (by rw [ba_append, HT.out]), hb.trans (hb3.mono hb.size)⟩

theorem size_mk (l : List UInt8) : (⟨l.toArray⟩ : ByteArray).size = l.length := by simp [ByteArray.size]

set_option maxHeartbeats 400000 in
theorem unbas_c (s : ByteArray) (w : World) (hs : s.size ≤ 140737488355328) :
    Calls Tryd.prog 27 #[.string s] w (ReadT basT s.data.toList w) := by
  have hsl : s.data.toList.length = s.size := by rw [Array.length_toList]; rfl
  obtain ⟨hback, hble⟩ := trimR_back 61 s.data.toList
  have HTR := Lib.hid (sh.trimRight s 61 (by decide) w (by omega))
  obtain ⟨B, hB⟩ : ∃ B, Lib.trimRightB s.data.toList 61 = B := ⟨_, rfl⟩
  rw [hB] at hback hble HTR
  rw [hsl] at hback hble
  have HU := Lib.hid (unspell_c ⟨B.toArray⟩ basS 6 w (by rw [size_mk]; omega) (Or.inr rfl) rfl basS_inj)
  have HBK := Lib.hid hback
  have hlk : lack B.length ≤ 3 := by unfold lack; omega
  have HO : Hid (∀ o, basT o = s.data.toList → basB o = B ∧ s.size - B.length = lack B.length) := by
    intro o ho
    have e1 : basB o = B := by
      rw [← hB, ← ho, basT, trimR_fill _ _ (basB_nofill o)]
    refine ⟨e1, ?_⟩
    have e2 := congrArg List.length ho
    rw [basT, List.length_append, List.length_replicate, hsl, e1] at e2
    omega
  clear hB hback hsl
  by_cases hk : s.size - B.length = lack B.length
  · have hkb : (((s.size : Int) - (B.length : Int)) != (lack B.length : Int)) = false := by simp only [bne_eq_false_iff_eq]; omega
    have HK := Lib.hid hk
    clear hk
    go_enter Tryd.func27, Tryd.ntmps27
    go_wp2_with (first
      | (go_at_call 42; refine HTR.out.mono ?_; rintro e w1 ⟨rfl, rfl⟩)
      | (go_at_call 41; refine (lacking_c B.length (by omega) _).mono ?_; rintro e w2 ⟨rfl, rfl⟩)
      | (go_at_call 36; refine HU.out.mono ?_; rintro e w1 (⟨out, v, h1, rfl, h2, h3⟩ | ⟨h1, rfl, h3⟩)))
    all_goals go_ret2
    · refine Or.inl ⟨out, v, ?_, rfl, h2, h3⟩
      have h1' : basB out = B := h1
      rw [basT, h1', ← HK.out, HBK.out]
    · exact Or.inr ⟨fun o ho => h1 o (HO.out o ho).1, rfl, h3⟩
  · have hkb : (((s.size : Int) - (B.length : Int)) != (lack B.length : Int)) = true := by simp only [bne_iff_ne]; omega
    have HK := Lib.hid hk
    clear hk
    go_enter Tryd.func27, Tryd.ntmps27
    go_wp2_with (first
      | (go_at_call 42; refine HTR.out.mono ?_; rintro e w1 ⟨rfl, rfl⟩)
      | (go_at_call 41; refine (lacking_c B.length (by omega) _).mono ?_; rintro e w2 ⟨rfl, rfl⟩))
    go_ret2
    exact Or.inr ⟨fun o ho => HK.out (HO.out o ho).2, rfl, Below.refl _ _⟩
end Go.Proofs.YtddihhpahghajaaDoor.oct
