/- Verifiers and challenges in plain lists: what may be one, what is one's challenge, what is checked; what follows of it. No condition. -/
import Derived.Test.YthagdkipipldlaaGreatDoorRefA
import Derived.Test.YthagdkipipldlaaGreatDoorShaA
namespace Go.Proofs.YthagdkipipldlaaGreatDoor.pkc
open Go.Proofs.YthagdkipipldlaaGreatDoor.oct Go.Proofs.YthagdkipipldlaaGreatDoor.ref Go.Proofs.YthagdkipipldlaaGreatDoor.sha

abbrev T := List UInt8
def okN (n : Nat) : Bool := (decide (65 ≤ n) && decide (n ≤ 90)) || (decide (97 ≤ n) && decide (n ≤ 122)) || (decide (48 ≤ n) && decide (n ≤ 57)) || decide (n = 45) || decide (n = 46) || decide (n = 95) || decide (n = 126)
def okV (c : UInt8) : Bool := okN c.toNat
def verB (s : T) : Bool := decide (43 ≤ s.length) && decide (s.length ≤ 128) && s.all okV
def plainM : T := [112, 108, 97, 105, 110]
def hashM : T := [83, 50, 53, 54]
theorem m_ne : plainM ≠ hashM := by decide
/-- are these the web's signs of 32 bytes -/
def mayS (c : T) : Bool := decide (webT (unsix true c) = c) && decide ((unsix true c).length = 32)
def mayP (c m : T) : Bool := if m = plainM then verB c else (decide (m = hashM) && mayS c)
def hashT (v : T) : T := webT (digest v)
def chalP (v m : T) : Nat × T := if m ≠ plainM ∧ m ≠ hashM then (1, []) else if verB v = false then (3, []) else if m = plainM then (0, v) else (0, hashT v)
def checkP (c m v : T) : Bool := decide ((chalP v m).1 = 0) && decide ((chalP v m).2 = c)
theorem mayS_of {o c : T} (h : webT o = c) : mayS c = decide (o.length = 32) := by
  unfold mayS
  rw [unsix_web h, h]
  simp
theorem mayS_none {c : T} (h : ∀ o, webT o ≠ c) : mayS c = false := by
  unfold mayS
  rw [decide_eq_false (h _)]
  rfl
theorem hash_len (v : T) : (hashT v).length = 43 := by unfold hashT; rw [webT_len, digest_len]
theorem hash_may (v : T) : mayS (hashT v) = true := by rw [mayS_of (o := digest v) (c := hashT v) rfl, digest_len]; rfl
theorem ver_len {s : T} (h : verB s = true) : 43 ≤ s.length ∧ s.length ≤ 128 := by
  unfold verB at h
  simp only [Bool.and_eq_true, decide_eq_true_eq] at h
  exact h.1
theorem chal_plain {v : T} (h : verB v = true) : chalP v plainM = (0, v) := by
  unfold chalP
  rw [if_neg (by simp), if_neg (by simp [h]), if_pos rfl]
theorem chal_hash {v : T} (h : verB v = true) : chalP v hashM = (0, hashT v) := by
  unfold chalP
  rw [if_neg (by simp), if_neg (by simp [h]), if_neg (fun e => m_ne e.symm)]
theorem chal_none {v m : T} (h1 : m ≠ plainM) (h2 : m ≠ hashM) : chalP v m = (1, []) := by
  unfold chalP
  rw [if_pos ⟨h1, h2⟩]
theorem chal_bad {v m : T} (h1 : m = plainM ∨ m = hashM) (h : verB v = false) : chalP v m = (3, []) := by
  unfold chalP
  rw [if_neg (fun ⟨a, b⟩ => h1.elim a b), if_pos h]
/-- the two ways on which a challenge is told -/
theorem chal_ok {v m : T} (h : (chalP v m).1 = 0) : verB v = true ∧ ((m = plainM ∧ chalP v m = (0, v)) ∨ (m = hashM ∧ chalP v m = (0, hashT v))) := by
  by_cases h1 : m = plainM
  · cases hv : verB v with
    | false => rw [chal_bad (Or.inl h1) hv] at h; cases h
    | true => exact ⟨rfl, Or.inl ⟨h1, by rw [h1]; exact chal_plain hv⟩⟩
  · by_cases h2 : m = hashM
    · cases hv : verB v with
      | false => rw [chal_bad (Or.inr h2) hv] at h; cases h
      | true => exact ⟨rfl, Or.inr ⟨h2, by rw [h2]; exact chal_hash hv⟩⟩
    · rw [chal_none h1 h2] at h; cases h
theorem chal_no {v m : T} (h : (chalP v m).1 ≠ 0) : (chalP v m).2 = [] ∧ checkP v m v = false := by
  constructor
  · unfold chalP at h ⊢
    split
    · rfl
    · split
      · rfl
      · split
        · rename_i h1 h2 h3; rw [if_neg h1, if_neg h2, if_pos h3] at h; exact absurd rfl h
        · rename_i h1 h2 h3; rw [if_neg h1, if_neg h2, if_neg h3] at h; exact absurd rfl h
  · unfold checkP
    rw [decide_eq_false h]; rfl
theorem may_told {v m : T} (h : (chalP v m).1 = 0) : mayP (chalP v m).2 m = true := by
  obtain ⟨hv, ⟨h1, h2⟩ | ⟨h1, h2⟩⟩ := chal_ok h
  · rw [h2]; unfold mayP; rw [if_pos h1]; exact hv
  · rw [h2]; unfold mayP; rw [if_neg (fun e => m_ne (e.symm.trans h1)), decide_eq_true h1, hash_may]; rfl
theorem check_told {v m : T} (h : (chalP v m).1 = 0) : checkP (chalP v m).2 m v = true := by unfold checkP; rw [decide_eq_true h, decide_eq_true rfl]; rfl
theorem check_more {v m : T} : checkP ((chalP v m).2 ++ [65]) m v = false := by
  unfold checkP
  rw [decide_eq_false (p := (chalP v m).2 = (chalP v m).2 ++ [65]) (fun e => by have := congrArg List.length e; simp at this), Bool.and_false]
theorem check_plain {v o : T} (h : verB v = true) : checkP v plainM o = (o == v) := by
  unfold checkP
  cases ho : verB o with
  | true =>
    rw [chal_plain ho]
    show (decide True && decide (o = v)) = _
    simp only [decide_true, Bool.true_and]
    rw [Bool.eq_iff_iff, decide_eq_true_eq, beq_iff_eq]
  | false =>
    rw [chal_bad (Or.inl rfl) ho]
    show (decide False && _) = _
    have : o ≠ v := fun e => by rw [e, h] at ho; cases ho
    rw [show (o == v) = false by simpa using this]
    rfl
theorem chal_len (v m : T) : (chalP v m).2.length ≤ 128 := by
  by_cases h : (chalP v m).1 = 0
  · obtain ⟨hv, ⟨h1, h2⟩ | ⟨h1, h2⟩⟩ := chal_ok h
    · rw [h2]; exact (ver_len hv).2
    · rw [h2]; show (hashT v).length ≤ 128; rw [hash_len]; omega
  · rw [(chal_no h).1]; decide
end Go.Proofs.YthagdkipipldlaaGreatDoor.pkc
