/- The contract of octet's unspell: the bytes that a text of signs of 4 or of 6 bits tells, or that there are none (texts up to 140737488355328 signs). -/
import Derived.Test.YtddihhpahghajaaDoorOct6
import Derived.Test.YtddihhpahghajaaDoorShIdx
namespace Go.Proofs.YtddihhpahghajaaDoor.oct
open Go.RowKit
open Go.Proofs.YtddihhpahghajaaDoor.pl
open Go.Lib (byteCells)

theorem indexByte_spec (l : List UInt8) (c : UInt8) : (∃ d, d < l.length ∧ l.getD d 0 = c ∧ Lib.indexByte l c = (d : Int)) ∨ ((∀ d, d < l.length → l.getD d 0 ≠ c) ∧ Lib.indexByte l c = -1) := by
  induction l with
  | nil => exact Or.inr ⟨fun d hd => by simp at hd, rfl⟩
  | cons b l ih =>
    unfold Lib.indexByte
    by_cases h : b = c
    · exact Or.inl ⟨0, by simp, by simp [h], by simp [h]⟩
    · have hb : (b == c) = false := by simpa using h
      rw [hb]
      rcases ih with ⟨d, hd, hg, hi⟩ | ⟨hn, hi⟩
      · refine Or.inl ⟨d + 1, by simpa using hd, by simpa using hg, ?_⟩
        rw [hi]
        have : ((d : Int) == -1) = false := by rw [beq_eq_false_iff_ne]; omega
        simp [this]
      · refine Or.inr ⟨fun d hd => ?_, by rw [hi]; rfl⟩
        cases d with
        | zero => simpa using h
        | succ d => simpa using hn d (by simpa using hd)

/-- what is read of s so far: n signs, the digits ws; the bytes out, the bits left over -/
def Unspelt (sg : Nat → UInt8) (wd : Nat) (s : List UInt8) (n : Nat) (ws : List Nat) (out : List UInt8) (rest : List Bool) : Prop :=
  ws.length = n ∧ text sg ws = s.take n ∧ (∀ d ∈ ws, d < 2 ^ wd) ∧ flat wd ws = bitsOf out ++ rest
section
variable {sg : Nat → UInt8} {wd n : Nat} {s : List UInt8} {ws : List Nat} {out : List UInt8} {rest : List Bool}
theorem Unspelt.start : Unspelt sg wd s 0 [] [] [] := ⟨rfl, by simp [text], by simp, rfl⟩
theorem Unspelt.sign (h : Unspelt sg wd s n ws out rest) (hn : n < s.length) (d : Nat) (hd : d < 2 ^ wd) (hs : sg d = s.getD n 0) : Unspelt sg wd s (n + 1) (ws ++ [d]) out (rest ++ bitsN wd d) := by
  obtain ⟨h1, h2, h3, h4⟩ := h
  refine ⟨by simp [h1], ?_, ?_, by rw [flat_snoc, h4, List.append_assoc]⟩
  · rw [List.take_succ_eq_append_getElem hn, ← h2]
    simp [text, hs, List.getD, List.getElem?_eq_getElem hn]
  · intro x hx
    rcases List.mem_append.1 hx with hx | hx
    · exact h3 x hx
    · rw [List.mem_singleton.1 hx]; exact hd
theorem Unspelt.byte (h : Unspelt sg wd s n ws out rest) (hr : 8 ≤ rest.length) : Unspelt sg wd s n ws (out ++ [UInt8.ofNat (num (rest.take 8))]) (rest.drop 8) := by
  obtain ⟨h1, h2, h3, h4⟩ := h
  have hl : (rest.take 8).length = 8 := by rw [List.length_take]; omega
  have hlt : num (rest.take 8) < 256 := by have := num_lt (rest.take 8); rwa [hl] at this
  refine ⟨h1, h2, h3, ?_⟩
  rw [bitsOf_snoc, UInt8.toNat_ofNat', Nat.mod_eq_of_lt hlt, bitsN_num' hl, List.append_assoc, List.take_append_drop, h4]
theorem Unspelt.len (h : Unspelt sg wd s n ws out rest) : 8 * out.length + rest.length = wd * n := by
  have := congrArg List.length h.2.2.2
  rw [flat_len, List.length_append, bitsOf_len, h.1] at this
  omega
theorem Unspelt.done (h : Unspelt sg wd s n ws out rest) (hn : n = s.length) (hr : rest.length < wd) (h0 : num rest = 0) : text sg (enc wd out) = s := by
  obtain ⟨h1, h2, h3, h4⟩ := h
  have : ws = enc wd out := Tells.eq_enc (by omega) ⟨h3, rest.length, hr, by rw [h4, ← num_zero h0]⟩
  rw [← this, h2, hn, List.take_length]
theorem Unspelt.none (h : Unspelt sg wd s n ws out rest) (hinj : ∀ a b, a < 2 ^ wd → b < 2 ^ wd → sg a = sg b → a = b) (hn : n = s.length) (hw : 0 < wd) (hw8 : wd ≤ 8) (hr : rest.length < 8) (h0 : wd ≤ rest.length ∨ num rest ≠ 0) (o : List UInt8) : text sg (enc wd o) ≠ s := by
  obtain ⟨h1, h2, h3, h4⟩ := h
  rw [hn, List.take_length] at h2
  intro he
  have ht := enc_tells hw o
  have hws : enc wd o = ws := text_inj hinj ht.1 h3 (he.trans h2.symm)
  rw [hws] at ht
  obtain ⟨_, p, hp, h5⟩ := ht
  have e := h4.symm.trans h5
  have el := congrArg List.length e
  simp only [List.length_append, List.length_replicate, bitsOf_len] at el
  have hol : out.length = o.length := by omega
  have e2 := (List.append_inj e (by simp [bitsOf_len, hol])).2
  rw [e2] at h0
  rcases h0 with h0 | h0
  · rw [List.length_replicate] at h0; omega
  · exact h0 (num_false p)
theorem Unspelt.alien (hn : n < s.length) (hs : ∀ d, d < 2 ^ wd → sg d ≠ s.getD n 0) (hw : 0 < wd) (o : List UInt8) : text sg (enc wd o) ≠ s := by
  intro he
  have hl : (enc wd o).length = s.length := by rw [← he]; simp [text]
  have hm : (enc wd o)[n]'(by omega) < 2 ^ wd := (enc_tells hw o).1 _ (List.getElem_mem _)
  refine hs _ hm ?_
  subst he
  simp [text, List.getD, List.getElem?_eq_getElem (show n < (enc wd o).length by omega)]
end
end Go.Proofs.YtddihhpahghajaaDoor.oct
