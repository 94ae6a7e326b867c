/- What a book holds of one family behind a command; a code is good once. No condition. -/
import Derived.Test.YthagdkipipldlaaGreatDoorGr3
namespace Go.Proofs.YthagdkipipldlaaGreatDoor.gra
open Go.Proofs.YthagdkipipldlaaGreatDoor.krd
open Go.Proofs.YthagdkipipldlaaGreatDoor.scp (lt withinP)

theorem do_may {room : Nat} {l : List FT} {c : CT} (h : mayG c = true) : doG room l c = (putG l c.fam (stepG (decide (room ≤ l.length)) (getG l c.fam) c).1, (stepG (decide (room ≤ l.length)) (getG l c.fam) c).2) := by
  unfold doG; rw [if_pos h]
theorem do_not {room : Nat} {l : List FT} {c : CT} (h : mayG c = false) : doG room l c = (l, no 1) := by
  unfold doG; rw [if_neg (by rw [h]; decide)]
theorem step_id {room : Nat} {l : List FT} (h : BT room l) {c : CT} (hm : mayG c = true) {f : FT} (hf : (stepG (decide (room ≤ l.length)) (getG l c.fam) c).1 = some f) : RT f ∧ f.id = c.fam :=
  step_right ((mayG_iff c).1 hm) (fun f hf => by obtain ⟨h1, h2⟩ := getK_some FT.id hf; exact ⟨h.right f h1, h2⟩) f hf
/-- the family of a name behind a command -/
theorem get_do {room : Nat} {l : List FT} (h : BT room l) {c : CT} (hm : mayG c = true) (n : T) : getG (doG room l c).1 n = if c.fam = n then (stepG (decide (room ≤ l.length)) (getG l c.fam) c).1 else getG l n := by
  rw [do_may hm]
  dsimp only
  cases hs : (stepG (decide (room ≤ l.length)) (getG l c.fam) c).1 with
  | none => exact getK_del FT.id h.srt c.fam n
  | some f =>
    show getK FT.id (insK FT.id l f) n = _
    rw [getK_ins FT.id h.srt, (step_id h hm hs).2]
theorem get_right {room : Nat} {l : List FT} (h : BT room l) {n : T} {f : FT} (hg : getG l n = some f) : RT f := h.right f (getK_some FT.id hg).1
theorem iss_code (f : FT) (too : List T) (r : Bool) : (issG f too r).1.code = f.code := by unfold issG addG; cases r <;> rfl
theorem iss_cl (f : FT) (too : List T) (r : Bool) : (issG f too r).1.cl = f.cl := by unfold issG addG; cases r <;> rfl
theorem iss_rev (f : FT) (too : List T) (r : Bool) : (issG f too r).1.rev = f.rev := by unfold issG addG; cases r <;> rfl
/-- a family whose code was redeemed keeps so -/
def K2 (f : FT) (o : Option FT) : Prop := ∃ f', o = some f' ∧ f'.code = 2 ∧ f'.cl = f.cl ∧ (f.rev = true → f'.rev = true)
theorem K2.self {f : FT} (h2 : f.code = 2) : K2 f (some f) := ⟨f, rfl, h2, rfl, id⟩
theorem K2.fall {f : FT} (h2 : f.code = 2) : K2 f (some (fallG f)) := ⟨_, rfl, h2, rfl, fun _ => rfl⟩
theorem step_two {b : Bool} {f : FT} {c : CT} (h2 : f.code = 2) (hk : c.kind ≠ 7) (hk7 : c.kind ≤ 7) (hk1 : 1 ≤ c.kind) : K2 f (stepG b (some f) c).1 := by
  by_cases h : c.kind = 1
  · unfold stepG; rw [if_pos h]; exact K2.self h2
  by_cases h4 : c.kind = 4
  · unfold stepG; rw [if_neg h, if_pos h4]; exact K2.self h2
  by_cases hk2 : c.kind = 2
  · unfold stepG; rw [if_neg h, if_neg h4, if_pos hk2]
    dsimp only
    by_cases h5 : f.rev = true ∨ f.cl ≠ c.cl ∨ f.code = 0
    · rw [if_pos h5]; exact K2.self h2
    · rw [if_neg h5, if_pos h2]; exact K2.fall h2
  by_cases h3 : c.kind = 3
  · unfold stepG; rw [if_neg h, if_neg h4, if_neg hk2, if_pos h3]
    dsimp only
    by_cases h5 : f.rev = true ∨ f.cl ≠ c.cl
    · rw [if_pos h5]; exact K2.self h2
    · rw [if_neg h5]
      cases ht : tokG f 3 c.ser with
      | none => exact K2.self h2
      | some t =>
        dsimp only
        by_cases h6 : t.used = true
        · rw [if_pos h6]; exact K2.fall h2
        · rw [if_neg h6]
          by_cases h7 : withinP c.sc f.sc = false
          · rw [if_pos h7]; exact K2.self h2
          · rw [if_neg h7]
            by_cases h8 : 6 < f.tk.length
            · rw [if_pos h8]; exact K2.self h2
            · rw [if_neg h8]
              exact ⟨_, rfl, (iss_code _ _ _).trans h2, iss_cl _ _ _, fun h => (iss_rev _ _ _).trans h⟩
  by_cases h5 : c.kind = 5
  · unfold stepG; rw [if_neg h, if_neg h4, if_neg hk2, if_neg h3, if_pos h5]
    dsimp only
    by_cases h6 : f.cl ≠ c.cl
    · rw [if_pos h6]; exact K2.self h2
    · rw [if_neg h6]
      by_cases h7 : isG f c.tok c.ser = true
      · rw [if_pos h7]; exact K2.fall h2
      · rw [if_neg h7]; exact K2.self h2
  by_cases h6 : c.kind = 6
  · unfold stepG; rw [if_neg h, if_neg h4, if_neg hk2, if_neg h3, if_neg h5, if_pos h6]
    dsimp only
    by_cases h7 : f.rev = true
    · rw [if_pos h7]; exact K2.self h2
    · rw [if_neg h7]
      cases ht : tokG f c.tok c.ser with
      | none => exact K2.self h2
      | some t =>
        dsimp only
        by_cases h8 : t.used = true
        · rw [if_pos h8]; exact K2.self h2
        · rw [if_neg h8]; exact ⟨_, rfl, h2, rfl, fun h => h⟩
  omega
/-- granted, fallen, to whom; the family -/
structure OI (g fa : Bool) (cl : T) (o : Option FT) : Prop where
  got : g = true → ∃ f, o = some f ∧ f.code = 2 ∧ f.cl = cl ∧ (fa = true → f.rev = true)
  fell : fa = true → g = true
theorem OI.start (cl : T) (o : Option FT) : OI false false cl o := ⟨(fun h => nomatch h), (fun h => nomatch h)⟩
section steps
variable {room : Nat} {l : List FT} {c : CT} {id : T} {g fa : Bool} {cl : T}
theorem once_skip (h : BT room l) (hi : OI g fa cl (getG l id)) (hs : c.fam ≠ id ∨ mayG c = false) : OI g fa cl (getG (doG room l c).1 id) := by
  cases hm : mayG c with
  | false => rw [do_not hm]; exact hi
  | true =>
    rw [get_do h hm]
    rcases hs with hs | hs
    · rw [if_neg hs]; exact hi
    · rw [hm] at hs; cases hs
theorem get_own (h : BT room l) (hm : mayG c = true) (hid : c.fam = id) : getG (doG room l c).1 id = (stepG (decide (room ≤ l.length)) (getG l id) c).1 ∧ (doG room l c).2 = (stepG (decide (room ≤ l.length)) (getG l id) c).2 := by
  refine ⟨by rw [get_do h hm, if_pos hid, hid], by rw [do_may hm, hid]⟩
theorem once_keep (h : BT room l) (hi : OI g fa cl (getG l id)) (hm : mayG c = true) (hid : c.fam = id) (hk : c.kind ≠ 7) : OI g fa cl (getG (doG room l c).1 id) := by
  refine ⟨fun hg => ?_, hi.fell⟩
  obtain ⟨f, hf, h2, hc, hr⟩ := hi.got hg
  have hkk := ((mayG_iff c).1 hm).kind
  obtain ⟨f', e1, e2, e3, e4⟩ := step_two (b := decide (room ≤ l.length)) h2 hk hkk.2 hkk.1
  rw [(get_own h hm hid).1, hf]
  exact ⟨f', e1, e2, e3.trans hc, fun h => e4 (hr h)⟩
theorem once_seven (h : BT room l) (hi : OI g fa cl (getG l id)) (hm : mayG c = true) (hid : c.fam = id) (hk : c.kind = 7) {f : FT} (hf : getG (doG room l c).1 id = some f) : OI g fa cl (getG (doG room l c).1 id) := by
  rw [(get_own h hm hid).1] at hf ⊢
  refine ⟨fun hg => ?_, hi.fell⟩
  obtain ⟨x, hx, h2, hc, hr⟩ := hi.got hg
  rw [hx] at hf ⊢
  unfold stepG at hf ⊢
  simp only [hk, show ¬ ((7 : Int) = 1) by decide, show ¬ ((7 : Int) = 2) by decide, show ¬ ((7 : Int) = 3) by decide, show ¬ ((7 : Int) = 4) by decide, show ¬ ((7 : Int) = 5) by decide, show ¬ ((7 : Int) = 6) by decide, if_false] at hf ⊢
  split at hf
  · cases hf
  · rename_i hn
    rw [if_neg hn]
    exact ⟨x, rfl, h2, hc, hr⟩
theorem step_redeem (b : Bool) (o : Option FT) (hk : c.kind = 2) : stepG b o c = match o with
    | none => (none, no 3)
    | some f =>
      if f.rev = true ∨ f.cl ≠ c.cl ∨ f.code = 0 then (some f, no 3)
      else if f.code = 2 then (some (fallG f), no 3)
      else if f.re ≠ c.re ∨ checkG f c.ve = false then (some f, no 3)
      else (some (issG { f with code := 2 } f.sc c.rf).1, (issG { f with code := 2 } f.sc c.rf).2) := by
  unfold stepG
  rw [if_neg (by omega), if_neg (by omega), if_pos hk]
  cases o <;> rfl
/-- a code is granted -/
theorem once_grant (h : BT room l) (hi : OI g fa cl (getG l id)) (hm : mayG c = true) (hid : c.fam = id) (hk : c.kind = 2) (hw : (doG room l c).2.why = 0) : g = false ∧ (doG room l c).2.acc = 1 ∧ OI true fa c.cl (getG (doG room l c).1 id) := by
  have hgo := get_own h hm hid
  rw [hgo.2] at hw ⊢
  rw [hgo.1]
  rw [step_redeem _ _ hk] at hw ⊢
  cases ho : getG l id with
  | none => rw [ho] at hw; cases hw
  | some f =>
    have hr := get_right h ho
    rw [ho] at hw
    dsimp only at hw ⊢
    split at hw
    · cases hw
    · rename_i h1
      split at hw
      · cases hw
      · rename_i h2
        split at hw
        · cases hw
        · rename_i h3
          rw [if_neg h1, if_neg h2, if_neg h3]
          have hg : g = false := by
            cases hg : g with
            | false => rfl
            | true => obtain ⟨x, hx, h4, _⟩ := hi.got hg; rw [ho] at hx; cases hx; exact absurd h4 h2
          have hf : fa = false := by
            cases hf : fa with
            | false => rfl
            | true => have := hi.fell hf; rw [hg] at this; cases this
          have hcl : f.cl = c.cl := by
            refine Classical.byContradiction fun hn => h1 (Or.inr (Or.inl hn))
          have htk : f.tk = [] := by
            rcases (code_nz hr.code fun h0 => h1 (Or.inr (Or.inr h0))).2 with ⟨_, h⟩ | ⟨h, _⟩
            · exact h
            · exact absurd h h2
          refine ⟨hg, ?_, ?_⟩
          · unfold issG addG
            cases c.rf <;> simp [htk]
          · refine ⟨fun _ => ⟨_, rfl, ?_, ?_, fun h => by rw [hf] at h; cases h⟩, fun _ => rfl⟩
            · unfold issG addG
              cases c.rf <;> rfl
            · unfold issG addG
              cases c.rf <;> exact hcl
/-- a code that was redeemed is asked for again -/
theorem once_again (h : BT room l) (hi : OI g fa cl (getG l id)) (hm : mayG c = true) (hid : c.fam = id) (hk : c.kind = 2) (hg : g = true) (hc : c.cl = cl) : (doG room l c).2.why = 3 ∧ OI g true cl (getG (doG room l c).1 id) := by
  have hgo := get_own h hm hid
  rw [hgo.2, hgo.1]
  rw [step_redeem _ _ hk]
  obtain ⟨f, hf, h2, hcl, hr⟩ := hi.got hg
  rw [hf]
  dsimp only
  by_cases hrev : f.rev = true
  · rw [if_pos (Or.inl hrev)]
    exact ⟨rfl, fun _ => ⟨f, rfl, h2, hcl, fun _ => hrev⟩, fun _ => hg⟩
  · rw [if_neg (by rintro (h | h | h); exact hrev h; exact h (hcl.trans hc.symm); omega), if_pos h2]
    exact ⟨rfl, fun _ => ⟨_, rfl, h2, hcl, fun _ => rfl⟩, fun _ => hg⟩
/-- what has fallen serves nothing -/
theorem once_look (h : BT room l) (hi : OI g fa cl (getG l id)) (hm : mayG c = true) (hid : c.fam = id) (hk : c.kind = 6) (hf : fa = true) : (doG room l c).2.act = false := by
  have hgo := get_own h hm hid
  rw [hgo.2]
  obtain ⟨f, ho, h2, hcl, hr⟩ := hi.got (hi.fell hf)
  rw [ho]
  unfold stepG
  rw [if_neg (by omega), if_neg (by omega), if_neg (by omega), if_neg (by omega), if_neg (by omega), if_pos hk]
  dsimp only
  rw [if_pos (hr hf)]
  rfl
theorem once_renew (h : BT room l) (hi : OI g fa cl (getG l id)) (hm : mayG c = true) (hid : c.fam = id) (hk : c.kind = 3) (hf : fa = true) : (doG room l c).2.why = 3 := by
  have hgo := get_own h hm hid
  rw [hgo.2]
  obtain ⟨f, ho, h2, hcl, hr⟩ := hi.got (hi.fell hf)
  rw [ho]
  unfold stepG
  rw [if_neg (by omega), if_neg (by omega), if_neg (by omega), if_pos hk]
  dsimp only
  rw [if_pos (Or.inl (hr hf))]
  rfl
end steps
end Go.Proofs.YthagdkipipldlaaGreatDoor.gra
