/- slices.Insert of one number into an own row of numbers that rise; the developers' lease. No condition beyond what slices are. -/
import Derived.Test.YthagdkipipldlaaGreatDoorGre
import Derived.Test.YthagdkipipldlaaGreatDoorShGr
namespace Go.Proofs.YthagdkipipldlaaGreatDoor.gra
open Go.RowKit
open Go.Proofs.YthagdkipipldlaaGreatDoor.oct Go.Proofs.YthagdkipipldlaaGreatDoor.ref Go.Proofs.YthagdkipipldlaaGreatDoor.rows Go.Proofs.YthagdkipipldlaaGreatDoor.rowg Go.Proofs.YthagdkipipldlaaGreatDoor.mpt Go.Proofs.YthagdkipipldlaaGreatDoor.trn Go.Proofs.YthagdkipipldlaaGreatDoor.krd
open Go.Proofs.YthagdkipipldlaaGreatDoor.sha (Tabs)
open Go.Proofs.YthagdkipipldlaaGreatDoor.scp (tx senc senc_len senc_one InS ins_below ins_cell ins_one lt Lst lval lenc GoodL FitS RowA own_good infoStr clone_c key_txt skeyed)

def setL (l : List Value) : Nat → List Value → List Value
  | _, [] => l
  | o, v :: r => setL (l.set o v) (o + 1) r
theorem setL_len : ∀ (vs : List Value) (l : List Value) (o : Nat), (setL l o vs).length = l.length
  | [], _, _ => rfl
  | v :: r, l, o => by rw [setL, setL_len r, List.length_set]
theorem setL_eq : ∀ (vs : List Value) (l : List Value) (o : Nat), o + vs.length ≤ l.length → setL l o vs = l.take o ++ vs ++ l.drop (o + vs.length)
  | [], l, o, _ => by simp [setL]
  | v :: r, l, o, h => by
    rw [List.length_cons] at h
    rw [setL, setL_eq r (l.set o v) (o + 1) (by rw [List.length_set]; omega)]
    have ho : o < l.length := by omega
    have e1 : (l.set o v).take (o + 1) = l.take o ++ [v] := by
      rw [List.take_succ_eq_append_getElem (by rw [List.length_set]; exact ho), List.getElem_set_self, List.take_set_of_le (Nat.le_refl _)]
    have e2 : (l.set o v).drop (o + 1 + r.length) = l.drop (o + (v :: r).length) := by
      rw [List.drop_set_of_lt (by omega), List.length_cons, show o + 1 + r.length = o + (r.length + 1) by omega]
    rw [e1, e2]
    simp
theorem heap_setCells (b : Nat) : ∀ (vs : List Value) (o : Nat) (w : World) (cur : Array Value) (e : TypeId) (fz : Nat × Nat), w.heap[b]? = some (.cells cur e fz) → ∃ cur' : Array Value, (w.setCells b o vs).heap[b]? = some (.cells cur' e fz) ∧ cur'.toList = setL cur.toList o vs
  | [], _, _, cur, _, _, h => ⟨cur, h, rfl⟩
  | v :: r, o, w, cur, e, fz, h => by
    have h2 : (w.setCell ⟨b, o, none⟩ v).heap[b]? = some (.cells (cur.set! o v) e fz) := by simp [World.setCell, Array.getElem?_modify, h]
    obtain ⟨cur', h3, h4⟩ := heap_setCells b r (o + 1) _ _ _ _ h2
    exact ⟨cur', h3, by rw [h4, setL]; simp⟩
theorem turn_setCells (b : Nat) : ∀ (vs : List Value) (o : Nat) (w : World), Turn (fun k => k = b) w (w.setCells b o vs)
  | [], _, w => Turn.refl _ w
  | v :: r, o, w => (Turn.set (S := fun k => k = b) w b o v rfl).next (turn_setCells b r (o + 1) _)
/-- where a number stands among those that rise -/
def posG (l : List Int) (e : Int) : Nat := l.countP (· < e)
theorem lease_at {l : List Int} {e : Int} (hs : l.Pairwise (· < ·)) (hn : e ∉ l) : leaseG l e = l.take (posG l e) ++ e :: l.drop (posG l e) := by
  have h : l.filter (fun x => decide (x < e)) = l.take (posG l e) ∧ l.filter (fun x => decide (e < x)) = l.drop (posG l e) := by
    unfold posG
    induction l with
    | nil => exact ⟨rfl, rfl⟩
    | cons a r ih =>
      have h2 := List.pairwise_cons.1 hs
      have ih := ih h2.2 (fun h => hn (List.mem_cons_of_mem _ h))
      have hae : a ≠ e := fun e2 => hn (by rw [e2]; exact List.mem_cons_self)
      by_cases hlt : a < e
      · rw [List.filter_cons_of_pos (by simpa using hlt), List.filter_cons_of_neg (by simp; omega), List.countP_cons_of_pos (by simpa using hlt), List.take_succ_cons, List.drop_succ_cons, ih.1, ih.2]
        exact ⟨rfl, rfl⟩
      · have hz : r.countP (fun x => decide (x < e)) = 0 := by
          rw [List.countP_eq_zero]
          intro x hx
          have := h2.1 x hx
          simp; omega
        have h3 : r.filter (fun x => decide (x < e)) = [] := List.filter_eq_nil_iff.2 fun x hx => by have := h2.1 x hx; simp; omega
        have h4 : r.filter (fun x => decide (e < x)) = r := List.filter_eq_self.2 fun x hx => by have := h2.1 x hx; simp; omega
        rw [List.filter_cons_of_neg (by simpa using hlt), List.filter_cons_of_pos (by simp; omega), List.countP_cons_of_neg (by simpa using hlt), hz, h3, h4]
        exact ⟨rfl, rfl⟩
  unfold leaseG
  rw [if_neg hn, h.1, h.2]
theorem pos_le (l : List Int) (e : Int) : posG l e ≤ l.length := List.countP_le_length
theorem ncells (l : List Int) : cells nenc l = l.map (fun n => Value.int .i64 n) := by
  unfold cells
  induction l with
  | nil => rfl
  | cons x r ih => rw [List.map_cons, List.flatMap_cons, ih]; rfl
/-- a row with one number more -/
structure InsA (w w' : World) (p : Option Addr) (l : List Int) (e : Int) (v : Value) : Prop where
  own : w'.ownsRow 0 3 1 v (l.length + 1) (cells nenc (l.take (posG l e) ++ e :: l.drop (posG l e)))
  turn : Turn (fun k => ∃ b, p = some ⟨b, 0, none⟩ ∧ k = b) w w'
  blk : ∀ k, v.ownBlock = some k → (∃ b, p = some ⟨b, 0, none⟩ ∧ k = b) ∨ w.heap.size ≤ k
theorem ins_list {α β : Type} (f : α → β) (l : List α) (e : α) (i : Nat) : (l.take i ++ e :: l.drop i).map f = (l.map f).take i ++ f e :: (l.map f).drop i := by simp [List.map_take, List.map_drop]
theorem sh1 (X cs Y : List Value) (i n : Nat) (v : Value) (hn : cs.length = n) (h : X.take n = cs) (hi : i < n) :
    ((X.take (0 + (i + 1)) ++ cs.drop i ++ Y).take (0 + i) ++ [v] ++ (X.take (0 + (i + 1)) ++ cs.drop i ++ Y).drop (0 + i + 1)).take (n + 1) = cs.take i ++ v :: cs.drop i := by
  have e1 : X.take (0 + (i + 1)) = cs.take (i + 1) := by
    rw [← h, List.take_take, Nat.zero_add, Nat.min_eq_left (by omega)]
  have e2 : (cs.take (i + 1) ++ cs.drop i ++ Y).take (0 + i) = cs.take i := by
    rw [List.append_assoc, Nat.zero_add, List.take_append_of_le_length (by rw [List.length_take]; omega), List.take_take, Nat.min_eq_left (by omega)]
  have e3 : (cs.take (i + 1) ++ cs.drop i ++ Y).drop (0 + i + 1) = cs.drop i ++ Y := by
    rw [List.append_assoc, List.drop_left' (by rw [List.length_take]; omega)]
  rw [e1, e2, e3, show cs.take i ++ [v] ++ (cs.drop i ++ Y) = (cs.take i ++ v :: cs.drop i) ++ Y by simp, List.take_left' (by simp; omega)]
theorem sh2 (cs Z Y : List Value) (i n : Nat) (v : Value) (hn : cs.length = n) (hi : i ≤ n) :
    ((cs.take i ++ [v] ++ Z).take (i + 1) ++ cs.drop i ++ Y).take (n + 1) = cs.take i ++ v :: cs.drop i := by
  rw [List.take_left' (by simp; omega), List.take_left' (by simp; omega)]
  simp
set_option maxHeartbeats 4000000 in
theorem insert_c {w : World} {p : Option Addr} {c : Nat} {l : List Int} (e : Int) (ho : w.ownsRow 0 3 1 (.slice p l.length c) l.length (cells nenc l)) (hl : l.length ≤ 4194304) (vb : Nat) (hv : Blk w vb 3 [.int .i64 e]) (hvb : ∀ b, p = some ⟨b, 0, none⟩ → vb ≠ b) :
    Calls Tryz.prog 140 #[.slice p l.length c, .int .i64 (posG l e : Nat), .slice (some ⟨vb, 0, none⟩) 1 1] w fun en w' => ∃ v, en = .returned v ∧ InsA w w' p l e v := by
  have hv0 : w.cell? ⟨vb, 0, none⟩ = some (.int .i64 e) := hv.cell 0
  have hvs : ∀ j v, ([.int .i64 e] : List Value)[j]? = some v → w.cell? ⟨vb, 0 + j, none⟩ = some v := fun j v hj => by
    cases j with
    | zero => simp at hj; subst hj; exact hv0
    | succ j => simp at hj
  have h1v : ∀ v ∈ ([.int .i64 e] : List Value), v.oneCell' = true := fun v hx => by rw [List.mem_singleton.1 hx]; rfl
  have hcl : (cells nenc l).length = l.length := by rw [cells_len nenc_len, Nat.mul_one]
  have h1c : ∀ v ∈ cells nenc l, v.oneCell' = true := fun v hx => by rw [ncells] at hx; obtain ⟨n, _, rfl⟩ := List.mem_map.1 hx; rfl
  have hle := pos_le l e
  have hfin : cells nenc (l.take (posG l e) ++ e :: l.drop (posG l e)) = (cells nenc l).take (posG l e) ++ .int .i64 e :: (cells nenc l).drop (posG l e) := by rw [ncells, ncells, ins_list]
  rcases ho.2 with ⟨h1, h2⟩ | ⟨g, cap, cur, h1, h2, h3, h4, h5, h6, h7⟩
  · injection h1 with e1 e2 e3
    subst e1
    subst e3
    have hl0 : l = [] := List.eq_nil_of_length_eq_zero h2
    subst hl0
    refine (Any2.slices_Insert_int_end_grow sh.laysIns none 0 0 vb 0 1 1 [] [.int .i64 e] w (by decide) (Nat.le_refl _) (by decide) (by decide) rfl rfl (fun _ => rfl) (fun a h => by cases h) hvs h1v).mono ?_
    rintro en w' ⟨rfl, rfl⟩
    refine ⟨_, rfl, ⟨?_, Turn.of_below ((Below.refl _ _).drew.alloc (Nat.le_refl _) _), fun k hk => Or.inr ?_⟩⟩
    · refine ⟨rfl, Or.inr ⟨w.heap.size, _, _, rfl, Nat.zero_le _, heap_alloc_new w.drew _, grownCap_ge _ _ _ _, grownCap_le_maxLen _ _ _ _ (by unfold maxLen; decide), ?_, ?_⟩⟩
      · have := grownCap_ge w (0 + 1) 0 3
        simp [size_zeroCells, Value.cells]
        show 1 + (grownCap w (0 + 1) 0 3 - 1) = grownCap w (0 + 1) 0 3
        omega
      · simp [cells, nenc]
    · cases hk; exact Nat.le_refl _
  · injection h1 with e1 e2 e3
    subst e1
    subst e3
    have hcells : ∀ j v, (cells nenc l)[j]? = some v → w.cell? ⟨g, 0 + j, none⟩ = some v := fun j v hj => by
      have hj2 := (List.getElem?_eq_some_iff.1 hj).1
      rw [Nat.zero_add, cell_of_row w g j cur 3 (0, 0) h3]
      rw [← h7, List.getElem?_take, if_pos (by rw [hcl] at hj2; omega)] at hj
      simpa using hj
    have hcs : cur.size = c := by rw [h6, Nat.mul_one]
    have hsome : ∀ j, j < c → (w.cell? ⟨g, 0 + j, none⟩).isSome = true := fun j hj => by rw [Nat.zero_add, cell_of_row w g j cur 3 (0, 0) h3]; simp; omega
    have hfz : ∀ j, w.frozen? ⟨g, j, none⟩ = false := fun j => by simp [World.frozen?, h3]
    have hvf : ∀ j, w.frozen? ⟨vb, j, none⟩ = false := fun j => by
      have : w.heap[vb]? = some (.cells #[.int .i64 e] 3 (0, 0)) := hv
      simp [World.frozen?, this]
    have hsa : w.shape? vb = some (3, 1) := by
      have : w.heap[vb]? = some (.cells #[.int .i64 e] 3 (0, 0)) := hv
      simp [World.shape?, this]
    have hsb : w.shape? g = some (3, c) := by simp [World.shape?, h3, hcs]
    have hm : c ≤ 9223372036854775807 := by unfold maxLen at h5; omega
    have hcur : cur.toList.length = c := by rw [Array.length_toList, hcs]
    have htk : cur.toList.take l.length = cells nenc l := by rw [← h7, Nat.mul_one]
    by_cases hroom : l.length + 1 ≤ c
    · by_cases hend : posG l e = l.length
      · rw [hend]
        refine (Any2.slices_Insert_int_end_room sh.laysIns g 0 l.length c vb 0 1 1 [.int .i64 e] w (by decide) hroom hm rfl (fun j hj => by have := hsome (l.length + j) (by omega); rwa [← Nat.add_assoc] at this) (fun j hj => hfz _) hvs h1v).mono ?_
        rintro en w' ⟨rfl, rfl⟩
        obtain ⟨cur', k1, k2⟩ := heap_setCells g [.int .i64 e] (0 + l.length) w cur 3 (0, 0) h3
        refine ⟨_, rfl, ⟨?_, (turn_setCells g _ _ w).mono fun k _ hk => ⟨g, rfl, hk⟩, fun k hk => Or.inl ⟨g, rfl, by injection hk with hk; exact hk.symm⟩⟩⟩
        rw [setL_eq _ _ _ (by rw [hcur]; simp; omega)] at k2
        refine ⟨by rw [cells_len nenc_len]; simp; omega, Or.inr ⟨g, c, cur', rfl, h2, k1, hroom, h5, ?_, ?_⟩⟩
        · have := congrArg List.length k2
          rw [Array.length_toList] at this
          rw [this]
          simp [hcs]; omega
        · rw [k2, hfin, hend, Nat.zero_add, Nat.mul_one, htk, List.take_of_length_le (l := cells nenc l) (by omega), show (cells nenc l).drop l.length = [] from List.drop_eq_nil_of_le (by omega), List.take_left' (by simp [hcl])]
      · have hlt : posG l e < l.length := by omega
        refine (Any2.slices_Insert_int_shift sh.laysIns g 0 l.length c (posG l e) vb 0 1 1 (cells nenc l) [.int .i64 e] w hlt (by decide) hroom hm (hvb g rfl) hcl rfl hcells (fun j hj => hsome j (by omega)) (fun j hj => hfz _) hvs h1c h1v 3 3 1 c hsa hsb (by omega) (hvf _) (hvf _)).mono ?_
        rintro en w' ⟨rfl, rfl⟩
        obtain ⟨cur1, k1, k2⟩ := heap_setCells g ((cells nenc l).drop (posG l e)) (0 + (posG l e + 1)) w.drew cur 3 (0, 0) h3
        obtain ⟨cur2, k3, k4⟩ := heap_setCells g [.int .i64 e] (0 + posG l e) _ cur1 3 (0, 0) k1
        have hT := ((Turn.refl (fun k => k = g) w).drew.next (turn_setCells g ((cells nenc l).drop (posG l e)) (0 + (posG l e + 1)) w.drew)).next (turn_setCells g [.int .i64 e] (0 + posG l e) _)
        refine ⟨_, rfl, ⟨?_, hT.mono fun k _ hk => ⟨g, rfl, hk⟩, fun k hk => Or.inl ⟨g, rfl, by injection hk with hk; exact hk.symm⟩⟩⟩
        have hl1 : cur1.toList.length = c := by rw [k2, setL_len, hcur]
        rw [setL_eq _ _ _ (by rw [hcur]; simp [hcl]; omega)] at k2
        rw [setL_eq _ _ _ (by rw [hl1]; simp; omega), k2] at k4
        refine ⟨by rw [cells_len nenc_len]; simp; omega, Or.inr ⟨g, c, cur2, rfl, h2, k3, hroom, h5, ?_, ?_⟩⟩
        · have := congrArg List.length k4
          rw [Array.length_toList] at this
          rw [this]
          simp [hcs, hcl]; omega
        · rw [k4, hfin, Nat.mul_one]
          exact sh1 _ _ _ _ _ _ hcl htk hlt
    · have hcl2 : c = l.length := by omega
      by_cases hend : posG l e = l.length
      · rw [hend]
        refine (Any2.slices_Insert_int_end_grow sh.laysIns (some ⟨g, 0, none⟩) l.length c vb 0 1 1 (cells nenc l) [.int .i64 e] w (by decide) h4 (by omega) (by omega) hcl rfl (fun h => by cases h) (fun a ha j v hj => by cases ha; rw [add_none]; exact hcells j v hj) hvs h1v).mono ?_
        rintro en w' ⟨rfl, rfl⟩
        refine ⟨_, rfl, ⟨?_, Turn.of_below ((Below.refl _ _).drew.alloc (Nat.le_refl _) _), fun k hk => Or.inr ?_⟩⟩
        · refine ⟨by rw [cells_len nenc_len]; simp; omega, Or.inr ⟨w.heap.size, _, _, rfl, Nat.zero_le _, heap_alloc_new w.drew _, grownCap_ge _ _ _ _, grownCap_le_maxLen _ _ _ _ (by unfold maxLen; omega), ?_, ?_⟩⟩
          · have := grownCap_ge w (l.length + 1) c 3
            simp [size_zeroCells, Value.cells, hcl]
            show l.length + 1 + (grownCap w (l.length + 1) c 3 - (l.length + 1)) = grownCap w (l.length + 1) c 3
            omega
          · rw [hfin, hend, List.take_of_length_le (l := cells nenc l) (by omega), show (cells nenc l).drop l.length = [] from List.drop_eq_nil_of_le (by omega), Nat.mul_one]
            simp only [Array.toList_append]
            rw [List.take_left' (by simp [hcl])]
        · cases hk; exact Nat.le_refl _
      · have hlt : posG l e < l.length := by omega
        refine (Any2.slices_Insert_int_grow sh.laysIns g 0 l.length c (posG l e) vb 0 1 1 (cells nenc l) [.int .i64 e] w hlt (by decide) h4 (by omega) (by omega) hcl rfl hcells hvs h1c h1v).mono ?_
        rintro en w' ⟨rfl, rfl⟩
        obtain ⟨A, hA⟩ : ∃ A, ((cells nenc l).take (posG l e)).toArray ++ Builtin.zeroCells (Value.int .i64 0).cells (l.length + 1 - posG l e) ++ Builtin.zeroCells (Value.int .i64 0).cells (grownCap w (l.length + 1) c 3 - (l.length + 1)) = A := ⟨_, rfl⟩
        have hge := grownCap_ge w (l.length + 1) c 3
        obtain ⟨K, hK⟩ : ∃ K, grownCap w (l.length + 1) c 3 = K := ⟨_, rfl⟩
        have hmax : K ≤ maxLen := by rw [← hK]; exact grownCap_le_maxLen _ _ _ _ (by unfold maxLen; omega)
        have hAl : A.toList.length = K := by
          rw [← hA, Array.length_toList]
          simp [size_zeroCells, Value.cells, hcl, hK]
          omega
        have hAt : A.toList.take (posG l e) = (cells nenc l).take (posG l e) := by
          rw [← hA]
          simp only [Array.toList_append, List.append_assoc]
          rw [List.take_left' (by simp [hcl]; omega)]
        show ∃ v, Ending.returned (.slice (some ⟨w.heap.size, 0, none⟩) (l.length + 1) (grownCap w (l.length + 1) c 3)) = .returned v ∧ InsA w ((((w.alloc (.cells (((cells nenc l).take (posG l e)).toArray ++ Builtin.zeroCells (Value.int .i64 0).cells (l.length + 1 - posG l e) ++ Builtin.zeroCells (Value.int .i64 0).cells (grownCap w (l.length + 1) c 3 - (l.length + 1))) 3)).drew.setCells w.heap.size (posG l e) [.int .i64 e]).drew).setCells w.heap.size (posG l e + 1) ((cells nenc l).drop (posG l e))) (some ⟨g, 0, none⟩) l e v
        rw [hA, hK]
        rw [hK] at hge
        obtain ⟨cur1, k1, k2⟩ := heap_setCells w.heap.size [.int .i64 e] (posG l e) (w.alloc (.cells A 3)).drew A 3 (0, 0) (heap_alloc_new w _)
        obtain ⟨cur2, k3, k4⟩ := heap_setCells w.heap.size ((cells nenc l).drop (posG l e)) (posG l e + 1) ((w.alloc (.cells A 3)).drew.setCells w.heap.size (posG l e) [.int .i64 e]).drew cur1 3 (0, 0) k1
        have hT := ((turn_setCells w.heap.size [.int .i64 e] (posG l e) (w.alloc (.cells A 3)).drew).drew).next (turn_setCells w.heap.size ((cells nenc l).drop (posG l e)) (posG l e + 1) ((w.alloc (.cells A 3)).drew.setCells w.heap.size (posG l e) [.int .i64 e]).drew)
        have hT2 : Turn (fun k => k = w.heap.size) w (w.alloc (.cells A 3)).drew := Turn.of_below ((Below.refl _ _).alloc (Nat.le_refl _) _).drew
        refine ⟨_, rfl, ⟨?_, (hT2.next hT).mono fun k hk e2 => by omega, fun k hk => Or.inr (by cases hk; exact Nat.le_refl _)⟩⟩
        have hl1 : cur1.toList.length = K := by rw [k2, setL_len, hAl]
        have hl2 : cur2.toList.length = K := by rw [k4, setL_len, hl1]
        rw [setL_eq _ _ _ (by rw [hAl]; simp; omega), hAt] at k2
        rw [setL_eq _ _ _ (by rw [hl1]; simp [hcl]; omega), k2] at k4
        refine ⟨by rw [cells_len nenc_len]; simp; omega, Or.inr ⟨w.heap.size, K, cur2, rfl, Nat.zero_le _, k3, hge, hmax, ?_, ?_⟩⟩
        · rw [Nat.mul_one, ← hl2, Array.length_toList]
        · rw [k4, hfin, Nat.mul_one]
          exact sh2 _ _ _ _ _ _ hcl hle
set_option maxRecDepth 100000 in
set_option maxHeartbeats 4000000 in
theorem bis_c {w : World} {p : Option Addr} {c : Nat} {l : List Int} (e : Int) (ho : w.ownsRow 0 3 1 (.slice p l.length c) l.length (cells nenc l)) (hl : l.length ≤ 4194304) (hs : l.Pairwise (· < ·)) :
    Calls Tryz.prog 139 #[.slice p l.length c, .int .i64 e] w fun en w' => en = .returned (.tuple #[.int .i64 (posG l e : Nat), .bool (decide (e ∈ l))]) ∧ Below w.heap.size w w' := by
  cases p with
  | none =>
    have h0 : l = [] := by
      rcases ho.2 with ⟨h1, h2⟩ | ⟨g, cap, cur, h1, _⟩
      · exact List.eq_nil_of_length_eq_zero h2
      · injection h1 with h1; cases h1
    subst h0
    have HR : Hid (decide (e ∈ ([] : List Int)) = false) := by show _ = _; simp
    rw [HR.out]
    show Calls _ _ #[.slice none 0 c, .int .i64 e] w fun en w' => en = .returned (.tuple #[.int .i64 0, .bool false]) ∧ _
    have HB := Lib.hid (Below.refl w.heap.size w)
    clear ho hl hs HR
    go_enter Tryz.func139, Tryz.ntmps139
    go_wp2_with fail
    go_loopg [7, 8, 9] 0 (fun gg s7 s8 _ wx => gg = 0 ∧ s7 = .int .i64 0 ∧ s8 = .int .i64 0 ∧ wx = w)
    case atStart => exact ⟨rfl, rfl, rfl, rfl⟩
    case round =>
      obtain ⟨_, rfl, rfl, rfl⟩ := hrel
      go_wp2_with fail
      go_ret2
      exact ⟨rfl, HB.out⟩
  | some ad =>
    have hn : ∃ b, ad = ⟨b, 0, none⟩ ∧ ∀ j, j < l.length → w.cell? ⟨b, 0 + j, none⟩ = some (.int .i64 (l.getD j 0)) := by
      rcases ho.2 with ⟨h1, h2⟩ | ⟨g, cap, cur, h1, h2, h3, h4, h5, h6, h7⟩
      · injection h1 with h1; cases h1
      · injection h1 with e1 e2 e3
        injection e1 with e1
        refine ⟨g, e1, fun j hj => ?_⟩
        rw [Nat.zero_add, cell_of_row w g j cur 3 (0, 0) h3]
        have h8 : (cur.toList.take (l.length * 1))[j]? = (cells nenc l)[j]? := by rw [h7]
        rw [List.getElem?_take, if_pos (by omega), ncells, List.getElem?_map, List.getElem?_eq_getElem hj] at h8
        rw [show l.getD j 0 = l[j] from by rw [List.getD, List.getElem?_eq_getElem hj]; rfl]
        simpa using h8
    obtain ⟨b, rfl, hc⟩ := hn
    refine (Any.slices_BinarySearch_int sh.laysBis b 0 l.length c l e w (Nat.le_refl _) (by omega) hc (by rw [List.take_length]; exact hs.imp fun h => Int.le_of_lt h)).mono ?_
    rintro en w' ⟨rfl, q, rfl⟩
    rw [List.take_length]
    refine ⟨?_, below_drewN (Below.refl _ _) q⟩
    have hcc : l.contains e = decide (e ∈ l) := by rw [Bool.eq_iff_iff]; simp
    rw [hcc]
    rfl
theorem fenc_lease (x : DF) (p : Option Addr) (c : Nat) (l : List Int) : fenc { x with lp := p, lc := c, le := l } = (fenc x).set 10 (.slice p l.length c) := rfl
/-- what lease makes of a family -/
def LeaA (w w' : World) (x : DF) (e : Int) : Prop := ∃ p c, FamM w' (xn x w w') { x with lp := p, lc := c, le := leaseG x.le e } ∧ Turn x.has w w'
/-- a family whose edges are others -/
theorem FamM.leased {w w1 w2 : World} {R : Nat → Prop} {x : DF} (h : FamM w R x) (hb : Below w.heap.size w w1) {e : Int} {v : Value} (hi : InsA w1 w2 x.lp x.le e v) (hs : x.le.Pairwise (· < ·)) (hn : e ∉ x.le) :
    Blk w2 x.g 82 (fenc x) ∧ LeaA w (w2.setCell ⟨x.g, 10, none⟩ v) x e := by
  have hx1 := h.own.below hb
  have hB1 := h.blk.below hb
  have hS : ∀ k, (∃ b, x.lp = some ⟨b, 0, none⟩ ∧ k = b) → x.lv.ownBlock = some k := fun k ⟨b, e1, e2⟩ => by subst e2; unfold DF.lv; rw [e1]; rfl
  have t1 : Turn (fun k => x.lv.ownBlock = some k) w1 w2 := hi.turn.mono fun k _ hk => hS k hk
  have hB2 : Blk w2 x.g 82 (fenc x) := blk_turn hB1 t1 fun e => hx1.noBlk (Or.inr (Or.inr (Or.inr e))) hB1 (Or.inl rfl)
  have t2 : Turn (fun i => i = x.g) w2 (w2.setCell ⟨x.g, 10, none⟩ v) := Turn.set _ _ _ _ rfl
  have keep : ∀ {B e z n : Nat} {u : Value} {xs : List Value}, w1.ownsRow B e z u n xs → e ≠ 3 → e ≠ 82 → (w2.setCell ⟨x.g, 10, none⟩ v).ownsRow B e z u n xs := fun {B e z n u xs} hr h1 h2 => by
    have a1 := own_turn hr t1 fun b hb2 e2 => h1 (row_row hr hx1.le hb2 e2)
    exact own_turn a1 t2 fun b hb2 e2 => h2 (by subst e2; exact (row_blk a1 hb2 hB2).symm)
  have hlen : (leaseG x.le e).length = x.le.length + 1 := by rw [lease_at hs hn]; have := pos_le x.le e; simp; omega
  have ho := hi.own
  rw [← lease_at hs hn, ← hlen] at ho
  obtain ⟨p2, c2, hv, _, _, _⟩ := own_g nenc_len (by decide) ho
  subst hv
  have ho3 := own_turn ho t2 fun b hb2 e2 => by subst e2; exact absurd (row_blk ho hb2 hB2) (by decide)
  refine ⟨hB2, p2, c2, ⟨?_, ⟨keep hx1.sc (by decide) (by decide), keep hx1.tk (by decide) (by decide), fun t m => keep (hx1.ts t m) (by decide) (by decide), ho3⟩, ?_⟩, ?_⟩
  · rw [fenc_lease]
    exact hB2.set 10 _
  · rintro k (rfl | hk)
    · exact Or.inl (Or.inl rfl)
    · rcases hk with e | e | e | e
      · exact Or.inl (Or.inr (Or.inl e))
      · exact Or.inl (Or.inr (Or.inr (Or.inl e)))
      · exact Or.inl (Or.inr (Or.inr (Or.inr (Or.inl e))))
      · rcases hi.blk k e with h3 | h3
        · exact Or.inl (Or.inr (Or.inr (Or.inr (Or.inr (hS k h3)))))
        · refine Or.inr ⟨Nat.le_trans hb.size h3, ?_⟩
          have := (ho.lt k e).2
          simpa using this
  · exact (Turn.of_below hb).next ((t1.mono fun i _ e => Or.inr (Or.inr (Or.inr (Or.inr e)))).next (t2.mono fun i _ e => Or.inl e))
set_option maxRecDepth 100000 in
set_option maxHeartbeats 8000000 in
theorem lease_c {w : World} {R : Nat → Prop} {x : DF} (h : FamM w R x) (hl : x.le.length ≤ 4194304) (hs : x.le.Pairwise (· < ·)) (e : Int) :
    Calls Tryz.prog 113 #[dptr x.g, .int .i64 e] w fun en w' => en = .returned (.tuple #[]) ∧ LeaA w w' x e := by
  have c10 : w.cell? ⟨x.g, 10, none⟩ = some (.slice x.lp x.le.length x.lc) := h.blk.cell 10
  have HS := Lib.hid (bis_c e h.own.le hl hs)
  have HF := Lib.hid h
  have HL := Lib.hid hl
  have HSS := Lib.hid hs
  have hglt := h.blk.lt
  by_cases hm : e ∈ x.le
  · rw [decide_eq_true hm] at HS
    have HR : Hid (∀ W, Below w.heap.size w W → LeaA w W x e) := by
      intro W hW
      have e1 : leaseG x.le e = x.le := by unfold leaseG; exact if_pos hm
      refine ⟨x.lp, x.lc, ?_, Turn.of_below hW⟩
      rw [e1]
      exact ⟨HF.out.blk.below hW, HF.out.own.below hW, fun _ hk => Or.inl hk⟩
    obtain ⟨n, hn⟩ : ∃ n, x.le.length = n := ⟨_, rfl⟩
    obtain ⟨ps, hps⟩ : ∃ ps, posG x.le e = ps := ⟨_, rfl⟩
    rw [hn, hps] at HS
    rw [hn] at c10
    clear h hl hs hm hglt hn hps HF
    go_enter Tryz.func113, Tryz.ntmps113
    go_wp2_with fail
    refine HS.out.mono ?_
    rintro en w1 ⟨rfl, hb1⟩
    have HB1 := Lib.hid hb1
    clear hb1
    go_wp2_with fail
    refine bodyPost_end (results_none rfl _ _ _) rfl ?_
    exact ⟨rfl, HR.out _ HB1.out⟩
  · rw [decide_eq_false hm] at HS
    have HM := Lib.hid hm
    have HIN : Hid (∀ W, Below w.heap.size w W → Calls Tryz.prog 140 #[.slice x.lp x.le.length x.lc, .int .i64 (posG x.le e : Nat), .slice (some ⟨W.heap.size, 0, none⟩) 1 1] (W.alloc (.cells #[.int .i64 e] 3)) fun en w' => ∃ v, en = .returned v ∧ InsA (W.alloc (.cells #[.int .i64 e] 3)) w' x.lp x.le e v) := by
      intro W hW
      have hb := hW.alloc hW.size (.cells #[.int .i64 e] 3)
      refine insert_c e (HF.out.own.below hb).le HL.out W.heap.size (blk_new W _ _ _ rfl) fun b hb2 e2 => ?_
      have h2 := (HF.out.own.le.lt b (by unfold DF.lv; rw [hb2]; rfl)).2
      have := hW.size
      omega
    have HFIN : Hid (∀ W w2 v, Below w.heap.size w W → InsA (W.alloc (.cells #[.int .i64 e] 3)) w2 x.lp x.le e v → (∃ P m C, v = .slice P m C) ∧ w2.cell? ⟨x.g, 10, none⟩ = some (.slice x.lp x.le.length x.lc) ∧ w2.frozen? ⟨x.g, 10, none⟩ = false ∧ LeaA w (w2.setCell ⟨x.g, 10, none⟩ v) x e) := by
      intro W w2 v hW hi
      obtain ⟨a1, a2⟩ := HF.out.leased (hW.alloc hW.size _) hi HSS.out HM.out
      refine ⟨?_, a1.cell 10, a1.frozen 10, a2⟩
      rcases hi.own.2 with ⟨h1, _⟩ | ⟨g, cap, cur, h1, _⟩
      · exact ⟨_, _, _, h1⟩
      · exact ⟨_, _, _, h1⟩
    obtain ⟨n, hn⟩ : ∃ n, x.le.length = n := ⟨_, rfl⟩
    obtain ⟨ps, hps⟩ : ∃ ps, posG x.le e = ps := ⟨_, rfl⟩
    rw [hn, hps] at HS HIN
    rw [hn] at c10 HFIN
    clear h hl hs hm hn hps HF HM HSS HL
    go_enter Tryz.func113, Tryz.ntmps113
    go_wp2_with fail
    refine HS.out.mono ?_
    rintro en w1 ⟨rfl, hb1⟩
    have HB1 := Lib.hid hb1
    have d10 : w1.cell? ⟨x.g, 10, none⟩ = some (.slice x.lp n x.lc) := (hb1.cell (p := ⟨x.g, 10, none⟩) hglt).trans c10
    clear hb1 c10
    go_wp2_with fail
    refine (HIN.out w1 HB1.out).mono ?_
    rintro en w2 ⟨v, rfl, hi⟩
    obtain ⟨⟨P4, m4, C4, rfl⟩, k1, k2, k3⟩ := HFIN.out w1 w2 v HB1.out hi
    have HK := Lib.hid k3
    clear hi k3 d10
    go_wp2_with fail
    refine bodyPost_end (results_none rfl _ _ _) rfl ?_
    exact ⟨rfl, HK.out⟩
end Go.Proofs.YthagdkipipldlaaGreatDoor.gra
