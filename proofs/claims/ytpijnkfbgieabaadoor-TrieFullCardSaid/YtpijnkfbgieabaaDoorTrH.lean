/- The developers' each: a closure called with every pair. No condition. -/
import Derived.Test.YtpijnkfbgieabaaDoorTrG
namespace Go.Proofs.YtpijnkfbgieabaaDoor.tri
open Go.RowKit
open Go.Proofs.YtpijnkfbgieabaaDoor.oct Go.Proofs.YtpijnkfbgieabaaDoor.ref Go.Proofs.YtpijnkfbgieabaaDoor.rows Go.Proofs.YtpijnkfbgieabaaDoor.rowg Go.Proofs.YtpijnkfbgieabaaDoor.trn Go.Proofs.YtpijnkfbgieabaaDoor.qut
open Go.Proofs.YtpijnkfbgieabaaDoor.sha (digest digest_len dval Tabs wpList_index_row)
open Go.Lib (byteCells)

/-- the order in which they come -/
def ordP : Nat → Nat → List Pr → List Pr
  | 0, _, l => l
  | f + 1, d, l => if l.length ≤ 1 then l else (List.range 16).flatMap fun k => ordP f (d + 1) (sub l d k)
theorem ordP_mem : ∀ (f d : Nat) (l : List Pr) (x : Pr), x ∈ ordP f d l ↔ x ∈ l
  | 0, _, _, _ => Iff.rfl
  | f + 1, d, l, x => by
    unfold ordP
    by_cases h : l.length ≤ 1
    · rw [if_pos h]
    · rw [if_neg h, List.mem_flatMap]
      constructor
      · rintro ⟨k, _, hk⟩
        exact (sub_mem.1 ((ordP_mem f _ _ x).1 hk)).1
      · intro hx
        exact ⟨nib x.n d, List.mem_range.2 (nibW_lt _ _), (ordP_mem f _ _ x).2 (sub_mem.2 ⟨hx, rfl⟩)⟩
/-- what is asked of the closure: R of the pairs that it has been called with -/
structure Doer (g : FuncId) (cb : Array Value) (w : World) (S : Nat → Prop) (R : List Pr → World → Prop) : Prop where
  enters : ∀ args w, (callFunc g args).run Tryd.prog w = .ok (.enter g args) w
  call : ∀ done y W, R done W → Calls Tryd.prog g (#[.agg #[.string ⟨y.n.toArray⟩, .string ⟨y.v.toArray⟩]] ++ cb) W fun e w' => e = .returned (.tuple #[]) ∧ R (done ++ [y]) w'
  keep : ∀ done W W', R done W → Below W.heap.size W W' → R done W'
  turn : ∀ done W, R done W → Turn S w W
def EachC (g : FuncId) (cb : Array Value) (R : List Pr → World → Prop) (P : Value) (o : List Pr) (done : List Pr) (W : World) : Prop :=
  Calls Tryd.prog 64 #[P, .func (.func g) #[] cb] W fun e w' => e = .returned (.tuple #[]) ∧ R (done ++ o) w'
theorem each_nil (g : FuncId) (cb : Array Value) (R : List Pr → World → Prop) (done : List Pr) (W : World) (h : R done W) : EachC g cb R (.pointer none) [] done W := by
  have HR := Lib.hid h
  unfold EachC
  clear h
  go_enter Tryd.func64, Tryd.ntmps64
  go_wp2_with fail
  refine bodyPost_ret (results_none rfl _ _ _) rfl ?_
  exact ⟨rfl, by rw [List.append_nil]; exact HR.out⟩
theorem take_snoc {l : List Pr} {i : Nat} (h : i < l.length) (done : List Pr) : done ++ l.take (i + 1) = done ++ l.take i ++ [l[i]] := by
  rw [List.take_succ_eq_append_getElem h, List.append_assoc]
theorem flat_snoc (o : Nat → List Pr) (done : List Pr) (i : Nat) : done ++ (List.range (i + 1)).flatMap o = done ++ (List.range i).flatMap o ++ o i := by
  rw [List.range_succ, List.flatMap_append, List.append_assoc]
  simp
set_option maxRecDepth 100000 in
set_option maxHeartbeats 8000000 in
theorem each_b {w0 W0 : World} {b n cp : Nat} {l : List Pr} {p : Option Addr} {c : Nat → Option Nat} {S : Nat → Prop} {R : List Pr → World → Prop} {g : FuncId} {cb : Array Value} (D : Doer g cb w0 S R) (o : Nat → List Pr) (done : List Pr)
    (c0 : w0.cell? ⟨b, 33, none⟩ = some (.slice p n cp)) (hk : w0.rangeAt b 66 (kids c)) (hbl : b < w0.heap.size) (hbS : ¬ S b) (h : w0.ownsRow 0 44 2 (.slice p n cp) n (cells penc l)) (hoS : ∀ k, (Value.slice p n cp).ownBlock = some k → ¬ S k) (hl : l.length = n) (hn : n ≤ 8192)
    (hch : ∀ k, k < 16 → ∀ dn W, R dn W → EachC g cb R (nptr (c k)) (o k) dn W) (hR : R done W0) :
    EachC g cb R (.pointer (some ⟨b, 0, none⟩)) (l ++ (List.range 16).flatMap o) done W0 := by
  unfold EachC
  obtain ⟨O, hO⟩ : ∃ O, (List.range 16).flatMap o = O := ⟨_, rfl⟩
  rw [hO]
  have HOE := Lib.hid hO
  have c1 : W0.cell? ⟨b, 33, none⟩ = some (.slice p n cp) := (cell_turn (D.turn _ _ hR) hbl hbS).trans c0
  have HROW := Lib.hid h
  have HL := Lib.hid hl
  have HO := Lib.hid hoS
  have HCH := Lib.hid hch
  have HD := Lib.hid D
  have HR0 := Lib.hid hR
  have eg := D.enters
  have hxl := kids_len c
  have HXI : Hid (∀ i, i < 16 → (kids c)[i]? = some (nptr (c i))) := fun i hi => kids_at c hi
  obtain ⟨X, hX⟩ : ∃ X, kids c = X := ⟨_, rfl⟩
  rw [hX] at hxl HXI hk
  have hix : Hid ((Tryd.prog.info? 93).map (·.size) = some X.length) := by show _ = _; rw [hxl]; exact infoP
  have HKR : Hid (∀ dn W, R dn W → W.rangeAt b 66 X) := fun dn W hr j v hj => (cell_turn (HD.out.turn _ _ hr) hbl hbS).trans (hk j v hj)
  clear h hl hoS hch D hR c0 hO hk hX hxl hbl hbS
  go_enter Tryd.func64, Tryd.ntmps64
  go_wp2_with fail
  go_loopg [5, 15] n (fun gk _ s15 wy => ∃ i : Nat, i + gk = n ∧ s15 = .int .i64 (i : Int) ∧ Hid (R (done ++ l.take i) wy))
  case atStart => exact ⟨0, by omega, rfl, by show R _ _; rw [List.take_zero, List.append_nil]; exact HR0.out⟩
  case round =>
    obtain ⟨i, hig, rfl, HS⟩ := hrel
    clear HR0
    rcases gk with _ | gk
    · obtain rfl : n = i := by omega
      have HE : Hid (R (done ++ l) wr) := by
        have h := HS.out
        rw [← HL.out, List.take_length] at h
        exact h
      have HKW := Lib.hid (HKR.out _ _ HE.out)
      clear HS c1
      go_wp2_with (with_reducible refine wpList_load_mid rfl 93 (.tmp 25) rfl b 66 rfl X _ HKW.out Tryd.underlying93 rfl hix.out ?_)
      clear HKW HROW HO
      go_loopg [7, 27] 16 (fun k2 _ s27 wy => ∃ i : Nat, i + k2 = 16 ∧ s27 = .int .i64 (i : Int) ∧ Hid (R (done ++ l ++ (List.range i).flatMap o) wy))
      case atStart => exact ⟨0, rfl, rfl, by show R _ _; rw [List.range_zero, List.flatMap_nil, List.append_nil]; exact HE.out⟩
      case round =>
        clear HE
        obtain ⟨i, hik, rfl, HS⟩ := hrel
        rcases gk with _ | k2
        · obtain rfl : i = 16 := by omega
          go_wp2_with fail
          go_end0
          exact ⟨rfl, by rw [← List.append_assoc, ← HOE.out]; exact HS.out⟩
        · have hi16 : i < 16 := by omega
          have hiI : (i : Int) < 16 := by omega
          have hxi := HXI.out i hi16
          have hc := HCH.out i hi16 _ _ HS.out
          have HFS := Lib.hid (flat_snoc o (done ++ l) i)
          unfold EachC at hc
          rw [← HFS.out] at hc
          obtain ⟨V, hV⟩ : ∃ V, nptr (c i) = V := ⟨_, rfl⟩
          rw [hV] at hxi hc
          have HC := Lib.hid hc
          clear hV hc HFS HS
          go_wp2_with (first
            | (with_reducible refine wpList_index_row rfl 93 (.tmp 26) (.tmp 27) rfl 82 16 _ X i _ rfl rfl Tryd.underlying93 Tryd.underlying82 rfl infoPt hi16 hxi ?_)
            | (go_at_call 64; refine HC.out.mono ?_; rintro e w5 ⟨rfl, hr5⟩; have HR5 := Lib.hid hr5; clear hr5))
          go_roundg k2
          case measure => omega
          case rel => exact ⟨i + 1, by omega, by go_num, HR5⟩
    · have hin : i < n := by omega
      have hinI : (i : Int) < n := by omega
      have hil : i < l.length := by rw [HL.out]; exact hin
      obtain ⟨b2, e1, q1, q2⟩ := penc_at (l := l) (by rw [HL.out]; exact own_turn HROW.out (HD.out.turn _ _ HS.out) HO.out) i hil
      have hp := slot_row HROW.out e1
      subst hp
      have HTS := Lib.hid (take_snoc hil done)
      obtain ⟨x, hx⟩ : ∃ x, l[i] = x := ⟨_, rfl⟩
      rw [hx] at q1 q2 HTS
      unfold txt at q1 q2
      clear hx e1 c1
      go_upto_region 4 with fail
      have hbq := (Below.refl wr.heap.size wr).alloc (Nat.le_refl _) (.cells #[.string ⟨x.n.toArray⟩, .string ⟨x.v.toArray⟩] 44)
      have hBq := blk_new wr #[.string ⟨x.n.toArray⟩, .string ⟨x.v.toArray⟩] 44 [.string ⟨x.n.toArray⟩, .string ⟨x.v.toArray⟩] rfl
      have hsq := HD.out.keep _ _ _ HS.out hbq
      obtain ⟨wq, hwq⟩ : ∃ wq, wr.alloc (.cells #[.string ⟨x.n.toArray⟩, .string ⟨x.v.toArray⟩] 44) = wq := ⟨_, rfl⟩
      rw [hwq] at hbq hBq hsq ⊢
      obtain ⟨g7, hg7⟩ : ∃ g7, wr.heap.size = g7 := ⟨_, rfl⟩
      rw [hg7] at hBq ⊢
      have cA := hBq.cell 0
      have cB := hBq.cell 1
      change wq.cell? ⟨g7, 0, none⟩ = some (.string ⟨x.n.toArray⟩) at cA
      change wq.cell? ⟨g7, 1, none⟩ = some (.string ⟨x.v.toArray⟩) at cB
      have hcall := HD.out.call _ x _ hsq
      rw [← HTS.out] at hcall
      have HC := Lib.hid hcall
      clear hwq hbq hBq hsq hg7 HS q1 q2 hcall
      go_wp2_with (go_at_fn g; refine HC.out.mono ?_; rintro e w5 ⟨rfl, hr5⟩; have HR5 := Lib.hid hr5; clear hr5)
      go_roundg gk
      case measure => omega
      case rel => exact ⟨i + 1, by omega, by go_num, HR5⟩
/-- every pair -/
theorem each_c {g : FuncId} {cb : Array Value} {w : World} {S F : Nat → Prop} {R : List Pr → World → Prop} (D : Doer g cb w S R) (hd : ∀ k, F k → ¬ S k) :
    ∀ (f d : Nat) (p : Option Nat) (l : List Pr) (done : List Pr) (W : World), Nd w F f d p l → l.length ≤ 8192 → R done W → EachC g cb R (nptr p) (ordP f d l) done W := by
  have hleaf : ∀ (b : Nat) (v : Value) (way : T) (l done : List Pr) (W : World), LeafB w F b l v way → l.length ≤ 8192 → R done W → EachC g cb R (nptr (some b)) l done W := by
    intro b v way l done W hl hn hR
    obtain ⟨pv, cv, rfl⟩ := Go.Proofs.YtpijnkfbgieabaaDoor.cln.own_slice hl.own
    have h := each_b (W0 := W) D (fun _ => []) done hl.nb.row hl.nb.kidR hl.nb.lt (hd _ hl.nb.foot) hl.own (fun k hk => hd _ (hl.of k hk)) rfl hn (fun k hk dn W hr => each_nil g cb R dn W hr) hR
    have e : (List.range 16).flatMap (fun _ => ([] : List Pr)) = [] := by rfl
    rw [e, List.append_nil] at h
    exact h
  intro f
  induction f with
  | zero =>
    intro d p l done W h hn hR
    rcases h with ⟨rfl, rfl⟩ | ⟨b, rfl, v, way, hl⟩
    · exact each_nil g cb R done W hR
    · exact hleaf b v way l done W hl hn hR
  | succ f ih =>
    intro d p l done W h hn hR
    rcases h with ⟨rfl, rfl⟩ | ⟨b, rfl, ⟨v, way, hl⟩, h1⟩ | ⟨b, c, rfl, h2, hnb, hk⟩
    · rw [show ordP (f + 1) d [] = [] by unfold ordP; rw [if_pos (by simp)]]
      exact each_nil g cb R done W hR
    · rw [show ordP (f + 1) d l = l by unfold ordP; rw [if_pos (by omega)]]
      exact hleaf b v way l done W hl hn hR
    · rw [show ordP (f + 1) d l = [] ++ (List.range 16).flatMap (fun k => ordP f (d + 1) (sub l d k)) by rw [List.nil_append]; conv => lhs; unfold ordP; rw [if_neg (by omega)]]
      exact each_b (W0 := W) (l := []) D (fun k => ordP f (d + 1) (sub l d k)) done hnb.row hnb.kidR hnb.lt (hd _ hnb.foot) ⟨rfl, Or.inl ⟨rfl, rfl⟩⟩ (fun k hk => by cases hk) rfl (by omega)
        (fun k hk2 dn W2 hr => ih (d + 1) (c k) (sub l d k) dn W2 (hk k hk2) (Nat.le_trans (sub_len_le _ _ _) hn) hr) hR
end Go.Proofs.YtpijnkfbgieabaaDoor.tri
