/- The contracts of the reference's Read at every kind, and Same. -/
import Derived.Test.YtpffebcaalbhjaaDoorWirF
namespace Go.Proofs.YtpffebcaalbhjaaDoor.wir
open Go.RowKit
open Go.Proofs.YtpffebcaalbhjaaDoor.oct Go.Proofs.YtpffebcaalbhjaaDoor.ref Go.Proofs.YtpffebcaalbhjaaDoor.rows Go.Proofs.YtpffebcaalbhjaaDoor.rowg
open Go.Lib (byteCells)

theorem rread_c (x : RV) (k : Int) (w : World) (hx : x.ok w) :
    Calls Tryd.prog 19 #[x.val, .int .i64 k] w fun e w' => ReadA w w' x (readS k x.st) e := by
  by_cases h0 : k = 0
  · subst h0; exact rread0_c x w hx
  · by_cases h1 : k = 1
    · subst h1; exact rread1_c x w hx
    · by_cases h2 : k = 2
      · subst h2; exact rread2_c x w hx
      · by_cases h3 : k = 3
        · subst h3; exact rread3_c x w hx
        · by_cases h4 : k = 4
          · subst h4; exact rread4_c x w hx
          · exact rreadx_c x k w hx h0 h1 h2 h3 h4
theorem put_eq {x y : PutA} : x.put = y.put ↔ x.k = y.k ∧ x.n = y.n ∧ x.s = y.s ∧ x.l = y.l := by
  unfold PutA.put
  constructor
  · intro h
    injection h with a b c d
    exact ⟨a, b, c, d⟩
  · rintro ⟨a, b, c, d⟩
    rw [a, b, c, d]
theorem take_eq_succT {l m : List T} {k : Nat} (h1 : k < l.length) (h2 : k < m.length) : l.take (k + 1) = m.take (k + 1) ↔ l.take k = m.take k ∧ l[k] = m[k] := by
  rw [List.take_succ_eq_append_getElem h1, List.take_succ_eq_append_getElem h2]
  constructor
  · intro h
    obtain ⟨e1, e2⟩ := List.append_inj h (by simp; omega)
    exact ⟨e1, by simpa using e2⟩
  · rintro ⟨e1, e2⟩; rw [e1, e2]
theorem wbelow_drewN {B : Nat} {w w' : World} (h : Below B w w') : ∀ n, Below B w (w'.drewN n)
  | 0 => h
  | _ + 1 => ⟨h.os, h.tape, h.output, h.size, h.block⟩
set_option maxRecDepth 100000 in
set_option maxHeartbeats 4000000 in
theorem psame_c (x y : PutA) (w : World) (hx : GoodP w x) (hy : GoodP w y) :
    Calls Tryd.prog 20 #[.agg (penc x).toArray, .agg (penc y).toArray] w fun e w' => e = .returned (.bool (decide (x.put = y.put))) ∧ Below w.heap.size w w' := by
  have hAB := ((Below.refl w.heap.size w).alloc (Nat.le_refl _) (.cells #[.int .i64 x.k, .int .i64 x.n, .string ⟨x.s.toArray⟩, .slice x.p x.l.length x.c] 43)).alloc (by simp) (.cells #[.int .i64 y.k, .int .i64 y.n, .string ⟨y.s.toArray⟩, .slice y.p y.l.length y.c] 43)
  have HAB := Lib.hid hAB
  have HXR := Lib.hid hx.row
  have HYR := Lib.hid hy.row
  have hxm := hx.many
  obtain ⟨r, hr⟩ : ∃ r, decide (x.put = y.put) = r := ⟨_, rfl⟩
  have HD : Hid (r = decide (x.k = y.k ∧ x.n = y.n ∧ x.s = y.s ∧ x.l = y.l)) := by show _ = _; rw [← hr]; exact decide_eq_decide.2 put_eq
  rw [hr]
  unfold penc
  clear hr hx hy hAB
  by_cases hk : x.k = y.k
  · have i1 : (x.k != y.k) = false := by rw [hk]; simp
    by_cases hn : x.n = y.n
    · have i2 : (x.n != y.n) = false := by rw [hn]; simp
      by_cases hs : x.s = y.s
      · have i3 : (x.s == y.s) = true := by rw [hs]; simp
        by_cases hl : x.l.length = y.l.length
        · have i4 : ((x.l.length : Int) != (y.l.length : Int)) = false := by rw [hl]; simp
          have HD2 : Hid (r = decide (x.l = y.l)) := by show _ = _; rw [HD.out]; exact decide_eq_decide.2 ⟨fun h => h.2.2.2, fun h => ⟨hk, hn, hs, h⟩⟩
          have HL := Lib.hid hl
          have HB0 : Hid (Blk ((w.alloc (.cells #[.int .i64 x.k, .int .i64 x.n, .string ⟨x.s.toArray⟩, .slice x.p x.l.length x.c] 43)).alloc (.cells #[.int .i64 y.k, .int .i64 y.n, .string ⟨y.s.toArray⟩, .slice y.p y.l.length y.c] 43)) w.heap.size 43 [.int .i64 x.k, .int .i64 x.n, .string ⟨x.s.toArray⟩, .slice x.p x.l.length x.c]) := blk_old (blk_new w _ _ _ rfl) _
          have HB1 : Hid (Blk ((w.alloc (.cells #[.int .i64 x.k, .int .i64 x.n, .string ⟨x.s.toArray⟩, .slice x.p x.l.length x.c] 43)).alloc (.cells #[.int .i64 y.k, .int .i64 y.n, .string ⟨y.s.toArray⟩, .slice y.p y.l.length y.c] 43)) (w.heap.size + 1) 43 [.int .i64 y.k, .int .i64 y.n, .string ⟨y.s.toArray⟩, .slice y.p y.l.length y.c]) := by
            have h := blk_new (w.alloc (.cells #[.int .i64 x.k, .int .i64 x.n, .string ⟨x.s.toArray⟩, .slice x.p x.l.length x.c] 43)) #[.int .i64 y.k, .int .i64 y.n, .string ⟨y.s.toArray⟩, .slice y.p y.l.length y.c] 43 _ rfl
            rwa [show (w.alloc (.cells #[.int .i64 x.k, .int .i64 x.n, .string ⟨x.s.toArray⟩, .slice x.p x.l.length x.c] 43)).heap.size = w.heap.size + 1 by simp] at h
          clear HD hk hn hs hl
          go_enter Tryd.func20, Tryd.ntmps20
          go_wp2_with fail
          clear i1 i2 i3 i4
          go_loopg [5] x.l.length (fun g s5 wx => ∃ i : Nat, i + g = x.l.length ∧ s5 = .int .i64 (i : Int) ∧ Hid (x.l.take i = y.l.take i) ∧ Blk wx w.heap.size 43 [.int .i64 x.k, .int .i64 x.n, .string ⟨x.s.toArray⟩, .slice x.p x.l.length x.c] ∧ Blk wx (w.heap.size + 1) 43 [.int .i64 y.k, .int .i64 y.n, .string ⟨y.s.toArray⟩, .slice y.p y.l.length y.c] ∧ Below w.heap.size w wx)
          case atStart => exact ⟨0, by omega, rfl, rfl, HB0.out, HB1.out, HAB.out⟩
          case round =>
            clear HB0 HB1 HAB
            obtain ⟨i, hig, rfl, HT, Z0, Z1, ZB⟩ := hrel
            have c0 := Z0.cell 3
            have c1 := Z1.cell 3
            rcases gk with _ | g
            · have HR : Hid (r = true) := by
                have h := HT.out
                have e : i = x.l.length := by omega
                rw [e, List.take_length, HL.out, List.take_length] at h
                show _ = _
                rw [HD2.out, decide_eq_true h]
              have hi : ¬ ((i : Int) < (x.l.length : Int)) := by omega
              go_wp2_with fail
              go_ret
              exact ⟨ret_bool HR.out.symm, ZB⟩
            · have hi : (i : Int) < (x.l.length : Int) := by omega
              have hil : i < x.l.length := by omega
              have HJL : Hid (i < y.l.length) := by show _ < _; rw [← HL.out]; exact hil
              have hjl : i < y.l.length := HJL.out
              have hjI : (i : Int) < (y.l.length : Int) := by omega
              obtain ⟨b1, o1, e1, f1⟩ := ins_cell HXR.out i hil
              obtain ⟨b2, o2, e2, f2⟩ := ins_cell HYR.out i hjl
              have g1 := (ZB.cell (p := ⟨b1, o1 + i, none⟩) (cell_lt f1)).trans f1
              have g2 := (ZB.cell (p := ⟨b2, o2 + i, none⟩) (cell_lt f2)).trans f2
              rw [e1] at Z0 c0
              rw [e2] at Z1 c1
              have HTS := Lib.hid (take_eq_succT hil hjl)
              obtain ⟨u1, hu1⟩ : ∃ u, x.l[i] = u := ⟨_, rfl⟩
              obtain ⟨u2, hu2⟩ : ∃ u, y.l[i] = u := ⟨_, rfl⟩
              rw [hu1, hu2] at HTS
              rw [hu1] at g1
              rw [hu2] at g2
              have HX1 := Lib.hid e1
              have HX2 := Lib.hid e2
              clear f1 f2 hu1 hu2 e1 e2
              by_cases hu : u1 = u2
              · have i5 : (u1 == u2) = true := by rw [hu]; simp
                have HN : Hid (x.l.take (i + 1) = y.l.take (i + 1)) := HTS.out.2 ⟨HT.out, hu⟩
                clear hu
                go_wp2_with fail
                go_quiet (fail)
                have Z0 := Z0.drewN nq
                have Z1 := Z1.drewN nq
                have ZB := wbelow_drewN ZB nq
                obtain ⟨wn, hwn⟩ : ∃ wn, wn = wr.drewN nq := ⟨_, rfl⟩
                rw [← hwn] at Z0 Z1 ZB ⊢
                clear hwn
                go_wp2_with fail
                go_roundg g
                case measure => omega
                case rel => exact ⟨i + 1, by omega, by go_num, HN, by rw [HX1.out]; exact Z0, by rw [HX2.out]; exact Z1, ZB⟩
              · have i5 : (u1 == u2) = false := by rw [beq_eq_false_iff_ne]; exact hu
                have HR : Hid (r = false) := by
                  show _ = _
                  rw [HD2.out, decide_eq_false]
                  intro h
                  exact hu (HTS.out.1 (by rw [h])).2
                clear hu
                go_wp2_with fail
                go_quiet (fail)
                have ZB := wbelow_drewN ZB nq
                obtain ⟨wn, hwn⟩ : ∃ wn, wn = wr.drewN nq := ⟨_, rfl⟩
                rw [← hwn] at ZB ⊢
                clear hwn
                go_wp2_with fail
                go_ret
                exact ⟨ret_bool HR.out.symm, ZB⟩
        · have i4 : ((x.l.length : Int) != (y.l.length : Int)) = true := by rw [bne_iff_ne]; omega
          have HR : Hid (r = false) := by show _ = _; rw [HD.out, decide_eq_false]; rintro ⟨_, _, _, h⟩; exact hl (by rw [h])
          clear HD hk hn hs hl
          go_enter Tryd.func20, Tryd.ntmps20
          go_wp2_with fail
          go_ret
          exact ⟨ret_bool HR.out.symm, HAB.out⟩
      · have i3 : (x.s == y.s) = false := by rw [beq_eq_false_iff_ne]; exact hs
        have HR : Hid (r = false) := by show _ = _; rw [HD.out, decide_eq_false]; rintro ⟨_, _, h, _⟩; exact hs h
        clear HD hk hn hs
        go_enter Tryd.func20, Tryd.ntmps20
        go_wp2_with fail
        go_ret
        exact ⟨ret_bool HR.out.symm, HAB.out⟩
    · have i2 : (x.n != y.n) = true := by rw [bne_iff_ne]; exact hn
      have HR : Hid (r = false) := by show _ = _; rw [HD.out, decide_eq_false]; rintro ⟨_, h, _, _⟩; exact hn h
      clear HD hk hn
      go_enter Tryd.func20, Tryd.ntmps20
      go_wp2_with fail
      go_ret
      exact ⟨ret_bool HR.out.symm, HAB.out⟩
  · have i1 : (x.k != y.k) = true := by rw [bne_iff_ne]; exact hk
    have HR : Hid (r = false) := by show _ = _; rw [HD.out, decide_eq_false]; rintro ⟨h, _, _, _⟩; exact hk h
    clear HD hk
    go_enter Tryd.func20, Tryd.ntmps20
    go_wp2_with fail
    go_ret
    exact ⟨ret_bool HR.out.symm, HAB.out⟩
end Go.Proofs.YtpffebcaalbhjaaDoor.wir
