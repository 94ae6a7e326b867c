/- What is written is a right frame and is read (plain). -/
import Derived.Test.YtpffebcaalbhjaaDoorWirLz
namespace Go.Proofs.YtpffebcaalbhjaaDoor.wir
open Go.RowKit
open Go.Proofs.YtpffebcaalbhjaaDoor.oct Go.Proofs.YtpffebcaalbhjaaDoor.ref Go.Proofs.YtpffebcaalbhjaaDoor.rows Go.Proofs.YtpffebcaalbhjaaDoor.rowg Go.Proofs.YtpffebcaalbhjaaDoor.crc
open Go.Lib (byteCells)

/-- a frame is right -/
theorem open_frame {t : T} (h : t.length ≤ 65536) : openE (frameT t) = 0 := by
  have h1 : frameT t = fourT t.length ++ (fourT (more 0 t) ++ t) := by unfold frameT; rw [List.append_assoc]
  have h2 : saidT (frameT t) = t.length := by rw [h1]; exact said_four _ _ (by omega)
  have h3 : (frameT t).drop 4 = fourT (more 0 t) ++ t := by rw [h1]; exact List.drop_left' (fourT_len _)
  have h4 : saidT ((frameT t).drop 4) = more 0 t := by rw [h3]; exact said_four _ _ (more_lt (by decide) t)
  have h5 := frameT_len t
  unfold openE
  rw [h2, h4, frame_tail, h5, if_neg (by omega), if_neg (by omega), if_neg (by omega), if_neg (by omega), if_neg (fun h => h rfl)]
theorem putB_le {x : Put} {l : List Put} (h : x ∈ l) : (putB x).length ≤ (bytesB l).length := by
  obtain ⟨a, b, rfl⟩ := List.append_of_mem h
  unfold bytesB
  simp only [List.flatMap_append, List.flatMap_cons, List.length_append]
  omega
theorem text_le {y : T} {l : List T} (h : y ∈ l) : y.length ≤ (l.flatMap textB).length := by
  obtain ⟨a, b, rfl⟩ := List.append_of_mem h
  simp only [List.flatMap_append, List.flatMap_cons, List.length_append]
  unfold textB
  rw [List.length_append]
  omega
theorem bad_of {x : Put} {l : List Put} (h : x ∈ l) (hb : badB l = false) : putBad x = false := by
  unfold badB at hb
  rw [List.any_eq_false] at hb
  have := hb x h
  simpa using this
/-- what was written into a frame is in form -/
theorem put_ok {w : World} {x : PutA} (hg : GoodP w x) (hl : (putB x.put).length ≤ 65536) (hb : putBad x.put = false) : PutOk x.put := by
  refine ⟨hg.ints, fun h1 => ?_, fun h4 y hy => ?_⟩
  · unfold putB at hl
    rw [if_neg (by rw [h1]; decide), if_pos h1] at hl
    unfold textB at hl
    rw [List.length_append] at hl
    omega
  · unfold putBad at hb
    have h5 : x.put.l.length ≤ 4096 := by
      rw [Bool.or_eq_false_iff] at hb
      have h6 := hb.2
      rw [h4] at h6
      simp at h6
      exact h6
    unfold putB at hl
    rw [if_neg (by rw [h4]; decide), if_neg (by rw [h4]; decide), if_neg (by rw [h4]; decide), if_neg (by rw [h4]; decide), if_pos h4, if_pos h5, List.length_append] at hl
    have := text_le hy
    omega
theorem write_ok {l : List Put} (h : (writeT l).1 = 0) : badB l = false ∧ (bytesB l).length ≤ 65536 ∧ writeT l = (0, frameT (bytesB l)) := by
  unfold writeT at h ⊢
  cases hb : badB l with
  | true => rw [hb] at h; cases h
  | false =>
    rw [hb, if_neg (by decide)] at h
    rw [if_neg (by decide)]
    by_cases hl : 65536 < (bytesB l).length
    · rw [if_pos hl] at h; cases h
    · exact ⟨rfl, by omega, if_neg hl⟩
theorem write_no {l : List Put} (h : (writeT l).1 ≠ 0) : (writeT l).2 = [] := by
  unfold writeT at h ⊢
  split
  · rfl
  · rename_i hb
    rw [if_neg hb] at h
    split
    · rfl
    · rename_i hl
      rw [if_neg hl] at h
      exact absurd rfl h
theorem bytes_drop (l : List PutA) (i : Nat) (h : i < l.length) : bytesB ((l.drop i).map PutA.put) = putB (l[i]).put ++ bytesB ((l.drop (i + 1)).map PutA.put) := by
  rw [List.drop_eq_getElem_cons h]
  unfold bytesB
  rw [List.map_cons, List.flatMap_cons]
/-- what stands next is what was put -/
theorem read_at {w : World} {l : List PutA} {i : Nat} (h : i < l.length) (hg : GoodP w l[i]) (hb : badB (l.map PutA.put) = false) (hl : (bytesB (l.map PutA.put)).length ≤ 65536) :
    readS (l[i]).k (.ok (bytesB ((l.drop i).map PutA.put))) = (seen (l[i]).put, .ok (bytesB ((l.drop (i + 1)).map PutA.put))) := by
  have hm : (l[i]).put ∈ l.map PutA.put := List.mem_map.2 ⟨_, List.getElem_mem h, rfl⟩
  rw [bytes_drop l i h]
  exact read_back (x := (l[i]).put) _ (put_ok hg (Nat.le_trans (putB_le hm) hl) (bad_of hm hb)) (bad_of hm hb)
end Go.Proofs.YtpffebcaalbhjaaDoor.wir
