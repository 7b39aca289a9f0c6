/- The code's lastStep and sumBehind, and Sum. -/
import Derived.Test.YtlbfcneboaihnabLast
import Derived.Test.YtlbfcneboaihnabK1
import Derived.Deep.RegionWith
import Derived.Deep.MidRow
namespace Go.Proofs.Ytlbfcneboaihnab
open Go.RowKit Go.Great
attribute [local go_sem] f_8 f_1024

theorem size5 : (Try.prog.info? 5).map (·.size) = some 1 := by kernel_rfl
/-- copy of bytes into a block of bytes, from its first place on, that has room for all of them. -/
theorem copy_bytes (w : World) (ty : TypeId) (g cap a2 : Nat) (a : Option Addr) (L m : List Nat) (hf : fits w g L.length = true) (hr : rowOf w g = E8 L) (hv : BytesAt w (.slice a m.length a2) m) (hm : m.length ≤ L.length) :
    (Builtin.copy_ #[23, 23] ty #[.slice (some ⟨g, 0, none⟩) L.length cap, .slice a m.length a2]).run Try.prog w = .ok (.int .i64 (m.length : Int)) (w.setRow g (E8 (m ++ L.drop m.length))) := by
  obtain ⟨cs, t, e, es, er⟩ := fits_some hf
  obtain ⟨a', c', ev, hcap, hb⟩ := hv
  cases ev
  by_cases h0 : 0 < m.length
  · obtain ⟨b, o, rfl, hbl, hc⟩ := hb h0
    have hmin : m.length = Nat.min m.length L.length := (Nat.min_eq_left hm).symm
    have := run_copy_row (P := Try.prog) w 23 23 ty 5 g 0 L.length cap ⟨b, o, none⟩ m.length a2 cs t (m.map B8) Try.underlying23 size5 e (by rw [List.length_map]; exact hmin)
      (fun j v hj => by
        have hjl : j < m.length := by have := (List.getElem?_eq_some_iff.1 hj).1; simpa using this
        have hadd : (⟨b, o, none⟩ : Addr).add j = ⟨b, o + j, none⟩ := Addr.add_mid b o j
        rw [hadd, hc j hjl]
        rw [List.getElem?_map, List.getElem?_eq_getElem hjl] at hj
        simp at hj
        rw [← hj]; unfold B8 Sha.nth; rw [List.getElem?_eq_getElem hjl]; rfl)
      (by simp; rw [es]; omega) (fun v hv => by simp at hv; obtain ⟨x, -, rfl⟩ := hv; rfl)
    rw [this]
    have e2 : (cs.toList.take 0 ++ m.map B8 ++ cs.toList.drop (0 + (m.map B8).length)).toArray = E8 (m ++ L.drop m.length) := by
      rw [← er, hr]; simp [E8, List.map_drop]
    rw [e2]
    simp [goInt]
  · have hz : m = [] := List.length_eq_zero_iff.1 (by omega)
    subst hz
    rw [run_copy_none w 23 23 ty 5 _ _ _ _ _ _ Try.underlying23 size5 (by simp)]
    have e3 : w.setRow g (E8 ([] ++ L.drop ([] : List Nat).length)) = w := by
      simp only [List.nil_append, List.length_nil, List.drop_zero]
      rw [← hr, er]; exact setRow_self w g cs t (0, 0) e
    rw [e3]; rfl

@[go_sem] theorem E8_set128 (l : List Nat) (i : Nat) : (E8 l).setIfInBounds i (.int .u8 128) = E8 (l.set i 128) := E8_set l i 128
theorem bytesAt_row (w : World) (g : Nat) (L m : List Nat) (e cap : Nat) (hr : rowOf w g = E8 L) (hg : g < w.heap.size) (he : e ≤ L.length) (hcap : e ≤ cap) (hm : L.take e = m) : BytesAt w (.slice (some ⟨g, 0, none⟩) e cap) m := by
  have hl : m.length = e := by rw [← hm, List.length_take]; omega
  refine ⟨some ⟨g, 0, none⟩, cap, by rw [hl], by omega, fun _ => ⟨g, 0, rfl, hg, fun i hi => ?_⟩⟩
  rw [Nat.zero_add]
  refine cell_row _ _ _ _ ?_
  rw [hr, E8_get _ _ (by omega), ← hm, Sha.nth_take (by omega)]
def zs (n : Nat) : List Nat := List.replicate n 0
@[simp] theorem zs_length (n : Nat) : (zs n).length = n := by simp [zs]
theorem Z101_zs : Z101 = E8 (zs 128) := rfl
theorem mark_tail (r : List Nat) (hr : r.length < 64) : (r ++ (zs 128).drop r.length).set r.length 128 = r ++ [128] ++ List.replicate (127 - r.length) 0 := by
  unfold zs
  rw [List.drop_replicate, List.set_append_right _ _ (Nat.le_refl _), Nat.sub_self]
  obtain ⟨m, hm⟩ : ∃ m, 128 - r.length = m + 1 := ⟨127 - r.length, by omega⟩
  rw [hm, show 127 - r.length = m by omega, List.replicate_succ]
  simp
theorem count_cast (size i : Nat) : ((size : Int) * 8) / 2 ^ (8 * i) % 256 = ((8 * size / 2 ^ (8 * i) % 256 : Nat) : Int) := by
  have e : ((size : Int) * 8) / 2 ^ (8 * i) = ((8 * size / 2 ^ (8 * i) : Nat) : Int) := by push_cast; rw [Int.mul_comm]
  rw [e]; omega

end Go.Proofs.Ytlbfcneboaihnab
