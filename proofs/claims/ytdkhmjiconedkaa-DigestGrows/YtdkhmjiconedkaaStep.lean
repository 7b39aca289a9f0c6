/- The code's lastStep and sumBehind, and Sum. -/
import Derived.Test.YtdkhmjiconedkaaLast
import Derived.Test.YtdkhmjiconedkaaPad
import Derived.Deep.RegionWith
import Derived.Deep.MidRow
namespace Go.Proofs.Ytdkhmjiconedkaa
open Go.RowKit Go.Great

theorem size5 : (Try.prog.info? 5).map (·.size) = some 1 := by kernel_rfl
/-- copy of bytes into a block of bytes, from its first place on, that has room for all of them. -/
theorem copy_bytes (w : World) (ty : TypeId) (g cap a2 : Nat) (a : Option Addr) (L m : List Nat) (hf : fits w g L.length = true) (hr : rowOf w g = E8 L) (hv : BytesAt w (.slice a m.length a2) m) (hm : m.length ≤ L.length) :
    (Builtin.copy_ #[22, 22] ty #[.slice (some ⟨g, 0, none⟩) L.length cap, .slice a m.length a2]).run Try.prog w = .ok (.int .i64 (m.length : Int)) (w.setRow g (E8 (m ++ L.drop m.length))) := by
  obtain ⟨cs, t, e, es, er⟩ := fits_some hf
  obtain ⟨a', c', ev, hcap, hb⟩ := hv
  cases ev
  by_cases h0 : 0 < m.length
  · obtain ⟨b, o, rfl, hbl, hc⟩ := hb h0
    have hmin : m.length = Nat.min m.length L.length := (Nat.min_eq_left hm).symm
    have := run_copy_row (P := Try.prog) w 22 22 ty 5 g 0 L.length cap ⟨b, o, none⟩ m.length a2 cs t (m.map B8) Try.underlying22 size5 e (by rw [List.length_map]; exact hmin)
      (fun j v hj => by
        have hjl : j < m.length := by have := (List.getElem?_eq_some_iff.1 hj).1; simpa using this
        have hadd : (⟨b, o, none⟩ : Addr).add j = ⟨b, o + j, none⟩ := Addr.add_mid b o j
        rw [hadd, hc j hjl]
        rw [List.getElem?_map, List.getElem?_eq_getElem hjl] at hj
        simp at hj
        rw [← hj]; unfold B8 Sha.nth; rw [List.getElem?_eq_getElem hjl]; rfl)
      (by simp; rw [es]; omega) (fun v hv => by simp at hv; obtain ⟨x, -, rfl⟩ := hv; rfl)
    rw [this]
    have e2 : (cs.toList.take 0 ++ m.map B8 ++ cs.toList.drop (0 + (m.map B8).length)).toArray = E8 (m ++ L.drop m.length) := by
      rw [← er, hr]; simp [E8, List.map_drop]
    rw [e2]
    simp [goInt]
  · have hz : m = [] := List.length_eq_zero_iff.1 (by omega)
    subst hz
    rw [run_copy_none w 22 22 ty 5 _ _ _ _ _ _ Try.underlying22 size5 (by simp)]
    have e3 : w.setRow g (E8 ([] ++ L.drop ([] : List Nat).length)) = w := by
      simp only [List.nil_append, List.length_nil, List.drop_zero]
      rw [← hr, er]; exact setRow_self w g cs t (0, 0) e
    rw [e3]; rfl

@[go_sem] theorem E8_set128 (l : List Nat) (i : Nat) : (E8 l).setIfInBounds i (.int .u8 128) = E8 (l.set i 128) := E8_set l i 128
theorem bytesAt_row (w : World) (g : Nat) (L m : List Nat) (e cap : Nat) (hr : rowOf w g = E8 L) (hg : g < w.heap.size) (he : e ≤ L.length) (hcap : e ≤ cap) (hm : L.take e = m) : BytesAt w (.slice (some ⟨g, 0, none⟩) e cap) m := by
  have hl : m.length = e := by rw [← hm, List.length_take]; omega
  refine ⟨some ⟨g, 0, none⟩, cap, by rw [hl], by omega, fun _ => ⟨g, 0, rfl, hg, fun i hi => ?_⟩⟩
  rw [Nat.zero_add]
  refine cell_row _ _ _ _ ?_
  rw [hr, E8_get _ _ (by omega), ← hm, Sha.nth_take (by omega)]
theorem results_at {fn : Func} {p : Tmp} (h : fn.results = #[.cell p 25]) (tmps : Array Value) {b : Nat} (w : World) (hf : fits w b 32 = true) (hp : tmps.getD p undef = .pointer (some ⟨b, 0, none⟩)) {l : List Nat} (hl : l.length = 32) :
    (results fn tmps).run Try.prog (w.setRow b (E8 l)) = .ok (.agg (E8 l)) (w.setRow b (E8 l)) := res25 h hp (rowOf_setRow_at _ _ 32 _ hf) (by simp [hl])
def zs (n : Nat) : List Nat := List.replicate n 0
@[simp] theorem zs_length (n : Nat) : (zs n).length = n := by simp [zs]
theorem Z93_zs : Z93 = E8 (zs 128) := rfl
theorem mark_tail (r : List Nat) (hr : r.length < 64) : (r ++ (zs 128).drop r.length).set r.length 128 = r ++ [128] ++ List.replicate (127 - r.length) 0 := by
  unfold zs
  rw [List.drop_replicate, List.set_append_right _ _ (Nat.le_refl _), Nat.sub_self]
  obtain ⟨m, hm⟩ : ∃ m, 128 - r.length = m + 1 := ⟨127 - r.length, by omega⟩
  rw [hm, show 127 - r.length = m by omega, List.replicate_succ]
  simp
theorem count_cast (size i : Nat) : ((size : Int) * 8) / 2 ^ (8 * i) % 256 = ((8 * size / 2 ^ (8 * i) % 256 : Nat) : Int) := by
  have e : ((size : Int) * 8) / 2 ^ (8 * i) = ((8 * size / 2 ^ (8 * i) : Nat) : Int) := by push_cast; rw [Int.mul_comm]
  rw [e]; omega

set_option maxRecDepth 20000 in
set_option maxHeartbeats 1000000 in
theorem lastStep_any (s : Sha.St) (a : Option Addr) (cap : Nat) (r : List Nat) (size : Nat) (w : World) (hs : s.ok) (hv : BytesAt w (.slice a r.length cap) r) (hm : Sha.Bytes r) (hr : r.length < 64) (hsize : size ≤ 1099511627776) :
    Calls Try.prog 43 #[.agg (E32 s.list), .slice a r.length cap, .int .i64 (size : Int)] w fun e w' => e = .returned (.agg (E8 (Sha.out (Sha.blocks s (Sha.tail r (8 * size)) (Sha.endOf r.length / 64))))) ∧ Below w.heap.size w w' := by
  have hs8 := list_eight s
  have hb2 : Below w.heap.size w (((w.alloc (.cells (E32 s.list) 50)).alloc (.cells Z25 25)).alloc (.cells Z93 93)) := (((Below.refl _ _).alloc (Nat.le_refl _) _).alloc (by simp) _).alloc (by simp; omega) _
  have hcopy : ∀ ty, (Builtin.copy_ #[22, 22] ty #[.slice (some ⟨w.heap.size + 2, 0, none⟩) 128 128, .slice a r.length cap]).run Try.prog (((w.alloc (.cells (E32 s.list) 50)).alloc (.cells Z25 25)).alloc (.cells Z93 93))
      = .ok (.int .i64 (r.length : Int)) (((w.alloc (.cells (E32 s.list) 50)).alloc (.cells Z25 25)).alloc (.cells (E8 (r ++ (zs 128).drop r.length)) 93)) := fun ty => by
    have := copy_bytes (((w.alloc (.cells (E32 s.list) 50)).alloc (.cells Z25 25)).alloc (.cells Z93 93)) ty (w.heap.size + 2) 128 cap a (zs 128) r (by simp [go_sem]) (by simp [go_sem]; rfl) (hv.below hb2) (by simp; omega)
    rw [zs_length] at this
    rw [this]
    simp [go_sem]
  have hL : (r ++ (zs 128).drop r.length).length = 128 := by simp; omega
  have hmk := mark_tail r hr
  have hr128 : r.length < 128 := by omega
  generalize r ++ (zs 128).drop r.length = L0 at *
  have HMK : Hid (L0.set r.length 128 = r ++ [128] ++ List.replicate (127 - r.length) 0) := hmk
  clear hmk
  rcases Sha.endOf_cases r.length with ⟨h56, he⟩ | ⟨h56, he⟩
  all_goals
    rw [he]
    simp only [Nat.reduceDiv]
    obtain ⟨F, hF⟩ : ∃ F : Nat → List Nat, F = Sha.setTo (r ++ [128] ++ List.replicate (127 - r.length) 0) (Sha.endOf r.length) (8 * size) := ⟨_, rfl⟩
    have hF0 : L0.set r.length 128 = F 0 := by rw [hF, HMK.out]; rfl
    have hlen : ∀ i, (F i).length = 128 := fun i => by rw [hF, Sha.setTo_length]; simp; omega
    have HS : Hid (∀ i, (F i).set (Sha.endOf r.length - 1 - i) (8 * size / 2 ^ (8 * i) % 256) = F (i + 1)) := fun i => by rw [hF]; rfl
    have HE : Hid ((F 8).take (Sha.endOf r.length) = Sha.tail r (8 * size)) := by rw [hF]; exact Sha.setTo_tail r (8 * size) hr
    have HV : Hid (BytesAt w (.slice a r.length cap) r) := hv
    rw [he] at HS HE
    clear hF
    first
      | have hdec : decide ((56 : Int) < (r.length : Int) + 1) = true := by simp; omega
      | have hdec : decide ((56 : Int) < (r.length : Int) + 1) = false := by simp; omega
    go_enter Try.func43, Try.ntmps43
    go_wp2
    clear hcopy hF0 hb2
    go_loopw [23] (fun c wr => ∃ i n : Nat, i ≤ 8 ∧ c = .int .i64 (i : Int) ∧ wr = (((w.alloc (.cells (E32 s.list) 50)).alloc (.cells Z25 25)).alloc (.cells (E8 (F i)) 93)).drewN n) (fun c _ => 8 - (intOf c).toNat)
    case atStart => exact ⟨0, 0, by omega, rfl, rfl⟩
    case round =>
      obtain ⟨i, n, hi, rfl, rfl⟩ := hrel
      have hpl := hlen i
      by_cases hlt : i < 8
      · clear hlen
        have hx1 : 127 - i < 128 := by omega
        have hx2 : 63 - i < 128 := by omega
        go_wp2
        go_roundw
        case rel => exact ⟨i + 1, n, by omega, by go_num, by rw [← HS.out i, count_cast, E8_set]⟩
        case measure => simp [intOf]; omega
      · have hi' : i = 8 := by omega
        subst hi'
        clear hlen
        have htl : (Sha.tail r (8 * size)).length = Sha.endOf r.length := Sha.tail_length r _ hr
        rw [he] at htl
        have htb := Sha.tail_bytes hm (8 * size)
        have HT := HE.out
        generalize hTE : Sha.tail r (8 * size) = T at *
        have HTE := hide hTE
        clear hTE
        have hrow : rowOf (((w.alloc (.cells (E32 s.list) 50)).alloc (.cells Z25 25)).alloc (.cells (E8 (F 8)) 93)) w.heap.size = E32 s.list := by simp [go_sem]
        have hnT : T.length = 64 * (T.length / 64) := by omega
        have hmT : T.length ≤ 4611686018427387904 := by omega
        have hbW : ∀ k, Below w.heap.size w ((((w.alloc (.cells (E32 s.list) 50)).alloc (.cells Z25 25)).alloc (.cells (E8 (F 8)) 93)).drewN k) := fun k => below_drews ((((Below.refl _ _).alloc (Nat.le_refl _) _).alloc (by simp) _).alloc (by simp; omega) _) _
        have hfW : ∀ k, fits ((((w.alloc (.cells (E32 s.list) 50)).alloc (.cells Z25 25)).alloc (.cells (E8 (F 8)) 93)).drewN k) (w.heap.size + 1) 32 = true := fun k => by simp [go_sem]
        have hrW : ∀ k, rowOf ((((w.alloc (.cells (E32 s.list) 50)).alloc (.cells Z25 25)).alloc (.cells (E8 (F 8)) 93)).drewN k) (w.heap.size + 1 + 1) = E8 (F 8) := fun k => by simp [go_sem]
        have hzW : ∀ k, ((((w.alloc (.cells (E32 s.list) 50)).alloc (.cells Z25 25)).alloc (.cells (E8 (F 8)) 93)).drewN k).heap.size = w.heap.size + 3 := fun k => by simp
        have HbW := hide hbW
        have HfW := hide hfW
        have HrW := hide hrW
        have HzW := hide hzW
        have HnT := hide hnT
        have HTT := hide HT
        clear hbW hfW hrW hzW hnT HT
        go_wp2
        go_region_with (first
          | (go_at_call 38
             refine (addBlocks_any s _ T (T.length / 64) _ hs ?_ htb (unhide HnT) hmT).mono ?_
             · exact bytesAt_row _ _ (F 8) T _ _ (unhide HrW _) (by rw [unhide HzW]; omega) (by omega) (by omega) (unhide HTT)
             rintro e w5 ⟨rfl, hb5⟩
             have hz5 : w.heap.size + 3 ≤ w5.heap.size := by have := hb5.size; rw [unhide HzW] at this; exact this
             have hfit5 : fits w5 (w.heap.size + 1) 32 = true := by rw [below_fits hb5 (by rw [unhide HzW]; omega)]; exact unhide HfW _
             have hbel5 : Below w.heap.size w w5 := (unhide HbW _).trans (hb5.mono (by rw [unhide HzW]; omega))
             clear hb5)
          | (go_at_call 52
             refine (stateBytes_any _ _).mono ?_
             rintro e w6 ⟨rfl, hb6⟩
             have hfit6 : fits w6 (w.heap.size + 1) 32 = true := by rw [below_fits hb6 (by omega)]; exact hfit5
             have hbel6 : Below w.heap.size w w6 := hbel5.trans (hb6.mono (by omega))
             have hol := Sha.out_length (Sha.blocks s T 2)
             have hol1 := Sha.out_length (Sha.blocks s T 1)
             clear hb6))
        go_wp2
        refine bodyPost_ret (results_at Try.results43 _ _ hfit6 rfl (Sha.out_length _)) rfl ⟨by rw [unhide HTE], below_setRow hbel6 (by omega) _⟩
end Go.Proofs.Ytdkhmjiconedkaa
