/- The walk of the law DigestSums. -/
import Derived.Test.YtdkhmjiconedkaaRefsum
namespace Go.Proofs.Ytdkhmjiconedkaa
open Go.RowKit Go.Great
namespace Helped
set_option maxRecDepth 20000 in
set_option maxHeartbeats 400000 in
theorem roomy_some2 (g o n cap : Nat) (b : List Nat) (w : World) (hn : b.length = n) (hv : BytesAt w (.slice (some ⟨g, o, none⟩) n cap) b) (h0 : 0 < n) (hmax : n ≤ 3000) :
    Calls Try.prog 9 #[.slice (some ⟨g, o, none⟩) n cap] w fun e w' => ∃ (q c : Nat) (R : List Nat), e = .returned (.slice (some ⟨q, 0, none⟩) (n + 1) c) ∧ w.heap.size ≤ q ∧ w'.heap[q]? = some (.cells (E8 (b ++ [171, 171] ++ R)) 5 (0, 0)) ∧ Below w.heap.size w w' ∧ n + 1 ≤ c := by
  subst hn
  go_enter Try.func9, Try.ntmps9
  go_wp2_with fail
  have hb0 : Below w.heap.size w (w.alloc (.cells #[] 5)) := (Below.refl _ _).alloc (Nat.le_refl _) _
  obtain ⟨v1, w1, hr1, ho1, hbl1, hz1⟩ := app_own (w.alloc (.cells #[] 5)) w.heap.size (.slice (some ⟨w.heap.size, 0, none⟩) 0 0) [] (some ⟨g, o, none⟩) b cap ⟨w.heap.size, [], rfl, Nat.le_refl _, heap_alloc_last w _⟩ (hv.below hb0) h0 (by simp; omega)
  rw [hr1]
  have hz1' : w.heap.size + 1 ≤ w1.heap.size := by simpa using hz1
  clear hr1
  go_wp2_with fail
  obtain ⟨v2, w2, hr2, ho2, hbl2, hz2⟩ := app_own (w1.alloc (.cells #[.int .u8 171] 5)) w.heap.size v1 ([] ++ b) (some ⟨w1.heap.size, 0, none⟩) [171] 1 (ho1.alloc _) (one_at w1 171) (by simp) (by simp; omega)
  first
    | rw [hr2]
    | (simp only [List.length_singleton] at hr2; rw [hr2])
  have hz2' : w1.heap.size + 1 ≤ w2.heap.size := by simpa using hz2
  clear hr2
  go_wp2_with fail
  obtain ⟨v3, w3, hr3, ho3, hbl3, hz3⟩ := app_own (w2.alloc (.cells #[.int .u8 171] 5)) w.heap.size v2 ([] ++ b ++ [171]) (some ⟨w2.heap.size, 0, none⟩) [171] 1 (ho2.alloc _) (one_at w2 171) (by simp) (by simp; omega)
  first
    | rw [hr3]
    | (simp only [List.length_singleton] at hr3; rw [hr3])
  clear hr3
  have hb3 : Below w.heap.size w w3 := (((hb0.trans hbl1).alloc (by omega) _).trans hbl2).alloc (by omega) _ |>.trans hbl3
  obtain ⟨q, R, rfl, hq, hh⟩ := ho3
  have hlen : ([] ++ b ++ [171] ++ [171]).length = b.length + 2 := by simp
  have hcap : b.length + 2 ≤ ([] ++ b ++ [171] ++ [171] ++ R).length := by simp
  rw [hlen]
  generalize ([] ++ b ++ [171] ++ [171] ++ R).length = C at *
  have hc1 : b.length + 1 ≤ C := by omega
  go_wp2
  go_ret
  exact ⟨q, C, R, rfl, hq, by simpa using hh, hb3, hc1⟩

set_option maxRecDepth 20000 in
set_option maxHeartbeats 400000 in
theorem roomy_zero2 (a : Option Addr) (cap : Nat) (w : World) :
    Calls Try.prog 9 #[.slice a 0 cap] w fun e w' => ∃ (q c : Nat) (R : List Nat), e = .returned (.slice (some ⟨q, 0, none⟩) (0 + 1) c) ∧ w.heap.size ≤ q ∧ w'.heap[q]? = some (.cells (E8 ([] ++ [171, 171] ++ R)) 5 (0, 0)) ∧ Below w.heap.size w w' ∧ 0 + 1 ≤ c := by
  have hb0 : Below w.heap.size w (w.alloc (.cells #[] 5)) := (Below.refl _ _).alloc (Nat.le_refl _) _
  have hr1 := app_none (w.alloc (.cells #[] 5)) (some ⟨w.heap.size, 0, none⟩) a 0 0 cap (Nat.le_refl _)
  go_enter Try.func9, Try.ntmps9
  go_wp2_with fail
  clear hr1
  have ho1 : OwnB (w.alloc (.cells #[] 5)) w.heap.size (.slice (some ⟨w.heap.size, 0, none⟩) 0 0) [] := ⟨w.heap.size, [], rfl, Nat.le_refl _, heap_alloc_last w _⟩
  have hz1' : w.heap.size + 1 ≤ (w.alloc (.cells #[] 5)).heap.size := by simp
  generalize hw1 : w.alloc (.cells #[] 5) = w1 at *
  have hsz1 : w1.heap.size = w.heap.size + 1 := by rw [← hw1]; simp
  obtain ⟨v2, w2, hr2, ho2, hbl2, hz2⟩ := app_own (w1.alloc (.cells #[.int .u8 171] 5)) w.heap.size _ [] (some ⟨w1.heap.size, 0, none⟩) [171] 1 (ho1.alloc _) (one_at w1 171) (by simp) (by simp)
  simp only [List.length_singleton, hsz1] at hr2
  rw [hr2]
  have hz2' : w1.heap.size + 1 ≤ w2.heap.size := by simpa using hz2
  clear hr2
  go_wp2_with fail
  obtain ⟨v3, w3, hr3, ho3, hbl3, hz3⟩ := app_own (w2.alloc (.cells #[.int .u8 171] 5)) w.heap.size v2 ([] ++ [171]) (some ⟨w2.heap.size, 0, none⟩) [171] 1 (ho2.alloc _) (one_at w2 171) (by simp) (by simp)
  first
    | rw [hr3]
    | (simp only [List.length_singleton] at hr3; rw [hr3])
  clear hr3
  have hb3 : Below w.heap.size w w3 := ((hb0.alloc (by omega) _).trans hbl2).alloc (by omega) _ |>.trans hbl3
  obtain ⟨q, R, rfl, hq, hh⟩ := ho3
  have hlen : ([] ++ [171] ++ [171] : List Nat).length = 2 := rfl
  have hcap : 2 ≤ ([] ++ [171] ++ [171] ++ R : List Nat).length := by simp
  rw [hlen]
  generalize ([] ++ [171] ++ [171] ++ R : List Nat).length = C at *
  have hc1 : 1 ≤ C := by omega
  go_wp2
  go_ret
  exact ⟨q, C, R, rfl, hq, by simpa using hh, hb3, hc1⟩
def IsRow (k : IntKind) (w : World) (a : Option Addr) (len cap : Nat) (zs : List Int) : Prop :=
  (a = none ∧ len = 0 ∧ cap = 0 ∧ zs = []) ∨
  ∃ x, a = some x ∧ len ≤ cap ∧ cap ≤ maxLen ∧ zs.length = cap ∧ (∀ i, i < zs.length → w.cell? (x.add i) = some (.int k (zs.getD i 0))) ∧ ∀ n ∈ zs, (Lit.int k n).wf = true
theorem isRow_len {k : IntKind} {w : World} {a : Option Addr} {len cap : Nat} {zs : List Int} (h : IsRow k w a len cap zs) : len ≤ 9223372036854775807 := by
  rcases h with ⟨rfl, rfl, rfl, rfl⟩ | ⟨x, rfl, hl, hm, hz, hcell, hwz⟩
  · omega
  · unfold maxLen at hm; omega
theorem cell_spot {w : World} {x : Addr} {v : Value} (h : w.cell? x = some v) : x = ⟨x.block, x.off, none⟩ ∧ x.block < w.heap.size := by
  unfold World.cell? at h
  split at h
  · rename_i c t fr e
    refine ⟨?_, (Array.getElem?_eq_some_iff.1 e).1⟩
    cases x with
    | mk b o s => cases s with
      | none => rfl
      | some s => simp at h
  · simp at h
theorem isRow_bytes {w : World} {a : Option Addr} {len cap : Nat} {zs : List Int} (h : IsRow .u8 w a len cap zs) :
    ∃ b : List Nat, b.length = len ∧ Sha.Bytes b ∧ BytesAt w (.slice a len cap) b := by
  rcases h with ⟨rfl, rfl, rfl, rfl⟩ | ⟨x, rfl, hl, hm, hz, hcell, hwz⟩
  · exact ⟨[], rfl, fun y hy => by simp at hy, none, 0, rfl, Nat.le_refl _, fun h => by simp at h⟩
  · have hlen : ((zs.take len).map Int.toNat).length = len := by simp; omega
    have hw : ∀ n ∈ zs, 0 ≤ n ∧ n < 256 := fun n hn => by
      have := hwz n hn
      have e1 : IntKind.u8.min = 0 := rfl
      have e2 : IntKind.u8.max = 255 := rfl
      simp [Lit.wf] at this
      omega
    refine ⟨(zs.take len).map Int.toNat, hlen, fun y hy => ?_, some x, cap, by rw [hlen], by omega, fun h0 => ?_⟩
    · obtain ⟨n, hn, rfl⟩ := List.mem_map.1 hy
      have := hw n (List.mem_of_mem_take hn); omega
    · have h00 : 0 < zs.length := by omega
      obtain ⟨hx, hlt⟩ := cell_spot (show w.cell? x = some _ from by have := hcell 0 h00; simpa [Addr.add] using this)
      refine ⟨x.block, x.off, congrArg some hx, hlt, fun i hi => ?_⟩
      have hi' : i < zs.length := by omega
      have hc := hcell i hi'
      rw [hx, Addr.add_mid] at hc
      rw [hc]
      have hm := hw zs[i] (List.getElem_mem hi')
      unfold Sha.nth
      rw [List.getElem?_map, List.getElem?_take_of_lt (by omega), List.getElem?_eq_getElem hi']
      simp only [Option.map_some, Option.getD_some, List.getD_eq_getElem?_getD, List.getElem?_eq_getElem hi']
      congr 2; omega
theorem roomy_at (a : Option Addr) (n cap : Nat) (b : List Nat) (w : World) (hn : b.length = n) (hv : BytesAt w (.slice a n cap) b) (hmax : n ≤ 3000) :
    Calls Try.prog 9 #[.slice a n cap] w fun e w' => ∃ (q c : Nat) (R : List Nat), e = .returned (.slice (some ⟨q, 0, none⟩) (n + 1) c) ∧ w.heap.size ≤ q ∧ w'.heap[q]? = some (.cells (E8 (b ++ [171, 171] ++ R)) 5 (0, 0)) ∧ Below w.heap.size w w' ∧ n + 1 ≤ c := by
  subst hn
  by_cases h0 : 0 < b.length
  · obtain ⟨g, o, rfl⟩ : ∃ g o, a = some ⟨g, o, none⟩ := by
      obtain ⟨a', c, e, hc, hx⟩ := hv
      obtain ⟨g, o, ea, hl, hcell⟩ := hx h0
      cases e; exact ⟨g, o, ea⟩
    exact roomy_some2 g o _ cap b w rfl hv h0 hmax
  · obtain rfl : b = [] := List.eq_nil_of_length_eq_zero (by omega)
    exact roomy_zero2 a cap w
theorem stands_at (q c : Nat) (a : Option Addr) (n cap : Nat) (b : List Nat) (w : World) (hn : b.length = n) (hmax : n ≤ 3000) (hc : n + 1 ≤ c) (hv : BytesAt w (.slice a n cap) b) (hv1 : BytesAt w (.slice (some ⟨q, 0, none⟩) n c) b) (hm : w.cell? ⟨q, n, none⟩ = some (.int .u8 171)) :
    Calls Try.prog 12 #[.slice (some ⟨q, 0, none⟩) (n + 1) c, .slice a n cap] w fun e w' => e = .returned (.bool true) ∧ ∃ k, w' = w.drewN k := by
  subst hn
  by_cases h0 : 0 < b.length
  · obtain ⟨a', c', e, hc', hx⟩ := hv
    obtain ⟨g, o, ea, hl, hcell⟩ := hx h0
    cases e; cases ea
    obtain ⟨a1, c1, e1, hc1, hx1⟩ := hv1
    obtain ⟨g1, o1, ea1, hl1, hcell1⟩ := hx1 h0
    cases e1; cases ea1
    exact stands_some _ c g o b.length cap b w hmax hc hcell1 hm hcell
  · obtain rfl : b = [] := List.eq_nil_of_length_eq_zero (by omega)
    exact stands_zero q c cap a w hc hm

end Helped
open Helped
set_option maxRecDepth 20000 in
set_option maxHeartbeats 1000000 in
theorem sums_ok (a : Option Addr) (n cap : Nat) (b : List Nat) (w : World) (hn : b.length = n) (hv : BytesAt w (.slice a n cap) b) (hb : Sha.Bytes b) (hmax : n ≤ 3000) :
    Calls Try.prog 3 #[.slice a n cap] w fun e w' => e = .returned (.bool true) ∧ Below w.heap.size w w' := by
  have hd : decide ((3000 : Int) < (n : Int)) = false := by simp; omega
  have HR := hide (roomy_at a n cap b w hn hv (by omega))
  go_enter Try.func3, Try.ntmps3
  go_wp2_with fail
  refine (unhide HR).mono ?_
  clear HR
  rintro e w1 ⟨q, c, R, rfl, hq, hh, hb1, hc⟩
  have hv1 : BytesAt w1 (.slice (some ⟨q, 0, none⟩) n c) b := bytesAt_row w1 q _ b n c (by unfold rowOf; rw [hh]) (Array.getElem?_eq_some_iff.1 hh).1 (by simp; omega) (by omega) (by rw [List.append_assoc, List.take_left' hn])
  have hm1 : w1.cell? ⟨q, n, none⟩ = some (.int .u8 171) := by
    rw [cell_of_row w1 q n _ 5 _ hh, E8_get _ _ (by simp; omega), List.append_assoc, Sha.nth_append_right (by omega), show n - b.length = 0 by omega]; rfl
  have hqs : q < w1.heap.size := (Array.getElem?_eq_some_iff.1 hh).1
  have HV1 := hide hv1
  have HM1 := hide hm1
  have HT := hide (sum_any q 0 n c b w1 hn hv1 hb (by omega))
  have HRS := hide (fun (w' : World) (h : Below w.heap.size w w') => refSum_any a n cap b w' hn (hv.below h) hb (by omega))
  have hsl : (Sha.sum b).length = 32 := Sha.sumBehind_length _ _ _
  generalize Sha.sum b = S at *
  clear hh hv1 hm1
  have hc0 : n ≤ c := by omega
  go_wp2_with fail
  refine (unhide HT).mono ?_
  clear HT
  rintro e w2 ⟨rfl, hb2⟩
  have hbl2 : Below w.heap.size w w2 := hb1.trans (hb2.mono hb1.size)
  go_wp2_with fail
  refine (unhide HRS w2 hbl2).mono ?_
  rintro e w3 ⟨rfl, hb3⟩
  have hbl3 : Below w.heap.size w w3 := hbl2.trans (hb3.mono hbl2.size)
  have hb13 : Below w1.heap.size w1 w3 := hb2.trans (hb3.mono hb2.size)
  have HST := hide (stands_at q c a n cap b w3 hn (by omega) hc (hv.below hbl3) ((unhide HV1).below hb13) (by rw [hb13.cell (p := ⟨q, n, none⟩) hqs]; exact unhide HM1))
  clear hb3 hb2 hb13 HRS
  go_wp2_with (first
    | (go_at_call 12; refine (unhide HST).mono ?_; rintro e w' ⟨rfl, k, hw'⟩; rw [hw']; clear hw' w')
    | (go_at_call 13; refine (known_any _).mono ?_; rintro e w5 ⟨rfl, hb5⟩))
  go_ret
  have hbl5 := below_drews hbl3 k
  exact ⟨rfl, hbl5.trans (hb5.mono hbl5.size)⟩
set_option maxRecDepth 20000 in
set_option maxHeartbeats 400000 in
theorem sums_walk (w : World) (a0 : Option Addr) (len0 cap0 : Nat) (z0 : List Int) (r0 : IsRow .u8 w a0 len0 cap0 z0) :
    Calls Try.prog 3 #[.slice a0 len0 cap0] w fun e w' => e = .returned (.bool true) ∧ Below w.heap.size w w' := by
  have hlen := isRow_len r0
  obtain ⟨b, hbl, hb, hv⟩ := isRow_bytes r0
  clear r0
  by_cases hgt : 3000 < len0
  · have hd : decide ((3000 : Int) < (len0 : Int)) = true := by simp; omega
    go_enter Try.func3, Try.ntmps3
    go_wp2
    go_ret
    exact ⟨rfl, Below.refl _ _⟩
  exact sums_ok a0 len0 cap0 b w hbl hv hb (by omega)
end Go.Proofs.Ytdkhmjiconedkaa
