/- The law's own helpers: same, roomy, stands; a slice of bytes that was handed in, as a list of numbers. -/
import Derived.Test.YtgchndogklmpdaaKnown
namespace Go.Proofs.Ytgchndogklmpdaa
open Go.RowKit Go.Great

set_option maxHeartbeats 400000 in
theorem same_none (a a' : Option Addr) (c1 c2 : Nat) (w : World) :
    Calls Try.prog 12 #[.slice a 0 c1, .slice a' 0 c2] w fun e w' => e = .returned (.bool true) ∧ ∃ n, w' = w.drewN n := by
  go_enter Try.func12, Try.ntmps12
  go_wp2
  go_loopw [5] (fun c wr => c = .int .i64 0 ∧ wr = w) (fun _ _ => 0)
  case atStart => exact ⟨rfl, rfl⟩
  case round =>
    obtain ⟨rfl, rfl⟩ := hrel
    go_wp2
    go_ret
    exact ⟨rfl, 0, rfl⟩

set_option maxHeartbeats 400000 in
theorem same_some (g o g2 o2 n c1 c2 : Nat) (m : List Nat) (w : World) (hn : n ≤ 1000000)
    (h1 : ∀ i, i < n → w.cell? ⟨g, o + i, none⟩ = some (.int .u8 ((Sha.nth m i : Nat) : Int))) (h2 : ∀ i, i < n → w.cell? ⟨g2, o2 + i, none⟩ = some (.int .u8 ((Sha.nth m i : Nat) : Int))) :
    Calls Try.prog 12 #[.slice (some ⟨g, o, none⟩) n c1, .slice (some ⟨g2, o2, none⟩) n c2] w fun e w' => e = .returned (.bool true) ∧ ∃ n, w' = w.drewN n := by
  have H1 := hide h1
  have H2 := hide h2
  have hne : ((n : Int) != (n : Int)) = false := by simp
  clear h1 h2
  go_enter Try.func12, Try.ntmps12
  go_wp2
  go_loopw [5] (fun c wr => ∃ i k : Nat, i ≤ n ∧ c = .int .i64 (i : Int) ∧ wr = w.drewN k) (fun c _ => n - (intOf c).toNat)
  case atStart => exact ⟨0, 0, by omega, rfl, rfl⟩
  case round =>
    obtain ⟨i, k, hi, rfl, rfl⟩ := hrel
    by_cases hlt : i < n
    · have c1 := unhide H1 i hlt
      have c2 := unhide H2 i hlt
      go_wp2
      go_quiet (fail)
      go_wp2
      go_roundw
      case rel => exact ⟨i + 1, k + nq, by omega, by go_num, rfl⟩
      case measure => simp [intOf]; omega
    · have hi' : i = n := by omega
      subst hi'
      go_wp2
      go_ret
      exact ⟨rfl, k, rfl⟩
set_option maxRecDepth 20000 in
set_option maxHeartbeats 400000 in
theorem roomy_any (g o n cap : Nat) (b : List Nat) (w : World) (hn : b.length = n) (hv : BytesAt w (.slice (some ⟨g, o, none⟩) n cap) b) (h0 : 0 < n) (hmax : n ≤ 3000) :
    Calls Try.prog 7 #[.slice (some ⟨g, o, none⟩) n cap] w fun e w' => ∃ (q c : Nat) (R : List Nat), e = .returned (.slice (some ⟨q, 0, none⟩) (n + 1) c) ∧ w.heap.size ≤ q ∧ w'.heap[q]? = some (.cells (E8 (b ++ [171, 171] ++ R)) 5 (0, 0)) ∧ Below w.heap.size w w' := by
  subst hn
  go_enter Try.func7, Try.ntmps7
  go_wp2_with fail
  have hb0 : Below w.heap.size w (w.alloc (.cells #[] 5)) := (Below.refl _ _).alloc (Nat.le_refl _) _
  obtain ⟨v1, w1, hr1, ho1, hbl1, hz1⟩ := app_own (w.alloc (.cells #[] 5)) w.heap.size (.slice (some ⟨w.heap.size, 0, none⟩) 0 0) [] (some ⟨g, o, none⟩) b cap ⟨w.heap.size, [], rfl, Nat.le_refl _, heap_alloc_last w _⟩ (hv.below hb0) h0 (by simp; omega)
  rw [hr1]
  have hz1' : w.heap.size + 1 ≤ w1.heap.size := by simpa using hz1
  clear hr1
  go_wp2_with fail
  obtain ⟨v2, w2, hr2, ho2, hbl2, hz2⟩ := app_own (w1.alloc (.cells #[.int .u8 171] 5)) w.heap.size v1 ([] ++ b) (some ⟨w1.heap.size, 0, none⟩) [171] 1 (ho1.alloc _) (one_at w1 171) (by simp) (by simp; omega)
  first
    | rw [hr2]
    | (simp only [List.length_singleton] at hr2; rw [hr2])
  have hz2' : w1.heap.size + 1 ≤ w2.heap.size := by simpa using hz2
  clear hr2
  go_wp2_with fail
  obtain ⟨v3, w3, hr3, ho3, hbl3, hz3⟩ := app_own (w2.alloc (.cells #[.int .u8 171] 5)) w.heap.size v2 ([] ++ b ++ [171]) (some ⟨w2.heap.size, 0, none⟩) [171] 1 (ho2.alloc _) (one_at w2 171) (by simp) (by simp; omega)
  first
    | rw [hr3]
    | (simp only [List.length_singleton] at hr3; rw [hr3])
  clear hr3
  have hb3 : Below w.heap.size w w3 := (((hb0.trans hbl1).alloc (by omega) _).trans hbl2).alloc (by omega) _ |>.trans hbl3
  obtain ⟨q, R, rfl, hq, hh⟩ := ho3
  have hlen : ([] ++ b ++ [171] ++ [171]).length = b.length + 2 := by simp
  have hcap : b.length + 2 ≤ ([] ++ b ++ [171] ++ [171] ++ R).length := by simp
  rw [hlen]
  generalize ([] ++ b ++ [171] ++ [171] ++ R).length = C at *
  have hc1 : b.length + 1 ≤ C := by omega
  go_wp2
  go_ret
  exact ⟨q, C, R, rfl, hq, by simpa using hh, hb3⟩

set_option maxRecDepth 20000 in
set_option maxHeartbeats 400000 in
theorem roomy_zero (a : Option Addr) (cap : Nat) (w : World) :
    Calls Try.prog 7 #[.slice a 0 cap] w fun e w' => ∃ (q c : Nat) (R : List Nat), e = .returned (.slice (some ⟨q, 0, none⟩) (0 + 1) c) ∧ w.heap.size ≤ q ∧ w'.heap[q]? = some (.cells (E8 ([] ++ [171, 171] ++ R)) 5 (0, 0)) ∧ Below w.heap.size w w' := by
  have hb0 : Below w.heap.size w (w.alloc (.cells #[] 5)) := (Below.refl _ _).alloc (Nat.le_refl _) _
  have hr1 := app_none (w.alloc (.cells #[] 5)) (some ⟨w.heap.size, 0, none⟩) a 0 0 cap (Nat.le_refl _)
  go_enter Try.func7, Try.ntmps7
  go_wp2_with fail
  clear hr1
  have ho1 : OwnB (w.alloc (.cells #[] 5)) w.heap.size (.slice (some ⟨w.heap.size, 0, none⟩) 0 0) [] := ⟨w.heap.size, [], rfl, Nat.le_refl _, heap_alloc_last w _⟩
  have hz1' : w.heap.size + 1 ≤ (w.alloc (.cells #[] 5)).heap.size := by simp
  generalize hw1 : w.alloc (.cells #[] 5) = w1 at *
  have hsz1 : w1.heap.size = w.heap.size + 1 := by rw [← hw1]; simp
  obtain ⟨v2, w2, hr2, ho2, hbl2, hz2⟩ := app_own (w1.alloc (.cells #[.int .u8 171] 5)) w.heap.size _ [] (some ⟨w1.heap.size, 0, none⟩) [171] 1 (ho1.alloc _) (one_at w1 171) (by simp) (by simp)
  simp only [List.length_singleton, hsz1] at hr2
  rw [hr2]
  have hz2' : w1.heap.size + 1 ≤ w2.heap.size := by simpa using hz2
  clear hr2
  go_wp2_with fail
  obtain ⟨v3, w3, hr3, ho3, hbl3, hz3⟩ := app_own (w2.alloc (.cells #[.int .u8 171] 5)) w.heap.size v2 ([] ++ [171]) (some ⟨w2.heap.size, 0, none⟩) [171] 1 (ho2.alloc _) (one_at w2 171) (by simp) (by simp)
  first
    | rw [hr3]
    | (simp only [List.length_singleton] at hr3; rw [hr3])
  clear hr3
  have hb3 : Below w.heap.size w w3 := ((hb0.alloc (by omega) _).trans hbl2).alloc (by omega) _ |>.trans hbl3
  obtain ⟨q, R, rfl, hq, hh⟩ := ho3
  have hlen : ([] ++ [171] ++ [171] : List Nat).length = 2 := rfl
  have hcap : 2 ≤ ([] ++ [171] ++ [171] ++ R : List Nat).length := by simp
  rw [hlen]
  generalize ([] ++ [171] ++ [171] ++ R : List Nat).length = C at *
  have hc1 : 1 ≤ C := by omega
  go_wp2
  go_ret
  exact ⟨q, C, R, rfl, hq, by simpa using hh, hb3⟩

set_option maxRecDepth 20000 in
set_option maxHeartbeats 400000 in
theorem stands_some (q c g o n cap : Nat) (m : List Nat) (w : World) (hn : n ≤ 3000) (hc : n + 1 ≤ c)
    (h1 : ∀ i, i < n → w.cell? ⟨q, 0 + i, none⟩ = some (.int .u8 ((Sha.nth m i : Nat) : Int))) (hm : w.cell? ⟨q, n, none⟩ = some (.int .u8 171))
    (h2 : ∀ i, i < n → w.cell? ⟨g, o + i, none⟩ = some (.int .u8 ((Sha.nth m i : Nat) : Int))) :
    Calls Try.prog 13 #[.slice (some ⟨q, 0, none⟩) (n + 1) c, .slice (some ⟨g, o, none⟩) n cap] w fun e w' => e = .returned (.bool true) ∧ ∃ k, w' = w.drewN k := by
  have H := hide (same_some q 0 g o n c cap m w (by omega) h1 h2)
  have hnc : n ≤ c := by omega
  clear h1 h2
  go_enter Try.func13, Try.ntmps13
  go_wp2_with (go_at_call 12; refine (unhide H).mono ?_; rintro e w' ⟨rfl, k, rfl⟩)
  go_ret
  exact ⟨rfl, k, rfl⟩

set_option maxRecDepth 20000 in
set_option maxHeartbeats 400000 in
theorem stands_zero (q c cap : Nat) (a : Option Addr) (w : World) (hc : 1 ≤ c) (hm : w.cell? ⟨q, 0, none⟩ = some (.int .u8 171)) :
    Calls Try.prog 13 #[.slice (some ⟨q, 0, none⟩) (0 + 1) c, .slice a 0 cap] w fun e w' => e = .returned (.bool true) ∧ ∃ k, w' = w.drewN k := by
  have H := hide (same_none (some ⟨q, 0, none⟩) a c cap w)
  go_enter Try.func13, Try.ntmps13
  go_wp2_with (go_at_call 12; refine (unhide H).mono ?_; rintro e w' ⟨rfl, k, rfl⟩)
  go_ret
  exact ⟨rfl, k, rfl⟩

def IsRow (k : IntKind) (w : World) (a : Option Addr) (len cap : Nat) (zs : List Int) : Prop :=
  (a = none ∧ len = 0 ∧ cap = 0 ∧ zs = []) ∨
  ∃ x, a = some x ∧ len ≤ cap ∧ cap ≤ maxLen ∧ zs.length = cap ∧ (∀ i, i < zs.length → w.cell? (x.add i) = some (.int k (zs.getD i 0))) ∧ ∀ n ∈ zs, (Lit.int k n).wf = true
theorem isRow_len {k : IntKind} {w : World} {a : Option Addr} {len cap : Nat} {zs : List Int} (h : IsRow k w a len cap zs) : len ≤ 9223372036854775807 := by
  rcases h with ⟨rfl, rfl, rfl, rfl⟩ | ⟨x, rfl, hl, hm, hz, hcell, hwz⟩
  · omega
  · unfold maxLen at hm; omega
theorem cell_spot {w : World} {x : Addr} {v : Value} (h : w.cell? x = some v) : x = ⟨x.block, x.off, none⟩ ∧ x.block < w.heap.size := by
  unfold World.cell? at h
  split at h
  · rename_i c t fr e
    refine ⟨?_, (Array.getElem?_eq_some_iff.1 e).1⟩
    cases x with
    | mk b o s => cases s with
      | none => rfl
      | some s => simp at h
  · simp at h
theorem isRow_bytes {w : World} {a : Option Addr} {len cap : Nat} {zs : List Int} (h : IsRow .u8 w a len cap zs) :
    ∃ b : List Nat, b.length = len ∧ Sha.Bytes b ∧ BytesAt w (.slice a len cap) b := by
  rcases h with ⟨rfl, rfl, rfl, rfl⟩ | ⟨x, rfl, hl, hm, hz, hcell, hwz⟩
  · exact ⟨[], rfl, fun y hy => by simp at hy, none, 0, rfl, Nat.le_refl _, fun h => by simp at h⟩
  · have hlen : ((zs.take len).map Int.toNat).length = len := by simp; omega
    have hw : ∀ n ∈ zs, 0 ≤ n ∧ n < 256 := fun n hn => by
      have := hwz n hn
      have e1 : IntKind.u8.min = 0 := rfl
      have e2 : IntKind.u8.max = 255 := rfl
      simp [Lit.wf] at this
      omega
    refine ⟨(zs.take len).map Int.toNat, hlen, fun y hy => ?_, some x, cap, by rw [hlen], by omega, fun h0 => ?_⟩
    · obtain ⟨n, hn, rfl⟩ := List.mem_map.1 hy
      have := hw n (List.mem_of_mem_take hn); omega
    · have h00 : 0 < zs.length := by omega
      obtain ⟨hx, hlt⟩ := cell_spot (show w.cell? x = some _ from by have := hcell 0 h00; simpa [Addr.add] using this)
      refine ⟨x.block, x.off, congrArg some hx, hlt, fun i hi => ?_⟩
      have hi' : i < zs.length := by omega
      have hc := hcell i hi'
      rw [hx, Addr.add_mid] at hc
      rw [hc]
      have hm := hw zs[i] (List.getElem_mem hi')
      unfold Sha.nth
      rw [List.getElem?_map, List.getElem?_take_of_lt (by omega), List.getElem?_eq_getElem hi']
      simp only [Option.map_some, Option.getD_some, List.getD_eq_getElem?_getD, List.getElem?_eq_getElem hi']
      congr 2; omega
theorem strOf_inj {a b : List Nat} (ha : Sha.Bytes a) (hb : Sha.Bytes b) (h : strOf a = strOf b) : a = b := by
  have h1 : a.map UInt8.ofNat = b.map UInt8.ofNat := by
    have := congrArg (fun s => s.data.toList) h
    simpa [strOf] using this
  have key : ∀ l : List Nat, Sha.Bytes l → (l.map UInt8.ofNat).map UInt8.toNat = l := fun l hl => by
    rw [List.map_map]
    apply List.ext_getElem (by simp)
    intro i h1 h2
    simp only [List.getElem_map, Function.comp]
    exact UInt8.toNat_ofNat_of_lt' (hl _ (List.getElem_mem h2))
  rw [← key a ha, ← key b hb, h1]
end Go.Proofs.Ytgchndogklmpdaa
