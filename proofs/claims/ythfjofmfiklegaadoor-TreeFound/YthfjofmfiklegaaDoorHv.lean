/- The law's own look at trees. -/
import Derived.Test.YthfjofmfiklegaaDoorK1
namespace Go.Proofs.YthfjofmfiklegaaDoor
open Go.RowKit
set_option maxRecDepth 20000 in
set_option maxHeartbeats 1000000 in
/-- The law's own look: more than is looked at, or not. -/
theorem heavy_any (L : List Tr) (Ks : List (List Value)) (lo hi g o cap : Nat) (w : World) (hl : Ks.length = L.length) (_ : L.length ≤ cap) (hm : L.length ≤ 1000000) (hg : g < w.heap.size) (hcell : ∀ j u, Ks.flatten[j]? = some u → w.cell? ⟨g, o + j, none⟩ = some u)
    (hK : ∀ (i : Nat) (t : Tr) (c : List Value), L[i]? = some t → Ks[i]? = some c → Lies lo hi w t c) (hhi : hi ≤ w.heap.size) (hF : ∀ t ∈ L, Fit t) :
    Calls Tryd.prog 9 #[.slice (some ⟨g, o, none⟩) L.length cap] w fun e w' => Below w.heap.size w w' ∧ (e = .returned (.bool true) ∨ (e = .returned (.bool false) ∧ wts L ≤ 3000)) := by
  go_enter Tryd.func9, Tryd.ntmps9
  go_wp2_with fail
  have hC0 : Ctr (w.alloc (.cells #[.int .i64 0] 3)) w.heap.size (.int .i64 0) := ⟨by simp [go_sem], by simp [go_sem]⟩
  have hb0 : Below w.heap.size w (w.alloc (.cells #[.int .i64 0] 3)) := (Below.refl _ _).alloc (Nat.le_refl _) _
  have HK := hide hK
  have HF := hide hF
  have HCe := hide hcell
  clear hK hF hcell
  go_loopw [4] (fun vi wr => ∃ i : Nat, i ≤ L.length ∧ vi = .int .i64 (i : Int) ∧ Below w.heap.size w wr ∧ wts (L.take i) ≤ 3000 ∧ Ctr wr w.heap.size (.int .i64 ((wts (L.take i) : Nat) : Int))) (fun vi _ => L.length - (intOf vi).toNat)
  case atStart => exact ⟨0, by omega, rfl, hb0, by simp [wts], by simpa [wts] using hC0⟩
  case round =>
    obtain ⟨i, hik, rfl, hB, hq, hC⟩ := hrel
    clear hC0 hb0
    by_cases hlt : i < L.length
    · have hcell' : ∀ j u, Ks.flatten[j]? = some u → wr.cell? ⟨g, o + j, none⟩ = some u := fun j u hj => by rw [hB.cell (p := ⟨g, o + j, none⟩) hg]; exact unhide HCe j u hj
      obtain ⟨k', x', vd', vn', vk', hLi, z0, z1, z2, z3, z4⟩ := kid_at hl hcell' (fun i t c h1 h2 => (unhide HK i t c h1 h2).kept hB hhi) i hlt
      have HI := hide (great_any L[i] lo hi _ wr w.heap.size (wts (L.take i)) hLi (unhide HF _ (List.getElem_mem hlt)) hC hhi (by omega))
      have HT1 : Hid (wts (L.take (i + 1)) = wts (L.take i) + wt L[i]) := wts_take L i hlt
      have hcl := hC.lt
      clear hcell' hLi hC
      generalize wts (L.take i) = q at *
      generalize L[i] = t at *
      go_wp2_with fail
      refine (unhide HI).mono ?_
      rintro e w' ⟨hs', rfl | ⟨rfl, hle, hC'⟩⟩
      · have hSS : Below w.heap.size w w' := hB.trans (hs'.below (Nat.le_refl _) (by omega))
        go_wp2_with fail
        go_ret
        exact ⟨hSS, .inl rfl⟩
      · have HSS := hide (And.intro (hB.trans (hs'.below (Nat.le_refl _) (by omega))) hC')
        clear hC' hs'
        go_wp2_with fail
        go_roundw
        case rel =>
          obtain ⟨a1, a3⟩ := unhide HSS
          exact ⟨i + 1, by omega, by go_num, a1, by rw [unhide HT1]; omega, by rw [unhide HT1]; exact a3⟩
        case measure => simp [intOf]; omega
    · obtain rfl : i = L.length := by omega
      rw [List.take_length] at *
      go_wp2_with fail
      go_ret
      exact ⟨hB, .inr ⟨rfl, hq⟩⟩
end Go.Proofs.YthfjofmfiklegaaDoor
