/- The order of refs, and refs that stand twice, change no path: the law's walk. -/
import Derived.Test.YtfoghaocfkcggaaSources
namespace Go.Proofs.Ytfoghaocfkcggaa
open Go.RowKit Go.Great
theorem turn_range (t : Int) : 0 ≤ bits .and .i64 t 255 ∧ bits .and .i64 t 255 ≤ 255 := by
  show 0 ≤ IntKind.i64.wrap ((BitVec.ofInt 64 t &&& BitVec.ofInt 64 255).toNat : Int) ∧ IntKind.i64.wrap ((BitVec.ofInt 64 t &&& BitVec.ofInt 64 255).toNat : Int) ≤ 255
  have h : (BitVec.ofInt 64 t &&& BitVec.ofInt 64 255).toNat ≤ 255 := by
    rw [BitVec.toNat_and, show (BitVec.ofInt 64 255).toNat = 255 from by decide]
    exact Nat.and_le_right
  rw [IntWalk.i64_in _ (by omega)]
  omega
theorem turn_mod (t : Int) (n : Nat) (h : 0 < n) : ∃ k : Nat, (bits .and .i64 t 255).tmod (n : Int) = (k : Int) ∧ k < n := by
  obtain ⟨h1, h2⟩ := turn_range t
  rw [Int.tmod_eq_emod_of_nonneg h1]
  have h3 := Int.emod_nonneg (bits .and .i64 t 255) (show (n : Int) ≠ 0 by omega)
  have h4 := Int.emod_lt_of_pos (bits .and .i64 t 255) (show (0 : Int) < n by omega)
  exact ⟨((bits .and .i64 t 255) % (n : Int)).toNat, by omega, by omega⟩
set_option maxRecDepth 20000 in
set_option maxHeartbeats 1000000 in
theorem orders_walk (W : World) (l : List Nat) (hl : l.length = 32) (hlb : Sha.Bytes l) (a : Option Addr) (len cap : Nat) (Z : List Ord.S) (hv : StrsAt W (.slice a len cap) Z) (hZn : Z.length = len) (hlm : len ≤ 9223372036854775807) (hZl : ∀ z ∈ Z, z.length ≤ 281474976710656)
    (s : ByteArray) (hs : s.size ≤ 140737488351232) (t : Int) (_ : (Lit.int .i64 t).wf = true) :
    Calls Try.prog 7 #[.agg (E8 l), .slice a len cap, .string s, .int .i64 t] W fun e w' => e = .returned (.bool true) ∧ Below W.heap.size W w' := by
  obtain ⟨N, hNb, hNl, rfl⟩ : ∃ N, Sha.Bytes N ∧ N.length ≤ 140737488351232 ∧ s = strOf N := ⟨bytesOf s, bytesOf_bytes s, by rw [bytesOf_length]; exact hs, (strOf_bytesOf s).symm⟩
  clear hs
  have hb0 : Below W.heap.size W (W.alloc (.cells (E8 l) 25)) := (Below.refl _ _).alloc (Nat.le_refl _) _
  by_cases hlong : len ≤ 200 ∧ 0 < len ∧ N.length ≤ 600
  · obtain ⟨hl1, hl0, hl2⟩ := hlong
    obtain ⟨g, o, rfl, hgW, hcell⟩ : ∃ g o, a = some ⟨g, o, none⟩ ∧ g < W.heap.size ∧ ∀ i, i < len → W.cell? ⟨g, o + i, none⟩ = some (encStr (Z.getD i [])) := by
      obtain ⟨a', c', e, hc, hx⟩ := hv
      obtain ⟨g, o, ea, hb, hcell⟩ := hx (by omega)
      cases e
      exact ⟨g, o, ea, hb, fun i hi => hcell i (by omega)⟩
    have hne0 : ((len : Int) == 0) = false := by rw [beq_eq_false_iff_ne]; omega
    go_enter Try.func7, Try.ntmps7
    go_wp2_with fail
    obtain ⟨k, hk, hkl⟩ := turn_mod t len hl0
    rw [hk]
    generalize bits .and .i64 t 255 = T at *
    clear hk
    have hcap : len ≤ cap := by obtain ⟨a', c', e, hc, _⟩ := hv; cases e; omega
    have hn0 : OwnL ((W.alloc (.cells (E8 l) 25)).alloc (.cells #[] 26)).drew (W.heap.size + 1) (.slice (some ⟨W.heap.size + 1, 0, none⟩) 0 0) [] := by
      have h : OwnL ((W.alloc (.cells (E8 l) 25)).alloc (.cells #[] 26)) (W.heap.size + 1) (.slice (some ⟨W.heap.size + 1, 0, none⟩) 0 0) [] := by
        have := ownL_new (W.alloc (.cells (E8 l) 25)); simpa using this
      exact h
    have hb1 : Below W.heap.size W ((W.alloc (.cells (E8 l) 25)).alloc (.cells #[] 26)).drew := (hb0.alloc (by simp) _).drew
    have hr1 : rowOf ((W.alloc (.cells (E8 l) 25)).alloc (.cells #[] 26)).drew W.heap.size = E8 l := by simp [go_sem]
    have hd1 : StrsAt W (.slice (some ⟨g, o + k, none⟩) (len - k) (cap - k)) (Z.drop k) := by
      have htl : (Z.drop k).length = len - k := by rw [List.length_drop]; omega
      refine ⟨_, cap - k, by rw [htl], by omega, fun h => ⟨g, o + k, rfl, hgW, fun i hi => ?_⟩⟩
      rw [htl] at hi
      rw [Nat.add_assoc, hcell (k + i) (by omega), List.getD_eq_getElem?_getD, List.getD_eq_getElem?_getD, List.getElem?_drop]
    have hd2 : StrsAt W (.slice (some ⟨g, o, none⟩) k cap) (Z.take k) := by
      have htl : (Z.take k).length = k := by rw [List.length_take]; omega
      refine ⟨_, cap, by rw [htl], by omega, fun h => ⟨g, o, rfl, hgW, fun i hi => ?_⟩⟩
      rw [htl] at hi
      rw [hcell i (by omega), List.getD_eq_getElem?_getD, List.getD_eq_getElem?_getD, List.getElem?_take_of_lt hi]
    obtain ⟨v1, w1, happ1, ho1, hbb1, hzz1⟩ := appS ((W.alloc (.cells (E8 l) 25)).alloc (.cells #[] 26)).drew (W.heap.size + 1) (.slice (some ⟨W.heap.size + 1, 0, none⟩) 0 0) [] (some ⟨g, o + k, none⟩) (len - k) (cap - k) (Z.drop k) 38 (by rw [List.length_drop]; omega) hn0 (hd1.below hb1) (by simp; omega) (by simp)
    rw [List.nil_append] at ho1
    have hbl1 : Below W.heap.size W w1 := hb1.trans (hbb1.mono (by omega))
    have hrow1 : rowOf w1 W.heap.size = E8 l := by rw [below_rowOf hbb1 (by omega)]; exact hr1
    have hz1 : W.heap.size + 2 ≤ w1.heap.size := by simpa using hzz1
    obtain ⟨v2, w2, happ2, ho2, hbb2, hzz2⟩ := appS w1 (W.heap.size + 1) v1 (Z.drop k) (some ⟨g, o, none⟩) k cap (Z.take k) 38 (by rw [List.length_take]; omega) ho1 (hd2.below hbl1) (by rw [List.length_drop]; omega) (by omega)
    have hbl2 : Below W.heap.size W w2 := hbl1.trans (hbb2.mono (by omega))
    have hrow2 : rowOf w2 W.heap.size = E8 l := by rw [below_rowOf hbb2 (by omega)]; exact hrow1
    have hz2 : W.heap.size + 2 ≤ w2.heap.size := by omega
    have HO2 := hide ho2
    have HV := hide hv
    have HCe := hide hcell
    have HZl := hide hZl
    clear hbb1 hbb2 hzz1 hzz2 ho1 ho2 hn0 hb1 hr1 hd1 hd2 hbl1 hrow1 hz1 hv hcell hZl
    have hkc : k ≤ cap := by omega
    have hkn : ¬ (cap = k) := by omega
    have hc0 : w2.cell? ⟨g, o, none⟩ = some (.string ⟨(Z.getD 0 []).toArray⟩) := by
      rw [hbl2.cell (p := ⟨g, o, none⟩) hgW]; exact unhide HCe 0 hl0
    have HM : Hid (∀ z, z ∈ Z.drop k ++ Z.take k ++ [Z.getD 0 []] ↔ z ∈ Z) := fun z => by
      have h0 : Z.getD 0 [] ∈ Z := by
        rw [List.getD_eq_getElem?_getD, List.getElem?_eq_getElem (by omega)]; exact List.getElem_mem _
      have hz : z ∈ Z ↔ z ∈ Z.take k ∨ z ∈ Z.drop k := by rw [← List.mem_append, List.take_append_drop]
      rw [List.mem_append, List.mem_append, List.mem_singleton]
      constructor
      · rintro ((h | h) | h)
        · exact hz.2 (.inr h)
        · exact hz.2 (.inl h)
        · rw [h]; exact h0
      · intro h
        rcases hz.1 h with h | h
        · exact .inl (.inr h)
        · exact .inl (.inl h)
    have hdl : (Z.drop k ++ Z.take k).length = len := by rw [List.length_append, List.length_drop, List.length_take]; omega
    generalize Z.getD 0 [] = z0 at *
    generalize Z.drop k ++ Z.take k = L at *
    obtain ⟨v3, w3, happ3, ho3, hbb3, hzz3⟩ := appS (w2.alloc (.cells #[.string ⟨z0.toArray⟩] 26)) (W.heap.size + 1) v2 L (some ⟨w2.heap.size, 0, none⟩) 1 1 [z0] 38 rfl (World.ownsRow.alloc (unhide HO2) _) (oneS_at w2 z0) (by omega) (by simp; omega)
    have hbl3 : Below W.heap.size W w3 := (hbl2.alloc (by omega) _).trans (hbb3.mono (by omega))
    have hrow3 : rowOf w3 W.heap.size = E8 l := by rw [below_rowOf hbb3 (by omega), rowOf_alloc_past _ _ _ (by omega)]; exact hrow2
    have hz3 : W.heap.size + 1 ≤ w3.heap.size := by have : w2.heap.size + 1 ≤ w3.heap.size := by simpa using hzz3
                                                    omega
    have HL3 := hide ho3.at
    clear hbb3 hzz3 ho3 hbl2 hrow2 hz2
    obtain ⟨p1, x1, h⟩ := source_both Z N l hl hlb hNb (by omega) (unhide HZl)
    have HS1 : Hid (∀ (w : World) (v : Value), StrsAt w v Z → Tells 15 #[.agg (E8 l), v, .string (strOf N)] w p1 x1) := fun w v hv => (h Z (fun _ => Iff.rfl) (by omega) w v hv).1
    have HS2 : Hid (∀ (w : World) (v : Value), StrsAt w v (L ++ [z0]) → Tells 15 #[.agg (E8 l), v, .string (strOf N)] w p1 x1) := fun w v hv => (h (L ++ [z0]) (unhide HM) (by rw [List.length_append, hdl]; simp; omega) w v hv).1
    clear h
    have hq1 : ∀ a : ByteArray, (a.toList == a.toList) = true := fun a => by simp
    have hq2 : ∀ x : Int, (x == x) = true := fun x => by simp
    go_region
    all_goals
      go_wp2_with fail
      refine Calls.mono (unhide HS1 _ _ ((unhide HV).below hbl3)) ?_
      rintro e w4 ⟨rfl, hb4⟩
      have hrow4 : rowOf w4 W.heap.size = E8 l := by rw [below_rowOf hb4 (by omega)]; exact hrow3
      have hbl4 : Below W.heap.size W w4 := hbl3.trans (hb4.mono (by omega))
      have HL4 := hide ((unhide HL3).below hb4)
      have hz4 : W.heap.size + 1 ≤ w4.heap.size := by have := hb4.size; omega
      clear hb4
      go_wp2_with fail
      refine Calls.mono (unhide HS2 _ _ (unhide HL4)) ?_
      rintro e w5 ⟨rfl, hb5⟩
      have hbl5 : Below W.heap.size W w5 := hbl4.trans (hb5.mono (by omega))
      clear hb5
      go_wp2_with fail
      refine (known_any _).mono ?_
      rintro e w6 ⟨rfl, hb6⟩
      have hbl6 : Below W.heap.size W w6 := hbl5.trans (hb6.mono hbl5.size)
      go_wp2
      go_ret
      exact ⟨rfl, hbl6⟩
  · go_enter Try.func7, Try.ntmps7
    go_wp2
    all_goals go_ret
    all_goals exact ⟨rfl, hb0⟩
end Go.Proofs.Ytfoghaocfkcggaa
