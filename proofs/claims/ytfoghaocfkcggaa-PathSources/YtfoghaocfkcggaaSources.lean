/- The paths of trees, of texts, of fixed outputs and of outputs: the law's walk. -/
import Derived.Test.YtfoghaocfkcggaaOuts
namespace Go.Proofs.Ytfoghaocfkcggaa
open Go.RowKit Go.Great
set_option maxRecDepth 20000 in
set_option maxHeartbeats 1000000 in
theorem paths_some (g o c g2 o2 c2 n : Nat) (Z : List Ord.S) (w : World) (hn : n ≤ 1000000)
    (h1 : ∀ i, i < n → w.cell? ⟨g, o + i, none⟩ = some (encStr (Z.getD i []))) (h2 : ∀ i, i < n → w.cell? ⟨g2, o2 + i, none⟩ = some (encStr (Z.getD i []))) :
    Calls Try.prog 23 #[.slice (some ⟨g, o, none⟩) n c, .slice (some ⟨g2, o2, none⟩) n c2] w fun e w' => e = .returned (.bool true) ∧ ∃ k, w' = w.drewN k := by
  have H1 : Hid (∀ i, i < n → w.cell? ⟨g, o + i, none⟩ = some (.string ⟨(Z.getD i []).toArray⟩)) := h1
  have H2 : Hid (∀ i, i < n → w.cell? ⟨g2, o2 + i, none⟩ = some (.string ⟨(Z.getD i []).toArray⟩)) := h2
  have hne : ((n : Int) != (n : Int)) = false := by simp
  clear h1 h2
  go_enter Try.func23, Try.ntmps23
  go_wp2
  go_loopw [5] (fun c wr => ∃ i k : Nat, i ≤ n ∧ c = .int .i64 (i : Int) ∧ wr = w.drewN k) (fun c _ => n - (intOf c).toNat)
  case atStart => exact ⟨0, 0, by omega, rfl, rfl⟩
  case round =>
    obtain ⟨i, k, hi, rfl, rfl⟩ := hrel
    by_cases hlt : i < n
    · have c1 := unhide H1 i hlt
      have c2 := unhide H2 i hlt
      generalize Z.getD i [] = z at *
      have hq : (z == z) = true := by simp
      go_wp2
      go_quiet (fail)
      go_wp2
      go_roundw
      case rel => exact ⟨i + 1, k + nq, by omega, by go_num, rfl⟩
      case measure => simp [intOf]; omega
    · have hi' : i = n := by omega
      subst hi'
      go_wp2
      go_ret
      exact ⟨rfl, k, rfl⟩
set_option maxRecDepth 20000 in
set_option maxHeartbeats 1000000 in
theorem paths_none (a a' : Option Addr) (c1 c2 : Nat) (w : World) :
    Calls Try.prog 23 #[.slice a 0 c1, .slice a' 0 c2] w fun e w' => e = .returned (.bool true) ∧ ∃ k, w' = w.drewN k := by
  go_enter Try.func23, Try.ntmps23
  go_wp2
  go_loopw [5] (fun c wr => c = .int .i64 0 ∧ wr = w) (fun _ _ => 0)
  case atStart => exact ⟨rfl, rfl⟩
  case round =>
    obtain ⟨rfl, rfl⟩ := hrel
    go_wp2
    go_ret
    exact ⟨rfl, 0, rfl⟩
theorem paths_any (u v : Value) (Z : List Ord.S) (w : World) (hu : StrsAt w u Z) (hv : StrsAt w v Z) (hmax : Z.length ≤ 1000000) :
    Calls Try.prog 23 #[u, v] w fun e w' => e = .returned (.bool true) ∧ ∃ k, w' = w.drewN k := by
  obtain ⟨a, c, rfl, hc, hx⟩ := hu
  obtain ⟨a', c', rfl, hc', hx'⟩ := hv
  by_cases h0 : 0 < Z.length
  · obtain ⟨g, o, rfl, hg, hcell⟩ := hx h0
    obtain ⟨g', o', rfl, hg', hcell'⟩ := hx' h0
    exact paths_some g o c g' o' c' Z.length Z w hmax hcell hcell'
  · obtain rfl : Z = [] := List.eq_nil_of_length_eq_zero (by omega)
    exact paths_none a a' c c' w
theorem OwnL.firsts {w : World} {base g n c : Nat} {Z : List Ord.S} {x : Ord.S} (h : OwnL w base (.slice (some ⟨g, 0, none⟩) (n + 1) c) (Z ++ [x])) (hn : Z.length = n) : StrsAt w (.slice (some ⟨g, 0, none⟩) n c) Z ∧ n + 1 ≤ c := by
  obtain ⟨a, c', e, hc, hx⟩ := h.at
  rw [List.length_append, List.length_singleton] at hc hx e
  cases e
  obtain ⟨b, o, ea, hb, hcell⟩ := hx (by omega)
  cases ea
  refine ⟨⟨_, c, by rw [hn], by omega, fun _ => ⟨g, 0, rfl, hb, fun i hi => ?_⟩⟩, by omega⟩
  rw [hcell i (by omega), List.getD_eq_getElem?_getD, List.getD_eq_getElem?_getD, List.getElem?_append_left hi]
theorem OwnL.some {w : World} {base : Nat} {v : Value} {L : List Ord.S} (h : OwnL w base v L) (h0 : 0 < L.length) : ∃ g c, v = .slice (some ⟨g, 0, none⟩) L.length c := by
  rcases h.2 with ⟨_, hl⟩ | ⟨g, cap, cur, e, _⟩
  · omega
  · exact ⟨g, cap, e⟩
def uX : Ord.S := [120]
theorem x_cells : (#[.string ⟨#[120]⟩] : Array Value) = #[.string ⟨uX.toArray⟩] := rfl
set_option maxRecDepth 20000 in
set_option maxHeartbeats 1000000 in
theorem sources_walk (W : World) (l : List Nat) (hl : l.length = 32) (hlb : Sha.Bytes l) (a : Option Addr) (len cap : Nat) (Z : List Ord.S) (hv : StrsAt W (.slice a len cap) Z) (hZn : Z.length = len) (hlm : len ≤ 9223372036854775807) (hZl : ∀ z ∈ Z, z.length ≤ 281474976710656)
    (os : ByteArray) (ho : os.size ≤ 140737488351232) (s : ByteArray) (hs : s.size ≤ 140737488351232) :
    Calls Try.prog 6 #[.agg (E8 l), .slice a len cap, .string os, .string s] W fun e w' => e = .returned (.bool true) ∧ Below W.heap.size W w' := by
  obtain ⟨o, hol, rfl⟩ : ∃ o : Ord.S, o.length ≤ 140737488351232 ∧ os = ⟨o.toArray⟩ := ⟨os.data.toList, by simpa using ho, by simp⟩
  obtain ⟨N, hNb, hNl, rfl⟩ : ∃ N, Sha.Bytes N ∧ N.length ≤ 140737488351232 ∧ s = strOf N := ⟨bytesOf s, bytesOf_bytes s, by rw [bytesOf_length]; exact hs, (strOf_bytesOf s).symm⟩
  clear ho hs
  have hb0 : Below W.heap.size W (W.alloc (.cells (E8 l) 25)) := (Below.refl _ _).alloc (Nat.le_refl _) _
  by_cases hlong : len ≤ 600 ∧ o.length + N.length ≤ 600
  · obtain ⟨hl1, hl2⟩ := hlong
    go_enter Try.func6, Try.ntmps6
    go_wp2_with fail
    have hn0 : OwnL ((W.alloc (.cells (E8 l) 25)).alloc (.cells #[] 26)) (W.heap.size + 1) (.slice (some ⟨W.heap.size + 1, 0, none⟩) 0 0) [] := by
      have := ownL_new (W.alloc (.cells (E8 l) 25)); simpa using this
    have hb1 : Below W.heap.size W ((W.alloc (.cells (E8 l) 25)).alloc (.cells #[] 26)) := hb0.alloc (by simp) _
    have hr1 : rowOf ((W.alloc (.cells (E8 l) 25)).alloc (.cells #[] 26)) W.heap.size = E8 l := by simp [go_sem]
    obtain ⟨v1, w1, hr, ho1, hb, hz⟩ := appS ((W.alloc (.cells (E8 l) 25)).alloc (.cells #[] 26)) (W.heap.size + 1) (.slice (some ⟨W.heap.size + 1, 0, none⟩) 0 0) [] a len cap Z 38 hZn hn0 (hv.below hb1) (by simp; omega) (by simp)
    rw [hr]
    rw [List.nil_append] at ho1
    have hbl1 : Below W.heap.size W w1 := hb1.trans (hb.mono (by omega))
    have hrow1 : rowOf w1 W.heap.size = E8 l := by rw [below_rowOf hb (by omega)]; exact hr1
    have hz1 : W.heap.size + 2 ≤ w1.heap.size := by simpa using hz
    clear hr hb hz hr1 hb1 hn0 hb0
    go_wp2_with fail
    rw [x_cells]
    obtain ⟨v2, w2, hr, ho2, hb, hz⟩ := appS (w1.alloc (.cells #[.string ⟨uX.toArray⟩] 26)) (W.heap.size + 1) v1 Z (some ⟨w1.heap.size, 0, none⟩) 1 1 [uX] 38 rfl (World.ownsRow.alloc ho1 _) (oneS_at w1 uX) (by omega) (by simp; omega)
    rw [hr]
    have hbl2 : Below W.heap.size W w2 := (hbl1.alloc (by omega) _).trans (hb.mono (by omega))
    have hrow2 : rowOf w2 W.heap.size = E8 l := by rw [below_rowOf hb (by omega), rowOf_alloc_past _ _ _ (by omega)]; exact hrow1
    have hz2 : W.heap.size + 1 ≤ w2.heap.size := by have : w1.heap.size + 1 ≤ w2.heap.size := by simpa using hz
                                                    omega
    obtain ⟨g, c, rfl⟩ := ho2.some (by simp)
    rw [List.length_append, List.length_singleton, hZn] at ho2 ⊢
    obtain ⟨hg2, hc2⟩ := ho2.firsts hZn
    have HG2 := hide hg2
    have HV := hide hv
    clear hr hb hz ho1 ho2 hrow1 hbl1 hz1 hg2 hv
    have hc2' : len ≤ c := by omega
    obtain ⟨p1, x1, h⟩ := source_both Z N l hl hlb hNb (by omega) hZl
    have HS : Hid (∀ (w : World) (v : Value), StrsAt w v Z → Tells 15 #[.agg (E8 l), v, .string (strOf N)] w p1 x1 ∧ Tells 16 #[.agg (E8 l), v, .string (strOf N)] w p1 x1) := fun w v hv => h Z (fun _ => Iff.rfl) (by omega) w v hv
    clear h
    obtain ⟨p2, x2, h⟩ := text_both Z N l hl hlb hNb (by omega) hZl
    have HT : Hid (∀ (w : World) (v : Value), StrsAt w v Z → Tells 17 #[.agg (E8 l), v, .string (strOf N)] w p2 x2 ∧ Tells 18 #[.agg (E8 l), v, .string (strOf N)] w p2 x2) := fun w v hv => h Z (fun _ => Iff.rfl) (by omega) w v hv
    clear h
    obtain ⟨p3, x3, h⟩ := fixed_both N l hl hlb hNb (by omega)
    have HF := hide h
    clear h
    obtain ⟨p4, x4, h⟩ := output_both l o N hl hlb hNb (by omega) (by omega)
    have HO := hide h
    have HZl := hide hZl
    clear h hZl
    have hq1 : ∀ a : ByteArray, (a.toList == a.toList) = true := fun a => by simp
    have hq2 : ∀ x : Int, (x == x) = true := fun x => by simp
    go_wp2_with fail
    refine Calls.mono (unhide HS _ _ (unhide HG2)).1 ?_
    rintro e w3 ⟨rfl, hb3⟩
    have hrow3 : rowOf w3 W.heap.size = E8 l := by rw [below_rowOf hb3 (by omega)]; exact hrow2
    have hbl3 : Below W.heap.size W w3 := hbl2.trans (hb3.mono (by omega))
    have HG3 := hide ((unhide HG2).below hb3)
    have hz3 : W.heap.size + 1 ≤ w3.heap.size := by have := hb3.size; omega
    clear hb3 hrow2 hbl2 HG2 hz2
    go_wp2_with fail
    refine Calls.mono (unhide HS _ _ ((unhide HV).below hbl3)).2 ?_
    rintro e w4 ⟨rfl, hb4⟩
    have hrow4 : rowOf w4 W.heap.size = E8 l := by rw [below_rowOf hb4 (by omega)]; exact hrow3
    have hbl4 : Below W.heap.size W w4 := hbl3.trans (hb4.mono (by omega))
    have HG4 := hide ((unhide HG3).below hb4)
    have hz4 : W.heap.size + 1 ≤ w4.heap.size := by have := hb4.size; omega
    clear hb4 hrow3 hbl3 HG3 hz3
    go_wp2_with fail
    refine Calls.mono (unhide HT _ _ (unhide HG4)).1 ?_
    rintro e w5 ⟨rfl, hb5⟩
    have hrow5 : rowOf w5 W.heap.size = E8 l := by rw [below_rowOf hb5 (by omega)]; exact hrow4
    have hbl5 : Below W.heap.size W w5 := hbl4.trans (hb5.mono (by omega))
    have HG5 := hide ((unhide HG4).below hb5)
    have hz5 : W.heap.size + 1 ≤ w5.heap.size := by have := hb5.size; omega
    clear hb5 hrow4 hbl4 HG4 hz4
    go_wp2_with fail
    refine Calls.mono (unhide HT _ _ ((unhide HV).below hbl5)).2 ?_
    rintro e w6 ⟨rfl, hb6⟩
    have hrow6 : rowOf w6 W.heap.size = E8 l := by rw [below_rowOf hb6 (by omega)]; exact hrow5
    have hbl6 : Below W.heap.size W w6 := hbl5.trans (hb6.mono (by omega))
    have HG6 := hide ((unhide HG5).below hb6)
    have hz6 : W.heap.size + 1 ≤ w6.heap.size := by have := hb6.size; omega
    clear hb6 hrow5 hbl5 HG5 hz5
    go_wp2_with fail
    refine Calls.mono (unhide HF _).1 ?_
    rintro e w7 ⟨rfl, hb7⟩
    have hrow7 : rowOf w7 W.heap.size = E8 l := by rw [below_rowOf hb7 (by omega)]; exact hrow6
    have hbl7 : Below W.heap.size W w7 := hbl6.trans (hb7.mono (by omega))
    have HG7 := hide ((unhide HG6).below hb7)
    have hz7 : W.heap.size + 1 ≤ w7.heap.size := by have := hb7.size; omega
    clear hb7 hrow6 hbl6 HG6 hz6
    go_wp2_with fail
    refine Calls.mono (unhide HF _).2 ?_
    rintro e w8 ⟨rfl, hb8⟩
    have hrow8 : rowOf w8 W.heap.size = E8 l := by rw [below_rowOf hb8 (by omega)]; exact hrow7
    have hbl8 : Below W.heap.size W w8 := hbl7.trans (hb8.mono (by omega))
    have HG8 := hide ((unhide HG7).below hb8)
    have hz8 : W.heap.size + 1 ≤ w8.heap.size := by have := hb8.size; omega
    clear hb8 hrow7 hbl7 HG7 hz7
    go_wp2_with fail
    refine Calls.mono (unhide HO _).1 ?_
    rintro e w9 ⟨rfl, hb9⟩
    have hrow9 : rowOf w9 W.heap.size = E8 l := by rw [below_rowOf hb9 (by omega)]; exact hrow8
    have hbl9 : Below W.heap.size W w9 := hbl8.trans (hb9.mono (by omega))
    have HG9 := hide ((unhide HG8).below hb9)
    have hz9 : W.heap.size + 1 ≤ w9.heap.size := by have := hb9.size; omega
    clear hb9 hrow8 hbl8 HG8 hz8
    go_wp2_with fail
    refine Calls.mono (unhide HO _).2 ?_
    rintro e w10 ⟨rfl, hb10⟩
    have hrow10 : rowOf w10 W.heap.size = E8 l := by rw [below_rowOf hb10 (by omega)]; exact hrow9
    have hbl10 : Below W.heap.size W w10 := hbl9.trans (hb10.mono (by omega))
    have HG10 := hide ((unhide HG9).below hb10)
    have hz10 : W.heap.size + 1 ≤ w10.heap.size := by have := hb10.size; omega
    clear hb10 hrow9 hbl9 HG9 hz9
    go_wp2_with fail
    refine (paths_any _ _ Z _ (unhide HG10) ((unhide HV).below hbl10) (by omega)).mono ?_
    rintro e w11 ⟨rfl, m, rfl⟩
    have hbl11 := below_drews hbl10 m
    generalize w10.drewN m = w12 at *
    go_wp2_with fail
    refine (known_any _).mono ?_
    rintro e w13 ⟨rfl, hb13⟩
    have hbl13 : Below W.heap.size W w13 := hbl11.trans (hb13.mono hbl11.size)
    go_wp2
    go_ret
    exact ⟨rfl, hbl13⟩
  · go_enter Try.func6, Try.ntmps6
    go_wp2
    all_goals go_ret
    all_goals exact ⟨rfl, hb0⟩
end Go.Proofs.Ytfoghaocfkcggaa
