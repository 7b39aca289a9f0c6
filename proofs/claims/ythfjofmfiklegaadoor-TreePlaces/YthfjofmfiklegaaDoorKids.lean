/- Rows of the call's own, made one behind the other: bytes, names, kids. -/
import Derived.Test.YthfjofmfiklegaaDoorKeep
namespace Go.Proofs.YthfjofmfiklegaaDoor
open Go.RowKit
theorem owns_new (w : World) (e : TypeId) (size : Nat) : (w.alloc (.cells #[] e)).ownsRow w.heap.size e size (.slice (some ⟨w.heap.size, 0, none⟩) 0 0) 0 [] :=
  ⟨by simp, .inr ⟨w.heap.size, 0, #[], rfl, Nat.le_refl _, by show (w.heap.push _)[w.heap.size]? = _; rw [Array.getElem?_push, if_pos rfl], Nat.le_refl _, Nat.zero_le _, by simp, by simp⟩⟩
theorem one_bytes (d : ByteArray) : ∀ u ∈ byteVals d, u.oneCell' = true := fun u hu => by obtain ⟨b, -, rfl⟩ := List.mem_map.1 hu; rfl
theorem one_strs (ns : List ByteArray) : ∀ u ∈ ns.map Value.string, u.oneCell' = true := fun u hu => by obtain ⟨b, -, rfl⟩ := List.mem_map.1 hu; rfl
/-- What is appended to an empty literal is a row of its own. -/
theorem fresh22 (w : World) (lo hi : Nat) (a : Option Addr) (m c : Nat) (ys : List Value) (hr : Row lo hi w (.slice a m c) m ys) (hl : ys.length = m) (h1 : ∀ u ∈ ys, u.oneCell' = true) (hmax : m ≤ 100000000) (hhi : hi ≤ w.heap.size) :
    ∃ a1 c1 w1, (∀ ty, (app22 ty #[.slice (some ⟨w.heap.size, 0, none⟩) 0 0, .slice a m c]).run Tryd.prog (w.alloc (.cells #[] 5)) = .ok (.slice a1 m c1) w1) ∧ Below w.heap.size w w1 ∧ Row w.heap.size w1.heap.size w1 (.slice a1 m c1) m ys := by
  have hb : Below w.heap.size w (w.alloc (.cells #[] 5)) := (Below.refl _ _).alloc (Nat.le_refl _) _
  obtain ⟨v1, w1, happ, ho, hg, _⟩ := app22_own _ _ lo hi _ 0 [] a m c ys (owns_new w 5 1) (hr.below hb hhi) hl h1 (by omega) (by simp)
  rw [Nat.zero_add, List.nil_append] at ho
  obtain ⟨a1, c1, rfl, _⟩ := owns_slice ho
  exact ⟨a1, c1, w1, happ, hb.grown hg (by simp) (fun k hk => by simp [Value.ownBlock] at hk; omega), owns_row ho (owns_lt ho)⟩
theorem fresh23 (w : World) (lo hi : Nat) (a : Option Addr) (m c : Nat) (ys : List Value) (hr : Row lo hi w (.slice a m c) m ys) (hl : ys.length = m) (h1 : ∀ u ∈ ys, u.oneCell' = true) (hmax : m ≤ 100000000) (hhi : hi ≤ w.heap.size) :
    ∃ a1 c1 w1, (∀ ty, (app23 ty #[.slice (some ⟨w.heap.size, 0, none⟩) 0 0, .slice a m c]).run Tryd.prog (w.alloc (.cells #[] 9)) = .ok (.slice a1 m c1) w1) ∧ Below w.heap.size w w1 ∧ Row w.heap.size w1.heap.size w1 (.slice a1 m c1) m ys := by
  have hb : Below w.heap.size w (w.alloc (.cells #[] 9)) := (Below.refl _ _).alloc (Nat.le_refl _) _
  obtain ⟨v1, w1, happ, ho, hg, _⟩ := app23_own _ _ lo hi _ 0 [] a m c ys (owns_new w 9 1) (hr.below hb hhi) hl h1 (by omega) (by simp)
  rw [Nat.zero_add, List.nil_append] at ho
  obtain ⟨a1, c1, rfl, _⟩ := owns_slice ho
  exact ⟨a1, c1, w1, happ, hb.grown hg (by simp) (fun k hk => by simp [Value.ownBlock] at hk; omega), owns_row ho (owns_lt ho)⟩
/-- Kids of the call's own, so many yet, in a row of its own. -/
def KidsAt (Z : Nat) (w : World) (v : Value) (ks : List Tr) (i : Nat) : Prop :=
  ∃ Ks : List (List Value), Ks.length = i ∧ (∀ c ∈ Ks, c.length = 5) ∧ w.ownsRow Z 26 5 v i Ks.flatten ∧
    ∀ (j : Nat) (t : Tr) (c : List Value), ks[j]? = some t → Ks[j]? = some c → ∃ L H, Lies L H w t c ∧ Z ≤ L ∧ H ≤ w.heap.size ∧ ∀ g, v.ownBlock = some g → g < L ∨ H ≤ g
theorem kids_none (Z : Nat) (w : World) (ks : List Tr) : KidsAt Z w (.slice none 0 0) ks 0 :=
  ⟨[], rfl, fun c hc => by simp at hc, ⟨rfl, .inl ⟨rfl, rfl⟩⟩, fun j t c _ hc => by simp at hc⟩
theorem Lies.one {lo hi : Nat} {w : World} {T : Tr} {cs : List Value} (h : Lies lo hi w T cs) : ∀ u ∈ cs, u.oneCell' = true := by
  obtain ⟨k, x, a1, n1, c1, a2, n2, c2, a3, n3, c3, rfl⟩ := h.form
  intro u hu
  simp at hu
  rcases hu with rfl | rfl | rfl | rfl | rfl <;> rfl
theorem one_row (w : World) (cs : List Value) (e : TypeId) : Row w.heap.size (w.heap.size + 1) (w.alloc (.cells cs.toArray e)) (.slice (some ⟨w.heap.size, 0, none⟩) 1 1) 1 cs := by
  refine ⟨_, 1, rfl, Nat.le_refl _, fun _ => ⟨w.heap.size, 0, rfl, Nat.le_refl _, by omega, fun j u hj => ?_⟩⟩
  rw [cell_of_row (w.alloc (.cells cs.toArray e)) w.heap.size (0 + j) cs.toArray e (0, 0) (by show (w.heap.push _)[w.heap.size]? = _; rw [Array.getElem?_push, if_pos rfl]), Nat.zero_add]
  simpa using hj
/-- One more kid is appended. -/
theorem kids_step {Z : Nat} {wr w1 : World} {v : Value} {ks : List Tr} {i : Nat} {cs : List Value} {t : Tr} (h : KidsAt Z wr v ks i) (hb : Below wr.heap.size wr w1) (hL : Lies wr.heap.size w1.heap.size w1 t cs) (ht : ks[i]? = some t) (hmax : i ≤ 1000000) (hZ : Z ≤ wr.heap.size) :
    ∃ a' c' w2, (∀ ty, (app24 ty #[v, .slice (some ⟨w1.heap.size, 0, none⟩) 1 1]).run Tryd.prog (w1.alloc (.cells cs.toArray 26)) = .ok (.slice a' (i + 1) c') w2) ∧ KidsAt Z w2 (.slice a' (i + 1) c') ks (i + 1) ∧ Below Z wr w2 := by
  obtain ⟨Ks, hKl, hK5, ho, hK⟩ := h
  have hb1 : Below w1.heap.size w1 (w1.alloc (.cells cs.toArray 26)) := (Below.refl _ _).alloc (Nat.le_refl _) _
  have hb2 : Below wr.heap.size wr (w1.alloc (.cells cs.toArray 26)) := hb.trans (hb1.mono hb.size)
  have hsz := hb.size
  have ho1 : (w1.alloc (.cells cs.toArray 26)).ownsRow Z 26 5 v i Ks.flatten := owns_same ho (fun g hg => hb2.block g (owns_lt ho g hg).2) (fun g _ h => h)
  obtain ⟨v', w2, happ, ho2, hg, hf⟩ := app24_own _ Z _ _ v i Ks.flatten _ 1 1 cs ho1 (one_row w1 cs 26) (by rw [hL.length]) hL.one (by omega) (by simp; omega)
  obtain ⟨a', c', rfl, _⟩ := owns_slice ho2
  have hbw : Below Z wr w2 := (hb2.mono hZ).grown hg (by simp; omega) (fun k hk => (owns_lt ho1 k hk).1)
  have hs1 : (w1.alloc (.cells cs.toArray 26)).heap.size = w1.heap.size + 1 := by simp
  have hs2 := hg.size
  rw [hs1] at hs2 hf
  refine ⟨a', c', w2, happ, ⟨Ks ++ [cs], by rw [List.length_append, hKl]; rfl, ?_, ?_, ?_⟩, hbw⟩
  · intro c hc
    rcases List.mem_append.1 hc with h | h
    · exact hK5 c h
    · simp at h; subst h; exact hL.length
  · rw [List.flatten_append]; simpa using ho2
  · intro j t' c' hj hc
    by_cases hji : j < i
    · rw [List.getElem?_append_left (by omega)] at hc
      obtain ⟨L, H, hLj, hZL, hHw, hap⟩ := hK j t' c' hj hc
      refine ⟨L, H, hLj.same (fun k hk1 hk2 => ?_), hZL, by omega, fun g hgv => ?_⟩
      · rw [hg.block k (by rw [hs1]; omega) (fun e => by have := hap k e.symm; omega), hb2.block k (by omega)]
      · rcases hf with h | h
        · exact hap g (by rw [← h]; exact hgv)
        · rw [h] at hgv; simp at hgv; omega
    · obtain rfl : j = i := by
        have := (List.getElem?_eq_some_iff.1 hc).1
        simp at this; omega
      rw [ht] at hj
      cases hj
      rw [List.getElem?_append_right (by omega), hKl] at hc
      simp at hc
      subst hc
      refine ⟨wr.heap.size, w1.heap.size, hL.same (fun k hk1 hk2 => ?_), hZ, by omega, fun g hgv => ?_⟩
      · rw [hg.block k (by rw [hs1]; omega) (fun e => by have := (owns_lt ho k e.symm).2; omega), hb1.block k (by omega)]
      · rcases hf with h | h
        · have := (owns_lt ho g (by rw [← h]; exact hgv)).2; omega
        · rw [h] at hgv; simp at hgv; omega
theorem kids_end {Z : Nat} {w : World} {v : Value} {ks : List Tr} (h : KidsAt Z w v ks ks.length) :
    ∃ Ks : List (List Value), Ks.length = ks.length ∧ Row Z w.heap.size w v ks.length Ks.flatten ∧ ∀ (j : Nat) (t : Tr) (c : List Value), ks[j]? = some t → Ks[j]? = some c → Lies Z w.heap.size w t c := by
  obtain ⟨Ks, hKl, hK5, ho, hK⟩ := h
  exact ⟨Ks, hKl, owns_row ho (owns_lt ho), fun j t c hj hc => by obtain ⟨L, H, hL, h1, h2, _⟩ := hK j t c hj hc; exact hL.mono h1 h2⟩
/-- What the row of kids is in a world in which nothing of it has turned. -/
theorem KidsAt.same {Z : Nat} {w w' : World} {v : Value} {ks : List Tr} {i : Nat} (h : KidsAt Z w v ks i) (hs : ∀ k, Z ≤ k → k < w.heap.size → w'.heap[k]? = w.heap[k]?) (hz : w.heap.size ≤ w'.heap.size) : KidsAt Z w' v ks i := by
  obtain ⟨Ks, hKl, hK5, ho, hK⟩ := h
  refine ⟨Ks, hKl, hK5, owns_same ho (fun g hg => hs g (owns_lt ho g hg).1 (owns_lt ho g hg).2) (fun g _ h => h), fun j t c hj hc => ?_⟩
  obtain ⟨L, H, hL, h1, h2, h3⟩ := hK j t c hj hc
  exact ⟨L, H, hL.same (fun k hk1 hk2 => hs k (by omega) (by omega)), h1, by omega, h3⟩
end Go.Proofs.YthfjofmfiklegaaDoor
