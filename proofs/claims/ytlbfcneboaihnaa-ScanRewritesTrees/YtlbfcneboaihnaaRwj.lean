/- An entry laid between others by three appends, in names and in kids. -/
import Derived.Test.YtlbfcneboaihnaaK5
import Derived.Test.YtlbfcneboaihnaaRtm
namespace Go.Proofs.Ytlbfcneboaihnaa.Tn
open Go.RowKit
set_option linter.unusedSimpArgs false
theorem row_take {lo hi : Nat} {w : World} {a : Option Addr} {n c j sz : Nat} {xs : List Value} (h : Row lo hi w (.slice a n c) n xs) (hj : j ≤ n) : Row lo hi w (.slice a j c) j (xs.take (j * sz)) := by
  obtain ⟨a', c', e, hc, hx⟩ := h
  injection e with e1 e2 e3
  subst e1 e3
  refine ⟨a, c, rfl, by omega, fun h0 => ?_⟩
  obtain ⟨g, o, ea, h1, h2, hcell⟩ := hx (by omega)
  refine ⟨g, o, ea, h1, h2, fun q u hq => hcell q u ?_⟩
  have hlt := (List.getElem?_eq_some_iff.1 hq).1
  rw [List.length_take] at hlt
  rw [List.getElem?_take_of_lt (by omega)] at hq
  exact hq
theorem row_drop {lo hi : Nat} {w : World} {a : Option Addr} {n c j sz : Nat} {xs : List Value} (h : Row lo hi w (.slice a n c) n xs) (hj : j ≤ n) (b : Option Addr) (hb : ¬ c = j → b = a.map fun p => p.add (j * sz)) : Row lo hi w (.slice b (n - j) (c - j)) (n - j) (xs.drop (j * sz)) := by
  obtain ⟨a', c', e, hc, hx⟩ := h
  injection e with e1 e2 e3
  subst e1 e3
  refine ⟨b, c - j, rfl, by omega, fun h0 => ?_⟩
  obtain ⟨g, o, ea, h1, h2, hcell⟩ := hx (by omega)
  refine ⟨g, o + j * sz, ?_, h1, h2, fun q u hq => ?_⟩
  · rw [hb (by omega), ea]
    simp only [Option.map_some, addr_mid]
  · rw [Nat.add_assoc]
    refine hcell (j * sz + q) u ?_
    rw [List.getElem?_drop] at hq
    exact hq
/-- Where it is laid. -/
theorem insP_at (e : En) : ∀ (acc : List En) (j : Nat), j ≤ acc.length → (∀ (j' : Nat) (a : En), j' < j → acc[j']? = some a → ¬ e.1.toList < a.1.toList) → (∀ a, acc[j]? = some a → e.1.toList < a.1.toList) → insP e acc = acc.take j ++ e :: acc.drop j
  | [], j, hj, _, _ => by
    obtain rfl : j = 0 := by simpa using hj
    rfl
  | a :: r, 0, _, _, h => by
    rw [insP, if_pos (h a rfl)]; rfl
  | a :: r, j + 1, hj, h1, h2 => by
    rw [insP, if_neg (h1 0 a (by omega) rfl), insP_at e r j (by simpa using hj) (fun j' b hj' hb => h1 (j' + 1) b (by omega) (by simpa using hb)) (fun b hb => h2 b (by simpa using hb))]
    rfl
/-- All the appends of one round. -/
structure Laid6 (W0 W1 W2 W3 W4 W5 W6 : World) (OB i j lo : Nat) (s : ByteArray) (kc : List Value) (a1 a2 s1 s2 : Option Addr) (c1 c2 : Nat) (b1 b2 b3 b4 b5 b6 : Option Addr) (d1 d2 d3 d4 d5 d6 : Nat) (v0 v1 v2 v3 v4 : Value) (xs ys : List Value) : Prop where
  r1 : ∀ ty, (app23 ty #[.slice (some ⟨W0.heap.size, 0, none⟩) 0 0, .slice a1 j c1]).run Try.prog (W0.alloc (.cells #[] 9)) = .ok (.slice b1 j d1) W1
  r2 : ∀ ty, (app23 ty #[.slice b1 j d1, .slice (some ⟨W1.heap.size, 0, none⟩) 1 1]).run Try.prog (W1.alloc (.cells #[.string s] 9)) = .ok (.slice b2 (j + 1) d2) W2
  r3 : ∀ ty, (app24 ty #[.slice (some ⟨W2.heap.size, 0, none⟩) 0 0, .slice a2 j c2]).run Try.prog (W2.alloc (.cells #[] 34)) = .ok (.slice b3 j d3) W3
  r4 : ∀ ty, (app24 ty #[.slice b3 j d3, .slice (some ⟨W3.heap.size, 0, none⟩) 1 1]).run Try.prog (W3.alloc (.cells kc.toArray 34)) = .ok (.slice b4 (j + 1) d4) W4
  r5 : ∀ ty, (app23 ty #[.slice b2 (j + 1) d2, .slice s1 (i - j) (c1 - j)]).run Try.prog W4 = .ok (.slice b5 (i + 1) d5) W5
  r6 : ∀ ty, (app24 ty #[.slice b4 (j + 1) d4, .slice s2 (i - j) (c2 - j)]).run Try.prog (W5.setCell ⟨OB, 3, none⟩ (.slice b5 (i + 1) d5)) = .ok (.slice b6 (i + 1) d6) W6
  sz : W0.heap.size ≤ W1.heap.size ∧ W1.heap.size ≤ W2.heap.size ∧ W2.heap.size ≤ W3.heap.size ∧ W3.heap.size ≤ W4.heap.size ∧ W4.heap.size ≤ W5.heap.size ∧ W5.heap.size ≤ W6.heap.size
  k1 : ∀ q, q < W0.heap.size → W1.heap[q]? = W0.heap[q]?
  k2 : ∀ q, q < W0.heap.size → W2.heap[q]? = W0.heap[q]?
  k3 : ∀ q, q < W0.heap.size → W3.heap[q]? = W0.heap[q]?
  k4 : ∀ q, q < W0.heap.size → W4.heap[q]? = W0.heap[q]?
  k5 : ∀ q, q < W0.heap.size → W5.heap[q]? = W0.heap[q]?
  k6 : ∀ q, q < W0.heap.size → q ≠ OB → W6.heap[q]? = W0.heap[q]?
  bx6 : Bx W6 OB v0 v1 v2 (.slice b5 (i + 1) d5) v4
  os : W6.os = W0.os
  tape : W6.tape = W0.tape
  output : W6.output = W0.output
  nms : Row W0.heap.size W6.heap.size W6 (.slice b5 (i + 1) d5) (i + 1) (xs.take (j * 1) ++ [.string s] ++ xs.drop (j * 1))
  kds : Row W0.heap.size W6.heap.size W6 (.slice b6 (i + 1) d6) (i + 1) (ys.take (j * 5) ++ kc ++ ys.drop (j * 5))
theorem take_one {l : List Value} {n : Nat} (h : ∀ u ∈ l, u.oneCell' = true) : ∀ u ∈ l.take n, u.oneCell' = true := fun u hu => h u (List.mem_of_mem_take hu)
theorem drop_one {l : List Value} {n : Nat} (h : ∀ u ∈ l, u.oneCell' = true) : ∀ u ∈ l.drop n, u.oneCell' = true := fun u hu => h u (List.mem_of_mem_drop hu)
theorem owns_apart {w : World} {b1 b2 : Nat} {e1 e2 : TypeId} {s1 s2 : Nat} {v1 v2 : Value} {n1 n2 : Nat} {x1 x2 : List Value} (h1 : w.ownsRow b1 e1 s1 v1 n1 x1) (h2 : w.ownsRow b2 e2 s2 v2 n2 x2) (hne : e1 ≠ e2) {g : Nat} (hg : v1.ownBlock = some g) : v2.ownBlock ≠ some g := fun hg2 => by
  rcases h1.2 with ⟨e, _⟩ | ⟨g1, _, cur1, e', _, hh1, _⟩
  · rw [e] at hg; simp [Value.ownBlock] at hg
  rcases h2.2 with ⟨e, _⟩ | ⟨g2, _, cur2, e'', _, hh2, _⟩
  · rw [e] at hg2; simp [Value.ownBlock] at hg2
  rw [e'] at hg
  rw [e''] at hg2
  simp [Value.ownBlock] at hg hg2
  subst hg
  subst hg2
  rw [hh1] at hh2
  injection hh2 with hh2
  injection hh2 with _ h _
  exact hne h
theorem laid6 {W0 : World} {OB i j lo : Nat} {a1 a2 s1 s2 : Option Addr} {c1 c2 : Nat} {xs ys : List Value} {v0 v1 v2 v3 v4 : Value} (s : ByteArray) (kc : List Value) (hN : Row lo W0.heap.size W0 (.slice a1 i c1) i xs) (hxl : xs.length = i) (hx1 : ∀ u ∈ xs, u.oneCell' = true)
    (hK : Row lo W0.heap.size W0 (.slice a2 i c2) i ys) (hyl : ys.length = i * 5) (hy1 : ∀ u ∈ ys, u.oneCell' = true) (hkl : kc.length = 5) (hk1 : ∀ u ∈ kc, u.oneCell' = true) (hj : j ≤ i) (hi : i ≤ 300) (hbx : Bx W0 OB v0 v1 v2 v3 v4) (hOl : OB < lo)
    (hs1 : ¬ c1 = j → s1 = a1.map fun p => p.add (j * 1)) (hs2 : ¬ c2 = j → s2 = a2.map fun p => p.add (j * 5)) :
    ∃ W1 W2 W3 W4 W5 W6 b1 b2 b3 b4 b5 b6 d1 d2 d3 d4 d5 d6, Laid6 W0 W1 W2 W3 W4 W5 W6 OB i j lo s kc a1 a2 s1 s2 c1 c2 b1 b2 b3 b4 b5 b6 d1 d2 d3 d4 d5 d6 v0 v1 v2 v3 v4 xs ys := by
  have hOB := hbx.lt
  -- names, ahead
  have hA : Below W0.heap.size W0 (W0.alloc (.cells #[] 9)) := (Below.refl _ _).alloc (Nat.le_refl _) _
  obtain ⟨u1, W1, r1, o1, g1, f1⟩ := app23_own _ W0.heap.size lo W0.heap.size _ 0 [] a1 j c1 (xs.take (j * 1)) (owns_new W0 9 1) ((row_take hN hj).below hA (Nat.le_refl _)) (by rw [List.length_take]; omega) (take_one hx1) (by omega) (by simp)
  rw [List.nil_append, Nat.zero_add] at o1
  obtain ⟨b1, d1, rfl, _⟩ := owns_slice o1
  have z1 := g1.size
  simp only [World.size_alloc] at z1
  have k1 : ∀ q, q < W0.heap.size → W1.heap[q]? = W0.heap[q]? := fun q hq => by rw [g1.block q (by simp; omega) (by simp [Value.ownBlock]; omega), hA.block q hq]
  -- names, the one
  have hB : Below W1.heap.size W1 (W1.alloc (.cells #[.string s] 9)) := (Below.refl _ _).alloc (Nat.le_refl _) _
  obtain ⟨u2, W2, r2, o2, g2, f2⟩ := app23_own (W1.alloc (.cells #[.string s] 9)) W0.heap.size _ _ _ j _ _ 1 1 [.string s] (World.ownsRow.alloc o1 _) (one_row W1 [.string s] 9) rfl (fun u hu => by simp at hu; subst hu; rfl) (by omega) (by simp; omega)
  obtain ⟨b2, d2, rfl, _⟩ := owns_slice o2
  have z2 := g2.size
  simp only [World.size_alloc] at z2
  have l1 := owns_lt o1
  have k2 : ∀ q, q < W0.heap.size → W2.heap[q]? = W0.heap[q]? := fun q hq => by rw [g2.block q (by simp; omega) (fun e => by have := (l1 q e.symm).1; omega), hB.block q (by omega), k1 q hq]
  -- kids, ahead
  have hC : Below W2.heap.size W2 (W2.alloc (.cells #[] 34)) := (Below.refl _ _).alloc (Nat.le_refl _) _
  have hK2 : Row lo W0.heap.size W2 (.slice a2 i c2) i ys := hK.same fun q _ hq => k2 q hq
  obtain ⟨u3, W3, r3, o3, g3, f3⟩ := app24_own _ W2.heap.size lo W0.heap.size _ 0 [] a2 j c2 (ys.take (j * 5)) (owns_new W2 34 5) ((row_take hK2 hj).below hC (by omega)) (by rw [List.length_take]; omega) (take_one hy1) (by omega) (by simp)
  rw [List.nil_append, Nat.zero_add] at o3
  obtain ⟨b3, d3, rfl, _⟩ := owns_slice o3
  have z3 := g3.size
  simp only [World.size_alloc] at z3
  have k23 : ∀ q, q < W2.heap.size → W3.heap[q]? = W2.heap[q]? := fun q hq => by rw [g3.block q (by simp; omega) (by simp [Value.ownBlock]; omega), hC.block q hq]
  have k3 : ∀ q, q < W0.heap.size → W3.heap[q]? = W0.heap[q]? := fun q hq => by rw [k23 q (by omega), k2 q hq]
  -- kids, the one
  have hD : Below W3.heap.size W3 (W3.alloc (.cells kc.toArray 34)) := (Below.refl _ _).alloc (Nat.le_refl _) _
  obtain ⟨u4, W4, r4, o4, g4, f4⟩ := app24_own (W3.alloc (.cells kc.toArray 34)) W2.heap.size _ _ _ j _ _ 1 1 kc (World.ownsRow.alloc o3 _) (one_row W3 kc 34) (by omega) hk1 (by omega) (by simp; omega)
  obtain ⟨b4, d4, rfl, _⟩ := owns_slice o4
  have z4 := g4.size
  simp only [World.size_alloc] at z4
  have l3 := owns_lt o3
  have k24 : ∀ q, q < W2.heap.size → W4.heap[q]? = W2.heap[q]? := fun q hq => by rw [g4.block q (by simp; omega) (fun e => by have := (l3 q e.symm).1; omega), hD.block q (by omega), k23 q hq]
  have k4 : ∀ q, q < W0.heap.size → W4.heap[q]? = W0.heap[q]? := fun q hq => by rw [k24 q (by omega), k2 q hq]
  -- names, behind
  have l2 := owns_lt o2
  have o2' : W4.ownsRow W0.heap.size 9 1 (.slice b2 (j + 1) d2) (j + 1) (xs.take (j * 1) ++ [.string s]) := owns_same o2 (fun q hq => k24 q (l2 q hq).2) fun _ _ h => h
  have hN4 : Row lo W0.heap.size W4 (.slice a1 i c1) i xs := hN.same fun q _ hq => k4 q hq
  obtain ⟨u5, W5, r5, o5, g5, f5⟩ := app23_own W4 W0.heap.size lo W0.heap.size _ (j + 1) _ s1 (i - j) (c1 - j) (xs.drop (j * 1)) o2' (row_drop hN4 hj s1 hs1) (by rw [List.length_drop]; omega) (drop_one hx1) (by omega) (by omega)
  rw [show j + 1 + (i - j) = i + 1 by omega] at o5
  obtain ⟨b5, d5, rfl, _⟩ := owns_slice o5
  have z5 := g5.size
  have k45 : ∀ q, q < W4.heap.size → (Value.slice b2 (j + 1) d2).ownBlock ≠ some q → W5.heap[q]? = W4.heap[q]? := fun q hq hne => g5.block q hq (fun e => hne e.symm)
  have l2' := owns_lt o2'
  have k5 : ∀ q, q < W0.heap.size → W5.heap[q]? = W0.heap[q]? := fun q hq => by rw [k45 q (by omega) (fun e => by have := (l2' q e).1; omega), k4 q hq]
  have bx5 : Bx W5 OB v0 v1 v2 v3 v4 := hbx.of (k5 OB hOB)
  -- kids, behind
  have l4 := owns_lt o4
  have l5 := owns_lt o5
  have o4' : (W5.setCell ⟨OB, 3, none⟩ (.slice b5 (i + 1) d5)).ownsRow W2.heap.size 34 5 (.slice b4 (j + 1) d4) (j + 1) (ys.take (j * 5) ++ kc) := owns_same o4 (fun q hq => by
    have h1 := l4 q hq
    rw [set_other _ _ _ _ _ (by omega), k45 q h1.2 (owns_apart o4 o2' (by decide) hq)]) fun _ _ h => h
  have hK5 : Row lo W0.heap.size W5 (.slice a2 i c2) i ys := hK.same fun q _ hq => k5 q hq
  have hOBr : Row lo W0.heap.size (W5.setCell ⟨OB, 3, none⟩ (.slice b5 (i + 1) d5)) (.slice s2 (i - j) (c2 - j)) (i - j) (ys.drop (j * 5)) := by
    have h := row_drop hK5 hj s2 hs2
    exact h.same fun q hq _ => set_other _ _ _ _ _ (by omega)
  obtain ⟨u6, W6, r6, o6, g6, f6⟩ := app24_own (W5.setCell ⟨OB, 3, none⟩ (.slice b5 (i + 1) d5)) W2.heap.size lo W0.heap.size _ (j + 1) _ s2 (i - j) (c2 - j) (ys.drop (j * 5)) o4' hOBr (by rw [List.length_drop, hyl]; omega) (drop_one hy1) (by omega) (by simp; omega)
  rw [show j + 1 + (i - j) = i + 1 by omega] at o6
  obtain ⟨b6, d6, rfl, _⟩ := owns_slice o6
  have z6 := g6.size
  simp only [setCell_size] at z6
  have l4' := owns_lt o4'
  have k56 : ∀ q, q < W5.heap.size → (Value.slice b4 (j + 1) d4).ownBlock ≠ some q → W6.heap[q]? = (W5.setCell ⟨OB, 3, none⟩ (.slice b5 (i + 1) d5)).heap[q]? := fun q hq hne => g6.block q (by simpa using hq) (fun e => hne e.symm)
  have k6 : ∀ q, q < W0.heap.size → q ≠ OB → W6.heap[q]? = W0.heap[q]? := fun q hq hne => by rw [k56 q (by omega) (fun e => by have := (l4' q e).1; omega), set_other _ _ _ _ _ hne, k5 q hq]
  have bx6 : Bx W6 OB v0 v1 v2 (.slice b5 (i + 1) d5) v4 := (bx5.set3 _).of (k56 OB (by omega) (fun e => by have := (l4' OB e).1; omega))
  have o5' : W6.ownsRow W0.heap.size 9 1 (.slice b5 (i + 1) d5) (i + 1) (xs.take (j * 1) ++ [.string s] ++ xs.drop (j * 1)) := owns_same o5 (fun q hq => by
    have h1 := l5 q hq
    have o5s : (W5.setCell ⟨OB, 3, none⟩ (.slice b5 (i + 1) d5)).ownsRow W0.heap.size 9 1 (.slice b5 (i + 1) d5) (i + 1) (xs.take (j * 1) ++ [.string s] ++ xs.drop (j * 1)) := owns_same o5 (fun q hq => set_other _ _ _ _ _ (by have := (l5 q hq).1; omega)) fun _ _ h => h
    rw [k56 q h1.2 (owns_apart o5s o4' (by decide) hq), set_other _ _ _ _ _ (by omega)]) fun _ _ h => h
  refine ⟨W1, W2, W3, W4, W5, W6, b1, b2, b3, b4, b5, b6, d1, d2, d3, d4, d5, d6, ⟨r1, r2, r3, r4, r5, r6, by omega, k1, k2, k3, k4, k5, k6, bx6, ?_, ?_, ?_, owns_row o5' (owns_lt o5'), ?_⟩⟩
  · exact g6.os.trans (g5.os.trans (g4.os.trans (g3.os.trans (g2.os.trans g1.os))))
  · exact g6.tape.trans (g5.tape.trans (g4.tape.trans (g3.tape.trans (g2.tape.trans g1.tape))))
  · exact g6.output.trans (g5.output.trans (g4.output.trans (g3.output.trans (g2.output.trans g1.output))))
  · exact (owns_row o6 (owns_lt o6)).mono (by omega) (Nat.le_refl _)
end Go.Proofs.Ytlbfcneboaihnaa.Tn
