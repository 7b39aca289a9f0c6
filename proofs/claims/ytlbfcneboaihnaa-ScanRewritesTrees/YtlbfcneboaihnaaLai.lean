/- What inData leaves: the digits laid in the data of a tree whose rows are the call's own, in place. -/
import Derived.Test.YtlbfcneboaihnaaOwnr
import Derived.Test.YtlbfcneboaihnaaRtm
import Derived.Test.YtlbfcneboaihnaaK5
namespace Go.Proofs.Ytlbfcneboaihnaa.Tn
open Go.RowKit Go.Great
set_option linter.unusedSimpArgs false
/-- The swap's box. -/
abbrev SwBox (F D : List Nat) (t : Nat) : Obj := .cells #[.string (strOf F), .string (strOf D), .int .i64 (t : Int)] 68
theorem byteVals_strOf {L : List Nat} (h : Sha.Bytes L) : byteVals (strOf L) = L.map B8 := by
  unfold byteVals strOf
  simp only [List.map_map]
  refine List.map_congr_left fun n hn => ?_
  have := h n hn
  simp only [Function.comp, B8, UInt8.toNat_ofNat']
  congr 1; omega
theorem rp_bytes {F D : List Nat} (hD : Sha.Bytes D) (s : ByteArray) : Sha.Bytes (layAll D (bytesOf s) (plcs (bytesOf s) F 0)) := layAll_bytes hD _ _ (bytesOf_bytes s)
theorem ownR_row {w : World} {base : Nat} {v : Value} {F D : List Nat} {s : ByteArray} (hD : Sha.Bytes D) (h : OwnR w base v (layAll D (bytesOf s) (plcs (bytesOf s) F 0))) : RowP (fun k => base ≤ k ∧ k < w.heap.size) w v (rp F D s).size (byteVals (rp F D s)) := by
  unfold rp
  rw [byteVals_strOf (rp_bytes hD s), strOf_size]
  exact RowP.of (owns_row h (owns_lt h))
theorem flat_set5 (v : Value) : ∀ (Ks : List (List Value)) (i : Nat) (c : List Value), (∀ c ∈ Ks, c.length = 5) → Ks[i]? = some c → (Ks.set i (c.set 2 v)).flatten = Ks.flatten.set (i * 5 + 2) v
  | [], _, _, _, h => by simp at h
  | a :: r, 0, c, h5, h => by
    simp at h; subst h
    have := h5 a (by simp)
    rw [List.set_cons_zero, List.flatten_cons, List.flatten_cons, List.set_append_left _ _ (by omega)]
  | a :: r, i + 1, c, h5, h => by
    have := h5 a (by simp)
    rw [List.set_cons_succ, List.flatten_cons, List.flatten_cons, List.set_append_right _ _ (by omega), flat_set5 v r i c (fun c hc => h5 c (by simp [hc])) (by simpa using h)]
    congr 2; omega
/-- A cell of one's own row set anew. -/
theorem owns_set {w w' : World} {base e size : Nat} {a : Option Addr} {n c g j : Nat} {xs : List Value} {v : Value} (h : w.ownsRow base e size (.slice a n c) n xs) (ha : a = some ⟨g, 0, none⟩) (hw : w'.heap[g]? = (w.setCell ⟨g, j, none⟩ v).heap[g]?) :
    w'.ownsRow base e size (.slice a n c) n (xs.set j v) := by
  obtain ⟨h1, h2⟩ := h
  refine ⟨by rw [List.length_set]; exact h1, ?_⟩
  rcases h2 with ⟨h3, h4⟩ | ⟨g', cap, cur, e1, hg, hh, hcap, hm, hsz, ht⟩
  · subst ha; cases h3
  · subst ha
    injection e1 with e1 e2 e3
    injection e1 with e1
    injection e1 with e1
    subst e1 e3
    refine .inr ⟨g, c, cur.setIfInBounds j v, rfl, hg, ?_, hcap, hm, ?_, ?_⟩
    · rw [hw]; simp [World.setCell, Array.getElem?_modify, hh]
    · simpa using hsz
    · rw [Array.toList_setIfInBounds, List.take_set, ht]
/-- What inData leaves. -/
structure Lain (F D : List Nat) (T : Tr) (L H g o gs t : Nat) (c0 c1 c3 c4 v : Value) (w w' : World) : Prop where
  os : w'.os = w.os
  tape : w'.tape = w.tape
  output : w'.output = w.output
  size : w.heap.size ≤ w'.heap.size
  rest : ∀ k, k < w.heap.size → k ≠ gs → k ≠ g → ¬ (L ≤ k ∧ k < H) → w'.heap[k]? = w.heap[k]?
  here : w'.heap[g]? = (w.setCell ⟨g, o + 2, none⟩ v).heap[g]?
  sw : w'.heap[gs]? = some (SwBox F D (t + rcT F T))
  lies : LiesP (fun k => (L ≤ k ∧ k < H) ∨ (w.heap.size ≤ k ∧ k < w'.heap.size)) w' (dat F D T) [c0, c1, v, c3, c4]
/-- Under way: so many kids are done. -/
structure Lainw (F D : List Nat) (ks : List Tr) (lo hi L M H g o gs t : Nat) (d : ByteArray) (vn vk v : Value) (R : List (Nat × Nat)) (Ks : List (List Value)) (i tt : Nat) (w w' : World) : Prop where
  os : w'.os = w.os
  tape : w'.tape = w.tape
  output : w'.output = w.output
  size : w.heap.size ≤ w'.heap.size
  rest : ∀ k, k < w.heap.size → k ≠ gs → k ≠ g → ¬ (L ≤ k ∧ k < M) → vk.ownBlock ≠ some k → w'.heap[k]? = w.heap[k]?
  here : w'.heap[g]? = (w.setCell ⟨g, o + 2, none⟩ v).heap[g]?
  sw : w'.heap[gs]? = some (SwBox F D tt)
  tot : tt + rcTs F (ks.drop i) = t
  kl : Ks.length = ks.length
  k5 : ∀ c ∈ Ks, c.length = 5
  data : RowP (fun k => w.heap.size ≤ k ∧ k < w'.heap.size) w' v (rp F D d).size (byteVals (rp F D d))
  row : w'.ownsRow M 34 5 vk ks.length Ks.flatten
  done : ∀ (j : Nat) (u : Tr) (c : List Value) (r : Nat × Nat), j < i → ks[j]? = some u → Ks[j]? = some c → R[j]? = some r → LiesP (fun k => (r.1 ≤ k ∧ k < r.2) ∨ (w.heap.size ≤ k ∧ k < w'.heap.size)) w' (dat F D u) c
  todo : ∀ (j : Nat) (u : Tr) (c : List Value) (r : Nat × Nat), i ≤ j → ks[j]? = some u → Ks[j]? = some c → R[j]? = some r → Mine lo hi w' r.1 r.2 u c
theorem apart_at {R : List (Nat × Nat)} (h : R.Pairwise Apart) {i j : Nat} {r s : Nat × Nat} (hne : i ≠ j) (hr : R[i]? = some r) (hs : R[j]? = some s) : r.2 ≤ s.1 ∨ s.2 ≤ r.1 := by
  obtain ⟨hi, rfl⟩ := List.getElem?_eq_some_iff.1 hr
  obtain ⟨hj, rfl⟩ := List.getElem?_eq_some_iff.1 hs
  rw [List.pairwise_iff_getElem] at h
  rcases Nat.lt_or_gt_of_ne hne with h1 | h1
  · exact h i j hi hj h1
  · exact (h j i hj hi h1).symm
/-- One kid more. -/
theorem lain_step {F D : List Nat} {ks : List Tr} {lo hi L M H g o gs t : Nat} {d : ByteArray} {vn v : Value} {a : Option Addr} {n c gk : Nat} {R : List (Nat × Nat)} {Ks : List (List Value)} {i tt : Nat} {w wr w2 : World} {c0 c1 c2 c3 c4 vi : Value} {r : Nat × Nat}
    (h : Lainw F D ks lo hi L M H g o gs t d vn (.slice a n c) v R Ks i tt w wr) (hn : n = ks.length) (ha : a = some ⟨gk, 0, none⟩) (hi' : i < ks.length) (hc : Ks[i]? = some [c0, c1, c2, c3, c4]) (hr : R[i]? = some r) (hD : R.Pairwise Apart) (hS : ∀ r ∈ R, L ≤ r.1 ∧ r.2 ≤ M) (hlo : hi ≤ gs) (hgs : gs < L) (hLM : L ≤ M) (hgk : M ≤ gk ∧ gk < H) (hg : H ≤ g ∧ g < w.heap.size)
    (hL : Lain F D ks[i] r.1 r.2 gk (i * 5) gs tt c0 c1 c3 c4 vi wr w2) : Lainw F D ks lo hi L M H g o gs t d vn (.slice a n c) v R (Ks.set i [c0, c1, vi, c3, c4]) (i + 1) (tt + rcT F ks[i]) w w2 := by
  have hrR := hS r (by obtain ⟨hi, rfl⟩ := List.getElem?_eq_some_iff.1 hr; exact List.getElem_mem hi)
  have hz := h.size
  have hz2 := hL.size
  refine ⟨hL.os.trans h.os, hL.tape.trans h.tape, hL.output.trans h.output, by omega, fun k h1 h2 h3 h4 h5 => ?_, ?_, hL.sw, ?_, by rw [List.length_set]; exact h.kl, fun x hx => ?_, ?_, ?_, ?_, ?_⟩
  · have hne : k ≠ gk := fun e => h5 (by subst ha; simp [Value.ownBlock, e])
    rw [hL.rest k (by omega) h2 hne (by omega), h.rest k h1 h2 h3 h4 h5]
  · rw [hL.rest g (by omega) (by omega) (by omega) (by omega), h.here]
  · have := h.tot
    rw [rcTs_step hi'] at this
    omega
  · rcases List.mem_or_eq_of_mem_set hx with h1 | rfl
    · exact h.k5 x h1
    · rfl
  · refine (h.data.same fun k hk => ?_).mono fun k hk => by omega
    exact hL.rest k (by omega) (by omega) (by omega) (by omega)
  · have e : (Ks.set i [c0, c1, vi, c3, c4]).flatten = Ks.flatten.set (i * 5 + 2) vi := flat_set5 vi Ks i _ h.k5 hc
    rw [e, ← hn]
    refine owns_set (by rw [hn]; have := h.row; rw [hn] at this; exact this) ha ?_
    exact hL.here
  · intro j u x s hj hu hx hs
    by_cases hji : j = i
    · subst hji
      rw [List.getElem?_set_self (by have := h.kl; omega)] at hx
      cases hx
      rw [hr] at hs; cases hs
      have e : u = ks[j] := by rw [List.getElem?_eq_getElem hi'] at hu; cases hu; rfl
      rw [e]
      exact hL.lies.mono fun k hk => by omega
    · rw [List.getElem?_set_ne (by omega)] at hx
      have hap := apart_at hD hji hs hr
      have hsR := hS s (by obtain ⟨hi, rfl⟩ := List.getElem?_eq_some_iff.1 hs; exact List.getElem_mem hi)
      refine ((h.done j u x s (by omega) hu hx hs).same fun k hk => ?_).mono fun k hk => by omega
      rcases hk with hk | hk
      · exact hL.rest k (by omega) (by omega) (by omega) (by omega)
      · exact hL.rest k (by omega) (by omega) (by omega) (by omega)
  · intro j u x s hj hu hx hs
    rw [List.getElem?_set_ne (by omega)] at hx
    have hap := apart_at hD (show j ≠ i by omega) hs hr
    have hsR := hS s (by obtain ⟨hi, rfl⟩ := List.getElem?_eq_some_iff.1 hs; exact List.getElem_mem hi)
    exact (h.todo j u x s (by omega) hu hx hs).same (fun k h1 h2 => hL.rest k (by omega) (by omega) (by omega) (by omega)) (fun k h1 h2 => hL.rest k (by omega) (by omega) (by omega) (by omega))
end Go.Proofs.Ytlbfcneboaihnaa.Tn
