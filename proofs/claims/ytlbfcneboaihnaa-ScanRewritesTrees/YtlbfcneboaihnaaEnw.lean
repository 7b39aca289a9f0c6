/- A directory's entries as they are made: what stands behind each round. -/
import Derived.Test.YtlbfcneboaihnaaInn
import Derived.Test.YtlbfcneboaihnaaK5
namespace Go.Proofs.Ytlbfcneboaihnaa.Tn
open Go.RowKit Go.Shelf Go.Lib Go.Sort
set_option linter.unusedSimpArgs false
/-- So many entries are made. -/
structure Enw (F D : List Nat) (ns : List ByteArray) (ks : List Tr) (lo hi gs E i tt tot N : Nat) (d : Array Ey) (w wr : World) : Prop where
  so : SoleG gs w wr
  sw : wr.heap[gs]? = some (SwBox F D tt)
  tot : tt + rcNs F (ns.drop i) (ks.drop i) = tot
  ds : d.size = N
  ez : E < wr.heap.size
  holds : HoldsK encE 6 wr E 0 d
  done : ∀ (j : Nat) (e : Ey) (n : ByteArray) (t : Tr), j < i → d[j]? = some e → ns[j]? = some n → ks[j]? = some t → e.s = rp F D n ∧ Srt F D t e.t ∧ Mine lo hi wr e.r.1 e.r.2 e.t e.kid ∧ E < e.r.1 ∧ e.r.2 ≤ wr.heap.size
  apart : ∀ (j j' : Nat) (e e' : Ey), j < j' → j' < i → d[j]? = some e → d[j']? = some e' → e.r.2 ≤ e'.r.1
theorem setCells_other (E : Nat) : ∀ (vs : List Value) (k : Nat), k ≠ E → ∀ (s : Nat) (w : World), (w.setCells E s vs).heap[k]? = w.heap[k]?
  | [], _, _, _, _ => rfl
  | v :: r, k, hk, s, w => by
    rw [World.setCells, setCells_other E r k hk, set_other _ _ _ _ _ hk]
theorem setCells_size (E : Nat) : ∀ (vs : List Value) (s : Nat) (w : World), (w.setCells E s vs).heap.size = w.heap.size
  | [], _, _ => rfl
  | v :: r, s, w => by
    rw [World.setCells, setCells_size E r]; simp
theorem setCells_rest (E : Nat) : ∀ (vs : List Value) (s : Nat) (w : World), (w.setCells E s vs).os = w.os ∧ (w.setCells E s vs).tape = w.tape ∧ (w.setCells E s vs).output = w.output
  | [], _, _ => ⟨rfl, rfl, rfl⟩
  | v :: r, s, w => by
    rw [World.setCells]
    exact setCells_rest E r (s + 1) (w.setCell ⟨E, s, none⟩ v)
theorem setCells6 (w : World) (E s : Nat) (a b c d e f : Value) : w.setCells E s [a, b, c, d, e, f] = (((((w.setCell ⟨E, s, none⟩ a).setCell ⟨E, s + 1, none⟩ b).setCell ⟨E, s + 2, none⟩ c).setCell ⟨E, s + 3, none⟩ d).setCell ⟨E, s + 4, none⟩ e).setCell ⟨E, s + 5, none⟩ f := by
  simp only [World.setCells, Nat.add_assoc, Nat.reduceAdd]
/-- One more. -/
theorem enw_step {F D : List Nat} {ns : List ByteArray} {ks : List Tr} {lo hi gs E i tt tot N : Nat} {d : Array Ey} {w wr w2 w3 : World} {t : Tr} {n : ByteArray} (e : Ey)
    (h : Enw F D ns ks lo hi gs E i tt tot N d w wr) (hiN : i < N) (hn : ns[i]? = some n) (ht : ks[i]? = some t) (hgs : gs < w.heap.size) (hhi : hi ≤ gs) (hE : w.heap.size ≤ E)
    (h2 : SoleG gs wr w2) (h3 : SoleG gs w2 w3) (hsw : w3.heap[gs]? = some (SwBox F D (tt + rc F n + rcN F t))) (hes : e.s = rp F D n) (her : e.r.1 = w2.heap.size ∧ e.r.2 = w3.heap.size) (hS : Srt F D t e.t) (hM : Mine lo hi w3 w2.heap.size w3.heap.size e.t e.kid) :
    Enw F D ns ks lo hi gs E (i + 1) (tt + rc F n + rcN F t) tot N (d.setIfInBounds i e) w (w3.setCells E (i * 6) (encE e)) := by
  have hin := (List.getElem?_eq_some_iff.1 hn).1
  have hik := (List.getElem?_eq_some_iff.1 ht).1
  have en : ns[i] = n := by rw [List.getElem?_eq_getElem hin] at hn; cases hn; rfl
  have et : ks[i] = t := by rw [List.getElem?_eq_getElem hik] at ht; cases ht; rfl
  have h23 := h2.trans h3
  have z2 := h2.size
  have z3 := h3.size
  have zr := h.so.size
  have hez := h.ez
  have hot : ∀ k, k ≠ E → (w3.setCells E (i * 6) (encE e)).heap[k]? = w3.heap[k]? := fun k hk => setCells_other _ _ _ hk _ _
  have hsz : (w3.setCells E (i * 6) (encE e)).heap.size = w3.heap.size := setCells_size _ _ _ _
  have h3h : HoldsK encE 6 w3 E 0 d := holds_same h.holds (h23.block E hez (by omega))
  obtain ⟨r1, r2, r3⟩ := setCells_rest E (encE e) (i * 6) w3
  refine ⟨⟨r1.trans ((h23.os).trans h.so.os), r2.trans ((h23.tape).trans h.so.tape), r3.trans ((h23.output).trans h.so.output), by rw [hsz]; omega, fun k hk1 hk2 => ?_⟩, ?_, ?_, ?_, by rw [hsz]; omega, set_entry h3h i (by have := h.ds; omega) e, ?_, ?_⟩
  · rw [hot k (by omega), h23.block k (by omega) hk2, h.so.block k hk1 hk2]
  · rw [hot gs (by omega)]; exact hsw
  · have := h.tot
    rw [rcNs_step hin hik, en, et] at this
    omega
  · rw [Array.size_setIfInBounds]; exact h.ds
  · intro j e' n' t' hj he' hn' ht'
    by_cases hji : j = i
    · subst hji
      rw [Array.getElem?_setIfInBounds_self_of_lt (by have := h.ds; omega)] at he'
      injection he' with he'
      subst he'
      rw [hn] at hn'; injection hn' with hn'; subst hn'
      rw [ht] at ht'; injection ht' with ht'; subst ht'
      refine ⟨hes, hS, ?_, by omega, by rw [hsz]; omega⟩
      rw [her.1, her.2]
      exact hM.same (fun k _ hk => hot k (by omega)) (fun k hk1 hk2 => hot k (by omega))
    · rw [Array.getElem?_setIfInBounds_ne (by omega)] at he'
      obtain ⟨q1, q2, q3, q4, q5⟩ := h.done j e' n' t' (by omega) he' hn' ht'
      refine ⟨q1, q2, ?_, q4, by rw [hsz]; omega⟩
      exact q3.same (fun k _ hk => by rw [hot k (by omega), h23.block k (by omega) (by omega)]) (fun k hk1 hk2 => by rw [hot k (by omega), h23.block k (by omega) (by omega)])
  · intro j j' e1 e2 hj hj' h1 h2'
    rw [Array.getElem?_setIfInBounds_ne (by omega)] at h1
    by_cases hji : j' = i
    · subst hji
      rw [Array.getElem?_setIfInBounds_self_of_lt (by have := h.ds; omega)] at h2'
      injection h2' with h2'
      subst h2'
      have hd := h.ds
      obtain ⟨q1, q2, q3, q4, q5⟩ := h.done j e1 ns[j] ks[j] (by omega) h1 (List.getElem?_eq_getElem (by omega)) (List.getElem?_eq_getElem (by omega))
      omega
    · rw [Array.getElem?_setIfInBounds_ne (by omega)] at h2'
      exact h.apart j j' e1 e2 hj (by omega) h1 h2'
/-- All made: what holds of each, and of any two. -/
theorem enw_all {F D : List Nat} {ns : List ByteArray} {ks : List Tr} {lo hi gs E tt tot N : Nat} {d d' : Array Ey} {w wr : World} (h : Enw F D ns ks lo hi gs E N tt tot N d w wr) (hn : ns.length = N) (hk : ks.length = N) (hp : d'.toList.Perm d.toList) :
    (∀ e ∈ d'.toList, Mine lo hi wr e.r.1 e.r.2 e.t e.kid ∧ E < e.r.1 ∧ e.r.2 ≤ wr.heap.size) ∧ d'.toList.Pairwise fun a b => Apart a.r b.r := by
  have hd := h.ds
  constructor
  · intro e he
    obtain ⟨j, hj, rfl⟩ := List.getElem_of_mem (hp.mem_iff.1 he)
    rw [Array.length_toList] at hj
    obtain ⟨_, _, q3, q4, q5⟩ := h.done j d[j] ns[j] ks[j] (by omega) (Array.getElem?_eq_getElem hj) (List.getElem?_eq_getElem (by omega)) (List.getElem?_eq_getElem (by omega))
    rw [Array.getElem_toList]
    exact ⟨q3, q4, q5⟩
  · refine (hp.pairwise_iff (fun {a b} hab => Or.symm hab)).2 ?_
    rw [List.pairwise_iff_getElem]
    intro i j hi hj hij
    rw [Array.length_toList] at hi hj
    rw [Array.getElem_toList, Array.getElem_toList]
    exact .inl (h.apart i j _ _ hij (by omega) (Array.getElem?_eq_getElem hi) (Array.getElem?_eq_getElem hj))
theorem enw_srt {F D : List Nat} {ns : List ByteArray} {ks : List Tr} {lo hi gs E tt tot N : Nat} {d d' : Array Ey} {w wr : World} (h : Enw F D ns ks lo hi gs E N tt tot N d w wr) (hn : ns.length = N) (hk : ks.length = N) (hp : d'.toList.Perm d.toList) (hs : d'.toList.Pairwise fun a b => ¬ b.s.toList < a.s.toList) (k : Int) (x : Bool) (dt : ByteArray) :
    Srt F D (.mk k x dt ns ks) (.mk k x dt (d'.toList.map fun e => e.s) (d'.toList.map fun e => e.t)) := by
  have hd := h.ds
  have h1 := Srt.mk (F := F) (D := D) k x dt ns ks (d.toList.map fun e => e.t) (d'.toList.map fun e => (e.s, e.t)) (by omega) (by simp; omega) (fun i t c ht hc => by
      rw [List.getElem?_map] at hc
      obtain ⟨e, he, rfl⟩ := Option.map_eq_some_iff.1 hc
      have hi := (List.getElem?_eq_some_iff.1 ht).1
      rw [Array.getElem?_toList] at he
      exact (h.done i e ns[i] t (by omega) he (List.getElem?_eq_getElem (by omega)) ht).2.1) (by
      have e1 : (ns.map (rp F D)).zip (d.toList.map fun e => e.t) = d.toList.map fun e => (e.s, e.t) := by
        apply List.ext_getElem
        · simp; omega
        · intro i h1 h2
          rw [List.length_map, Array.length_toList] at h2
          rw [List.getElem_zip, List.getElem_map, List.getElem_map, List.getElem_map]
          have ed : d.toList[i] = d[i] := Array.getElem_toList h2
          rw [ed]
          rw [(h.done i d[i] ns[i] ks[i] (by omega) (Array.getElem?_eq_getElem h2) (List.getElem?_eq_getElem (by omega)) (List.getElem?_eq_getElem (by omega))).1]
      rw [e1]
      exact hp.map _) (by
      rw [List.pairwise_map]
      exact hs)
  rw [List.map_map, List.map_map] at h1
  exact h1
end Go.Proofs.Ytlbfcneboaihnaa.Tn
