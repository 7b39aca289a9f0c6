/- A tree in memory of its own: rows that share no block. -/
import Derived.Test.YthfjofmfiklegaaDoorKids
namespace Go.Proofs.YthfjofmfiklegaaDoor
open Go.RowKit
inductive Own (w : World) : Nat → Nat → Tr → List Value → Prop
  | mk (lo hi : Nat) (k : Int) (x : Bool) (d : ByteArray) (ns : List ByteArray) (ks : List Tr) (vd vn vk : Value) (Ks : List (List Value)) (L H : Nat → Nat) (hl : Ks.length = ks.length)
      (hd : w.ownsRow lo 5 1 vd d.size (byteVals d)) (hn : w.ownsRow lo 9 1 vn ns.length (ns.map .string)) (hk : w.ownsRow lo 26 5 vk ks.length Ks.flatten)
      (hin : ∀ g, (vd.ownBlock = some g ∨ vn.ownBlock = some g ∨ vk.ownBlock = some g) → g < hi) (hne : ∀ g, vk.ownBlock = some g → vd.ownBlock ≠ some g ∧ vn.ownBlock ≠ some g)
      (hdn : ∀ g, vn.ownBlock = some g → vd.ownBlock ≠ some g)
      (hK : ∀ (i : Nat) (t : Tr) (c : List Value), ks[i]? = some t → Ks[i]? = some c → Own w (L i) (H i) t c)
      (hLH : ∀ i, i < ks.length → lo ≤ L i ∧ H i ≤ hi ∧ ∀ g, (vd.ownBlock = some g ∨ vn.ownBlock = some g ∨ vk.ownBlock = some g) → g < L i ∨ H i ≤ g)
      (hdis : ∀ i j, i < j → j < ks.length → H i ≤ L j) : Own w lo hi (.mk k x d ns ks) [.int .i64 k, .bool x, vd, vn, vk]
theorem Own.same {w w' : World} {lo hi : Nat} {T : Tr} {cs : List Value} (h : Own w lo hi T cs) : (∀ k, lo ≤ k → k < hi → w'.heap[k]? = w.heap[k]?) → Own w' lo hi T cs := by
  induction h with
  | mk lo hi k x d ns ks vd vn vk Ks L H hl hd hn hk hin hne hdn hK hLH hdis ih =>
    intro hs
    refine .mk lo hi k x d ns ks vd vn vk Ks L H hl ?_ ?_ ?_ hin hne hdn (fun i t c h1 h2 => ih i t c h1 h2 (fun k hk1 hk2 => ?_)) hLH hdis
    · exact owns_same hd (fun g hg => hs g (owns_lt hd g hg).1 (hin g (.inl hg))) (fun _ _ h => h)
    · exact owns_same hn (fun g hg => hs g (owns_lt hn g hg).1 (hin g (.inr (.inl hg)))) (fun _ _ h => h)
    · exact owns_same hk (fun g hg => hs g (owns_lt hk g hg).1 (hin g (.inr (.inr hg)))) (fun _ _ h => h)
    · have := hLH i (List.getElem?_eq_some_iff.1 h1).1
      exact hs k (by omega) (by omega)
theorem Own.lies {w : World} {lo hi : Nat} {T : Tr} {cs : List Value} (h : Own w lo hi T cs) : Lies lo hi w T cs := by
  induction h with
  | mk lo hi k x d ns ks vd vn vk Ks L H hl hd hn hk hin hne hdn hK hLH hdis ih =>
    refine .mk k x d ns ks vd vn vk Ks hl (owns_row hd (fun g hg => ⟨(owns_lt hd g hg).1, hin g (.inl hg)⟩)) (owns_row hn (fun g hg => ⟨(owns_lt hn g hg).1, hin g (.inr (.inl hg))⟩)) (owns_row hk (fun g hg => ⟨(owns_lt hk g hg).1, hin g (.inr (.inr hg))⟩)) (fun i t c h1 h2 => ?_)
    have := hLH i (List.getElem?_eq_some_iff.1 h1).1
    exact (ih i t c h1 h2).mono (by omega) (by omega)
theorem Own.mono {w : World} {lo hi lo' hi' : Nat} {T : Tr} {cs : List Value} (h : Own w lo hi T cs) (h1 : lo' ≤ lo) (h2 : hi ≤ hi') : Own w lo' hi' T cs := by
  cases h with
  | mk _ _ k x d ns ks vd vn vk Ks L H hl hd hn hk hin hne hdn hK hLH hdis =>
    refine .mk lo' hi' k x d ns ks vd vn vk Ks L H hl (owns_same hd (fun _ _ => rfl) (fun _ _ h => by omega)) (owns_same hn (fun _ _ => rfl) (fun _ _ h => by omega)) (owns_same hk (fun _ _ => rfl) (fun _ _ h => by omega)) (fun g hg => by have := hin g hg; omega) hne hdn hK (fun i hi => ?_) hdis
    have := hLH i hi
    exact ⟨by omega, by omega, this.2.2⟩
/-- A clone under way: so many names, so many kids yet. -/
structure Cl (Z : Nat) (w : World) (vn vk : Value) (ns : List ByteArray) (ks : List Tr) (p q : Nat) : Prop where
  names : w.ownsRow Z 9 1 vn p ((ns.take p).map .string)
  kids : ∃ (Ks : List (List Value)) (L H : Nat → Nat), Ks.length = q ∧ (∀ c ∈ Ks, c.length = 5) ∧ w.ownsRow Z 26 5 vk q Ks.flatten ∧
    (∀ (j : Nat) (t : Tr) (c : List Value), ks[j]? = some t → Ks[j]? = some c → Own w (L j) (H j) t c ∧ Z ≤ L j ∧ H j ≤ w.heap.size ∧ ∀ g, (vn.ownBlock = some g ∨ vk.ownBlock = some g) → g < L j ∨ H j ≤ g) ∧ ∀ i j, i < j → j < q → H i ≤ L j
  ne : ∀ g, vk.ownBlock = some g → vn.ownBlock ≠ some g
/-- Nothing of it has turned. -/
theorem Cl.same {Z : Nat} {w w' : World} {vn vk : Value} {ns : List ByteArray} {ks : List Tr} {p q : Nat} (h : Cl Z w vn vk ns ks p q) (hs : ∀ k, Z ≤ k → k < w.heap.size → w'.heap[k]? = w.heap[k]?) (hz : w.heap.size ≤ w'.heap.size) : Cl Z w' vn vk ns ks p q := by
  obtain ⟨hn, ⟨Ks, L, H, hKl, hK5, ho, hK, hdis⟩, hne⟩ := h
  refine ⟨owns_same hn (fun g hg => hs g (owns_lt hn g hg).1 (owns_lt hn g hg).2) (fun _ _ h => h), ⟨Ks, L, H, hKl, hK5, owns_same ho (fun g hg => hs g (owns_lt ho g hg).1 (owns_lt ho g hg).2) (fun _ _ h => h), fun j t c hj hc => ?_, hdis⟩, hne⟩
  obtain ⟨h1, h2, h3, h4⟩ := hK j t c hj hc
  exact ⟨h1.same (fun k hk1 hk2 => hs k (by omega) (by omega)), h2, by omega, h4⟩
/-- One more name. -/
theorem cl_name {Z : Nat} {wr w1 : World} {vn vk : Value} {ns : List ByteArray} {ks : List Tr} {p q : Nat} (s : ByteArray) (h : Cl Z wr vn vk ns ks p q) (hb : Below wr.heap.size wr w1) (hs : ns[p]? = some s) (hmax : p ≤ 1000000) (hZ : Z ≤ wr.heap.size) :
    ∃ a' c' w2, (∀ ty, (app23 ty #[vn, .slice (some ⟨w1.heap.size, 0, none⟩) 1 1]).run Tryd.prog (w1.alloc (.cells #[.string s] 9)) = .ok (.slice a' (p + 1) c') w2) ∧ Cl Z w2 (.slice a' (p + 1) c') vk ns ks (p + 1) q ∧ Below Z wr w2 ∧ wr.heap.size ≤ w2.heap.size := by
  have h1 := h.same (w' := w1.alloc (.cells #[.string s] 9)) (fun k _ hk => by rw [Below.heap_alloc _ _ _ (by have := hb.size; omega), hb.block k hk]) (by have := hb.size; simp; omega)
  obtain ⟨hn, ⟨Ks, L, H, hKl, hK5, ho, hK, hdis⟩, hne⟩ := h1
  have hsz := hb.size
  obtain ⟨v', w2, happ, ho2, hg, hf⟩ := app23_own _ Z _ _ vn p _ _ 1 1 [.string s] hn (one_row w1 [.string s] 9) rfl (fun u hu => by simp at hu; subst hu; rfl) (by omega) (by simp; omega)
  obtain ⟨a', c', rfl, _⟩ := owns_slice ho2
  have hs1 : (w1.alloc (.cells #[.string s] 9)).heap.size = w1.heap.size + 1 := by simp
  have hs2 := hg.size
  rw [hs1] at hs2 hf
  have hb0 : Below Z wr (w1.alloc (.cells #[.string s] 9)) := (hb.mono hZ).alloc (by omega) _
  refine ⟨a', c', w2, happ, ⟨?_, ⟨Ks, L, H, hKl, hK5, owns_same ho (fun g hgk => hg.block g (owns_lt ho g hgk).2 (fun e => hne g hgk e.symm)) (fun _ _ h => h), fun j t c hj hc => ?_, hdis⟩, ?_⟩, hb0.grown hg (by omega) (fun k hk => (owns_lt hn k hk).1), by omega⟩
  · rw [List.take_add_one, hs]
    simpa using ho2
  · obtain ⟨q1, q2, q3, q4⟩ := hK j t c hj hc
    rw [hs1] at q3
    refine ⟨q1.same (fun k hk1 hk2 => hg.block k (by rw [hs1]; omega) (fun e => by have := q4 k (.inl e.symm); omega)), q2, by omega, fun g hgv => ?_⟩
    rcases hgv with hgv | hgv
    · rcases hf with e | e
      · exact q4 g (.inl (by rw [← e]; exact hgv))
      · rw [e] at hgv; simp at hgv; omega
    · exact q4 g (.inr hgv)
  · intro g hgk e
    rcases hf with e2 | e2
    · exact hne g hgk (by rw [← e2]; exact e)
    · rw [e2] at e
      have := (owns_lt ho g hgk).2
      simp at e
      omega
/-- One more kid. -/
theorem cl_kid {Z : Nat} {wr w1 : World} {vn vk : Value} {ns : List ByteArray} {ks : List Tr} {p q : Nat} {cs : List Value} {t : Tr} (h : Cl Z wr vn vk ns ks p q) (hb : Below wr.heap.size wr w1) (hL : Own w1 wr.heap.size w1.heap.size t cs) (ht : ks[q]? = some t) (hmax : q ≤ 1000000) (hZ : Z ≤ wr.heap.size) :
    ∃ a' c' w2, (∀ ty, (app24 ty #[vk, .slice (some ⟨w1.heap.size, 0, none⟩) 1 1]).run Tryd.prog (w1.alloc (.cells cs.toArray 26)) = .ok (.slice a' (q + 1) c') w2) ∧ Cl Z w2 vn (.slice a' (q + 1) c') ns ks p (q + 1) ∧ Below Z wr w2 ∧ wr.heap.size ≤ w2.heap.size := by
  have hsz := hb.size
  have hs1 : (w1.alloc (.cells cs.toArray 26)).heap.size = w1.heap.size + 1 := by simp
  have hsame : ∀ k, k < wr.heap.size → (w1.alloc (.cells cs.toArray 26)).heap[k]? = wr.heap[k]? := fun k hk => by rw [Below.heap_alloc _ _ _ (by omega), hb.block k hk]
  obtain ⟨hn0, ⟨Ks, L, H, hKl, hK5, ho0, hK, hdis⟩, hne⟩ := h
  have hn := owns_same (base' := Z) hn0 (fun g hg => hsame g (owns_lt hn0 g hg).2) (fun _ _ h => h)
  have ho := owns_same (base' := Z) ho0 (fun g hg => hsame g (owns_lt ho0 g hg).2) (fun _ _ h => h)
  obtain ⟨v', w2, happ, ho2, hg, hf⟩ := app24_own _ Z _ _ vk q _ _ 1 1 cs ho (one_row w1 cs 26) (by rw [hL.lies.length]) hL.lies.one (by omega) (by simp; omega)
  obtain ⟨a', c', rfl, _⟩ := owns_slice ho2
  have hs2 := hg.size
  rw [hs1] at hs2 hf
  have hb0 : Below Z wr (w1.alloc (.cells cs.toArray 26)) := (hb.mono hZ).alloc (by omega) _
  refine ⟨a', c', w2, happ, ⟨?_, ⟨Ks ++ [cs], fun j => if j < q then L j else wr.heap.size, fun j => if j < q then H j else w1.heap.size, ?_, ?_, ?_, fun j t' c hj hc => ?_, ?_⟩, ?_⟩, hb0.grown hg (by omega) (fun k hk => (owns_lt ho k hk).1), by omega⟩
  · exact owns_same hn (fun g hgn => hg.block g (by have := (owns_lt hn0 g hgn).2; omega) (fun e => hne g e.symm hgn)) (fun _ _ h => h)
  · rw [List.length_append, hKl]; rfl
  · intro c hc
    rcases List.mem_append.1 hc with h | h
    · exact hK5 c h
    · simp at h; subst h; exact hL.lies.length
  · rw [List.flatten_append]; simpa using ho2
  · by_cases hji : j < q
    · rw [List.getElem?_append_left (by omega)] at hc
      obtain ⟨q1, q2, q3, q4⟩ := hK j t' c hj hc
      simp only [if_pos hji]
      refine ⟨q1.same (fun k hk1 hk2 => ?_), q2, by omega, fun g hgv => ?_⟩
      · rw [hg.block k (by rw [hs1]; omega) (fun e => by have := q4 k (.inr e.symm); omega), hsame k (by omega)]
      · rcases hgv with hgv | hgv
        · exact q4 g (.inl hgv)
        · rcases hf with e | e
          · exact q4 g (.inr (by rw [← e]; exact hgv))
          · rw [e] at hgv; simp at hgv; omega
    · obtain rfl : j = q := by
        have := (List.getElem?_eq_some_iff.1 hc).1
        simp at this; omega
      rw [ht] at hj
      cases hj
      rw [List.getElem?_append_right (by omega), hKl] at hc
      simp at hc
      subst hc
      simp only [if_neg (Nat.lt_irrefl j)]
      refine ⟨hL.same (fun k hk1 hk2 => ?_), hZ, by omega, fun g hgv => ?_⟩
      · rw [hg.block k (by rw [hs1]; omega) (fun e => by have := (owns_lt ho0 k e.symm).2; omega), Below.heap_alloc _ _ _ (by omega)]
      · rcases hgv with hgv | hgv
        · have := (owns_lt hn0 g hgv).2; omega
        · rcases hf with e | e
          · have := (owns_lt ho0 g (by rw [← e]; exact hgv)).2; omega
          · rw [e] at hgv; simp at hgv; omega
  · intro i j hij hj
    by_cases hjq : j < q
    · simp only [if_pos hjq, if_pos (show i < q by omega)]; exact hdis i j hij hjq
    · obtain rfl : j = q := by omega
      simp only [if_neg (Nat.lt_irrefl j), if_pos hij]
      have hqk := (List.getElem?_eq_some_iff.1 ht).1
      exact (hK i ks[i] Ks[i] (List.getElem?_eq_getElem (by omega)) (List.getElem?_eq_getElem (by omega))).2.2.1
  · intro g hgk e
    rcases hf with e2 | e2
    · exact hne g (by rw [← e2]; exact hgk) e
    · rw [e2] at hgk
      have := (owns_lt hn0 g e).2
      simp at hgk
      omega
/-- The clone is whole. -/
theorem cl_end {Z lo : Nat} {w : World} {k : Int} {x : Bool} {d : ByteArray} {ns : List ByteArray} {ks : List Tr} {vd vn vk : Value} (h : Cl Z w vn vk ns ks ns.length ks.length) (hd : w.ownsRow lo 5 1 vd d.size (byteVals d)) (hdZ : ∀ g, vd.ownBlock = some g → g < Z) (hlo : lo ≤ Z) : Own w lo w.heap.size (.mk k x d ns ks) [.int .i64 k, .bool x, vd, vn, vk] := by
  obtain ⟨hn, ⟨Ks, L, H, hKl, hK5, ho, hK, hdis⟩, hne⟩ := h
  rw [List.take_length] at hn
  refine .mk lo w.heap.size k x d ns ks vd vn vk Ks L H hKl hd (owns_same hn (fun _ _ => rfl) (fun _ _ h => by omega)) (owns_same ho (fun _ _ => rfl) (fun _ _ h => by omega)) ?_ ?_ ?_ (fun i t c h1 h2 => (hK i t c h1 h2).1) (fun i hi => ?_) hdis
  · rintro g (h | h | h)
    · exact (owns_lt hd g h).2
    · exact (owns_lt hn g h).2
    · exact (owns_lt ho g h).2
  · intro g hg
    refine ⟨fun e => ?_, hne g hg⟩
    have h1 := hdZ g e
    have h2 := (owns_lt ho g hg).1
    omega
  · intro g hg e
    have h1 := hdZ g e
    have h2 := (owns_lt hn g hg).1
    omega
  · obtain ⟨_, h2, h3, h4⟩ := hK i ks[i] Ks[i] (List.getElem?_eq_getElem hi) (List.getElem?_eq_getElem (by omega))
    refine ⟨by omega, h3, fun g hg => ?_⟩
    rcases hg with hg | hg
    · have := hdZ g hg; omega
    · exact h4 g hg
end Go.Proofs.YthfjofmfiklegaaDoor
