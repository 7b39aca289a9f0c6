/- LocksEnd: who leaves, in which order. -/
import Derived.Test.YtnlfmmempomcaaaTb
import Derived.Laws.Bits128
namespace Go.Proofs.Ytnlfmmempomcaaa
open Go.RowKit Go.Maps
set_option linter.unusedSimpArgs false
theorem i64_and65535 (n : Int) : bits .and .i64 n 65535 = n % 65536 := by
  have h127 : (BitVec.ofInt 64 65535).toNat = 2 ^ 16 - 1 := by decide
  have key : (BitVec.ofInt 64 n &&& BitVec.ofInt 64 65535).toNat = (n % ((2 ^ 64 : Nat) : Int)).toNat % 2 ^ 16 := by
    rw [BitVec.toNat_and, BitVec.toNat_ofInt, h127, Nat.and_two_pow_sub_one_eq_mod]
  show IntKind.i64.wrap ((BitVec.ofInt 64 n &&& BitVec.ofInt 64 65535).toNat : Nat) = n % 65536
  rw [key, IntKind.wrap_i64]
  omega
/-- In as many rounds as there are tasks each is met. -/
theorem cover (a N i : Nat) (hi : i < N) : ∃ j, j < N ∧ (a + j) % N = i := by
  have h1 : a % N < N := Nat.mod_lt _ (by omega)
  have h2 : N * (a / N) + a % N = a := Nat.div_add_mod a N
  by_cases h : a % N ≤ i
  · refine ⟨i - a % N, by omega, ?_⟩
    rw [show a + (i - a % N) = i + N * (a / N) by omega, Nat.add_mul_mod_self_left, Nat.mod_eq_of_lt hi]
  · refine ⟨N + i - a % N, by omega, ?_⟩
    rw [show a + (N + i - a % N) = i + N * (a / N + 1) by rw [Nat.mul_add]; omega, Nat.add_mul_mod_self_left, Nat.mod_eq_of_lt hi]
/-- One row of numbers behind another one, of whatever place. -/
theorem Nums.catAt {k B : Nat} {O : Ghost} {w : World} {v : Value} {xs ys : List Int} (hM : Mem k O w) (h : Nums B O w v xs) (a : Addr) (cap : Nat) (hc : ∀ j x, ys[j]? = some x → w.cell? (a.add j) = some (.int .i64 x)) (hB : B ≤ w.heap.size) (hl : xs.length + ys.length ≤ 4000000) :
    ∃ v' w3, (∀ ty, (app38 ty #[v, .slice (some a) ys.length cap]).run Try.prog w = .ok v' w3) ∧ Nums B O w3 v' (xs ++ ys) ∧ w.grownBy w3 v.ownBlock ∧ Mem k O w3 ∧ (v'.ownBlock = v.ownBlock ∨ v'.ownBlock = some w.heap.size) := by
  obtain ⟨i, z, hi, hz, hsz, hby, hzs⟩ := info3
  have e : (xs ++ ys).length = xs.length + ys.length := by simp
  have e2 : (xs ++ ys).map (Value.int .i64) = xs.map (Value.int .i64) ++ ys.map (Value.int .i64) := by simp
  obtain ⟨v', w3, hr, hown, hgr, _, hloc⟩ := run_append_own_at (P := Try.prog) w B 38 38 3 i z 1 8 Try.underlying38 hi hz hsz hby hzs (by omega) v xs.length _ h.1 a ys.length cap (ys.map (Value.int .i64)) (by simp) (fun j u hj => by
      rw [List.getElem?_map] at hj
      obtain ⟨x, e3, e4⟩ := Option.map_eq_some_iff.1 hj
      exact e4 ▸ hc j x e3) (fun u hu => by obtain ⟨x, _, rfl⟩ := List.mem_map.1 hu; rfl) (by simp only [maxLen]; omega) (by omega) hB
  refine ⟨v', w3, fun _ => hr, ⟨by rw [e, e2]; exact hown, fun q eq => ?_⟩, hgr, hM.grown hgr h.2, hloc⟩
  rcases hloc with hl | hl
  · exact h.2 q (hl.symm.trans eq)
  · rw [hl] at eq
    have eq' : w.heap.size = q := Option.some.inj eq
    exact hM.out' (eq' ▸ Nat.le_refl _)
/-- The new row: empty, of no room. -/
theorem Nums.fresh {k B : Nat} {O : Ghost} {w : World} (hM : Mem k O w) (hB : B ≤ w.heap.size) : Nums B O (w.alloc (.cells #[] 3)) (.slice (some ⟨w.heap.size, 0, none⟩) 0 0) [] := by
  refine ⟨⟨rfl, .inr ⟨w.heap.size, 0, #[], rfl, hB, show (w.heap.push _)[w.heap.size]? = _ from by simp, Nat.le_refl _, Nat.zero_le _, rfl, rfl⟩⟩, fun g e => ?_⟩
  have e' : w.heap.size = g := Option.some.inj e
  exact hM.out' (e' ▸ Nat.le_refl _)
theorem Nums.form {B : Nat} {O : Ghost} {w : World} {v : Value} {xs : List Int} (h : Nums B O w v xs) (hne : xs ≠ []) : ∃ g cap, v = .slice (some ⟨g, 0, none⟩) xs.length cap ∧ xs.length ≤ cap ∧ g < w.heap.size ∧ B ≤ g ∧ O g = none ∧ ∀ j x, xs[j]? = some x → w.cell? ⟨g, j, none⟩ = some (.int .i64 x) := by
  obtain ⟨ao, c, h1, h2⟩ := h.row
  obtain ⟨h3, h4⟩ := h
  rcases h3.2 with ⟨rfl, h0⟩ | ⟨g, cap, cur, hv, hg, hh, hn, hc, hs, ht⟩
  · exact absurd (List.length_eq_zero_iff.1 h0) hne
  · subst hv
    injection h1 with h1 h5 h6
    obtain ⟨b, off, h7, h8⟩ := h2 hne
    rw [← h1] at h7
    injection h7 with h7
    injection h7 with h7 h9
    subst h7 h9
    exact ⟨g, cap, rfl, hn, (Array.getElem?_eq_some_iff.1 hh).1, hg, h4 g rfl, fun j x hj => by have := h8 j x hj; rwa [Nat.zero_add] at this⟩
section
variable {tb : Nat} {w : World} {T V : List Int} {vt : Value} {O : Ghost} {S : St} {k : Nat} {wr : World}
/-- The tasks are told anew without one. -/
theorem EnS.cut {g cap : Nat} (h : EnS tb w T V (.slice (some ⟨g, 0, none⟩) T.length cap) O S k wr) (hl : T.length ≤ 1000) {i : Nat} (hi : i < T.length) {n : Int} (hn : T[i]? = some n) :
    ∃ v1 w1 v2 w2, (∀ ty, (app38 ty #[.slice (some ⟨wr.heap.size, 0, none⟩) 0 0, .slice (some ⟨g, 0, none⟩) i cap]).run Try.prog (wr.alloc (.cells #[] 3)) = .ok v1 w1) ∧
      (∀ ty, (app38 ty #[v1, .slice (if cap = i + 1 then some ⟨g, 0, none⟩ else some ⟨g, i + 1, none⟩) (T.length - (i + 1)) (cap - (i + 1))]).run Try.prog w1 = .ok v2 w2) ∧ ∃ T', T'.length + 1 = T.length ∧ (∀ m ∈ T, m ≠ n → m ∈ T') ∧ EnS tb w T' V v2 O S k w2 := by
  have hne : T ≠ [] := fun e => by rw [e] at hi; exact absurd hi (Nat.not_lt_zero _)
  obtain ⟨g', cap', hv, hc, hg, hB, hO, hr⟩ := h.row.form hne
  injection hv with hv
  injection hv with hv
  injection hv with hv
  subst hv
  have hM := h.mem.loose (.cells #[] 3)
  have hb1 : Below wr.heap.size wr (wr.alloc (.cells #[] 3)) := (Below.refl _ _).alloc (Nat.le_refl _) _
  have hf : Nums w.heap.size O (wr.alloc (.cells #[] 3)) (.slice (some ⟨wr.heap.size, 0, none⟩) 0 0) [] := Nums.fresh h.mem h.bel.size
  have hsz : w.heap.size ≤ (wr.alloc (.cells #[] 3)).heap.size := by rw [World.size_alloc]; exact Nat.le_succ_of_le h.bel.size
  obtain ⟨v1, w1, a1, a2, a3, a4, a5⟩ := hf.catAt hM (ys := T.take i) ⟨g, 0, none⟩ cap (fun j x hj => by
    rw [List.getElem?_take] at hj
    split at hj
    · rw [Addr.add_lit, Nat.zero_add]
      exact (hb1.cell (p := ⟨g, j, none⟩) hg).trans (hr j x hj)
    · cases hj) hsz (by simp; omega)
  have hg1 : w1.heap[g]? = wr.heap[g]? := (a3.block g (by rw [World.size_alloc]; omega) (fun e => by
    have e' : g = wr.heap.size := Option.some.inj e
    omega)).trans (hb1.block g hg)
  have hsz1 : (wr.alloc (.cells #[] 3)).heap.size ≤ w1.heap.size := a3.size
  obtain ⟨a0, ha0, ha1⟩ : ∃ a0 : Addr, (if cap = i + 1 then some (⟨g, 0, none⟩ : Addr) else some ⟨g, i + 1, none⟩) = some a0 ∧ (i + 1 < T.length → a0 = ⟨g, i + 1, none⟩) := by
    by_cases hci : cap = i + 1
    · exact ⟨⟨g, 0, none⟩, if_pos hci, fun h => by omega⟩
    · exact ⟨⟨g, i + 1, none⟩, if_neg hci, fun _ => rfl⟩
  rw [ha0]
  obtain ⟨v2, w2, b1, b2, b3, b4, b5⟩ := a2.catAt a4 (ys := T.drop (i + 1)) a0 (cap - (i + 1)) (fun j x hj => by
    rw [List.getElem?_drop] at hj
    rw [ha1 (by have := (List.getElem?_eq_some_iff.1 hj).1; omega), Addr.add_lit]
    have := hr _ x hj
    unfold World.cell? at this ⊢
    rw [hg1]
    exact this) (Nat.le_trans hsz hsz1) (by simp; omega)
  have e1 : (T.take i).length = i := by rw [List.length_take]; omega
  have e2 : (T.drop (i + 1)).length = T.length - (i + 1) := List.length_drop
  rw [e1] at a1
  rw [e2] at b1
  have hT : T = T.take i ++ n :: T.drop (i + 1) := by
    obtain ⟨hi', hn'⟩ := List.getElem?_eq_some_iff.1 hn
    rw [← hn', ← List.drop_eq_getElem_cons hi', List.take_append_drop]
  have hnd := h.nd
  rw [hT] at hnd
  have hsub : ∀ m, m ∈ T.take i ++ T.drop (i + 1) → m ∈ T := fun m hm => by
    rw [hT]
    rcases List.mem_append.1 hm with hm | hm
    · exact List.mem_append_left _ hm
    · exact List.mem_append_right _ (List.mem_cons_of_mem _ hm)
  -- what is below the first new block stays
  have own2 : ∀ q, q < wr.heap.size → some q ≠ v1.ownBlock := fun q hq e => by
    rcases a5 with a5 | a5
    · rw [a5] at e
      have e' : q = wr.heap.size := Option.some.inj e
      omega
    · rw [a5] at e
      have e' : q = (wr.alloc (.cells #[] 3)).heap.size := Option.some.inj e
      rw [World.size_alloc] at e'
      omega
  have hb : Below wr.heap.size wr w2 := (hb1.grown a3 (by rw [World.size_alloc]; exact Nat.le_succ _) fun q e => by
      have e' : wr.heap.size = q := Option.some.inj e
      omega).grown b3 (by rw [World.size_alloc] at hsz1; omega) fun q e => by
      cases Nat.lt_or_ge q wr.heap.size with
      | inl hq => exact absurd e.symm (own2 q hq)
      | inr hq => exact hq
  refine ⟨v1, w1, v2, w2, a1, b1, T.take i ++ T.drop (i + 1), ?_, fun m hm hmn => ?_, ?_⟩
  · rw [List.length_append, e1, e2]; omega
  · rw [hT] at hm
    rcases List.mem_append.1 hm with hm | hm
    · exact List.mem_append_left _ hm
    · rcases List.mem_cons.1 hm with hm | hm
      · exact absurd hm hmn
      · exact List.mem_append_right _ hm
  · refine ⟨h.tab, b4, h.bel.trans (hb.mono h.bel.size), h.out, h.few, h.nor, b2, ?_, fun m hm => h.ok m (hsub m hm)⟩
    exact hnd.sublist (List.Sublist.append (List.Sublist.refl _) (List.sublist_cons_self _ _))
end
end Go.Proofs.Ytnlfmmempomcaaa
