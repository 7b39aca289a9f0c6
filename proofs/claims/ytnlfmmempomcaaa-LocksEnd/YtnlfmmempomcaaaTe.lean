/- LocksEnd: the rounds of leaving. -/
import Derived.Test.YtnlfmmempomcaaaTd
namespace Go.Proofs.Ytnlfmmempomcaaa
open Go.RowKit Go.Maps
set_option linter.unusedSimpArgs false
/-- What stands before a round: r rounds were, of them the last c met those who wait. -/
structure Rnd (tb m : Nat) (w : World) (vt : Value) (r c k : Nat) (T : List Int) (O : Ghost) (S : St) (wr : World) : Prop where
  len : T.length ≤ 60
  c1 : c ≤ T.length
  c2 : 0 < c → m + c ≤ r
  met : ∀ j, j < c → ∀ n, T[(r - c + j) % T.length]? = some n → S.wt n ≠ none
  sum : 2 * r + T.length * (T.length + 1) ≤ 2 * m + 3660 + 2 * c
  small : k + 240 * T.length ≤ 14640
  en : EnS tb w T T vt O S k wr
def EnR2 (tb m : Nat) (w : World) (vt vr : Value) (wr : World) : Prop := ∃ (r c k : Nat) (T : List Int) (O : Ghost) (S : St), vr = .int .i64 (r : Int) ∧ Rnd tb m w vt r c k T O S wr
section
variable {tb m : Nat} {w : World} {vt : Value} {r c k : Nat} {T : List Int} {O : Ghost} {S : St} {wr : World}
theorem sq60 {N : Nat} (h : N ≤ 60) : N * (N + 1) ≤ 3660 := Nat.mul_le_mul h (Nat.succ_le_succ h)
theorem EnR2.start (h : EnS tb w T T vt O S k wr) (hl : T.length ≤ 60) (hk : k ≤ 240) : EnR2 tb m w vt (.int .i64 0) wr :=
  ⟨0, 0, k, T, O, S, rfl, hl, Nat.zero_le _, fun h => absurd h (Nat.lt_irrefl _), fun j hj => absurd hj (Nat.not_lt_zero _), by have := sq60 hl; omega, by omega, h⟩
/-- Not all of them wait. -/
theorem Rnd.less (h : Rnd tb m w vt r c k T O S wr) (hne : T ≠ []) : c < T.length := by
  cases Nat.lt_or_ge c T.length with
  | inl h2 => exact h2
  | inr h2 =>
    exfalso
    obtain ⟨n, hn, hw⟩ := one_goes h.en.tab.inv' h.en.tab.emp h.en.nor h.en.few hne
    obtain ⟨i, hi, e⟩ := List.mem_iff_getElem.1 hn
    obtain ⟨j, hj, e2⟩ := cover (r - c) T.length i hi
    exact h.met j (by omega) n (by rw [e2, List.getElem?_eq_getElem hi, e]) hw
theorem Rnd.few (h : Rnd tb m w vt r c k T O S wr) (hm : m ≤ 400) : r < 4000 := by
  have := h.sum
  have := h.c1
  have := h.len
  omega
/-- The round met one that waits. -/
theorem Rnd.wait (h : Rnd tb m w vt r c k T O S wr) (hne : T ≠ []) {i : Nat} (hi : m ≤ r → i = r % T.length) {n : Int} (hn : T[i]? = some n) (hw : S.wt n ≠ none) {w' : World} (hb : Below wr.heap.size wr w') : EnR2 tb m w vt (.int .i64 ((r : Int) + 1)) w' := by
  have hc := h.less hne
  have hs := h.sum
  have h2 := h.c2
  by_cases hr : m ≤ r
  · refine ⟨r + 1, c + 1, k, T, O, S, by simp, h.len, hc, fun _ => ?_, fun j hj n' hn' => ?_, by omega, h.small, h.en.below hb⟩
    · by_cases h0 : 0 < c
      · have := h2 h0; omega
      · omega
    · rw [show r + 1 - (c + 1) + j = r - c + j by omega] at hn'
      by_cases hjc : j < c
      · exact h.met j hjc n' hn'
      · have hcr : c ≤ r := by
          by_cases h0 : 0 < c
          · have := h2 h0; omega
          · omega
        rw [show r - c + j = r by omega, ← hi hr, hn] at hn'
        injection hn' with hn'
        rw [← hn']
        exact hw
  · have h0 : c = 0 := by
      by_cases h0 : 0 < c
      · have := h2 h0; omega
      · omega
    subst h0
    exact ⟨r + 1, 0, k, T, O, S, by simp, h.len, Nat.zero_le _, fun h => absurd h (Nat.lt_irrefl _), fun j hj => absurd hj (Nat.not_lt_zero _), by have := sq60 h.len; omega, h.small, h.en.below hb⟩
/-- One left. -/
theorem Rnd.left (h : Rnd tb m w vt r c k T O S wr) (hne : T ≠ []) {vt' : Value} {k' : Nat} {T' : List Int} {O' : Ghost} {S' : St} {w' : World} (hl : T'.length + 1 = T.length) (hk : k' ≤ k + 240) (he : EnS tb w T' T' vt' O' S' k' w') : EnR2 tb m w vt' (.int .i64 ((r : Int) + 1)) w' := by
  have hc := h.less hne
  have hs := h.sum
  have hs2 := h.small
  have hlen := h.len
  obtain ⟨N, hN⟩ : ∃ N, N = T'.length := ⟨_, rfl⟩
  have e : T.length * (T.length + 1) = N * (N + 1) + 2 * (N + 1) := by
    rw [← hl, ← hN, Nat.add_mul N 1, Nat.mul_add N (N + 1) 1]
    omega
  refine ⟨r + 1, 0, k', T', O', S', by simp, by omega, Nat.zero_le _, fun h => absurd h (Nat.lt_irrefl _), fun j hj => absurd hj (Nat.not_lt_zero _), ?_, by omega, he⟩
  rw [← hN]
  omega
/-- Leave, and the row without it. -/
theorem Rnd.goes {g cap : Nat} (h : Rnd tb m w (.slice (some ⟨g, 0, none⟩) T.length cap) r c k T O S wr) {i : Nat} (hi : i < T.length) {n : Int} (hn : T[i]? = some n) {w0 : World} (hb : Below wr.heap.size wr w0) :
    Calls Try.prog 17 #[.pointer (some ⟨tb, 0, none⟩), .int .i64 n] w0 fun e w1 => (∃ v, e = .returned v) ∧ ∃ v1 w2 v2 w3, (∀ ty, (app38 ty #[.slice (some ⟨w1.heap.size, 0, none⟩) 0 0, .slice (some ⟨g, 0, none⟩) i cap]).run Try.prog (w1.drew.alloc (.cells #[] 3)) = .ok v1 w2) ∧
      (∀ ty, (app38 ty #[v1, .slice (if cap = i + 1 then some ⟨g, 0, none⟩ else some ⟨g, i + 1, none⟩) (T.length - (i + 1)) (cap - (i + 1))]).run Try.prog w2 = .ok v2 w3) ∧ EnR2 tb m w v2 (.int .i64 ((r : Int) + 1)) w3 := by
  have hne : T ≠ [] := fun e => by rw [e] at hi; exact absurd hi (Nat.not_lt_zero _)
  have hlen := h.len
  have hsm := h.small
  have hmem : n ∈ T := List.mem_of_getElem? hn
  obtain ⟨T0, hT0⟩ : ∃ T0, T0 = T.erase n := ⟨_, rfl⟩
  refine (en_leave (h.en.below hb) n (h.en.ok n hmem) (by omega) (by omega) T0 (fun x hx hxn => by rw [hT0]; exact (List.mem_erase_of_ne hxn).2 hx)).mono ?_
  rintro e w1 ⟨he, O1, S1, h1⟩
  refine ⟨he, ?_⟩
  obtain ⟨v1, w2, v2, w3, a1, a2, T', b1, b2, b3⟩ := (h1.below (Below.refl _ _).drew).cut (by omega) hi hn
  refine ⟨v1, w2, v2, w3, a1, a2, h.left hne b1 (by omega) (b3.among (b3.few.mono fun x hx => ?_))⟩
  rw [hT0] at hx
  exact b2 x (List.mem_of_mem_erase hx) fun e => by
    subst e
    exact List.Nodup.not_mem_erase h.en.nd hx
end
end Go.Proofs.Ytnlfmmempomcaaa
