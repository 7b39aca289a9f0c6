/- Unlike trees have unlike bytes: the plain mathematics. No Go text is named here. -/
import Derived.Test.YtikamklgelcnhabK6
namespace Go.Proofs.Ytikamklgelcnhab
open Go.RowKit
theorem wd (s : List UInt8) (h : s.length < 100) : s.length < 2 ^ 64 := by omega
theorem tenths_memX {ns : List ByteArray} {s : ByteArray} (h : s ∈ ns) : s.size / 10 ≤ tenths ns := by
  induction ns with
  | nil => simp at h
  | cons a r ih =>
    rw [tenths]
    rcases List.mem_cons.1 h with rfl | h
    · omega
    · have := ih h; omega
theorem name_sz {k : Int} {x : Bool} {d : ByteArray} {ns : List ByteArray} {ks : List Tr} (h : wt (.mk k x d ns ks) ≤ 100000) : d.size < 2 ^ 64 ∧ ∀ s ∈ ns, s.size < 2 ^ 64 := by
  rw [wt] at h
  exact ⟨by omega, fun s hs => by have := tenths_memX hs; omega⟩
theorem sB_inj {a b : ByteArray} (h : sB a = sB b) : a = b := ByteArray.ext (Array.ext' h)
theorem ents_inj (Q : Tr → Prop) (ns : List ByteArray) : ∀ (ks : List Tr) (ns' : List ByteArray) (ks' : List Tr) (r q : List UInt8),
    ns.length = ks.length → ns'.length = ks'.length → (∀ s ∈ ns, s.size < 2 ^ 64) → (∀ s ∈ ns', s.size < 2 ^ 64) → (∀ t ∈ ks, ∀ u, Q u → ∀ r q, nodeB t ++ r = nodeB u ++ q → t = u ∧ r = q) → (∀ t ∈ ks', Q t) → entsB ns ks ++ (tx wClose ++ r) = entsB ns' ks' ++ (tx wClose ++ q) → ns = ns' ∧ ks = ks' ∧ r = q := by
  induction ns with
  | nil =>
    intro ks ns' ks' r q h1 h2 _ _ _ _ h
    have : ks = [] := List.eq_nil_of_length_eq_zero (by simpa using h1.symm)
    subst this
    rw [entsB_nil, List.nil_append] at h
    cases ns' with
    | nil =>
      have : ks' = [] := List.eq_nil_of_length_eq_zero (by simpa using h2.symm)
      subst this
      rw [entsB_nil, List.nil_append] at h
      exact ⟨rfl, rfl, List.append_cancel_left h⟩
    | cons n ns' =>
      cases ks' with
      | nil => simp at h2
      | cons t ks' =>
        rw [entsB] at h
        simp only [txs, List.append_assoc] at h
        have := (tx_inj (wd _ (by decide)) (wd _ (by decide)) h).1
        exact absurd this (by decide)
  | cons n ns ih =>
    intro ks ns' ks' r q h1 h2 s1 s2 p1 p2 h
    cases ks with
    | nil => simp at h1
    | cons t ks =>
      cases ns' with
      | nil =>
        have : ks' = [] := List.eq_nil_of_length_eq_zero (by simpa using h2.symm)
        subst this
        rw [entsB_nil, List.nil_append, entsB] at h
        simp only [txs, List.append_assoc] at h
        have := (tx_inj (wd _ (by decide)) (wd _ (by decide)) h).1
        exact absurd this (by decide)
      | cons n' ns' =>
        cases ks' with
        | nil => simp at h2
        | cons t' ks' =>
          rw [entsB, entsB] at h
          simp only [txs, List.append_assoc, List.nil_append] at h
          have h := (tx_inj (wd _ (by decide)) (wd _ (by decide)) h).2
          have h := (tx_inj (wd _ (by decide)) (wd _ (by decide)) h).2
          have h := (tx_inj (wd _ (by decide)) (wd _ (by decide)) h).2
          obtain ⟨hn, h⟩ := tx_inj (s := sB n) (t := sB n') (s1 n (by simp)) (s2 n' (by simp)) h
          have h := (tx_inj (wd _ (by decide)) (wd _ (by decide)) h).2
          obtain ⟨ht, h⟩ := p1 t (by simp) t' (p2 t' (by simp)) _ _ h
          have h := (tx_inj (wd _ (by decide)) (wd _ (by decide)) h).2
          obtain ⟨e1, e2, e3⟩ := ih ks ns' ks' r q (by simpa using h1) (by simpa using h2) (fun s hs => s1 s (by simp [hs])) (fun s hs => s2 s (by simp [hs])) (fun t ht => p1 t (by simp [ht])) (fun t ht => p2 t (by simp [ht])) h
          exact ⟨by rw [sB_inj hn, e1], by rw [ht, e2], e3⟩
/-- A tree of at most so many levels that is one, and not great. -/
def Ok1 (T : Tr) : Prop := (∃ dp n, (chk T dp n).1 = 0) ∧ wt T ≤ 100000
theorem node_inj (T : Tr) : ∀ (U : Tr) (r q : List UInt8), Ok1 T → Ok1 U → nodeB T ++ r = nodeB U ++ q → T = U ∧ r = q := by
  induction T using Tr.ind with
  | h k x d ns ks ih =>
  intro U r q hT hU h
  cases U with
  | mk k' x' d' ns' ks' =>
  obtain ⟨⟨dp, n, hc⟩, hw⟩ := hT
  obtain ⟨⟨dp', n', hc'⟩, hw'⟩ := hU
  obtain ⟨hl, _, hk⟩ := chk_kids hc
  obtain ⟨hl', _, hk'⟩ := chk_kids hc'
  obtain ⟨z1, z2⟩ := name_sz hw
  obtain ⟨z1', z2'⟩ := name_sz hw'
  have hSm := small_of hw
  have hSm' := small_of hw'
  rw [nodeB, nodeB] at h
  simp only [txs, List.append_assoc, List.nil_append] at h
  have h := (tx_inj (wd _ (by decide)) (wd _ (by decide)) h).2
  have h := (tx_inj (wd _ (by decide)) (wd _ (by decide)) h).2
  have nil0 : ∀ {l : List ByteArray}, l.length = 0 → l = [] := fun h => List.eq_nil_of_length_eq_zero h
  have nil1 : ∀ {l : List Tr}, l.length = 0 → l = [] := fun h => List.eq_nil_of_length_eq_zero h
  rcases loc0 hl with ⟨rfl, a1, a2⟩ | ⟨rfl, a0, a1, a2⟩ | ⟨rfl, a0, a1, a2, a3⟩ <;> rcases loc0 hl' with ⟨rfl, b1, b2⟩ | ⟨rfl, b0, b1, b2⟩ | ⟨rfl, b0, b1, b2, b3⟩
  · obtain rfl := nil0 a1
    obtain rfl := nil1 a2
    obtain rfl := nil0 b1
    obtain rfl := nil1 b2
    rw [if_pos (show (1 : Int) = 1 from rfl), if_pos (show (1 : Int) = 1 from rfl)] at h
    simp only [List.append_assoc] at h
    have h := (tx_inj (wd _ (by decide)) (wd _ (by decide)) h).2
    cases x <;> cases x'
    · simp only [Bool.false_eq_true, if_false, List.nil_append] at h
      have h := (tx_inj (wd _ (by decide)) (wd _ (by decide)) h).2
      obtain ⟨hd, h⟩ := tx_inj (s := sB d) (t := sB d') z1 z1' h
      have h := (tx_inj (wd _ (by decide)) (wd _ (by decide)) h).2
      rw [sB_inj hd]
      exact ⟨rfl, h⟩
    · simp only [Bool.false_eq_true, if_false, if_true, List.nil_append, List.append_assoc] at h
      exact absurd (tx_inj (wd _ (by decide)) (wd _ (by decide)) h).1 (by decide)
    · simp only [Bool.false_eq_true, if_false, if_true, List.nil_append, List.append_assoc] at h
      exact absurd (tx_inj (wd _ (by decide)) (wd _ (by decide)) h).1 (by decide)
    · simp only [if_true, List.append_assoc] at h
      have h := (tx_inj (wd _ (by decide)) (wd _ (by decide)) h).2
      have h := (tx_inj (wd _ (by decide)) (wd _ (by decide)) h).2
      have h := (tx_inj (wd _ (by decide)) (wd _ (by decide)) h).2
      obtain ⟨hd, h⟩ := tx_inj (s := sB d) (t := sB d') z1 z1' h
      have h := (tx_inj (wd _ (by decide)) (wd _ (by decide)) h).2
      rw [sB_inj hd]
      exact ⟨rfl, h⟩
  · rw [if_pos (show (1 : Int) = 1 from rfl), if_neg (show ¬ (3 : Int) = 1 by decide), if_pos (show (3 : Int) = 3 from rfl)] at h
    simp only [List.append_assoc] at h
    exact absurd (tx_inj (wd _ (by decide)) (wd _ (by decide)) h).1 (by decide)
  · rw [if_pos (show (1 : Int) = 1 from rfl), if_neg (show ¬ (2 : Int) = 1 by decide), if_neg (show ¬ (2 : Int) = 3 by decide), if_pos (show (2 : Int) = 2 from rfl)] at h
    simp only [List.append_assoc] at h
    exact absurd (tx_inj (wd _ (by decide)) (wd _ (by decide)) h).1 (by decide)
  · rw [if_neg (show ¬ (3 : Int) = 1 by decide), if_pos (show (3 : Int) = 3 from rfl), if_pos (show (1 : Int) = 1 from rfl)] at h
    simp only [List.append_assoc] at h
    exact absurd (tx_inj (wd _ (by decide)) (wd _ (by decide)) h).1 (by decide)
  · obtain rfl := nil0 a1
    obtain rfl := nil1 a2
    obtain rfl := nil0 b1
    obtain rfl := nil1 b2
    rw [if_neg (by decide), if_pos rfl, if_neg (by decide), if_pos rfl] at h
    simp only [List.append_assoc] at h
    have h := (tx_inj (wd _ (by decide)) (wd _ (by decide)) h).2
    have h := (tx_inj (wd _ (by decide)) (wd _ (by decide)) h).2
    obtain ⟨hd, h⟩ := tx_inj (s := sB d) (t := sB d') z1 z1' h
    have h := (tx_inj (wd _ (by decide)) (wd _ (by decide)) h).2
    rw [sB_inj hd, a0, b0]
    exact ⟨rfl, h⟩
  · rw [if_neg (by decide), if_pos rfl, if_neg (by decide), if_neg (by decide), if_pos rfl] at h
    simp only [List.append_assoc] at h
    exact absurd (tx_inj (wd _ (by decide)) (wd _ (by decide)) h).1 (by decide)
  · rw [if_neg (show ¬ (2 : Int) = 1 by decide), if_neg (show ¬ (2 : Int) = 3 by decide), if_pos (show (2 : Int) = 2 from rfl), if_pos (show (1 : Int) = 1 from rfl)] at h
    simp only [List.append_assoc] at h
    exact absurd (tx_inj (wd _ (by decide)) (wd _ (by decide)) h).1 (by decide)
  · rw [if_neg (by decide), if_neg (by decide), if_pos rfl, if_neg (by decide), if_pos rfl] at h
    simp only [List.append_assoc] at h
    exact absurd (tx_inj (wd _ (by decide)) (wd _ (by decide)) h).1 (by decide)
  · rw [if_neg (by decide), if_neg (by decide), if_pos rfl, if_neg (by decide), if_neg (by decide), if_pos rfl] at h
    simp only [List.append_assoc] at h
    have h := (tx_inj (wd _ (by decide)) (wd _ (by decide)) h).2
    have hD : d = d' := by
      have e1 : d.data.toList = [] := List.eq_nil_of_length_eq_zero a1
      have e2 : d'.data.toList = [] := List.eq_nil_of_length_eq_zero b1
      exact sB_inj (by unfold sB; rw [e1, e2])
    obtain ⟨e1, e2, e3⟩ := ents_inj Ok1 ns ks ns' ks' r q a2 b2 z2 z2' (fun t ht u hu r q h => ih t ht u r q ⟨⟨_, hk t ht⟩, hSm.t t ht⟩ hu h) (fun t ht => ⟨⟨_, hk' t ht⟩, hSm'.t t ht⟩) h
    rw [hD, a0, b0, e1, e2]
    exact ⟨rfl, e3⟩
end Go.Proofs.Ytikamklgelcnhab
