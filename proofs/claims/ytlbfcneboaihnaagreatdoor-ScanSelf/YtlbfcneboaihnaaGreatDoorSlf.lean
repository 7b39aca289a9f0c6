/- Digits rewritten and back: the places are the same, and so is what is left but for them: the plain mathematics. -/
import Derived.Test.YtlbfcneboaihnaaGreatDoorMdr
namespace Go.Proofs.YtlbfcneboaihnaaGreatDoor
theorem plcs_same {B C F T : List Nat} (hBC : B.length = C.length) (hF : F.length = 32) (hT : T.length = 32) : ∀ f i, B.length + 1 - i ≤ f →
    (∀ p ∈ plcs B F i, (C.drop p).take 32 = T) → (∀ q ∈ plcs C T i, (B.drop q).take 32 = F) → plcs B F i = plcs C T i
  | 0, i, h, _, _ => by rw [plcs_stop (by omega), plcs_stop (by omega)]
  | f + 1, i, h, h1, h2 => by
    by_cases hi : i + 32 ≤ B.length
    · by_cases hs : (B.drop i).take 32 = F
      · have e1 : plcs B F i = i :: plcs B F (i + 32) := by have := plcs_hit (B := B) (D := F) (i := i) (by omega) (by omega) (by rw [hF]; exact hs); rwa [hF] at this
        have ht : (C.drop i).take 32 = T := h1 i (by rw [e1]; simp)
        have e2 : plcs C T i = i :: plcs C T (i + 32) := by have := plcs_hit (B := C) (D := T) (i := i) (by omega) (by omega) (by rw [hT]; exact ht); rwa [hT] at this
        rw [e1] at h1
        rw [e2] at h2
        rw [e1, e2, plcs_same hBC hF hT f (i + 32) (by omega) (fun p hp => h1 p (List.mem_cons_of_mem _ hp)) (fun q hq => h2 q (List.mem_cons_of_mem _ hq))]
      · have e1 : plcs B F i = plcs B F (i + 1) := plcs_miss (by omega) (by omega) (by rw [hF]; exact hs)
        by_cases ht : (C.drop i).take 32 = T
        · have e2 : plcs C T i = i :: plcs C T (i + 32) := by have := plcs_hit (B := C) (D := T) (i := i) (by omega) (by omega) (by rw [hT]; exact ht); rwa [hT] at this
          exact absurd (h2 i (by rw [e2]; simp)) hs
        · have e2 : plcs C T i = plcs C T (i + 1) := plcs_miss (by omega) (by omega) (by rw [hT]; exact ht)
          rw [e1] at h1
          rw [e2] at h2
          rw [e1, e2, plcs_same hBC hF hT f (i + 1) (by omega) h1 h2]
    · rw [plcs_stop (by omega), plcs_stop (by omega)]
theorem layAll_cons (T O : List Nat) (p : Nat) (ps : List Nat) : layAll T O (p :: ps) = layAll T (layAt T O p) ps := rfl
theorem get_layAt {T O : List Nat} (hT : T.length = 32) {p : Nat} (hp : p + 32 ≤ O.length) (j : Nat) : (layAt T O p)[j]? = if p ≤ j ∧ j < p + 32 then T[j - p]? else O[j]? := by
  unfold layAt
  rw [hT]
  have hl : (O.take p).length = p := by rw [List.length_take]; omega
  by_cases h1 : j < p
  · rw [if_neg (by omega), List.append_assoc, List.getElem?_append_left (by omega), List.getElem?_take, if_pos h1]
  · by_cases h2 : j < p + 32
    · rw [if_pos (by omega), List.append_assoc, List.getElem?_append_right (by omega), hl, List.getElem?_append_left (by omega)]
    · rw [if_neg (by omega), List.getElem?_append_right (by rw [List.length_append]; omega), List.getElem?_drop, List.length_append, hl, hT]
      congr 1; omega
/-- What is laid over. -/
def Cov (ps : List Nat) (j : Nat) : Prop := ∃ p ∈ ps, p ≤ j ∧ j < p + 32
theorem get_uncov {T : List Nat} (hT : T.length = 32) : ∀ (ps O : List Nat), (∀ p ∈ ps, p + 32 ≤ O.length) → ∀ j, ¬ Cov ps j → (layAll T O ps)[j]? = O[j]?
  | [], _, _, _, _ => rfl
  | p :: ps, O, h, j, hc => by
    have hp := h p (by simp)
    have hl : (layAt T O p).length = O.length := layAt_length (by omega)
    rw [layAll_cons, get_uncov hT ps _ (fun q hq => by rw [hl]; exact h q (List.mem_cons_of_mem _ hq)) j (fun ⟨q, hq, hj⟩ => hc ⟨q, List.mem_cons_of_mem _ hq, hj⟩), get_layAt hT hp, if_neg (fun hj => hc ⟨p, by simp, hj⟩)]
theorem get_indep {Z : List Nat} (hZ : Z.length = 32) : ∀ (ps O O' : List Nat), O.length = O'.length → (∀ p ∈ ps, p + 32 ≤ O.length) → ∀ j, Cov ps j ∨ O[j]? = O'[j]? → (layAll Z O ps)[j]? = (layAll Z O' ps)[j]?
  | [], _, _, _, _, j, hc => by
    rcases hc with ⟨p, hp, _⟩ | h
    · cases hp
    · exact h
  | p :: ps, O, O', hl, h, j, hc => by
    have hp := h p (by simp)
    have l1 : (layAt Z O p).length = O.length := layAt_length (by omega)
    have l2 : (layAt Z O' p).length = O'.length := layAt_length (by omega)
    rw [layAll_cons, layAll_cons]
    refine get_indep hZ ps _ _ (by omega) (fun q hq => by rw [l1]; exact h q (List.mem_cons_of_mem _ hq)) j ?_
    by_cases hj : p ≤ j ∧ j < p + 32
    · exact .inr (by rw [get_layAt hZ hp, get_layAt hZ (by omega), if_pos hj, if_pos hj])
    · rcases hc with ⟨q, hq, hqj⟩ | he
      · rcases List.mem_cons.1 hq with rfl | hq
        · exact absurd hqj hj
        · exact .inl ⟨q, hq, hqj⟩
      · exact .inr (by rw [get_layAt hZ hp, get_layAt hZ (by omega), if_neg hj, if_neg hj]; exact he)
theorem layAll_over {Z T : List Nat} (hZ : Z.length = 32) (hT : T.length = 32) (ps B : List Nat) (h : ∀ p ∈ ps, p + 32 ≤ B.length) : layAll Z (layAll T B ps) ps = layAll Z B ps := by
  have hl : (layAll T B ps).length = B.length := layAll_length ps B fun p hp => by rw [hT]; exact h p hp
  apply List.ext_getElem?
  intro j
  refine get_indep hZ ps _ _ hl (fun p hp => by rw [hl]; exact h p hp) j ?_
  by_cases hc : Cov ps j
  · exact .inl hc
  · exact .inr (get_uncov hT ps B h j hc)
theorem apart_le : ∀ {ps : List Nat} {i : Nat}, Apart i ps → ∀ p ∈ ps, i ≤ p
  | [], _, _, _, hp => by cases hp
  | q :: ps, i, h, p, hp => by
    rcases List.mem_cons.1 hp with rfl | hp
    · exact h.1
    · have := apart_le h.2 p hp
      have := h.1
      omega
theorem lay_stands {T : List Nat} (hT : T.length = 32) : ∀ (ps O : List Nat) (i : Nat), Apart i ps → (∀ p ∈ ps, p + 32 ≤ O.length) → ∀ p ∈ ps, ((layAll T O ps).drop p).take 32 = T
  | [], _, _, _, _, _, hp => by cases hp
  | q :: ps, O, i, ha, h, p, hp => by
    have hq := h q (by simp)
    have hl : (layAt T O q).length = O.length := layAt_length (by omega)
    have h' : ∀ r ∈ ps, r + 32 ≤ (layAt T O q).length := fun r hr => by rw [hl]; exact h r (List.mem_cons_of_mem _ hr)
    rw [layAll_cons]
    rcases List.mem_cons.1 hp with rfl | hp
    · apply List.ext_getElem?
      intro k
      rw [List.getElem?_take, List.getElem?_drop]
      by_cases hk : k < 32
      · rw [if_pos hk, get_uncov hT ps _ h' _ (fun ⟨r, hr, hr1, hr2⟩ => by have := apart_le ha.2 r hr; omega), get_layAt hT hq, if_pos (by omega)]
        congr 1; omega
      · rw [if_neg hk, List.getElem?_eq_none (by omega)]
    · exact lay_stands hT ps _ _ ha.2 h' p hp
/-- Rewritten and back: the digest but for the digits is the same. -/
theorem mod_self {p q B : List Nat} (hp : Sha.isPth p) (hq : Sha.isPth q)
    (hb : layAll (p.take 32) (layAll (q.take 32) B (plcs B (p.take 32) 0)) (plcs (layAll (q.take 32) B (plcs B (p.take 32) 0)) (q.take 32) 0) = B) :
    modS q (layAll (q.take 32) B (plcs B (p.take 32) 0)) = modS p B := by
  have hF := (path_digits hp).1
  have hT := (path_digits hq).1
  unfold modS
  generalize p.take 32 = F at *
  generalize q.take 32 = T at *
  have h1 : ∀ x ∈ plcs B F 0, x + 32 ≤ B.length := fun x hx => by have := (plcs_in (by omega) hx).2; omega
  have hl : (layAll T B (plcs B F 0)).length = B.length := layAll_length _ _ fun x hx => by rw [hT]; exact h1 x hx
  have s1 := lay_stands hT (plcs B F 0) B 0 (plcs_apart hF _ 0 (Nat.le_refl _)) h1
  have hov := layAll_over (Z := zs 32) rfl hT (plcs B F 0) B h1
  generalize layAll T B (plcs B F 0) = C at *
  have h2 : ∀ x ∈ plcs C T 0, x + 32 ≤ C.length := fun x hx => by have := (plcs_in (by omega) hx).2; omega
  have s2 := lay_stands hF (plcs C T 0) C 0 (plcs_apart hT _ 0 (Nat.le_refl _)) h2
  rw [hb] at s2
  have e := plcs_same hl.symm hF hT _ 0 (Nat.le_refl _) s1 s2
  rw [← e, hov]
end Go.Proofs.YtlbfcneboaihnaaGreatDoor
