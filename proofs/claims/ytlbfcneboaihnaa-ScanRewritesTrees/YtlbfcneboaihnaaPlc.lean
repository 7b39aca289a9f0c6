/- Where digits stand, from behind one on to the next, and what is laid there: the plain mathematics. No Go text is named here. -/
import Derived.Test.YtlbfcneboaihnaaRefq
namespace Go.Proofs.Ytlbfcneboaihnaa
/-- Where they stand from i on, so many steps. -/
def plcN (B D : List Nat) : Nat → Nat → List Nat
  | 0, _ => []
  | f + 1, i => if i + D.length ≤ B.length then (if (B.drop i).take D.length = D then i :: plcN B D f (i + D.length) else plcN B D f (i + 1)) else []
theorem plcN_more (B D : List Nat) (hD : 0 < D.length) : ∀ f g i, B.length + 1 - i ≤ f → B.length + 1 - i ≤ g → plcN B D f i = plcN B D g i
  | 0, 0, _, _, _ => rfl
  | 0, g + 1, i, h, _ => by unfold plcN; rw [if_neg (by omega)]
  | f + 1, 0, i, _, h => by unfold plcN; rw [if_neg (by omega)]
  | f + 1, g + 1, i, h1, h2 => by
    unfold plcN
    by_cases hi : i + D.length ≤ B.length
    · rw [if_pos hi, if_pos hi]
      by_cases hs : (B.drop i).take D.length = D
      · rw [if_pos hs, if_pos hs, plcN_more B D hD f g (i + D.length) (by omega) (by omega)]
      · rw [if_neg hs, if_neg hs, plcN_more B D hD f g (i + 1) (by omega) (by omega)]
    · rw [if_neg hi, if_neg hi]
/-- Where they stand from i on. -/
def plcs (B D : List Nat) (i : Nat) : List Nat := plcN B D (B.length + 1) i
theorem plcs_stop {B D : List Nat} {i : Nat} (h : ¬ i + D.length ≤ B.length) : plcs B D i = [] := by unfold plcs plcN; rw [if_neg h]
theorem plcs_hit {B D : List Nat} {i : Nat} (hD : 0 < D.length) (h : i + D.length ≤ B.length) (hs : (B.drop i).take D.length = D) : plcs B D i = i :: plcs B D (i + D.length) := by
  show plcN B D (B.length + 1) i = _
  unfold plcN
  rw [if_pos h, if_pos hs, plcN_more B D hD B.length (B.length + 1) (i + D.length) (by omega) (by omega)]; rfl
theorem plcs_miss {B D : List Nat} {i : Nat} (hD : 0 < D.length) (h : i + D.length ≤ B.length) (hs : ¬ (B.drop i).take D.length = D) : plcs B D i = plcs B D (i + 1) := by
  show plcN B D (B.length + 1) i = _
  unfold plcN
  rw [if_pos h, if_neg hs, plcN_more B D hD B.length (B.length + 1) (i + 1) (by omega) (by omega)]; rfl
theorem plcs_over {B D : List Nat} (hD : 0 < D.length) {i : Nat} : ∀ k, (∀ j, j < k → i + j + D.length ≤ B.length → ¬ (B.drop (i + j)).take D.length = D) → plcs B D i = plcs B D (i + k)
  | 0, _ => rfl
  | k + 1, h => by
    rw [plcs_over hD k (fun j hj => h j (by omega))]
    by_cases hi : i + k + D.length ≤ B.length
    · exact plcs_miss hD hi (h k (by omega) hi)
    · rw [plcs_stop hi, plcs_stop (by omega)]
theorem plcs_none {B D : List Nat} (hD : 0 < D.length) {i : Nat} (h : ∀ j, i + j + D.length ≤ B.length → ¬ (B.drop (i + j)).take D.length = D) : plcs B D i = [] := by
  rw [plcs_over hD (B.length + 1) (fun j _ => h j), plcs_stop (by omega)]
theorem plcs_next {B D : List Nat} (hD : 0 < D.length) {i k : Nat} (h : ∀ j, j < k → i + j + D.length ≤ B.length → ¬ (B.drop (i + j)).take D.length = D) (hk : i + k + D.length ≤ B.length) (hs : (B.drop (i + k)).take D.length = D) : plcs B D i = (i + k) :: plcs B D (i + k + D.length) := by
  rw [plcs_over hD k h, plcs_hit hD hk hs]
theorem plcs_le {B D : List Nat} (hD : 0 < D.length) : ∀ f i, B.length + 1 - i ≤ f → ∀ p ∈ plcs B D i, i ≤ p ∧ p + D.length ≤ B.length
  | 0, i, h, p, hp => by rw [plcs_stop (by omega)] at hp; cases hp
  | f + 1, i, h, p, hp => by
    by_cases hi : i + D.length ≤ B.length
    · by_cases hs : (B.drop i).take D.length = D
      · rw [plcs_hit hD hi hs] at hp
        rcases List.mem_cons.1 hp with rfl | hp
        · exact ⟨Nat.le_refl _, hi⟩
        · have := plcs_le hD f _ (by omega) p hp; omega
      · rw [plcs_miss hD hi hs] at hp
        have := plcs_le hD f _ (by omega) p hp; omega
    · rw [plcs_stop hi] at hp; cases hp
theorem plcs_in {B D : List Nat} (hD : 0 < D.length) {i p : Nat} (hp : p ∈ plcs B D i) : i ≤ p ∧ p + D.length ≤ B.length := plcs_le hD (B.length + 1) i (by omega) p hp
theorem plcs_len {B D : List Nat} (hD : 0 < D.length) : ∀ f i, B.length + 1 - i ≤ f → (plcs B D i).length ≤ B.length - i
  | 0, i, h => by rw [plcs_stop (by omega)]; simp
  | f + 1, i, h => by
    by_cases hi : i + D.length ≤ B.length
    · by_cases hs : (B.drop i).take D.length = D
      · rw [plcs_hit hD hi hs, List.length_cons]
        have := plcs_len (B := B) hD f (i + D.length) (by omega); omega
      · rw [plcs_miss hD hi hs]
        have := plcs_len (B := B) hD f (i + 1) (by omega); omega
    · rw [plcs_stop hi]; simp
/-- Bytes laid at a place. -/
def layAt (T : List Nat) (O : List Nat) (p : Nat) : List Nat := O.take p ++ T ++ O.drop (p + T.length)
/-- Bytes laid at places. -/
def layAll (T : List Nat) (O : List Nat) (ps : List Nat) : List Nat := ps.foldl (layAt T) O
theorem layAt_length {T O : List Nat} {p : Nat} (h : p + T.length ≤ O.length) : (layAt T O p).length = O.length := by
  unfold layAt; simp only [List.length_append, List.length_take, List.length_drop]; omega
theorem layAll_snoc (T O ps : List Nat) (p : Nat) : layAll T O (ps ++ [p]) = layAt T (layAll T O ps) p := by unfold layAll; rw [List.foldl_append]; rfl
theorem layAll_length {T : List Nat} : ∀ (ps O : List Nat), (∀ p ∈ ps, p + T.length ≤ O.length) → (layAll T O ps).length = O.length
  | [], _, _ => rfl
  | p :: ps, O, h => by
    have h1 := layAt_length (h p (by simp))
    show (layAll T (layAt T O p) ps).length = _
    rw [layAll_length ps (layAt T O p) (fun q hq => by rw [h1]; exact h q (by simp [hq])), h1]
theorem layAt_bytes {T O : List Nat} (hT : Sha.Bytes T) (hO : Sha.Bytes O) (p : Nat) : Sha.Bytes (layAt T O p) := fun x hx => by
  unfold layAt at hx
  rcases List.mem_append.1 hx with h | h
  · rcases List.mem_append.1 h with h | h
    · exact hO x (List.mem_of_mem_take h)
    · exact hT x h
  · exact hO x (List.mem_of_mem_drop h)
theorem layAll_bytes {T : List Nat} (hT : Sha.Bytes T) : ∀ (ps O : List Nat), Sha.Bytes O → Sha.Bytes (layAll T O ps)
  | [], _, h => h
  | p :: ps, _, h => layAll_bytes hT ps _ (layAt_bytes hT h p)
end Go.Proofs.Ytlbfcneboaihnaa
