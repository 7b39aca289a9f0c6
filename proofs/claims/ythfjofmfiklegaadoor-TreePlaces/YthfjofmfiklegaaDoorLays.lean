/- A tree that lies whatever the blocks from m to B become. -/
import Derived.Test.YthfjofmfiklegaaDoorLaidS
import Derived.Test.YthfjofmfiklegaaDoorCat
import Derived.Test.YthfjofmfiklegaaDoorCuts
namespace Go.Proofs.YthfjofmfiklegaaDoor
open Go.RowKit
def Lays (m B : Nat) (w : World) (T : Tr) (cs : List Value) : Prop := ∀ w'' : World, (∀ k, k < w.heap.size → k < m ∨ B ≤ k → w''.heap[k]? = w.heap[k]?) → Lies 0 w.heap.size w'' T cs
theorem Lays.lies {m B : Nat} {w : World} {T : Tr} {cs : List Value} (h : Lays m B w T cs) : Lies 0 w.heap.size w T cs := h w (fun _ _ _ => rfl)
theorem lays_of {m B lo hi : Nat} {w : World} {T : Tr} {cs : List Value} (h : Lies lo hi w T cs) (hm : hi ≤ m) (hw : hi ≤ w.heap.size) : Lays m B w T cs := fun w'' hs => (h.same (fun k _ h2 => hs k (by omega) (.inl (by omega)))).mono (Nat.zero_le _) hw
def Rel (P : Tr → List Value → Prop) (ks : List Tr) (Ks : List (List Value)) : Prop := ∀ (i : Nat) (t : Tr) (c : List Value), ks[i]? = some t → Ks[i]? = some c → P t c
theorem Rel.app {P : Tr → List Value → Prop} {a b : List Tr} {A B : List (List Value)} (hl : A.length = a.length) (h1 : Rel P a A) (h2 : Rel P b B) : Rel P (a ++ b) (A ++ B) := by
  intro i t c ht hc
  by_cases h : i < a.length
  · rw [List.getElem?_append_left h] at ht
    rw [List.getElem?_append_left (by omega)] at hc
    exact h1 i t c ht hc
  · rw [List.getElem?_append_right (by omega)] at ht hc
    rw [hl] at hc
    exact h2 _ t c ht hc
theorem Rel.take {P : Tr → List Value → Prop} {a : List Tr} {A : List (List Value)} (n : Nat) (h : Rel P a A) : Rel P (a.take n) (A.take n) := by
  intro i t c ht hc
  rw [List.getElem?_take] at ht hc
  split at ht
  · rename_i hi; rw [if_pos hi] at hc; exact h i t c ht hc
  · cases ht
theorem Rel.drop {P : Tr → List Value → Prop} {a : List Tr} {A : List (List Value)} (n : Nat) (h : Rel P a A) : Rel P (a.drop n) (A.drop n) := by
  intro i t c ht hc
  rw [List.getElem?_drop] at ht hc
  exact h _ t c ht hc
theorem Rel.one {P : Tr → List Value → Prop} {t : Tr} {c : List Value} (h : P t c) : Rel P [t] [c] := by
  intro i t' c' ht hc
  match i with
  | 0 => simp at ht hc; subst ht hc; exact h
  | i + 1 => simp at ht
theorem flat5_take (Ks : List (List Value)) (h : ∀ c ∈ Ks, c.length = 5) (p : Nat) : Ks.flatten.take (p * 5) = (Ks.take p).flatten := by
  induction Ks generalizing p with
  | nil => simp
  | cons a r ih =>
    cases p with
    | zero => simp
    | succ p =>
      have ha : a.length = 5 := h a (by simp)
      rw [List.flatten_cons, List.take_succ_cons, List.flatten_cons, ← ih (fun c hc => h c (by simp [hc])) p, List.take_append, ha, List.take_of_length_le (by omega)]
      congr 2; omega
theorem flat5_drop (Ks : List (List Value)) (h : ∀ c ∈ Ks, c.length = 5) (p : Nat) : Ks.flatten.drop (p * 5) = (Ks.drop p).flatten := by
  induction Ks generalizing p with
  | nil => simp
  | cons a r ih =>
    cases p with
    | zero => simp
    | succ p =>
      have ha : a.length = 5 := h a (by simp)
      rw [List.flatten_cons, List.drop_succ_cons, ← ih (fun c hc => h c (by simp [hc])) p, List.drop_append, ha, List.drop_of_length_le (by omega), List.nil_append]
      congr 1; omega
theorem empty_lies (lo hi : Nat) (w : World) : Lies lo hi w emptyDir [.int .i64 2, .bool false, .slice none 0 0, .slice none 0 0, .slice none 0 0] := by
  unfold emptyDir
  have h : ∀ n, n = 0 → ∀ xs, Row lo hi w (.slice none 0 0) n xs := fun n hn xs => by subst hn; exact ⟨none, 0, rfl, Nat.le_refl _, fun h => absurd h (by simp)⟩
  exact .mk 2 false ⟨#[]⟩ [] [] _ _ _ [] rfl (h _ rfl _) (h _ rfl _) (h _ rfl _) (fun i t c h1 _ => by simp at h1)
theorem kidAt_no {ns : List ByteArray} {ks : List Tr} {x : ByteArray} (h : has ns x = false) : kidAt ns ks x = emptyDir := by unfold kidAt; rw [h]; rfl
theorem kidAt_yes {ns : List ByteArray} {ks : List Tr} {x : ByteArray} (h : has ns x = true) (hl : pos ns x < ks.length) : kidAt ns ks x = ks[pos ns x] := by
  unfold kidAt; rw [h, if_pos rfl, List.getD_eq_getElem?_getD, List.getElem?_eq_getElem hl]; rfl
theorem nextAt_no {ns : List ByteArray} {x : ByteArray} (h : has ns x = false) : nextAt ns x = pos ns x := by unfold nextAt; rw [h]; rfl
theorem nextAt_yes {ns : List ByteArray} {x : ByteArray} (h : has ns x = true) : nextAt ns x = pos ns x + 1 := by unfold nextAt; rw [h]; rfl
/-- The tree that laid builds. -/
theorem laid_end {lo hi m B B' p q : Nat} {w w4 w7 : World} {ns : List ByteArray} {nm : ByteArray} {ks : List Tr} {Ks : List (List Value)} {T' : Tr} {cs' : List Value} {vn vk : Value}
    (hl : Ks.length = ks.length) (hK : ∀ (i : Nat) (t : Tr) (c : List Value), ks[i]? = some t → Ks[i]? = some c → Lies lo hi w t c)
    (hm : hi ≤ m) (hmB : m ≤ B) (hB : B ≤ w.heap.size) (hBB : B ≤ B') (hb : Below B w w7) (hT : Lays m B' w4 T' cs') (h47 : w4.heap.size ≤ w7.heap.size) (hs : ∀ k, k < w4.heap.size → k < m ∨ B' ≤ k → w7.heap[k]? = w4.heap[k]?)
    (hn : Row B w7.heap.size w7 vn (ns.take p ++ [nm] ++ ns.drop q).length ((ns.take p ++ [nm] ++ ns.drop q).map .string)) (hk : Row B w7.heap.size w7 vk (ks.take p ++ [T'] ++ ks.drop q).length (Ks.take p ++ [cs'] ++ Ks.drop q).flatten) :
    Lays m B w7 (.mk 2 false ⟨#[]⟩ (ns.take p ++ [nm] ++ ns.drop q) (ks.take p ++ [T'] ++ ks.drop q)) [.int .i64 2, .bool false, .slice none 0 0, vn, vk] := by
  intro w'' hw''
  have hb2 : ∀ k, k < m → w''.heap[k]? = w.heap[k]? := fun k hk => by
    rw [hw'' k (by have := hb.size; omega) (.inl hk), hb.block k (by omega)]
  have h7 := hb.size
  refine .mk 2 false ⟨#[]⟩ _ _ _ _ _ (Ks.take p ++ [cs'] ++ Ks.drop q) (by simp [hl]) ⟨none, 0, rfl, Nat.le_refl _, fun h => absurd h (Nat.lt_irrefl 0)⟩ ?_ ?_ ?_
  · exact (hn.same (fun k h1 h2 => hw'' k h2 (.inr h1))).mono (Nat.zero_le _) (Nat.le_refl _)
  · exact (hk.same (fun k h1 h2 => hw'' k h2 (.inr h1))).mono (Nat.zero_le _) (Nat.le_refl _)
  · have hR : Rel (fun t c => Lies 0 w7.heap.size w'' t c) ks Ks := fun i t c h1 h2 => ((hK i t c h1 h2).same (fun k _ hk => hb2 k (by omega))).mono (Nat.zero_le _) (by omega)
    refine Rel.app (by simp [hl]) (Rel.app (by simp [hl]) (hR.take p) (Rel.one ?_)) (hR.drop q)
    refine (hT w'' (fun k h1 h2 => ?_)).mono (Nat.zero_le _) h47
    rw [hw'' k (by omega) (by omega), hs k h1 h2]
end Go.Proofs.YthfjofmfiklegaaDoor
