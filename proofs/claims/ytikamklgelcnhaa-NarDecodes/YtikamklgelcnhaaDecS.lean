/- Decode and Split of what was written, of more and of less. Mathematics alone. -/
import Derived.Test.YtikamklgelcnhaaK7
import Derived.Test.YtikamklgelcnhaaK8
import Derived.Test.YtikamklgelcnhaaOne
namespace Go.Proofs.Ytikamklgelcnhaa
open Go.RowKit
set_option linter.unusedSimpArgs false
/-- An error is not nought. -/
def NZ (σ : RS) : Prop := ∀ E, σ = .error E → E ≠ 0
theorem nz_ok (q : Nat × Nat) : NZ (.ok q) := fun E h => by cases h
theorem rdT_nz {l : List UInt8} {E : Int} (h : rdT l = .error E) : E ≠ 0 := by
  unfold rdT at h
  split at h
  · injection h with h; omega
  · split at h
    · injection h with h; omega
    · split at h
      · injection h with h; omega
      · split at h
        · cases h
        · injection h with h; omega
theorem nz_fail {k : Int} (hk : k ≠ 0) {σ : RS} (h : NZ σ) : NZ (failS k σ) := by
  intro E he
  match σ, h, he with
  | .error E', h, he => cases he; exact h E rfl
  | .ok _, _, he => cases he; exact hk
theorem nz_txt (B : List UInt8) {σ : RS} (h : NZ σ) : NZ (txtS B σ).1 := by
  intro E he
  match σ, h, he with
  | .error E', h, he => cases he; exact h E rfl
  | .ok (p, m), _, he =>
    cases hr : rdT (B.drop p) with
    | error E' => simp only [txtS, hr] at he; cases he; exact rdT_nz hr
    | ok n => simp only [txtS, hr] at he; cases he
theorem nz_want (B : List UInt8) (s : ByteArray) {σ : RS} (h : NZ σ) : NZ (wantS B σ s) := by
  unfold wantS
  split
  · exact nz_txt B h
  · exact nz_fail (by decide) (nz_txt B h)
theorem nz_wants (B : List UInt8) (ts : List ByteArray) : ∀ {σ : RS}, NZ σ → NZ (wantsS B σ ts) := by
  induction ts with
  | nil => intro σ h; exact h
  | cons s ts ih => intro σ h; exact ih (nz_want B s h)
theorem nz_either (B : List UInt8) (f s : ByteArray) {σ : RS} (h : NZ σ) : NZ (eitherS B σ f s).1 := by
  unfold eitherS
  split
  · exact nz_txt B h
  · exact nz_want B s h
theorem nz_begin (deep : Nat) {σ : RS} (h : NZ σ) : NZ (beginS deep σ) := by
  intro E he
  match σ, h, he with
  | .error E', h, he => cases he; exact h E rfl
  | .ok (p, m), _, he =>
    simp only [beginS] at he
    split at he
    · injection he with he; omega
    · cases he
theorem nz_kind (B : List UInt8) (deep : Nat) {σ : RS} (h : NZ σ) : NZ (kindS B deep σ).1 := nz_txt B (nz_wants B _ (nz_begin deep h))
theorem nz_file (B : List UInt8) {σ : RS} (h : NZ σ) : NZ (fileS B σ).1 := by
  refine nz_wants B _ (nz_txt B ?_)
  unfold fileS1
  split
  · exact nz_wants B _ (nz_either B _ _ h)
  · exact nz_either B _ _ h
theorem nz_link (B : List UInt8) {σ : RS} (h : NZ σ) : NZ (linkS B σ).1 := nz_wants B _ (nz_txt B (nz_wants B _ h))
theorem nz_ent (B : List UInt8) {σ : RS} (h : NZ σ) : NZ (entS B σ).1 := nz_wants B _ (nz_txt B (nz_wants B _ h))
theorem nz_dir (B : List UInt8) (N : RS → RS × Tr) (hN : ∀ σ, NZ σ → NZ (N σ).1) (k : Nat) : ∀ σ ns ks, NZ σ → NZ (dirS B N k σ ns ks).1 := by
  induction k with
  | zero => intro σ ns ks h; rw [dirS]; exact h
  | succ k ih =>
    intro σ ns ks h
    rw [dirS]
    split
    · exact ih _ _ _ (nz_wants B _ (hN _ (nz_ent B (nz_either B _ _ h))))
    · exact nz_either B _ _ h
theorem nz_node (B : List UInt8) (f : Nat) : ∀ deep σ, NZ σ → NZ (nodeS B f deep σ).1 := by
  induction f with
  | zero => intro deep σ h; rw [nodeS]; exact h
  | succ f ih =>
    intro deep σ h
    rw [nodeS]
    split
    · exact nz_file B (nz_kind B deep h)
    · split
      · exact nz_link B (nz_kind B deep h)
      · split
        · exact nz_dir B _ (ih _) _ _ _ _ (nz_kind B deep h)
        · exact nz_fail (by decide) (nz_kind B deep h)
theorem nz_tree (B : List UInt8) {σ : RS} (h : NZ σ) : NZ (treeS B σ).1 := nz_node B 65 1 _ (nz_wants B _ h)
theorem nz_end (B : List UInt8) {σ : RS} (h : NZ σ) : NZ (endS B σ) := by
  intro E he
  match σ, h, he with
  | .error E', h, he => cases he; exact h E rfl
  | .ok (p, m), _, he =>
    simp only [endS] at he
    split at he
    · injection he with he; omega
    · cases he
theorem nz_chk (T : Tr) {σ : RS} (h : NZ σ) : NZ (chkS T σ) := by
  intro E he
  match σ, h, he with
  | .error E', h, he => cases he; exact h E rfl
  | .ok (p, m), _, he =>
    simp only [chkS] at he
    split at he
    · cases he
    · injection he with he; omega
/-- What is read without an error. -/
theorem dec_zero {B : List UInt8} (h : (decS B).2 = 0) : (chk (decS B).1 1 0).1 = 0 ∧ B = narB (decS B).1 ∧ 8 * wt (decS B).1 ≤ B.length := by
  cases hq : chkS (treeS B (.ok (0, 0))).2 (endS B (treeS B (.ok (0, 0))).1) with
  | error E =>
    rw [decS_err hq] at h
    exact absurd h (nz_chk _ (nz_end B (nz_tree B (nz_ok _))) E hq)
  | ok q =>
    rw [decS_ok hq]
    have h1 := chkS_ok hq
    have h2 := endS_ok h1
    obtain ⟨p, m⟩ := q
    obtain ⟨h3, h4, h5, h6⟩ := tree_inv h2
    rw [h2] at h1
    simp only [endS] at h1
    split at h1
    · cases h1
    · rename_i hp
      have hd : B.drop p = [] := List.drop_eq_nil_of_le (by omega)
      rw [hd, List.append_nil] at h4
      refine ⟨?_, h4, h6⟩
      rw [h2] at hq
      simp only [endS, if_neg hp, chkS] at hq
      split at hq
      · assumption
      · cases hq
theorem dec_w {T : Tr} (hc : (chk T 1 0).1 = 0) : decS (narB T) = (T, 0) := by
  have h := tree_w T [] hc
  rw [List.append_nil] at h
  have e : chkS (treeS (narB T) (.ok (0, 0))).2 (endS (narB T) (treeS (narB T) (.ok (0, 0))).1) = .ok ((narB T).length, (chk T 1 0).2) := by
    rw [h]
    simp only [endS, Nat.lt_irrefl, if_false, chkS, if_pos hc]
  rw [decS_ok e, h]
theorem dec_more {T : Tr} (hc : (chk T 1 0).1 = 0) : decS (narB T ++ [0]) = (tr0, 3) := by
  have h := tree_w T [0] hc
  refine decS_err ?_
  rw [h]
  have hl : (narB T).length < (narB T ++ [0]).length := by simp
  simp only [endS, if_pos hl, chkS]
theorem dec_less {T : Tr} (hc : (chk T 1 0).1 = 0) {k : Nat} (hk : k < (narB T).length) : decS ((narB T).take k) = (tr0, 2) := by
  refine decS_err ?_
  rw [tree_cut T hc k hk]
  rfl
theorem spl_w {T : Tr} (hc : (chk T 1 0).1 = 0) (l : List UInt8) : splS (narB T ++ l) = ((narB T).length, 0) := by
  have h := tree_w T l hc
  refine splS_ok (m := (chk T 1 0).2) ?_
  rw [h]
  simp only [chkS, if_pos hc]
/-- The weight of what is read. -/
theorem wt_read {B : List UInt8} (hB : B.length ≤ 800000) : ∀ p m, (treeS B (.ok (0, 0))).1 = .ok (p, m) → wt (treeS B (.ok (0, 0))).2 ≤ 100000 := fun p m h => by
  have := (tree_inv h).2.2.2
  omega
theorem wt_w {T : Tr} (hc : (chk T 1 0).1 = 0) (hw : wt T ≤ 3000) (l : List UInt8) : ∀ p m, (treeS (narB T ++ l) (.ok (0, 0))).1 = .ok (p, m) → wt (treeS (narB T ++ l) (.ok (0, 0))).2 ≤ 100000 := fun p m _ => by
  rw [tree_w T l hc]; show wt T ≤ _; omega
theorem wt_less {T : Tr} (hc : (chk T 1 0).1 = 0) {k : Nat} (hk : k < (narB T).length) : ∀ p m, (treeS ((narB T).take k) (.ok (0, 0))).1 = .ok (p, m) → wt (treeS ((narB T).take k) (.ok (0, 0))).2 ≤ 100000 := fun p m h => by
  rw [tree_cut T hc k hk] at h; cases h
theorem enc_ok {T : Tr} (hc : (chk T 1 0).1 = 0) : encS T = narB T := by unfold encS; rw [if_pos hc]
theorem nar_big (T : Tr) : 24 ≤ (narB T).length := by
  unfold narB
  have l : (txs [wMagic]).length = 24 := by decide
  rw [List.length_append]; omega
end Go.Proofs.Ytikamklgelcnhaa
