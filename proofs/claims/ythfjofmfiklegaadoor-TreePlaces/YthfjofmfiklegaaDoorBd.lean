/- Bounds: what is not much has no long parts. -/
import Derived.Test.YthfjofmfiklegaaDoorSp
namespace Go.Proofs.YthfjofmfiklegaaDoor
open Go.RowKit
theorem below_drewN {B : Nat} {a w : World} (h : Below B a w) (n : Nat) : Below B a (w.drewN n) := h.trans ⟨rfl, rfl, rfl, Nat.le_refl _, fun _ _ => rfl⟩
theorem Sole.drewN {g : Nat} {a b : World} (h : Sole g a b) (n : Nat) : Sole g a (b.drewN n) := ⟨h.os, h.tape, h.output, h.size, h.block⟩
theorem Ctr.drewN {w : World} {c : Nat} {v : Value} (h : Ctr w c v) (n : Nat) : Ctr (w.drewN n) c v := ⟨h.cell, h.fr⟩
theorem Bx.drewN {w : World} {b : Nat} {v0 v1 v2 v3 v4 : Value} (h : Bx w b v0 v1 v2 v3 v4) (n : Nat) : Bx (w.drewN n) b v0 v1 v2 v3 v4 := h
/-- A kid, its slices as such. -/
theorem kid_sl {lo hi : Nat} {w : World} {ks : List Tr} {Ks : List (List Value)} {g o : Nat} (hl : Ks.length = ks.length) (hcell : ∀ j u, Ks.flatten[j]? = some u → w.cell? ⟨g, o + j, none⟩ = some u)
    (hK : ∀ (i : Nat) (t : Tr) (c : List Value), ks[i]? = some t → Ks[i]? = some c → Lies lo hi w t c) (i : Nat) (hi' : i < ks.length) :
    ∃ k x a1 n1 c1 a2 n2 c2 a3 n3 c3, Lies lo hi w ks[i] [.int .i64 k, .bool x, .slice a1 n1 c1, .slice a2 n2 c2, .slice a3 n3 c3] ∧ w.cell? ⟨g, o + i * 5, none⟩ = some (.int .i64 k) ∧ w.cell? ⟨g, o + i * 5 + 1, none⟩ = some (.bool x) ∧ w.cell? ⟨g, o + i * 5 + 2, none⟩ = some (.slice a1 n1 c1) ∧ w.cell? ⟨g, o + i * 5 + 3, none⟩ = some (.slice a2 n2 c2) ∧ w.cell? ⟨g, o + i * 5 + 4, none⟩ = some (.slice a3 n3 c3) := by
  obtain ⟨k, x, vd, vn, vk, hL, z0, z1, z2, z3, z4⟩ := kid_at hl hcell hK i hi'
  generalize ks[i] = t at *
  cases hL with
  | mk _ _ d ns ks' _ _ _ Ks' hl' hd hn hk hK' =>
    obtain ⟨a1, c1, rfl, _⟩ := hd.slice
    obtain ⟨a2, c2, rfl, _⟩ := hn.slice
    obtain ⟨a3, c3, rfl, _⟩ := hk.slice
    exact ⟨k, x, a1, _, c1, a2, _, c2, a3, _, c3, .mk k x d ns ks' _ _ _ Ks' hl' hd hn hk hK', z0, z1, z2, z3, z4⟩
theorem wt_pos (T : Tr) : 1 ≤ wt T := by cases T; rw [wt]; omega
theorem wts_mem {l : List Tr} {t : Tr} (h : t ∈ l) : wt t ≤ wts l := by
  induction l with
  | nil => simp at h
  | cons a r ih =>
    rw [wts]
    rcases List.mem_cons.1 h with rfl | h
    · omega
    · have := ih h; omega
theorem wts_len (l : List Tr) : l.length ≤ wts l := by
  induction l with
  | nil => simp
  | cons a r ih => rw [wts, List.length_cons]; have := wt_pos a; omega
theorem tenths_mem {l : List ByteArray} {s : ByteArray} (h : s ∈ l) : s.size / 10 ≤ tenths l := by
  induction l with
  | nil => simp at h
  | cons a r ih =>
    rw [tenths]
    rcases List.mem_cons.1 h with rfl | h
    · omega
    · have := ih h; omega
structure Small (d : ByteArray) (ns : List ByteArray) (ks : List Tr) : Prop where
  d : d.size ≤ 1000009
  n : ns.length ≤ 100000
  s : ∀ s ∈ ns, s.size ≤ 1000009
  k : ks.length ≤ 100000
  t : ∀ t ∈ ks, wt t ≤ 100000
theorem small_of {k : Int} {x : Bool} {d : ByteArray} {ns : List ByteArray} {ks : List Tr} (h : wt (.mk k x d ns ks) ≤ 100000) : Small d ns ks := by
  rw [wt] at h
  have := wts_len ks
  exact ⟨by omega, by omega, fun s hs => by have := tenths_mem hs; omega, by omega, fun t ht => by have := wts_mem ht; omega⟩
theorem chk_ok (T : Tr) : ∀ deep n, (chk T deep n).1 = 0 → (chk T deep n).2 ≤ 65536 := by
  induction T using Tr.ind with
  | h k x d ns ks ih =>
  have hs : ∀ l : List Tr, (∀ t ∈ l, t ∈ ks) → ∀ deep n, n ≤ 65536 → (chks l deep n).1 = 0 → (chks l deep n).2 ≤ 65536 := by
    intro l
    induction l with
    | nil => intro _ deep n hn _; simpa [chks] using hn
    | cons t r ihr =>
      intro hm deep n hn h
      rw [chks] at h ⊢
      by_cases he : (chk t deep n).1 = 0
      · rw [if_pos he] at h ⊢
        exact ihr (fun t ht => hm t (by simp [ht])) deep _ (ih t (hm t (by simp)) deep n he) h
      · rw [if_neg he] at h ⊢
        exact absurd h he
  intro deep n h
  rw [chk] at h ⊢
  split at h
  · simp at h
  · rename_i hb
    rw [if_neg hb]
    split at h
    · rename_i h0; rw [if_pos h0]; exact hs ks (fun _ h => h) _ _ (by omega) h
    · rename_i h0; exact absurd h h0
theorem chk_le (T : Tr) (deep n : Nat) : (chk T deep n).1 ≤ 9 := by
  induction T using Tr.ind generalizing deep n with
  | h k x d ns ks ih =>
  have hs : ∀ l : List Tr, (∀ t ∈ l, t ∈ ks) → ∀ deep n, (chks l deep n).1 ≤ 9 := by
    intro l
    induction l with
    | nil => intro _ deep n; simp [chks]
    | cons t r ihr =>
      intro hm deep n
      rw [chks]
      split
      · exact ihr (fun t ht => hm t (by simp [ht])) deep _
      · exact ih t (hm t (by simp)) deep n
  rw [chk]
  split
  · simp
  · split
    · exact hs ks (fun _ h => h) _ _
    · simp only
      unfold locErr
      split
      · split
        · omega
        · split <;> omega
      · split
        · split
          · omega
          · split
            · omega
            · split <;> omega
        · split
          · split
            · omega
            · split <;> omega
          · omega
end Go.Proofs.YthfjofmfiklegaaDoor
