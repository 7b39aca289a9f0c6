/- Answers of Put and At, and boxes. -/
import Derived.Test.YthfjofmfiklegabDoorAbv
import Derived.Test.YthfjofmfiklegabDoorK5
import Derived.Test.YthfjofmfiklegabDoorHv
namespace Go.Proofs.YthfjofmfiklegabDoor
open Go.RowKit
def resT : Except Nat Tr → Tr | .error _ => zeroTr | .ok T => T
def resN : Except Nat Tr → Nat | .error n => n | .ok _ => 0
theorem putA_res {B : Nat} {r : Except Nat Tr} {e : Ending} {w' : World} (h : PutA B r e w') : ∃ k x a1 n1 c1 a2 n2 c2 a3 n3 c3, e = .returned (.tuple #[.agg #[.int .i64 k, .bool x, .slice a1 n1 c1, .slice a2 n2 c2, .slice a3 n3 c3], .int .i64 ((resN r : Nat) : Int)]) ∧ Lies B w'.heap.size w' (resT r) [.int .i64 k, .bool x, .slice a1 n1 c1, .slice a2 n2 c2, .slice a3 n3 c3] := by
  cases r with
  | error n =>
    have he : e = .returned (.tuple #[.agg zeroT.toArray, .int .i64 (n : Int)]) := h
    exact ⟨0, false, none, 0, 0, none, 0, 0, none, 0, 0, he, zero_lies _ _ _⟩
  | ok W =>
    obtain ⟨cs, he, hO⟩ : ∃ cs : List Value, e = .returned (.tuple #[.agg cs.toArray, .int .i64 0]) ∧ Own w' B w'.heap.size W cs := h
    have hL := hO.lies
    obtain ⟨k, x, a1, n1, c1, a2, n2, c2, a3, n3, c3, rfl⟩ := hL.form
    exact ⟨k, x, a1, n1, c1, a2, n2, c2, a3, n3, c3, he, hL⟩
theorem putS_ok {T X : Tr} {s : ByteArray} (h : resN (putS T s X) = 0) : ∃ W, putS T s X = .ok W := by
  cases hr : putS T s X with
  | ok W => exact ⟨W, rfl⟩
  | error n =>
    rw [hr] at h
    have hn : n = 0 := h
    subst hn
    unfold putS at hr
    split at hr
    · rename_i h1; injection hr with h2; exact absurd h2 h1
    split at hr
    · rename_i h1; injection hr with h2; exact absurd h2 h1
    split at hr
    · cases hr
    cases hl : laidS T (placeL s) X 1 with
    | error e => rw [hl] at hr; injection hr with h2; exact absurd h2 (laidS_err hl)
    | ok V =>
      rw [hl] at hr
      have h' : (if (chk V 1 0).1 ≠ 0 then Except.error (chk V 1 0).1 else .ok V) = (Except.error 0 : Except Nat Tr) := hr
      split at h'
      · rename_i h1; injection h' with h2; exact absurd h2 h1
      · cases h'
theorem putS_wt {T X W : Tr} {s : ByteArray} (h : putS T s X = .ok W) : wt W ≤ wt T + wt X + 768 := by
  unfold putS at h
  split at h
  · cases h
  split at h
  · cases h
  split at h
  · cases h
  rename_i h1 h2 h3
  cases hl : laidS T (placeL s) X 1 with
  | error e => rw [hl] at h; cases h
  | ok V =>
    rw [hl] at h
    have h' : (if (chk V 1 0).1 ≠ 0 then Except.error (chk V 1 0).1 else .ok V) = Except.ok W := h
    split at h'
    · cases h'
    · have hVW : V = W := Except.ok.inj h'
      subst hVW
      have := laid_wt _ hl (isPl_ent (by simpa using h3)) (chk_nice T (Classical.byContradiction h1))
      omega
theorem atE_wt {T : Tr} {s : ByteArray} (hW : wt T ≤ 100000) : wt (resT (atE T s)) ≤ 100000 := by
  unfold atE
  split
  · show wt zeroTr ≤ _; rw [wt_zero]; omega
  split
  · show wt zeroTr ≤ _; rw [wt_zero]; omega
  rename_i h1 h2
  cases hl : atS T (placeL s) with
  | none => show wt zeroTr ≤ _; rw [wt_zero]; omega
  | some V => exact (atS_nice _ hl (chk_nice T (Classical.byContradiction h1)) hW).2
theorem splitL_len (l : List UInt8) : (splitL l).length ≤ l.length + 1 := by
  induction l with
  | nil => simp [splitL]
  | cons c r ih =>
    rw [splitL]
    split
    · simp; omega
    · split
      · simp
      · rename_i h; rw [h] at ih; simp at ih ⊢; omega
theorem placeL_len (s : ByteArray) : (placeL s).length ≤ s.size + 1 := by
  unfold placeL
  split
  · simp
  · unfold partsB
    rw [List.length_map]
    have := splitL_len s.data.toList
    simpa using this
structure BoxTU (w W : World) (t0 t1 t2 t3 t4 x0 x1 x2 x3 x4 : Value) : Prop where
  b : Below w.heap.size w W
  s : w.heap.size + 1 + 1 + 1 ≤ W.heap.size
  t : Bx W w.heap.size t0 t1 t2 t3 t4
  x : Bx W (w.heap.size + 1) x0 x1 x2 x3 x4
theorem BoxTU.kept {w W W' : World} {t0 t1 t2 t3 t4 x0 x1 x2 x3 x4 : Value} (h : BoxTU w W t0 t1 t2 t3 t4 x0 x1 x2 x3 x4) {B : Nat} (hb : Below B W W') (hB : w.heap.size + 1 + 1 ≤ B) : BoxTU w W' t0 t1 t2 t3 t4 x0 x1 x2 x3 x4 :=
  ⟨h.b.trans (hb.mono (by omega)), by have := h.s; have := hb.size; omega, h.t.kept hb (by omega), h.x.kept hb (by omega)⟩
theorem heavy2 (T U : Tr) (lo hi g : Nat) (t0 t1 t2 t3 t4 u0 u1 u2 u3 u4 : Value) (w : World) (hT : Lies lo hi w T [t0, t1, t2, t3, t4]) (hU : Lies lo hi w U [u0, u1, u2, u3, u4]) (hhi : hi ≤ w.heap.size) (hF : Fit T) (hG : Fit U) (hg : w.heap[g]? = some (.cells #[t0, t1, t2, t3, t4, u0, u1, u2, u3, u4] 26)) :
    Calls Tryd.prog 4 #[.slice (some ⟨g, 0, none⟩) 2 2] w fun e w' => Below w.heap.size w w' ∧ (e = .returned (.bool true) ∨ (e = .returned (.bool false) ∧ wt T + wt U ≤ 3000)) := by
  have h := heavy_any [T, U] [[t0, t1, t2, t3, t4], [u0, u1, u2, u3, u4]] lo hi g 0 2 w rfl (Nat.le_refl _) (by simp) (Array.getElem?_eq_some_iff.1 hg).1 (fun j u hj => by rw [cell_of_row _ _ _ _ _ _ hg, Nat.zero_add, ← Array.getElem?_toList]; simpa using hj)
    (fun i t c h1 h2 => by
      match i with
      | 0 => simp at h1 h2; subst h1 h2; exact hT
      | 1 => simp at h1 h2; subst h1 h2; exact hU
      | i + 2 => simp at h1) hhi (fun t ht => by simp at ht; rcases ht with rfl | rfl; exact hF; exact hG)
  refine h.mono (fun e w' ⟨h1, h2⟩ => ⟨h1, ?_⟩)
  rcases h2 with h2 | ⟨h2, h3⟩
  · exact .inl h2
  · refine .inr ⟨h2, ?_⟩
    rw [wts, wts, wts] at h3
    omega
end Go.Proofs.YthfjofmfiklegabDoor
