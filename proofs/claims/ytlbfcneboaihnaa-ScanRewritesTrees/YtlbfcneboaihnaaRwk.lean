/- The document's rewrite of a tree: what stands behind each round. -/
import Derived.Test.YtlbfcneboaihnaaRwj
namespace Go.Proofs.Ytlbfcneboaihnaa.Tn
open Go.RowKit
set_option linter.unusedSimpArgs false
/-- So many entries are rewritten and laid. -/
structure Rwi (F D : List Nat) (ns : List ByteArray) (ks : List Tr) (OB i nn tot : Nat) (acc : List En) (k : Int) (x : Bool) (vd : Value) (a1 a2 : Option Addr) (c1 c2 : Nat) (w1 wr : World) : Prop where
  os : wr.os = w1.os
  tape : wr.tape = w1.tape
  output : wr.output = w1.output
  size : w1.heap.size ≤ wr.heap.size
  rest : ∀ q, q < w1.heap.size → q ≠ OB → wr.heap[q]? = w1.heap[q]?
  box : Bx wr OB (.int .i64 k) (.bool x) vd (.slice a1 i c1) (.slice a2 i c2)
  len : acc.length = i
  nms : Row w1.heap.size wr.heap.size wr (.slice a1 i c1) i (acc.map fun e => .string e.1)
  kds : ∃ Ks : List (List Value), Ks.length = i ∧ Row w1.heap.size wr.heap.size wr (.slice a2 i c2) i Ks.flatten ∧ ∀ (j : Nat) (e : En) (c : List Value), acc[j]? = some e → Ks[j]? = some c → Lies w1.heap.size wr.heap.size wr e.2 c
  acc : rwEs F D (ns.drop i) (ks.drop i) acc = rwEs F D ns ks []
  tot : nn + rcAs F (ns.drop i) (ks.drop i) = tot
theorem flat5_take : ∀ (Ks : List (List Value)) (j : Nat), (∀ c ∈ Ks, c.length = 5) → (Ks.take j).flatten = Ks.flatten.take (j * 5)
  | [], j, _ => by simp
  | a :: r, 0, _ => by simp
  | a :: r, j + 1, h => by
    have h5 := h a (by simp)
    rw [List.take_succ_cons, List.flatten_cons, List.flatten_cons, flat5_take r j (fun c hc => h c (by simp [hc])), List.take_append, List.take_of_length_le (l := a) (by omega), h5, show (j + 1) * 5 - 5 = j * 5 by omega]
theorem flat5_drop : ∀ (Ks : List (List Value)) (j : Nat), (∀ c ∈ Ks, c.length = 5) → (Ks.drop j).flatten = Ks.flatten.drop (j * 5)
  | [], j, _ => by simp
  | a :: r, 0, _ => by simp
  | a :: r, j + 1, h => by
    have h5 := h a (by simp)
    rw [List.drop_succ_cons, List.flatten_cons, flat5_drop r j (fun c hc => h c (by simp [hc])), List.drop_append, List.drop_of_length_le (l := a) (by omega), h5, List.nil_append]
    congr 1; omega
/-- An entry in the midst, alike in both. -/
theorem mid_all {α β : Type} {P : α → β → Prop} {l : List α} {m : List β} {a : α} {b : β} {j : Nat} (hl : l.length = m.length) (h : ∀ (i : Nat) (x : α) (y : β), l[i]? = some x → m[i]? = some y → P x y) (hab : P a b) :
    ∀ (i : Nat) (x : α) (y : β), (l.take j ++ a :: l.drop j)[i]? = some x → (m.take j ++ b :: m.drop j)[i]? = some y → P x y := by
  intro i x y hx hy
  have e1 : (l.take j).length = (m.take j).length := by simp [hl]
  by_cases h1 : i < (l.take j).length
  · rw [List.getElem?_append_left h1] at hx
    rw [List.getElem?_append_left (by omega)] at hy
    have h2 := h1
    rw [List.length_take] at h2
    rw [List.getElem?_take_of_lt (by omega)] at hx hy
    exact h i x y hx hy
  · rw [List.getElem?_append_right (by omega)] at hx
    rw [List.getElem?_append_right (by omega)] at hy
    rw [← e1] at hy
    cases hq : i - (l.take j).length with
    | zero =>
      rw [hq] at hx hy
      simp at hx hy
      subst hx hy
      exact hab
    | succ q =>
      rw [hq] at hx hy
      simp only [List.getElem?_cons_succ, List.getElem?_drop] at hx hy
      exact h _ x y hx hy
theorem rwi_step {F D : List Nat} {ns : List ByteArray} {ks : List Tr} {OB i nn tot j : Nat} {acc : List En} {k : Int} {x : Bool} {vd : Value} {a1 a2 s1 s2 : Option Addr} {c1 c2 : Nat} {w1 wr W0 W1 W2 W3 W4 W5 W6 : World} {nm : ByteArray} {kd : Tr} {kc : List Value} {Ks : List (List Value)} {b1 b2 b3 b4 b5 b6 : Option Addr} {d1 d2 d3 d4 d5 d6 : Nat}
    (h : Rwi F D ns ks OB i nn tot acc k x vd a1 a2 c1 c2 w1 wr) (hn : ns[i]? = some nm) (hk : ks[i]? = some kd) (hb : Below wr.heap.size wr W0) (hL : Lies wr.heap.size W0.heap.size W0 (rwD F D kd) kc) (hins : insP (rp F D nm, rwD F D kd) acc = acc.take j ++ (rp F D nm, rwD F D kd) :: acc.drop j) (hOB : OB < w1.heap.size)
    (hKl : Ks.length = i) (hKs : ∀ (j : Nat) (e : En) (c : List Value), acc[j]? = some e → Ks[j]? = some c → Lies w1.heap.size wr.heap.size wr e.2 c) (hk5 : ∀ c ∈ Ks, c.length = 5)
    (hA : Laid6 W0 W1 W2 W3 W4 W5 W6 OB i j w1.heap.size (rp F D nm) kc a1 a2 s1 s2 c1 c2 b1 b2 b3 b4 b5 b6 d1 d2 d3 d4 d5 d6 (.int .i64 k) (.bool x) vd (.slice a1 i c1) (.slice a2 i c2) (acc.map fun e => .string e.1) Ks.flatten) :
    Rwi F D ns ks OB (i + 1) (nn + rc F nm + rcA F kd) tot (insP (rp F D nm, rwD F D kd) acc) k x vd b5 b6 d5 d6 w1 (W6.setCell ⟨OB, 4, none⟩ (.slice b6 (i + 1) d6)) := by
  have hz := h.size
  have hz0 := hb.size
  have hsz := hA.sz
  have hin := (List.getElem?_eq_some_iff.1 hn).1
  have hik := (List.getElem?_eq_some_iff.1 hk).1
  have en : ns[i] = nm := by rw [List.getElem?_eq_getElem hin] at hn; injection hn
  have ek : ks[i] = kd := by rw [List.getElem?_eq_getElem hik] at hk; injection hk
  have hot : ∀ q, w1.heap.size ≤ q → (W6.setCell ⟨OB, 4, none⟩ (.slice b6 (i + 1) d6)).heap[q]? = W6.heap[q]? := fun q hq => set_other _ _ _ _ _ (by omega)
  have h0 : ∀ q, w1.heap.size ≤ q → q < W0.heap.size → (W6.setCell ⟨OB, 4, none⟩ (.slice b6 (i + 1) d6)).heap[q]? = W0.heap[q]? := fun q h1 h2 => by rw [hot q h1, hA.k6 q h2 (by omega)]
  refine ⟨?_, ?_, ?_, by simp; omega, fun q hq hne => ?_, hA.bx6.set4 _, ?_, ?_, ?_, ?_, ?_⟩
  · exact hA.os.trans (hb.os.trans h.os)
  · exact hA.tape.trans (hb.tape.trans h.tape)
  · exact hA.output.trans (hb.output.trans h.output)
  · rw [set_other _ _ _ _ _ hne, hA.k6 q (by omega) hne, hb.block q (by omega), h.rest q hq hne]
  · rw [(insP_perm _ _).length_eq, List.length_cons, h.len]
  · have e : (insP (rp F D nm, rwD F D kd) acc).map (fun e => Value.string e.1) = (acc.map fun e => Value.string e.1).take (j * 1) ++ [.string (rp F D nm)] ++ (acc.map fun e => Value.string e.1).drop (j * 1) := by
      rw [hins, Nat.mul_one, List.map_append, List.map_cons, List.map_take, List.map_drop]; simp
    rw [e]
    have h1 := hA.nms.mono (lo' := w1.heap.size) (by omega) (Nat.le_refl _)
    simp only [setCell_size]
    exact h1.same fun q hq _ => hot q hq
  · refine ⟨Ks.take j ++ kc :: Ks.drop j, ?_, ?_, ?_⟩
    · simp only [List.length_append, List.length_take, List.length_cons, List.length_drop]; omega
    · have e : (Ks.take j ++ kc :: Ks.drop j).flatten = Ks.flatten.take (j * 5) ++ kc ++ Ks.flatten.drop (j * 5) := by
        rw [List.flatten_append, List.flatten_cons, flat5_take Ks j hk5, flat5_drop Ks j hk5, List.append_assoc]
      rw [e]
      have h1 := hA.kds.mono (lo' := w1.heap.size) (by omega) (Nat.le_refl _)
      simp only [setCell_size]
      exact h1.same fun q hq _ => hot q hq
    · rw [hins]
      refine mid_all (P := fun (e : En) (c : List Value) => Lies w1.heap.size (W6.setCell ⟨OB, 4, none⟩ (.slice b6 (i + 1) d6)).heap.size (W6.setCell ⟨OB, 4, none⟩ (.slice b6 (i + 1) d6)) e.2 c) (by rw [h.len, hKl]) (fun q e c h1 h2 => ?_) ?_
      · refine Lies.mono (lo := w1.heap.size) (hi := wr.heap.size) ((hKs q e c h1 h2).same fun q' h3 h4 => ?_) (Nat.le_refl _) (by simp; omega)
        rw [h0 q' h3 (by omega), hb.block q' h4]
      · refine Lies.mono (lo := wr.heap.size) (hi := W0.heap.size) (hL.same fun q' h3 h4 => h0 q' (by omega) h4) hz (by simp; omega)
  · have h1 := h.acc
    rw [List.drop_eq_getElem_cons hin, List.drop_eq_getElem_cons hik, rwEs, en, ek] at h1
    exact h1
  · have h1 := h.tot
    rw [rcAs_step hin hik, en, ek] at h1
    omega
end Go.Proofs.Ytlbfcneboaihnaa.Tn
