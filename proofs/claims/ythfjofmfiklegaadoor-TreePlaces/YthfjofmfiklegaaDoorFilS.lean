/- The places of files: the plain mathematics, and how they are gathered. -/
import Derived.Test.YthfjofmfiklegaaDoorBel
import Derived.Test.YthfjofmfiklegaaDoorLays
namespace Go.Proofs.YthfjofmfiklegaaDoor
open Go.RowKit
mutual
/-- The places of a tree's files, as they are met. -/
def filesL : Tr → ByteArray → List ByteArray
  | .mk k _ _ ns ks, p => (if k = 1 then [p] else []) ++ filesLs ns ks p
def filesLs : List ByteArray → List Tr → ByteArray → List ByteArray
  | n :: ns, t :: ks, p => filesL t (belowB p n) ++ filesLs ns ks p
  | _, _, _ => []
end
theorem filesLs_nil (p : ByteArray) : filesLs [] [] p = [] := by rw [filesLs]; intro n ns t ks h; cases h
theorem filesLs_snoc (ns : List ByteArray) : ∀ (ks : List Tr) (p n : ByteArray) (t : Tr), ns.length = ks.length → filesLs (ns ++ [n]) (ks ++ [t]) p = filesLs ns ks p ++ filesL t (belowB p n) := by
  induction ns with
  | nil =>
    intro ks p n t h
    cases ks with
    | nil => rw [List.nil_append, List.nil_append, filesLs, filesLs_nil]; simp
    | cons _ _ => simp at h
  | cons a r ih =>
    intro ks p n t h
    cases ks with
    | nil => simp at h
    | cons b q =>
      rw [List.cons_append, List.cons_append, filesLs, filesLs, ih q p n t (by simpa using h), List.append_assoc]
theorem filesLs_take {ns : List ByteArray} {ks : List Tr} {i : Nat} (p : ByteArray) (h1 : i < ns.length) (h2 : i < ks.length) : filesLs (ns.take (i + 1)) (ks.take (i + 1)) p = filesLs (ns.take i) (ks.take i) p ++ filesL ks[i] (belowB p ns[i]) := by
  rw [List.take_succ_eq_append_getElem h1, List.take_succ_eq_append_getElem h2, filesLs_snoc _ _ _ _ _ (by simp; omega)]
theorem filesLs_of (p : ByteArray) : ∀ (ks : List Tr) (ns : List ByteArray), (∀ t ∈ ks, ∀ p, (filesL t p).length ≤ wt t) → (filesLs ns ks p).length ≤ wts ks := by
  intro ks
  induction ks with
  | nil => intro ns _; cases ns <;> simp [filesLs, wts]
  | cons t r ih2 =>
    intro ns h
    cases ns with
    | nil => simp [filesLs]
    | cons n ns =>
      have h3 := h t (by simp) (belowB p n)
      have h4 := ih2 ns (fun t ht => h t (by simp [ht]))
      rw [filesLs, wts, List.length_append]
      omega
theorem filesL_len (T : Tr) : ∀ p, (filesL T p).length ≤ wt T := by
  induction T using Tr.ind with
  | h k x d ns ks ih =>
    intro p
    rw [filesL, wt, List.length_append]
    have h3 := filesLs_of p ks ns ih
    split <;> simp <;> omega
theorem filesLs_len (ns : List ByteArray) (ks : List Tr) (p : ByteArray) : (filesLs ns ks p).length ≤ wts ks := filesLs_of p ks ns (fun t _ p => filesL_len t p)
theorem belowB_size (p n : ByteArray) : (belowB p n).size ≤ p.size + 1 + n.size := by
  unfold belowB
  split
  · omega
  · simp [ByteArray.size_append]
    have : (⟨#[47]⟩ : ByteArray).size = 1 := rfl
    omega
/-- Only one cell's row has grown. -/
structure Gt (c : Nat) (w w' : World) (v v' : Value) : Prop where
  os : w'.os = w.os
  tape : w'.tape = w.tape
  output : w'.output = w.output
  size : w.heap.size ≤ w'.heap.size
  keep : ∀ k, k < w.heap.size → k ≠ c → v.ownBlock ≠ some k → w'.heap[k]? = w.heap[k]?
  own : ∀ g, v'.ownBlock = some g → v.ownBlock = some g ∨ w.heap.size ≤ g
theorem Gt.trans {c : Nat} {w w' w'' : World} {v v' v'' : Value} (h : Gt c w w' v v') (k : Gt c w' w'' v' v'') : Gt c w w'' v v'' :=
  ⟨k.os.trans h.os, k.tape.trans h.tape, k.output.trans h.output, Nat.le_trans h.size k.size,
    fun i hi hc hv => by
      have h2 := h.size
      rw [k.keep i (by omega) hc (fun e => by rcases h.own i e with h1 | h1; exact hv h1; omega), h.keep i hi hc hv],
    fun g hg => by
      have h2 := h.size
      rcases k.own g hg with h1 | h1
      · exact h.own g h1
      · exact .inr (by omega)⟩
theorem Gt.of_below {c : Nat} {w w' : World} (v : Value) (h : Below w.heap.size w w') : Gt c w w' v v := ⟨h.os, h.tape, h.output, h.size, fun k hk _ _ => h.block k hk, fun _ hg => .inl hg⟩
theorem Gt.drew {c : Nat} {w w' : World} {v v' : Value} (h : Gt c w w' v v') : Gt c w w'.drew v v' := ⟨h.os, h.tape, h.output, h.size, h.keep, h.own⟩
/-- What gather keeps. -/
structure GW (w wr : World) (c : Nat) (v vr : Value) (xs : List ByteArray) (t0 t1 t2 t3 t4 : Value) : Prop where
  g : Gt c w wr v vr
  b : Bx wr w.heap.size t0 t1 t2 t3 t4
  cr : Ctr wr c vr
  o : wr.ownsRow (c + 1) 9 1 vr xs.length (xs.map .string)
  z : w.heap.size < wr.heap.size
  nb : vr.ownBlock ≠ some w.heap.size
theorem GW.old {w wr : World} {c : Nat} {v vr : Value} {xs ys : List ByteArray} {t0 t1 t2 t3 t4 : Value} (h : GW w wr c v vr xs t0 t1 t2 t3 t4) (hc : c < w.heap.size) (ho : w.ownsRow (c + 1) 9 1 v ys.length (ys.map .string)) : Below c w wr :=
  ⟨h.g.os, h.g.tape, h.g.output, h.g.size, fun k hk => h.g.keep k (by omega) (by omega) (fun e => by have := (owns_lt ho k e).1; omega)⟩
theorem GW.step {w wr w1 w2 : World} {c : Nat} {v vr v2 : Value} {xs xs2 : List ByteArray} {t0 t1 t2 t3 t4 : Value} (h : GW w wr c v vr xs t0 t1 t2 t3 t4) (hb : Below wr.heap.size wr w1) (hg : Gt c w1 w2 vr v2) (hc : c < w.heap.size) (hcr : Ctr w2 c v2) (ho : w2.ownsRow (c + 1) 9 1 v2 xs2.length (xs2.map .string)) : GW w w2 c v v2 xs2 t0 t1 t2 t3 t4 := by
  have h1 := (Gt.of_below (c := c) vr hb).trans hg
  have h2 := h1.size
  have hz := h.z
  refine ⟨h.g.trans h1, h.b.of (h1.keep _ hz (by omega) h.nb), hcr, ho, by omega, fun e => ?_⟩
  rcases h1.own _ e with h3 | h3
  · exact h.nb h3
  · omega
/-- The place itself is laid behind. -/
theorem g_app {w wr : World} {c : Nat} {v : Value} {a : Option Addr} {cp : Nat} {xs : List ByteArray} {t0 t1 t2 t3 t4 : Value} (p : ByteArray) (h : GW w wr c v (.slice a xs.length cp) xs t0 t1 t2 t3 t4) (hc : c < w.heap.size) (hmax : xs.length ≤ 1000000) :
    ∃ a' c' w2, (∀ ty, (app23 ty #[.slice a xs.length cp, .slice (some ⟨wr.heap.size, 0, none⟩) 1 1]).run Tryd.prog (wr.alloc (.cells #[.string p] 9)) = .ok (.slice a' (xs.length + 1) c') w2) ∧ Ctr w2 c (.slice a xs.length cp) ∧ GW w (w2.setCell ⟨c, 0, none⟩ (.slice a' (xs.length + 1) c')) c v (.slice a' (xs.length + 1) c') (xs ++ [p]) t0 t1 t2 t3 t4 := by
  have hz := h.z
  have ho1 : (wr.alloc (.cells #[.string p] 9)).ownsRow (c + 1) 9 1 (.slice a xs.length cp) xs.length (xs.map .string) := owns_same h.o (fun g hg => Below.heap_alloc _ _ _ (owns_lt h.o g hg).2) (fun _ _ h => h)
  obtain ⟨v', w2, happ, ho2, hg, hf⟩ := app23_own _ (c + 1) _ _ (.slice a xs.length cp) xs.length _ _ 1 1 [.string p] ho1 (one_row wr [.string p] 9) rfl (fun u hu => by simp at hu; subst hu; rfl) (by omega) (by simp; omega)
  obtain ⟨a', c', rfl, _⟩ := owns_slice ho2
  have hs1 : (wr.alloc (.cells #[.string p] 9)).heap.size = wr.heap.size + 1 := by simp
  have hs2 := hg.size
  rw [hs1] at hs2 hf
  have hcne : (.slice a xs.length cp : Value).ownBlock ≠ some c := fun e => by have := (owns_lt h.o c e).1; omega
  have hct : w2.heap[c]? = wr.heap[c]? := by
    rw [hg.block c (by rw [hs1]; omega) (fun e => hcne e.symm), Below.heap_alloc _ _ _ (by omega)]
  have hct2 : Ctr w2 c (.slice a xs.length cp) := ⟨by rw [World.cell?_of_block (w := wr) hct]; exact h.cr.cell, by have := h.cr.fr; unfold World.frozen? at this ⊢; rw [show w2.heap[(⟨c, 0, none⟩ : Addr).block]? = wr.heap[(⟨c, 0, none⟩ : Addr).block]? from hct]; exact this⟩
  have hown : ∀ g, (.slice a' (xs.length + 1) c' : Value).ownBlock = some g → (.slice a xs.length cp : Value).ownBlock = some g ∨ wr.heap.size ≤ g := fun g hgv => by
    rcases hf with e | e
    · exact .inl (by rw [← e]; exact hgv)
    · rw [e] at hgv; simp at hgv; omega
  refine ⟨a', c', w2, happ, hct2, ⟨h.g.trans ⟨hg.os, hg.tape, hg.output, by simp; omega, fun k hk hkc hkv => ?_, hown⟩, ?_, hct2.set _, ?_, by simp; omega, fun e => ?_⟩⟩
  · rw [set_other _ _ _ _ _ hkc, hg.block k (by rw [hs1]; omega) (fun e => hkv e.symm), Below.heap_alloc _ _ _ hk]
  · refine h.b.of ?_
    rw [set_other _ _ _ _ _ (by omega), hg.block _ (by rw [hs1]; omega) (fun e => h.nb e.symm), Below.heap_alloc _ _ _ hz]
  · have e1 : (xs ++ [p]).length = xs.length + 1 := by simp
    have e2 : (xs ++ [p]).map Value.string = xs.map Value.string ++ [.string p] := by simp
    rw [e1, e2]
    exact owns_same ho2 (fun g hg => set_other _ _ _ _ _ (by have := (owns_lt ho2 g hg).1; omega)) (fun _ _ h => h)
  · rcases hown _ e with h3 | h3
    · exact h.nb h3
    · omega
end Go.Proofs.YthfjofmfiklegaaDoor
