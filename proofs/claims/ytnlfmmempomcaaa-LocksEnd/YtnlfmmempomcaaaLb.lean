/- Memory as a row of things: what each block holds, and who owns it. -/
import Derived.Test.YtnlfmmempomcaaaK1
namespace Go.Proofs.Ytnlfmmempomcaaa
open Go.RowKit Go.Maps
set_option linter.unusedSimpArgs false
/-- What a block holds. -/
inductive Th
  | raw (cs : List Value) (ty : TypeId)
  | smap (L : ByteArray → Option Nat)
  | imap (L : Int → Option Nat)
/-- A block: whose it is, and what it holds. -/
structure Ob where
  cl : Nat
  own : Nat
  th : Th
def ThIs (k : Nat) (w : World) (b : Nat) : Th → Prop
  | .raw cs ty => w.heap[b]? = some (.cells cs.toArray ty (0, 0))
  | .smap L => SMap k w b L
  | .imap L => IMap k w b L
abbrev Ghost := Nat → Option Ob
def Mem (k : Nat) (O : Ghost) (w : World) : Prop := ∀ b o, O b = some o → ThIs k w b o.th
def put (O : Ghost) (b : Nat) (o : Ob) : Ghost := fun q => if q = b then some o else O q
theorem put_same (O : Ghost) (b : Nat) (o : Ob) : put O b o b = some o := if_pos rfl
theorem put_other (O : Ghost) {b q : Nat} (o : Ob) (h : q ≠ b) : put O b o q = O q := if_neg h
theorem ThIs.same {k : Nat} {w w' : World} {b : Nat} {t : Th} (h : ThIs k w b t) (hs : w'.heap[b]? = w.heap[b]?) : ThIs k w' b t := by
  cases t with
  | raw cs ty => exact hs.trans h
  | smap L => exact SMap.same h hs
  | imap L => exact IMap.same h hs
theorem ThIs.mono {k k' : Nat} {w : World} {b : Nat} {t : Th} (h : ThIs k w b t) (hk : k ≤ k') : ThIs k' w b t := by
  cases t with
  | raw cs ty => exact h
  | smap L => exact SMap.mono h hk
  | imap L => exact IMap.mono h hk
theorem ThIs.lt {k : Nat} {w : World} {b : Nat} {t : Th} (h : ThIs k w b t) : b < w.heap.size := by
  cases t with
  | raw cs ty => exact (Array.getElem?_eq_some_iff.1 h).1
  | smap L => obtain ⟨es, c, e⟩ := SMap.block h; exact (Array.getElem?_eq_some_iff.1 e).1
  | imap L => obtain ⟨es, c, e⟩ := IMap.block h; exact (Array.getElem?_eq_some_iff.1 e).1
theorem Mem.mono {k k' : Nat} {O : Ghost} {w : World} (h : Mem k O w) (hk : k ≤ k') : Mem k' O w := fun b o e => (h b o e).mono hk
theorem Mem.lt {k : Nat} {O : Ghost} {w : World} (h : Mem k O w) {b : Nat} {o : Ob} (e : O b = some o) : b < w.heap.size := (h b o e).lt
theorem Mem.out {k : Nat} {O : Ghost} {w : World} (h : Mem k O w) : O w.heap.size = none := by
  cases e : O w.heap.size with
  | none => rfl
  | some o => exact absurd (h.lt e) (Nat.lt_irrefl _)
theorem Mem.out' {k : Nat} {O : Ghost} {w : World} (h : Mem k O w) {b : Nat} (hb : w.heap.size ≤ b) : O b = none := by
  cases e : O b with
  | none => rfl
  | some o => exact absurd (h.lt e) (by omega)
theorem Mem.drew {k : Nat} {O : Ghost} {w : World} (h : Mem k O w) : Mem k O w.drew := fun b o e => (h b o e).same rfl
theorem Mem.raw {k : Nat} {O : Ghost} {w : World} (h : Mem k O w) {b cl own : Nat} {cs : List Value} {ty : TypeId} (e : O b = some ⟨cl, own, .raw cs ty⟩) : w.heap[b]? = some (.cells cs.toArray ty (0, 0)) := h b _ e
theorem Mem.cell {k : Nat} {O : Ghost} {w : World} (h : Mem k O w) {b cl own : Nat} {cs : List Value} {ty : TypeId} (e : O b = some ⟨cl, own, .raw cs ty⟩) {i : Nat} {v : Value} (hi : cs[i]? = some v) : w.cell? ⟨b, i, none⟩ = some v := by
  have h1 := h.raw e
  simp [World.cell?, h1, hi]
theorem Mem.frozen {k : Nat} {O : Ghost} {w : World} (h : Mem k O w) {b cl own : Nat} {cs : List Value} {ty : TypeId} (e : O b = some ⟨cl, own, .raw cs ty⟩) (i : Nat) : w.frozen? ⟨b, i, none⟩ = false := by
  have h1 := h.raw e
  simp [World.frozen?, h1]
theorem Mem.sm {k : Nat} {O : Ghost} {w : World} (h : Mem k O w) {b cl own : Nat} {L : ByteArray → Option Nat} (e : O b = some ⟨cl, own, .smap L⟩) : SMap k w b L := h b _ e
theorem Mem.im {k : Nat} {O : Ghost} {w : World} (h : Mem k O w) {b cl own : Nat} {L : Int → Option Nat} (e : O b = some ⟨cl, own, .imap L⟩) : IMap k w b L := h b _ e
theorem set_block {w : World} {b i : Nat} {cs : List Value} {ty : TypeId} {v : Value} (h : w.heap[b]? = some (.cells cs.toArray ty (0, 0))) : (w.setCell ⟨b, i, none⟩ v).heap[b]? = some (.cells (cs.set i v).toArray ty (0, 0)) := by
  simp only [World.setCell, Array.getElem?_modify, h]
  simp
theorem set_size (w : World) (a : Addr) (v : Value) : (w.setCell a v).heap.size = w.heap.size := by simp [World.setCell]
/-- A cell is written. -/
theorem Mem.set {k : Nat} {O : Ghost} {w : World} (h : Mem k O w) {b cl own : Nat} {cs : List Value} {ty : TypeId} (e : O b = some ⟨cl, own, .raw cs ty⟩) (i : Nat) (v : Value) : Mem k (put O b ⟨cl, own, .raw (cs.set i v) ty⟩) (w.setCell ⟨b, i, none⟩ v) := fun q o hq => by
  unfold put at hq
  split at hq
  · rename_i e2
    subst e2
    injection hq with hq
    subst hq
    exact set_block (h.raw e)
  · rename_i e2
    exact (h q o hq).same (Below.heap_setCell _ _ _ _ e2)
/-- A block is laid. -/
theorem Mem.alloc {k : Nat} {O : Ghost} {w : World} (h : Mem k O w) (cl own : Nat) (cs : List Value) (ty : TypeId) : Mem k (put O w.heap.size ⟨cl, own, .raw cs ty⟩) (w.alloc (.cells cs.toArray ty)) := fun q o hq => by
  unfold put at hq
  split at hq
  · rename_i e2
    subst e2
    injection hq with hq
    subst hq
    show (w.heap.push _)[w.heap.size]? = _
    simp
  · exact (h q o hq).same (Below.heap_alloc _ _ _ (h.lt hq))
/-- A block that is nobody's. -/
theorem Mem.loose {k : Nat} {O : Ghost} {w : World} (h : Mem k O w) (x : Obj) : Mem k O (w.alloc x) := fun q o hq => (h q o hq).same (Below.heap_alloc _ _ _ (h.lt hq))
theorem Mem.newS {k : Nat} {O : Ghost} {w : World} (h : Mem k O w) (cl own : Nat) : Mem k (put O w.heap.size ⟨cl, own, .smap fun _ => none⟩) (w.alloc (.map #[] 0)) := fun q o hq => by
  unfold put at hq
  split at hq
  · rename_i e2
    subst e2
    injection hq with hq
    subst hq
    exact S_new k w
  · exact (h q o hq).same (Below.heap_alloc _ _ _ (h.lt hq))
theorem Mem.newI {k : Nat} {O : Ghost} {w : World} (h : Mem k O w) (cl own : Nat) : Mem k (put O w.heap.size ⟨cl, own, .imap fun _ => none⟩) (w.alloc (.map #[] 0)) := fun q o hq => by
  unfold put at hq
  split at hq
  · rename_i e2
    subst e2
    injection hq with hq
    subst hq
    exact I_new k w
  · exact (h q o hq).same (Below.heap_alloc _ _ _ (h.lt hq))
theorem Mem.turn {k k' : Nat} {O : Ghost} {w w' : World} (h : Mem k O w) {b : Nat} {o : Ob} (ht : w.mapTurned w' b) (hb : ThIs k' w' b o.th) (hk : k ≤ k') : Mem k' (put O b o) w' := fun q p hq => by
  unfold put at hq
  split at hq
  · rename_i e2
    subst e2
    injection hq with hq
    subst hq
    exact hb
  · rename_i e2
    have hg := ht.grown
    exact ((h q p hq).mono hk).same (hg.block q (h.lt hq) (fun e => e2 (by injection e)))
/-- What a doing leaves to others: blocks below B that nobody knows are as they were, and so are the things of other classes. -/
structure Stp (c B : Nat) (O O' : Ghost) (w w' : World) : Prop where
  os : w'.os = w.os
  tape : w'.tape = w.tape
  output : w'.output = w.output
  size : w.heap.size ≤ w'.heap.size
  rest : ∀ q, q < B → O q = none → w'.heap[q]? = w.heap[q]?
  dom : ∀ q, q < B → O q = none → O' q = none
  keep : ∀ q o, O q = some o → o.cl ≠ c → O' q = some o
theorem Stp.refl (c B : Nat) (O : Ghost) (w : World) : Stp c B O O w w := ⟨rfl, rfl, rfl, Nat.le_refl _, fun _ _ _ => rfl, fun _ _ h => h, fun _ _ h _ => h⟩
theorem Stp.trans {c B : Nat} {O O' O'' : Ghost} {w w' w'' : World} (h : Stp c B O O' w w') (h' : Stp c B O' O'' w' w'') : Stp c B O O'' w w'' :=
  ⟨h'.os.trans h.os, h'.tape.trans h.tape, h'.output.trans h.output, Nat.le_trans h.size h'.size, fun q h1 h2 => (h'.rest q h1 (h.dom q h1 h2)).trans (h.rest q h1 h2), fun q h1 h2 => h'.dom q h1 (h.dom q h1 h2), fun q o h1 h2 => h'.keep q o (h.keep q o h1 h2) h2⟩
theorem Stp.mono {c B B' : Nat} {O O' : Ghost} {w w' : World} (h : Stp c B O O' w w') (hB : B' ≤ B) : Stp c B' O O' w w' := ⟨h.os, h.tape, h.output, h.size, fun q h1 h2 => h.rest q (by omega) h2, fun q h1 h2 => h.dom q (by omega) h2, h.keep⟩
theorem Stp.set {c B : Nat} {O : Ghost} {w : World} {b own : Nat} {cs : List Value} {ty : TypeId} (e : O b = some ⟨c, own, .raw cs ty⟩) (i : Nat) (v : Value) : Stp c B O (put O b ⟨c, own, .raw (cs.set i v) ty⟩) w (w.setCell ⟨b, i, none⟩ v) :=
  ⟨rfl, rfl, rfl, by rw [set_size]; exact Nat.le_refl _, fun q _ h2 => Below.heap_setCell _ _ _ _ (fun (e2 : q = b) => by rw [e2, e] at h2; cases h2), fun q _ h2 => by rw [put_other _ _ (fun e2 => by rw [e2, e] at h2; cases h2)]; exact h2, fun q o h1 h2 => by rw [put_other _ _ (fun e2 => by rw [e2, e] at h1; injection h1 with h1; subst h1; exact h2 rfl)]; exact h1⟩
/-- A cell of a new block that nobody knows is written. -/
theorem Stp.own {c B : Nat} {O : Ghost} {w : World} {a : Addr} (hB : B ≤ a.block) (v : Value) : Stp c B O O w (w.setCell a v) :=
  ⟨rfl, rfl, rfl, by rw [set_size]; exact Nat.le_refl _, fun q h1 _ => Below.heap_setCell _ _ _ _ (by omega), fun _ _ h => h, fun _ _ h _ => h⟩
theorem Stp.loose {c B : Nat} (O : Ghost) {w : World} (hB : B ≤ w.heap.size) (x : Obj) : Stp c B O O w (w.alloc x) :=
  ⟨rfl, rfl, rfl, by simp, fun q h1 _ => Below.heap_alloc _ _ _ (by omega), fun _ _ h => h, fun _ _ h _ => h⟩
theorem Stp.drew (c B : Nat) (O : Ghost) (w : World) : Stp c B O O w w.drew := ⟨rfl, rfl, rfl, Nat.le_refl _, fun _ _ _ => rfl, fun _ _ h => h, fun _ _ h _ => h⟩
theorem Stp.alloc {c B k : Nat} {O : Ghost} {w : World} (h : Mem k O w) (hB : B ≤ w.heap.size) (o : Ob) (x : Obj) : Stp c B O (put O w.heap.size o) w (w.alloc x) :=
  ⟨rfl, rfl, rfl, by simp, fun q h1 _ => Below.heap_alloc _ _ _ (by omega), fun q h1 h2 => by rw [put_other _ _ (by omega)]; exact h2, fun q p h1 _ => by rw [put_other _ _ (by have := h.lt h1; omega)]; exact h1⟩
theorem Stp.turn {c B : Nat} {O : Ghost} {w w' : World} {b own : Nat} {t t' : Th} (e : O b = some ⟨c, own, t⟩) (hB : B ≤ w.heap.size) (ht : w.mapTurned w' b) : Stp c B O (put O b ⟨c, own, t'⟩) w w' :=
  have hg := ht.grown
  ⟨hg.os, hg.tape, hg.output, hg.size, fun q h1 h2 => hg.block q (by omega) (fun e2 => by injection e2 with e2; rw [e2, e] at h2; cases h2), fun q _ h2 => by rw [put_other _ _ (fun e2 => by rw [e2, e] at h2; cases h2)]; exact h2, fun q o h1 h2 => by rw [put_other _ _ (fun e2 => by rw [e2, e] at h1; injection h1 with h1; subst h1; exact h2 rfl)]; exact h1⟩
/-- A row that nobody knows has grown. -/
theorem Stp.grown {c B : Nat} {O : Ghost} {w w' : World} {r : Option Nat} (hg : w.grownBy w' r) (hB : B ≤ w.heap.size) (hr : ∀ g, r = some g → B ≤ g) : Stp c B O O w w' :=
  ⟨hg.os, hg.tape, hg.output, hg.size, fun q h1 _ => hg.block q (by omega) (fun e => by have := hr q e.symm; omega), fun _ _ h => h, fun _ _ h _ => h⟩
theorem Mem.grown {k : Nat} {O : Ghost} {w w' : World} {r : Option Nat} (h : Mem k O w) (hg : w.grownBy w' r) (hr : ∀ g, r = some g → O g = none) : Mem k O w' := fun q o e => (h q o e).same (hg.block q (h.lt e) (fun e2 => by rw [hr q e2.symm] at e; cases e))
theorem Mem.ownSet {k : Nat} {O : Ghost} {w : World} (h : Mem k O w) {a : Addr} (ha : O a.block = none) (v : Value) : Mem k O (w.setCell a v) := fun q o e => (h q o e).same (Below.heap_setCell _ _ _ _ (fun e2 => by rw [e2, ha] at e; cases e))
theorem Mem.below {k B : Nat} {O : Ghost} {w w' : World} (h : Mem k O w) (hb : Below B w w') (hB : ∀ q o, O q = some o → q < B) : Mem k O w' := fun q o e => (h q o e).same (hb.block q (hB q o e))
theorem Stp.ofBelow {c B : Nat} {O : Ghost} {w w' : World} (hb : Below B w w') : Stp c B O O w w' := ⟨hb.os, hb.tape, hb.output, hb.size, fun q h1 _ => hb.block q h1, fun _ _ h => h, fun _ _ h _ => h⟩
theorem Stp.below {c B : Nat} {O O' : Ghost} {w w' : World} (h : Stp c B O O' w w') (hO : ∀ q, q < B → O q = none) : Below B w w' := ⟨h.os, h.tape, h.output, h.size, fun q hq => h.rest q hq (hO q hq)⟩
end Go.Proofs.Ytnlfmmempomcaaa
