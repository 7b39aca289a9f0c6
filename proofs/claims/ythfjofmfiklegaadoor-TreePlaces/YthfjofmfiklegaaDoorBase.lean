/- Trees of files: how one lies in memory. -/
import Derived.Test.YthfjofmfiklegaaDoorRows
import Derived.WalkKit
import Derived.WalkSpells
import Derived.WalkLawsBesides
import Derived.Deep.QuietTactic
import Derived.BigQuiet
import Derived.Below
import Derived.Deep.AppendSrc
import Derived.Deep.Upon
namespace Go.Proofs.YthfjofmfiklegaaDoor
open Go.RowKit

theorem hide {p : Prop} (h : p) : Hid p := h
theorem unhide {p : Prop} (h : Hid p) : p := h

/-- A tree of files: kind, exec, data, names, kids. -/
inductive Tr where
  | mk (k : Int) (x : Bool) (d : ByteArray) (ns : List ByteArray) (ks : List Tr)

/-- Bytes as cells. -/
def byteVals (d : ByteArray) : List Value := d.data.toList.map fun b => .int .u8 (b.toNat : Int)
theorem byteVals_length (d : ByteArray) : (byteVals d).length = d.size := by simp [byteVals]

/-- A slice whose cells are known; they lie in blocks from lo on, below hi. -/
def Row (lo hi : Nat) (w : World) (v : Value) (n : Nat) (xs : List Value) : Prop :=
  ∃ a c, v = .slice a n c ∧ n ≤ c ∧ (0 < n → ∃ g o, a = some ⟨g, o, none⟩ ∧ lo ≤ g ∧ g < hi ∧ ∀ j u, xs[j]? = some u → w.cell? ⟨g, o + j, none⟩ = some u)

/-- A tree lies in memory. -/
inductive Lies (lo hi : Nat) (w : World) : Tr → List Value → Prop
  | mk (k : Int) (x : Bool) (d : ByteArray) (ns : List ByteArray) (ks : List Tr) (vd vn vk : Value) (Ks : List (List Value))
      (hl : Ks.length = ks.length) (hd : Row lo hi w vd d.size (byteVals d)) (hn : Row lo hi w vn ns.length (ns.map .string)) (hk : Row lo hi w vk ks.length Ks.flatten)
      (hK : ∀ (i : Nat) (t : Tr) (c : List Value), ks[i]? = some t → Ks[i]? = some c → Lies lo hi w t c) : Lies lo hi w (.mk k x d ns ks) [.int .i64 k, .bool x, vd, vn, vk]

theorem Row.mono {lo hi lo' hi' : Nat} {w : World} {v : Value} {n : Nat} {xs : List Value} (h : Row lo hi w v n xs) (h1 : lo' ≤ lo) (h2 : hi ≤ hi') : Row lo' hi' w v n xs := by
  obtain ⟨a, c, e, hc, hx⟩ := h
  exact ⟨a, c, e, hc, fun h0 => by obtain ⟨g, o, ea, hg1, hg2, hcell⟩ := hx h0; exact ⟨g, o, ea, by omega, by omega, hcell⟩⟩
theorem Row.below {lo hi B : Nat} {w w' : World} {v : Value} {n : Nat} {xs : List Value} (h : Row lo hi w v n xs) (hb : Below B w w') (hB : hi ≤ B) : Row lo hi w' v n xs := by
  obtain ⟨a, c, e, hc, hx⟩ := h
  refine ⟨a, c, e, hc, fun h0 => ?_⟩
  obtain ⟨g, o, ea, hg1, hg2, hcell⟩ := hx h0
  exact ⟨g, o, ea, hg1, hg2, fun j u hj => by rw [hb.cell (p := ⟨g, o + j, none⟩) (by show g < B; omega)]; exact hcell j u hj⟩
theorem Lies.mono {lo hi lo' hi' : Nat} {w : World} {T : Tr} {cs : List Value} (h : Lies lo hi w T cs) (h1 : lo' ≤ lo) (h2 : hi ≤ hi') : Lies lo' hi' w T cs := by
  induction h with
  | mk k x d ns ks vd vn vk Ks hl hd hn hk hK ih => exact .mk k x d ns ks vd vn vk Ks hl (hd.mono h1 h2) (hn.mono h1 h2) (hk.mono h1 h2) ih
theorem Lies.kept {lo hi B : Nat} {w w' : World} {T : Tr} {cs : List Value} (h : Lies lo hi w T cs) (hb : Below B w w') (hB : hi ≤ B) : Lies lo hi w' T cs := by
  induction h with
  | mk k x d ns ks vd vn vk Ks hl hd hn hk hK ih => exact .mk k x d ns ks vd vn vk Ks hl (hd.below hb hB) (hn.below hb hB) (hk.below hb hB) ih
theorem Lies.length {lo hi : Nat} {w : World} {T : Tr} {cs : List Value} (h : Lies lo hi w T cs) : cs.length = 5 := by cases h; rfl

theorem flat5 (Ks : List (List Value)) (h : ∀ c ∈ Ks, c.length = 5) (i j : Nat) (c : List Value) (hi : Ks[i]? = some c) (hj : j < 5) : Ks.flatten[i * 5 + j]? = c[j]? := by
  induction Ks generalizing i with
  | nil => simp at hi
  | cons a r ih =>
    have ha : a.length = 5 := h a (by simp)
    cases i with
    | zero => simp at hi; subst hi; simp [List.flatten_cons, List.getElem?_append_left (by omega : j < a.length)]
    | succ i =>
      rw [List.flatten_cons, List.getElem?_append_right (by omega), ← ih (fun c hc => h c (by simp [hc])) i (by simpa using hi)]
      congr 1; omega
theorem flat5_length (Ks : List (List Value)) (h : ∀ c ∈ Ks, c.length = 5) : Ks.flatten.length = Ks.length * 5 := by
  induction Ks with
  | nil => rfl
  | cons a r ih => rw [List.flatten_cons, List.length_append, ih (fun c hc => h c (by simp [hc])), h a (by simp), List.length_cons]; omega

/-- The five values of a node. -/
abbrev nodeV (k : Int) (x : Bool) (vd vn vk : Value) : Value := .agg #[.int .i64 k, .bool x, vd, vn, vk]

theorem Lies.all5 {lo hi : Nat} {w : World} {ks : List Tr} {Ks : List (List Value)} (hl : Ks.length = ks.length) (hK : ∀ (i : Nat) (t : Tr) (c : List Value), ks[i]? = some t → Ks[i]? = some c → Lies lo hi w t c) : ∀ c ∈ Ks, c.length = 5 := by
  intro c hc
  obtain ⟨i, hi, rfl⟩ := List.getElem_of_mem hc
  exact (hK i ks[i] Ks[i] (List.getElem?_eq_getElem (by omega)) (List.getElem?_eq_getElem hi)).length

/-- What a node's slices are. -/
theorem Row.slice {lo hi : Nat} {w : World} {v : Value} {n : Nat} {xs : List Value} (h : Row lo hi w v n xs) : ∃ a c, v = .slice a n c ∧ n ≤ c := by
  obtain ⟨a, c, e, hc, _⟩ := h; exact ⟨a, c, e, hc⟩

/-- A kid: its five cells, and that it lies there. -/
theorem kid_at {lo hi : Nat} {w : World} {ks : List Tr} {Ks : List (List Value)} {g o : Nat} (hl : Ks.length = ks.length) (hcell : ∀ j u, Ks.flatten[j]? = some u → w.cell? ⟨g, o + j, none⟩ = some u)
    (hK : ∀ (i : Nat) (t : Tr) (c : List Value), ks[i]? = some t → Ks[i]? = some c → Lies lo hi w t c) (i : Nat) (hi' : i < ks.length) :
    ∃ k x vd vn vk, Lies lo hi w ks[i] [.int .i64 k, .bool x, vd, vn, vk] ∧ w.cell? ⟨g, o + i * 5, none⟩ = some (.int .i64 k) ∧ w.cell? ⟨g, o + i * 5 + 1, none⟩ = some (.bool x) ∧ w.cell? ⟨g, o + i * 5 + 2, none⟩ = some vd ∧ w.cell? ⟨g, o + i * 5 + 3, none⟩ = some vn ∧ w.cell? ⟨g, o + i * 5 + 4, none⟩ = some vk := by
  have h5 := Lies.all5 hl hK
  have hc : Ks[i]? = some Ks[i] := List.getElem?_eq_getElem (by omega)
  have hL := hK i ks[i] Ks[i] (List.getElem?_eq_getElem hi') hc
  obtain ⟨c, ec⟩ : ∃ c, c = Ks[i] := ⟨_, rfl⟩
  rw [← ec] at hc hL
  have hf := fun j (hj : j < 5) => flat5 Ks h5 i j c hc hj
  clear ec
  generalize ks[i] = t at *
  cases hL with
  | mk k x d ns ks' vd vn vk Ks' hl' hd hn hk hK' =>
    refine ⟨k, x, vd, vn, vk, .mk k x d ns ks' vd vn vk Ks' hl' hd hn hk hK', ?_, ?_, ?_, ?_, ?_⟩
    · exact hcell (i * 5) _ (by rw [← Nat.add_zero (i * 5), hf 0 (by omega)]; rfl)
    all_goals rw [Nat.add_assoc]; apply hcell
    · rw [hf 1 (by omega)]; rfl
    · rw [hf 2 (by omega)]; rfl
    · rw [hf 3 (by omega)]; rfl
    · rw [hf 4 (by omega)]; rfl

/-- Of what was there only one block has changed. -/
structure Sole (g : Nat) (a b : World) : Prop where
  os : b.os = a.os
  tape : b.tape = a.tape
  output : b.output = a.output
  size : a.heap.size ≤ b.heap.size
  block : ∀ k, k < a.heap.size → k ≠ g → b.heap[k]? = a.heap[k]?
theorem Sole.refl (g : Nat) (w : World) : Sole g w w := ⟨rfl, rfl, rfl, Nat.le_refl _, fun _ _ _ => rfl⟩
theorem Sole.trans {g : Nat} {a b c : World} (h : Sole g a b) (k : Sole g b c) : Sole g a c :=
  ⟨k.os.trans h.os, k.tape.trans h.tape, k.output.trans h.output, Nat.le_trans h.size k.size, fun i hi hg => (k.block i (Nat.lt_of_lt_of_le hi h.size) hg).trans (h.block i hi hg)⟩
theorem Sole.of_below {g : Nat} {a b : World} (h : Below a.heap.size a b) : Sole g a b := ⟨h.os, h.tape, h.output, h.size, fun k hk _ => h.block k hk⟩
theorem Sole.below {g base : Nat} {a b : World} (h : Sole g a b) (hb : base ≤ g) (hg : base ≤ a.heap.size) : Below base a b := ⟨h.os, h.tape, h.output, h.size, fun k hk => h.block k (by omega) (by omega)⟩
theorem Sole.drew {g : Nat} {a b : World} (h : Sole g a b) : Sole g a b.drew := ⟨h.os, h.tape, h.output, h.size, h.block⟩
theorem Sole.alloc {g : Nat} {a b : World} (h : Sole g a b) (o : Obj) : Sole g a (b.alloc o) := h.trans ⟨rfl, rfl, rfl, by simp, fun k hk _ => Below.heap_alloc _ _ _ hk⟩
theorem Sole.setCell {g : Nat} {a b : World} (h : Sole g a b) (o : Nat) (v : Value) : Sole g a (b.setCell ⟨g, o, none⟩ v) := h.trans ⟨rfl, rfl, rfl, by simp [World.setCell], fun k hk hg => Below.heap_setCell _ _ _ _ hg⟩

/-- A counter behind a pointer. -/
structure Ctr (w : World) (c : Nat) (v : Value) : Prop where
  cell : w.cell? ⟨c, 0, none⟩ = some v
  fr : w.frozen? ⟨c, 0, none⟩ = false
theorem cell_lt {w : World} {x : Addr} {v : Value} (h : w.cell? x = some v) : x.block < w.heap.size := by
  unfold World.cell? at h
  split at h
  · rename_i c t fr e
    exact (Array.getElem?_eq_some_iff.1 e).1
  · simp at h
theorem Ctr.lt {w : World} {c : Nat} {v : Value} (h : Ctr w c v) : c < w.heap.size := cell_lt h.cell
theorem Ctr.below {w w' : World} {c : Nat} {v : Value} (h : Ctr w c v) {B : Nat} (hb : Below B w w') (hB : c < B) : Ctr w' c v :=
  ⟨by rw [hb.cell (p := ⟨c, 0, none⟩) hB]; exact h.cell, by rw [hb.frozen (p := ⟨c, 0, none⟩) hB]; exact h.fr⟩
theorem Tr.ind {P : Tr → Prop} (h : ∀ k x d ns ks, (∀ t ∈ ks, P t) → P (.mk k x d ns ks)) (T : Tr) : P T :=
  Tr.rec (motive_1 := P) (motive_2 := fun l => ∀ t ∈ l, P t) (fun k x d ns ks ih => h k x d ns ks ih) (fun _ ht => by simp at ht)
    (fun a r ha hr t ht => by rcases List.mem_cons.1 ht with rfl | ht; exact ha; exact hr t ht) T
/-- A boxed node, still there. -/
def Bx (w : World) (b : Nat) (v0 v1 v2 v3 v4 : Value) : Prop := w.heap[b]? = some (.cells #[v0, v1, v2, v3, v4] 26)
theorem Bx.cells {w : World} {b : Nat} {v0 v1 v2 v3 v4 : Value} (h : Bx w b v0 v1 v2 v3 v4) :
    w.cell? ⟨b, 0, none⟩ = some v0 ∧ w.cell? ⟨b, 1, none⟩ = some v1 ∧ w.cell? ⟨b, 2, none⟩ = some v2 ∧ w.cell? ⟨b, 3, none⟩ = some v3 ∧ w.cell? ⟨b, 4, none⟩ = some v4 := by
  unfold Bx at h
  refine ⟨?_, ?_, ?_, ?_, ?_⟩
  all_goals
    unfold World.cell?
    rw [h]
    rfl
theorem bx_new (w : World) (v0 v1 v2 v3 v4 : Value) : Bx (w.alloc (.cells #[v0, v1, v2, v3, v4] 26)) w.heap.size v0 v1 v2 v3 v4 := by
  show (w.heap.push _)[w.heap.size]? = _
  rw [Array.getElem?_push, if_pos rfl]
theorem Bx.of {w w' : World} {b : Nat} {v0 v1 v2 v3 v4 : Value} (h : Bx w b v0 v1 v2 v3 v4) (e : w'.heap[b]? = w.heap[b]?) : Bx w' b v0 v1 v2 v3 v4 := by
  unfold Bx; rw [e]; exact h
theorem Bx.lt {w : World} {b : Nat} {v0 v1 v2 v3 v4 : Value} (h : Bx w b v0 v1 v2 v3 v4) : b < w.heap.size := (Array.getElem?_eq_some_iff.1 h).1
theorem Bx.sole {w w' : World} {b c : Nat} {v0 v1 v2 v3 v4 : Value} (h : Bx w b v0 v1 v2 v3 v4) (hs : Sole c w w') (hne : b ≠ c) : Bx w' b v0 v1 v2 v3 v4 := h.of (hs.block b h.lt hne)
theorem Bx.kept {w w' : World} {b B : Nat} {v0 v1 v2 v3 v4 : Value} (h : Bx w b v0 v1 v2 v3 v4) (hb : Below B w w') (hB : b < B) : Bx w' b v0 v1 v2 v3 v4 := h.of (hb.block b hB)
@[simp] theorem setCell_size (w : World) (a : Addr) (v : Value) : (w.setCell a v).heap.size = w.heap.size := by simp [World.setCell]
theorem bx_new' (w : World) (a : Addr) (v v0 v1 v2 v3 v4 : Value) : Bx ((w.setCell a v).alloc (.cells #[v0, v1, v2, v3, v4] 26)) w.heap.size v0 v1 v2 v3 v4 := by
  have := bx_new (w.setCell a v) v0 v1 v2 v3 v4
  rwa [setCell_size] at this
theorem Ctr.drew {w : World} {c : Nat} {v : Value} (h : Ctr w c v) : Ctr w.drew c v := ⟨h.cell, h.fr⟩
theorem Ctr.set {w : World} {c : Nat} {v : Value} (h : Ctr w c v) (u : Value) : Ctr (w.setCell ⟨c, 0, none⟩ u) c u := by
  have h1 := h.cell
  have h2 := h.fr
  exact ⟨by simp [go_sem, h1], by simp [go_sem, h2]⟩
theorem Row.at {lo hi : Nat} {w : World} {a : Option Addr} {n c : Nat} {xs : List Value} (h : Row lo hi w (.slice a n c) n xs) (h0 : 0 < n) : ∃ g o, a = some ⟨g, o, none⟩ ∧ lo ≤ g ∧ g < hi ∧ ∀ j u, xs[j]? = some u → w.cell? ⟨g, o + j, none⟩ = some u := by
  obtain ⟨a', c', e, _, hx⟩ := h
  cases e
  exact hx h0
end Go.Proofs.YthfjofmfiklegaaDoor
