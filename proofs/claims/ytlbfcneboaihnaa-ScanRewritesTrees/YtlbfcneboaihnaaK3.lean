import Derived.Test.YtlbfcneboaihnaaRows
import Derived.WalkKit
import Derived.WalkSpells
import Derived.WalkLawsBesides
import Derived.Deep.QuietTactic
import Derived.BigQuiet
import Derived.Below
import Derived.Deep.AppendSrc
import Derived.Deep.Upon
import Derived.Shelf.Small.Strs
import Derived.Shelf.LaysM
import Derived.Shelf.Strconv.Clone
import Derived.Shelf.Strings.Search1
import Derived.Shelf.Strings.Search2
import Derived.Shelf.Strings.Search3
import Derived.Shelf.Strings.Cut
import Derived.Shelf.Strings.Shaped
import Derived.Shelf.Unicode.DecodeSlow
import Derived.Ground.SlgnProg
import Derived.Shelf.SlicesG.Equal
import Derived.Shelf.Bytes.SlEqualAll
import Derived.Shelf.Bytes.Small
import Derived.Sort.Walk0
/- Trees of files: how one lies in memory. -/
namespace Go.Proofs.Ytlbfcneboaihnaa.Tn
open Go.RowKit

theorem hide {p : Prop} (h : p) : Hid p := h
theorem unhide {p : Prop} (h : Hid p) : p := h

/-- A tree of files: kind, exec, data, names, kids. -/
inductive Tr where
  | mk (k : Int) (x : Bool) (d : ByteArray) (ns : List ByteArray) (ks : List Tr)

/-- Bytes as cells. -/
def byteVals (d : ByteArray) : List Value := d.data.toList.map fun b => .int .u8 (b.toNat : Int)
theorem byteVals_length (d : ByteArray) : (byteVals d).length = d.size := by simp [byteVals]

/-- A slice whose cells are known; they lie in blocks from lo on, below hi. -/
def Row (lo hi : Nat) (w : World) (v : Value) (n : Nat) (xs : List Value) : Prop :=
  ∃ a c, v = .slice a n c ∧ n ≤ c ∧ (0 < n → ∃ g o, a = some ⟨g, o, none⟩ ∧ lo ≤ g ∧ g < hi ∧ ∀ j u, xs[j]? = some u → w.cell? ⟨g, o + j, none⟩ = some u)

/-- A tree lies in memory. -/
inductive Lies (lo hi : Nat) (w : World) : Tr → List Value → Prop
  | mk (k : Int) (x : Bool) (d : ByteArray) (ns : List ByteArray) (ks : List Tr) (vd vn vk : Value) (Ks : List (List Value))
      (hl : Ks.length = ks.length) (hd : Row lo hi w vd d.size (byteVals d)) (hn : Row lo hi w vn ns.length (ns.map .string)) (hk : Row lo hi w vk ks.length Ks.flatten)
      (hK : ∀ (i : Nat) (t : Tr) (c : List Value), ks[i]? = some t → Ks[i]? = some c → Lies lo hi w t c) : Lies lo hi w (.mk k x d ns ks) [.int .i64 k, .bool x, vd, vn, vk]

theorem Row.mono {lo hi lo' hi' : Nat} {w : World} {v : Value} {n : Nat} {xs : List Value} (h : Row lo hi w v n xs) (h1 : lo' ≤ lo) (h2 : hi ≤ hi') : Row lo' hi' w v n xs := by
  obtain ⟨a, c, e, hc, hx⟩ := h
  exact ⟨a, c, e, hc, fun h0 => by obtain ⟨g, o, ea, hg1, hg2, hcell⟩ := hx h0; exact ⟨g, o, ea, by omega, by omega, hcell⟩⟩
theorem Row.below {lo hi B : Nat} {w w' : World} {v : Value} {n : Nat} {xs : List Value} (h : Row lo hi w v n xs) (hb : Below B w w') (hB : hi ≤ B) : Row lo hi w' v n xs := by
  obtain ⟨a, c, e, hc, hx⟩ := h
  refine ⟨a, c, e, hc, fun h0 => ?_⟩
  obtain ⟨g, o, ea, hg1, hg2, hcell⟩ := hx h0
  exact ⟨g, o, ea, hg1, hg2, fun j u hj => by rw [hb.cell (p := ⟨g, o + j, none⟩) (by show g < B; omega)]; exact hcell j u hj⟩
theorem Lies.mono {lo hi lo' hi' : Nat} {w : World} {T : Tr} {cs : List Value} (h : Lies lo hi w T cs) (h1 : lo' ≤ lo) (h2 : hi ≤ hi') : Lies lo' hi' w T cs := by
  induction h with
  | mk k x d ns ks vd vn vk Ks hl hd hn hk hK ih => exact .mk k x d ns ks vd vn vk Ks hl (hd.mono h1 h2) (hn.mono h1 h2) (hk.mono h1 h2) ih
theorem Lies.kept {lo hi B : Nat} {w w' : World} {T : Tr} {cs : List Value} (h : Lies lo hi w T cs) (hb : Below B w w') (hB : hi ≤ B) : Lies lo hi w' T cs := by
  induction h with
  | mk k x d ns ks vd vn vk Ks hl hd hn hk hK ih => exact .mk k x d ns ks vd vn vk Ks hl (hd.below hb hB) (hn.below hb hB) (hk.below hb hB) ih
theorem Lies.length {lo hi : Nat} {w : World} {T : Tr} {cs : List Value} (h : Lies lo hi w T cs) : cs.length = 5 := by cases h; rfl

theorem flat5 (Ks : List (List Value)) (h : ∀ c ∈ Ks, c.length = 5) (i j : Nat) (c : List Value) (hi : Ks[i]? = some c) (hj : j < 5) : Ks.flatten[i * 5 + j]? = c[j]? := by
  induction Ks generalizing i with
  | nil => simp at hi
  | cons a r ih =>
    have ha : a.length = 5 := h a (by simp)
    cases i with
    | zero => simp at hi; subst hi; simp [List.flatten_cons, List.getElem?_append_left (by omega : j < a.length)]
    | succ i =>
      rw [List.flatten_cons, List.getElem?_append_right (by omega), ← ih (fun c hc => h c (by simp [hc])) i (by simpa using hi)]
      congr 1; omega
theorem flat5_length (Ks : List (List Value)) (h : ∀ c ∈ Ks, c.length = 5) : Ks.flatten.length = Ks.length * 5 := by
  induction Ks with
  | nil => rfl
  | cons a r ih => rw [List.flatten_cons, List.length_append, ih (fun c hc => h c (by simp [hc])), h a (by simp), List.length_cons]; omega

/-- The five values of a node. -/
abbrev nodeV (k : Int) (x : Bool) (vd vn vk : Value) : Value := .agg #[.int .i64 k, .bool x, vd, vn, vk]

theorem Lies.all5 {lo hi : Nat} {w : World} {ks : List Tr} {Ks : List (List Value)} (hl : Ks.length = ks.length) (hK : ∀ (i : Nat) (t : Tr) (c : List Value), ks[i]? = some t → Ks[i]? = some c → Lies lo hi w t c) : ∀ c ∈ Ks, c.length = 5 := by
  intro c hc
  obtain ⟨i, hi, rfl⟩ := List.getElem_of_mem hc
  exact (hK i ks[i] Ks[i] (List.getElem?_eq_getElem (by omega)) (List.getElem?_eq_getElem hi)).length

/-- What a node's slices are. -/
theorem Row.slice {lo hi : Nat} {w : World} {v : Value} {n : Nat} {xs : List Value} (h : Row lo hi w v n xs) : ∃ a c, v = .slice a n c ∧ n ≤ c := by
  obtain ⟨a, c, e, hc, _⟩ := h; exact ⟨a, c, e, hc⟩

/-- A kid: its five cells, and that it lies there. -/
theorem kid_at {lo hi : Nat} {w : World} {ks : List Tr} {Ks : List (List Value)} {g o : Nat} (hl : Ks.length = ks.length) (hcell : ∀ j u, Ks.flatten[j]? = some u → w.cell? ⟨g, o + j, none⟩ = some u)
    (hK : ∀ (i : Nat) (t : Tr) (c : List Value), ks[i]? = some t → Ks[i]? = some c → Lies lo hi w t c) (i : Nat) (hi' : i < ks.length) :
    ∃ k x vd vn vk, Lies lo hi w ks[i] [.int .i64 k, .bool x, vd, vn, vk] ∧ w.cell? ⟨g, o + i * 5, none⟩ = some (.int .i64 k) ∧ w.cell? ⟨g, o + i * 5 + 1, none⟩ = some (.bool x) ∧ w.cell? ⟨g, o + i * 5 + 2, none⟩ = some vd ∧ w.cell? ⟨g, o + i * 5 + 3, none⟩ = some vn ∧ w.cell? ⟨g, o + i * 5 + 4, none⟩ = some vk := by
  have h5 := Lies.all5 hl hK
  have hc : Ks[i]? = some Ks[i] := List.getElem?_eq_getElem (by omega)
  have hL := hK i ks[i] Ks[i] (List.getElem?_eq_getElem hi') hc
  obtain ⟨c, ec⟩ : ∃ c, c = Ks[i] := ⟨_, rfl⟩
  rw [← ec] at hc hL
  have hf := fun j (hj : j < 5) => flat5 Ks h5 i j c hc hj
  clear ec
  generalize ks[i] = t at *
  cases hL with
  | mk k x d ns ks' vd vn vk Ks' hl' hd hn hk hK' =>
    refine ⟨k, x, vd, vn, vk, .mk k x d ns ks' vd vn vk Ks' hl' hd hn hk hK', ?_, ?_, ?_, ?_, ?_⟩
    · exact hcell (i * 5) _ (by rw [← Nat.add_zero (i * 5), hf 0 (by omega)]; rfl)
    all_goals rw [Nat.add_assoc]; apply hcell
    · rw [hf 1 (by omega)]; rfl
    · rw [hf 2 (by omega)]; rfl
    · rw [hf 3 (by omega)]; rfl
    · rw [hf 4 (by omega)]; rfl

/-- Of what was there only one block has changed. -/
structure Sole (g : Nat) (a b : World) : Prop where
  os : b.os = a.os
  tape : b.tape = a.tape
  output : b.output = a.output
  size : a.heap.size ≤ b.heap.size
  block : ∀ k, k < a.heap.size → k ≠ g → b.heap[k]? = a.heap[k]?
theorem Sole.refl (g : Nat) (w : World) : Sole g w w := ⟨rfl, rfl, rfl, Nat.le_refl _, fun _ _ _ => rfl⟩
theorem Sole.trans {g : Nat} {a b c : World} (h : Sole g a b) (k : Sole g b c) : Sole g a c :=
  ⟨k.os.trans h.os, k.tape.trans h.tape, k.output.trans h.output, Nat.le_trans h.size k.size, fun i hi hg => (k.block i (Nat.lt_of_lt_of_le hi h.size) hg).trans (h.block i hi hg)⟩
theorem Sole.of_below {g : Nat} {a b : World} (h : Below a.heap.size a b) : Sole g a b := ⟨h.os, h.tape, h.output, h.size, fun k hk _ => h.block k hk⟩
theorem Sole.below {g base : Nat} {a b : World} (h : Sole g a b) (hb : base ≤ g) (hg : base ≤ a.heap.size) : Below base a b := ⟨h.os, h.tape, h.output, h.size, fun k hk => h.block k (by omega) (by omega)⟩
theorem Sole.drew {g : Nat} {a b : World} (h : Sole g a b) : Sole g a b.drew := ⟨h.os, h.tape, h.output, h.size, h.block⟩
theorem Sole.alloc {g : Nat} {a b : World} (h : Sole g a b) (o : Obj) : Sole g a (b.alloc o) := h.trans ⟨rfl, rfl, rfl, by simp, fun k hk _ => Below.heap_alloc _ _ _ hk⟩
theorem Sole.setCell {g : Nat} {a b : World} (h : Sole g a b) (o : Nat) (v : Value) : Sole g a (b.setCell ⟨g, o, none⟩ v) := h.trans ⟨rfl, rfl, rfl, by simp [World.setCell], fun k hk hg => Below.heap_setCell _ _ _ _ hg⟩

/-- A counter behind a pointer. -/
structure Ctr (w : World) (c : Nat) (v : Value) : Prop where
  cell : w.cell? ⟨c, 0, none⟩ = some v
  fr : w.frozen? ⟨c, 0, none⟩ = false
theorem cell_lt {w : World} {x : Addr} {v : Value} (h : w.cell? x = some v) : x.block < w.heap.size := by
  unfold World.cell? at h
  split at h
  · rename_i c t fr e
    exact (Array.getElem?_eq_some_iff.1 e).1
  · simp at h
theorem Ctr.lt {w : World} {c : Nat} {v : Value} (h : Ctr w c v) : c < w.heap.size := cell_lt h.cell
theorem Ctr.below {w w' : World} {c : Nat} {v : Value} (h : Ctr w c v) {B : Nat} (hb : Below B w w') (hB : c < B) : Ctr w' c v :=
  ⟨by rw [hb.cell (p := ⟨c, 0, none⟩) hB]; exact h.cell, by rw [hb.frozen (p := ⟨c, 0, none⟩) hB]; exact h.fr⟩
theorem Tr.ind {P : Tr → Prop} (h : ∀ k x d ns ks, (∀ t ∈ ks, P t) → P (.mk k x d ns ks)) (T : Tr) : P T :=
  Tr.rec (motive_1 := P) (motive_2 := fun l => ∀ t ∈ l, P t) (fun k x d ns ks ih => h k x d ns ks ih) (fun _ ht => by simp at ht)
    (fun a r ha hr t ht => by rcases List.mem_cons.1 ht with rfl | ht; exact ha; exact hr t ht) T
/-- A boxed node, still there. -/
def Bx (w : World) (b : Nat) (v0 v1 v2 v3 v4 : Value) : Prop := w.heap[b]? = some (.cells #[v0, v1, v2, v3, v4] 34)
theorem Bx.cells {w : World} {b : Nat} {v0 v1 v2 v3 v4 : Value} (h : Bx w b v0 v1 v2 v3 v4) :
    w.cell? ⟨b, 0, none⟩ = some v0 ∧ w.cell? ⟨b, 1, none⟩ = some v1 ∧ w.cell? ⟨b, 2, none⟩ = some v2 ∧ w.cell? ⟨b, 3, none⟩ = some v3 ∧ w.cell? ⟨b, 4, none⟩ = some v4 := by
  unfold Bx at h
  refine ⟨?_, ?_, ?_, ?_, ?_⟩
  all_goals
    unfold World.cell?
    rw [h]
    rfl
theorem bx_new (w : World) (v0 v1 v2 v3 v4 : Value) : Bx (w.alloc (.cells #[v0, v1, v2, v3, v4] 34)) w.heap.size v0 v1 v2 v3 v4 := by
  show (w.heap.push _)[w.heap.size]? = _
  rw [Array.getElem?_push, if_pos rfl]
theorem Bx.of {w w' : World} {b : Nat} {v0 v1 v2 v3 v4 : Value} (h : Bx w b v0 v1 v2 v3 v4) (e : w'.heap[b]? = w.heap[b]?) : Bx w' b v0 v1 v2 v3 v4 := by
  unfold Bx; rw [e]; exact h
theorem Bx.lt {w : World} {b : Nat} {v0 v1 v2 v3 v4 : Value} (h : Bx w b v0 v1 v2 v3 v4) : b < w.heap.size := (Array.getElem?_eq_some_iff.1 h).1
theorem Bx.sole {w w' : World} {b c : Nat} {v0 v1 v2 v3 v4 : Value} (h : Bx w b v0 v1 v2 v3 v4) (hs : Sole c w w') (hne : b ≠ c) : Bx w' b v0 v1 v2 v3 v4 := h.of (hs.block b h.lt hne)
theorem Bx.kept {w w' : World} {b B : Nat} {v0 v1 v2 v3 v4 : Value} (h : Bx w b v0 v1 v2 v3 v4) (hb : Below B w w') (hB : b < B) : Bx w' b v0 v1 v2 v3 v4 := h.of (hb.block b hB)
@[simp] theorem setCell_size (w : World) (a : Addr) (v : Value) : (w.setCell a v).heap.size = w.heap.size := by simp [World.setCell]
theorem bx_new' (w : World) (a : Addr) (v v0 v1 v2 v3 v4 : Value) : Bx ((w.setCell a v).alloc (.cells #[v0, v1, v2, v3, v4] 34)) w.heap.size v0 v1 v2 v3 v4 := by
  have := bx_new (w.setCell a v) v0 v1 v2 v3 v4
  rwa [setCell_size] at this
theorem Ctr.drew {w : World} {c : Nat} {v : Value} (h : Ctr w c v) : Ctr w.drew c v := ⟨h.cell, h.fr⟩
theorem Ctr.set {w : World} {c : Nat} {v : Value} (h : Ctr w c v) (u : Value) : Ctr (w.setCell ⟨c, 0, none⟩ u) c u := by
  have h1 := h.cell
  have h2 := h.fr
  exact ⟨by simp [go_sem, h1], by simp [go_sem, h2]⟩
theorem Row.at {lo hi : Nat} {w : World} {a : Option Addr} {n c : Nat} {xs : List Value} (h : Row lo hi w (.slice a n c) n xs) (h0 : 0 < n) : ∃ g o, a = some ⟨g, o, none⟩ ∧ lo ≤ g ∧ g < hi ∧ ∀ j u, xs[j]? = some u → w.cell? ⟨g, o + j, none⟩ = some u := by
  obtain ⟨a', c', e, _, hx⟩ := h
  cases e
  exact hx h0
end Go.Proofs.Ytlbfcneboaihnaa.Tn
/- The law's own measure of trees: heavy, great. -/
namespace Go.Proofs.Ytlbfcneboaihnaa.Tn
open Go.RowKit
namespace Tr
def kids : Tr → List Tr | .mk _ _ _ _ ks => ks
def names : Tr → List ByteArray | .mk _ _ _ ns _ => ns
def data : Tr → ByteArray | .mk _ _ d _ _ => d
def kind : Tr → Int | .mk k _ _ _ _ => k
def exec : Tr → Bool | .mk _ x _ _ _ => x
end Tr
/-- Tenths of names. -/
def tenths : List ByteArray → Nat | [] => 0 | s :: r => s.size / 10 + tenths r
mutual
/-- How much a tree is, as the law measures it. -/
def wt : Tr → Nat | .mk _ _ d ns ks => 1 + d.size / 10 + ns.length + tenths ns + wts ks
def wts : List Tr → Nat | [] => 0 | t :: r => wt t + wts r
end
theorem tenths_snoc (l : List ByteArray) (s : ByteArray) : tenths (l ++ [s]) = tenths l + s.size / 10 := by
  induction l with
  | nil => simp [tenths]
  | cons a r ih => simp only [List.cons_append, tenths, ih]; omega
theorem wts_append (a b : List Tr) : wts (a ++ b) = wts a + wts b := by
  induction a with
  | nil => simp [wts]
  | cons x r ih => simp only [List.cons_append, wts, ih]; omega
theorem wts_take (l : List Tr) (i : Nat) (h : i < l.length) : wts (l.take (i + 1)) = wts (l.take i) + wt l[i] := by
  rw [List.take_succ_eq_append_getElem h, wts_append]; simp [wts]
theorem tenths_take (l : List ByteArray) (i : Nat) (h : i < l.length) : tenths (l.take (i + 1)) = tenths (l.take i) + l[i].size / 10 := by
  rw [List.take_succ_eq_append_getElem h, tenths_snoc]
theorem wts_take_le (l : List Tr) (i : Nat) : wts (l.take i) ≤ wts l := by
  conv => rhs; rw [← List.take_append_drop i l, wts_append]
  omega
theorem tenths_le (l : List ByteArray) (h : ∀ s ∈ l, s.size ≤ 140737488355328) (i : Nat) : tenths (l.take i) ≤ i * 14073748835533 := by
  induction l generalizing i with
  | nil => simp [tenths]
  | cons a r ih =>
    cases i with
    | zero => simp [tenths]
    | succ i =>
      have h1 := ih (fun s hs => h s (by simp [hs])) i
      have h2 := h a (by simp)
      simp only [List.take_succ_cons, tenths]
      omega
/-- All lengths are those of slices. -/
inductive Fit : Tr → Prop
  | mk (k : Int) (x : Bool) (d : ByteArray) (ns : List ByteArray) (ks : List Tr) (h1 : d.size ≤ 140737488355328) (h2 : ns.length ≤ 8796093022208) (h3 : ∀ s ∈ ns, s.size ≤ 140737488355328) (h4 : ks.length ≤ 1599289640401) (h5 : ∀ t ∈ ks, Fit t) : Fit (.mk k x d ns ks)
end Go.Proofs.Ytlbfcneboaihnaa.Tn
/- What a tree is: the plain mathematics of chapter 4. -/
namespace Go.Proofs.Ytlbfcneboaihnaa.Tn
open Go.RowKit
/-- An entry's name. -/
def entB (s : ByteArray) : Bool := decide (1 ≤ s.size ∧ s.size ≤ 100 ∧ s.toList ≠ [46] ∧ s.toList ≠ [46, 46] ∧ ∀ b ∈ s.data.toList, b ≠ 47 ∧ b ≠ 0)
/-- Names that are entries' names and rise. -/
def okName (ns : List ByteArray) (i : Nat) : Bool := match ns[i]? with
  | none => true
  | some s => entB s && (i == 0 || decide ((ns.getD (i - 1) ⟨#[]⟩).toList < s.toList))
def okNames (ns : List ByteArray) : Prop := ∀ i, i < ns.length → okName ns i = true
open Classical in
/-- The first fault of a node alone. -/
noncomputable def locErr (k : Int) (x : Bool) (d : Nat) (ns : List ByteArray) (nk : Nat) : Nat :=
  if k = 1 then (if 0 < ns.length ∨ 0 < nk then 3 else if 1048576 < d then 5 else 0)
  else if k = 3 then (if 0 < ns.length ∨ 0 < nk ∨ x = true then 3 else if 1000 < d then 5 else if d = 0 then 3 else 0)
  else if k = 2 then (if x = true ∨ 0 < d ∨ ns.length ≠ nk then 3 else if okNames ns then 0 else 9)
  else 3
mutual
/-- Check: the first fault, and how many nodes were met. -/
noncomputable def chk : Tr → Nat → Nat → Nat × Nat
  | .mk k x d ns ks, deep, n => if 65536 < n + 1 ∨ 64 < deep then (5, n + 1) else if locErr k x d.size ns ks.length = 0 then chks ks (deep + 1) (n + 1) else (locErr k x d.size ns ks.length, n + 1)
noncomputable def chks : List Tr → Nat → Nat → Nat × Nat
  | [], _, n => (0, n)
  | t :: r, deep, n => if (chk t deep n).1 = 0 then chks r deep (chk t deep n).2 else chk t deep n
end
theorem chks_step (ks : List Tr) (i deep n : Nat) (h : i < ks.length) : chks (ks.drop i) deep n = if (chk ks[i] deep n).1 = 0 then chks (ks.drop (i + 1)) deep (chk ks[i] deep n).2 else chk ks[i] deep n := by
  rw [List.drop_eq_getElem_cons h, chks]
theorem chks_end (ks : List Tr) (deep n : Nat) : chks (ks.drop ks.length) deep n = (0, n) := by
  rw [List.drop_length, chks]
end Go.Proofs.Ytlbfcneboaihnaa.Tn
/-
  DERIVED: THE SHELF's CONTRACTS AT THIS DUMP, IN PLAIN WORDS (tools/lay-plain.mjs out of 'TrydShelf.lean', which tools/lay-shelf.mjs wrote): THE SAME DECLARATIONS UNDER THE SAME NAMES: 'import', 'namespace', 'open', 'def', 'theorem' AND NOTHING ELSE: no command of the shelf's: FOR A HAND-IN. Each laying: the table of numbers ('.._ren') and one theorem, a field a fact of the dump's own or the kernel's comparison; each contract: ONE APPLICATION.
-/
namespace Go.Proofs
open Go.Shelf
def Try.lays137_ren : Go.Shelf.Ren := ⟨fun | 137 => 107 | 217 => 114 | 266 => 116 | n => n, fun | 9 => 9 | 5 => 5 | 3 => 3 | n => n, fun | n => n⟩
theorem Try.lays137 : Go.Proofs.Lays.n137 Try.prog Try.lays137_ren := {
  mixed := by kernel_rfl
  f137 := Try.func107.trans (congrArg some (by kernel_rfl))
  f217 := Try.func114.trans (congrArg some (by kernel_rfl))
  f266 := Try.func116.trans (congrArg some (by kernel_rfl))
  t3 := Try.underlying3
  a3 := Try.isAgg3
  z3 := Try.sizeOf3
  v3 := Try.zeroValue3
  t5 := Try.underlying5
  a5 := Try.isAgg5
  z5 := Try.sizeOf5
  v5 := Try.zeroValue5
  t9 := Try.underlying9
  a9 := Try.isAgg9
  z9 := Try.sizeOf9
  v9 := Try.zeroValue9 }
open Go.RowKit in
/-- strings.IndexByte: "IndexByte returns the index of the first instance of c in s, or -1 if c is not present in s.": IT RETURNS 'Lib.indexByte s c'; the world is as it was. (LAID: no walk: one application.) -/
theorem Try.strings_IndexByte (s : ByteArray) (c : Int) (w : World) :
    Calls Try.prog 107 #[.string s, .int .u8 c] w fun e w' => e = .returned (.int .i64 (Lib.indexByte s.data.toList c.toNat.toUInt8)) ∧ w' = w := Any.strings_IndexByte Try.lays137 s c w
def Try.lays217_ren : Go.Shelf.Ren := ⟨fun | 217 => 114 | 266 => 116 | n => n, fun | 9 => 9 | 5 => 5 | 3 => 3 | n => n, fun | n => n⟩
theorem Try.lays217 : Go.Proofs.Lays.n217 Try.prog Try.lays217_ren := {
  mixed := by kernel_rfl
  f217 := Try.func114.trans (congrArg some (by kernel_rfl))
  f266 := Try.func116.trans (congrArg some (by kernel_rfl))
  t3 := Try.underlying3
  a3 := Try.isAgg3
  z3 := Try.sizeOf3
  v3 := Try.zeroValue3
  t5 := Try.underlying5
  a5 := Try.isAgg5
  z5 := Try.sizeOf5
  v5 := Try.zeroValue5
  t9 := Try.underlying9
  a9 := Try.isAgg9
  z9 := Try.sizeOf9
  v9 := Try.zeroValue9 }
open Go.RowKit Go.Lib in
/-- internal/stringslite.IndexByte (what strings.IndexByte calls): IT RETURNS 'Lib.indexByte s c'; the world is as it was. (LAID: no walk: one application.) -/
theorem Try.stringslite_IndexByte (s : ByteArray) (c : Int) (w : World) :
    Calls Try.prog 114 #[.string s, .int .u8 c] w fun e w' => e = .returned (.int .i64 (Lib.indexByte s.data.toList c.toNat.toUInt8)) ∧ w' = w := Any.stringslite_IndexByte Try.lays217 s c w
end Go.Proofs
/- Which texts are entries' names. -/
namespace Go.Proofs.Ytlbfcneboaihnaa.Tn
open Go.RowKit
theorem ret_bool {a b : Bool} (h : a = b) : Ending.returned (.bool a) = .returned (.bool b) := by rw [h]
theorem entB_len {s : ByteArray} (h : ¬ (1 ≤ s.size ∧ s.size ≤ 100)) : entB s = false := by
  unfold entB; exact decide_eq_false fun h' => h ⟨h'.1, h'.2.1⟩
theorem entB_dot {s : ByteArray} (h : (s.toList == [46]) = true) : entB s = false := by
  unfold entB; exact decide_eq_false fun h' => h'.2.2.1 (by simpa using h)
theorem entB_dots {s : ByteArray} (h : (s.toList == [46, 46]) = true) : entB s = false := by
  unfold entB; exact decide_eq_false fun h' => h'.2.2.2.1 (by simpa using h)
theorem entB_bad {s : ByteArray} {b : UInt8} (h : b ∈ s.data.toList) (hb : b = 47 ∨ b = 0) : entB s = false := by
  unfold entB; refine decide_eq_false fun h' => ?_
  have := h'.2.2.2.2 b h
  rcases hb with rfl | rfl
  · exact this.1 rfl
  · exact this.2 rfl
theorem entB_yes {s : ByteArray} (h1 : 1 ≤ s.size) (h2 : s.size ≤ 100) (h3 : (s.toList == [46]) = false) (h4 : (s.toList == [46, 46]) = false) (h : ∀ b ∈ s.data.toList, b ≠ 47 ∧ b ≠ 0) : entB s = true := by
  unfold entB; exact decide_eq_true ⟨h1, h2, by simpa using h3, by simpa using h4, h⟩
theorem byte_mem (s : ByteArray) (i : Nat) (h : i < s.size) : s[i] ∈ s.data.toList := by
  show s.data[i] ∈ s.data.toList
  exact Array.getElem_mem_toList h
theorem mem_byte {s : ByteArray} {b : UInt8} (h : b ∈ s.data.toList) : ∃ i, ∃ hi : i < s.size, b = s[i] := by
  obtain ⟨i, hi, rfl⟩ := List.getElem_of_mem h
  exact ⟨i, by simpa using hi, by simp; rfl⟩
set_option maxRecDepth 20000 in
set_option maxHeartbeats 1000000 in
theorem entR_any (s : ByteArray) (w : World) (hs : s.size ≤ 9223372036854775807) :
    Calls Try.prog 64 #[.string s] w fun e w' => e = .returned (.bool (entB s)) ∧ w' = w := by
  by_cases h1 : s.size < 1
  · go_enter Try.func64, Try.ntmps64
    go_wp2
    go_ret
    exact ⟨ret_bool (entB_len (by omega)).symm, rfl⟩
  by_cases h2 : 100 < s.size
  · go_enter Try.func64, Try.ntmps64
    go_wp2
    go_ret
    exact ⟨ret_bool (entB_len (by omega)).symm, rfl⟩
  cases h3 : (s.toList == [46])
  case true =>
    have H := hide (entB_dot h3)
    go_enter Try.func64, Try.ntmps64
    go_wp2
    go_ret
    exact ⟨ret_bool (unhide H).symm, rfl⟩
  cases h4 : (s.toList == [46, 46])
  case true =>
    have H := hide (entB_dots h4)
    go_enter Try.func64, Try.ntmps64
    go_wp2
    go_ret
    exact ⟨ret_bool (unhide H).symm, rfl⟩
  go_enter Try.func64, Try.ntmps64
  go_wp2
  go_loop [3] (fun vi => ∃ i : Nat, i ≤ s.size ∧ vi = .int .i64 (i : Int) ∧ Hid (∀ j (h : j < s.size), j < i → s[j] ≠ 47 ∧ s[j] ≠ 0)) (fun vi => s.size - (intOf vi).toNat)
  case atStart => exact ⟨0, by omega, rfl, fun j _ h => by omega⟩
  case round =>
    obtain ⟨i, hi, rfl, hall⟩ := hrel
    by_cases hlt : i < s.size
    · have HM := hide (byte_mem s i hlt)
      by_cases hb1 : s[i] = 47
      · have hb1' : ((s[i].toNat : Int) == 47) = true := by rw [hb1]; rfl
        have H := hide (entB_bad (unhide HM) (.inl hb1))
        clear hb1
        go_wp2
        go_ret
        exact ⟨ret_bool (unhide H).symm, rfl⟩
      · have hb1' : ((s[i].toNat : Int) == 47) = false := by rw [beq_eq_false_iff_ne]; intro h; exact hb1 (UInt8.toNat_inj.1 (by rw [show (47 : UInt8).toNat = 47 from rfl]; omega))
        by_cases hb2 : s[i] = 0
        · have hb2' : ((s[i].toNat : Int) == 0) = true := by rw [hb2]; rfl
          have H := hide (entB_bad (unhide HM) (.inr hb2))
          clear hb1 hb2
          go_wp2
          go_ret
          exact ⟨ret_bool (unhide H).symm, rfl⟩
        · have hb2' : ((s[i].toNat : Int) == 0) = false := by rw [beq_eq_false_iff_ne]; intro h; exact hb2 (UInt8.toNat_inj.1 (by rw [show (0 : UInt8).toNat = 0 from rfl]; omega))
          have HN : Hid (∀ j (h : j < s.size), j < i + 1 → s[j] ≠ 47 ∧ s[j] ≠ 0) := fun j h hj => by
            by_cases e : j = i
            · subst e; exact ⟨hb1, hb2⟩
            · exact unhide hall j h (by omega)
          clear hb1 hb2 hall HM
          go_wp2
          go_round
          case rel => exact ⟨i + 1, by omega, by go_num, HN⟩
          case measure => simp [intOf]; omega
    · have H : Hid (entB s = true) := entB_yes (by omega) (by omega) h3 h4 (fun b hb => by
        obtain ⟨j, hj, rfl⟩ := mem_byte hb
        exact unhide hall j hj (by omega))
      go_wp2
      go_ret
      exact ⟨ret_bool (unhide H).symm, rfl⟩
theorem ib_neg (l : List UInt8) (c : UInt8) : Lib.indexByte l c < 0 ↔ c ∉ l := by
  constructor
  · intro h hm
    have h1 : Lib.indexByte l c = -1 := by have := Lib.indexByte_ge l c; omega
    obtain ⟨i, hi, e⟩ := List.getElem_of_mem hm
    exact Lib.indexByte_none h1 i (by rw [List.getElem?_eq_getElem hi, e])
  · intro h
    by_cases h0 : 0 ≤ Lib.indexByte l c
    · obtain ⟨o, ho⟩ : ∃ o : Nat, Lib.indexByte l c = o := ⟨(Lib.indexByte l c).toNat, by omega⟩
      exact absurd (List.mem_of_getElem? (Lib.indexByte_some ho).1) h
    · omega
set_option maxRecDepth 20000 in
set_option maxHeartbeats 1000000 in
theorem ent_any (s : ByteArray) (w : World) (hs : s.size ≤ 9223372036854775807) :
    Calls Try.prog 83 #[.string s] w fun e w' => e = .returned (.bool (entB s)) ∧ w' = w := by
  by_cases h1 : s.size < 1
  · go_enter Try.func83, Try.ntmps83
    go_wp2_with fail
    go_ret
    exact ⟨ret_bool (entB_len (by omega)).symm, rfl⟩
  by_cases h2 : 100 < s.size
  · go_enter Try.func83, Try.ntmps83
    go_wp2_with fail
    go_ret
    exact ⟨ret_bool (entB_len (by omega)).symm, rfl⟩
  cases h3 : (s.toList == [46])
  case true =>
    have H := hide (entB_dot h3)
    go_enter Try.func83, Try.ntmps83
    go_wp2_with fail
    go_ret
    exact ⟨ret_bool (unhide H).symm, rfl⟩
  cases h4 : (s.toList == [46, 46])
  case true =>
    have H := hide (entB_dots h4)
    go_enter Try.func83, Try.ntmps83
    go_wp2_with fail
    go_ret
    exact ⟨ret_bool (unhide H).symm, rfl⟩
  have i47 := ib_neg s.data.toList 47
  have i0 := ib_neg s.data.toList 0
  have HI := hide (fun (c : Int) w => Try.strings_IndexByte s c w)
  have e47 : (47 : Int).toNat.toUInt8 = 47 := rfl
  have e0 : (0 : Int).toNat.toUInt8 = 0 := rfl
  by_cases m47 : (47 : UInt8) ∈ s.data.toList
  · have H := hide (entB_bad m47 (.inl rfl))
    have hx : ¬ Lib.indexByte s.data.toList 47 < 0 := fun h => i47.1 h m47
    clear i47 i0 m47 e0
    generalize hX : Lib.indexByte s.data.toList 47 = X at *
    have HX := hide hX
    clear hX
    go_enter Try.func83, Try.ntmps83
    go_wp2_with fail
    refine (unhide HI _ _).mono ?_
    rintro e w' ⟨rfl, hw⟩
    rw [hw, e47, unhide HX]
    go_wp2_with fail
    go_ret
    exact ⟨ret_bool (unhide H).symm, rfl⟩
  · have hx : Lib.indexByte s.data.toList 47 < 0 := i47.2 m47
    have H47 := hide m47
    clear i47 m47
    generalize hX : Lib.indexByte s.data.toList 47 = X at *
    have HX := hide hX
    clear hX
    have HE : Hid (entB s = decide (Lib.indexByte s.data.toList 0 < 0)) := by
      by_cases m0 : (0 : UInt8) ∈ s.data.toList
      · exact (entB_bad m0 (.inr rfl)).trans (decide_eq_false fun h => i0.1 h m0).symm
      · exact (entB_yes (by omega) (by omega) h3 h4 (fun b hb => ⟨fun e => unhide H47 (e ▸ hb), fun e => m0 (e ▸ hb)⟩)).trans (decide_eq_true (i0.2 m0)).symm
    clear i0
    generalize hY : Lib.indexByte s.data.toList 0 = Y at *
    have HY := hide hY
    clear hY
    go_enter Try.func83, Try.ntmps83
    go_wp2_with fail
    refine (unhide HI _ _).mono ?_
    rintro e w' ⟨rfl, hw⟩
    rw [hw, e47, unhide HX]
    clear hw w'
    go_wp2_with fail
    refine (unhide HI _ _).mono ?_
    rintro e w' ⟨rfl, hw⟩
    rw [hw, e0, unhide HY]
    clear hw w'
    go_wp2_with fail
    all_goals go_ret
    all_goals exact ⟨ret_bool (unhide HE).symm, rfl⟩
end Go.Proofs.Ytlbfcneboaihnaa.Tn
/- Check, in the code. -/
namespace Go.Proofs.Ytlbfcneboaihnaa.Tn
open Go.RowKit
/-- Has a node just what its kind has? -/
def formB (k : Int) (x : Bool) (d n nk : Nat) : Bool :=
  if k = 1 then decide (n = 0) && decide (nk = 0) else if k = 3 then !x && decide (n = 0) && decide (nk = 0) else if k = 2 then !x && decide (d = 0) && decide (nk = n) else false
set_option maxRecDepth 20000 in
set_option maxHeartbeats 1000000 in
theorem formed_any (k : Int) (x : Bool) (ad an ak : Option Addr) (d n nk cd cn ck : Nat) (w : World) :
    Calls Try.prog 82 #[nodeV k x (.slice ad d cd) (.slice an n cn) (.slice ak nk ck)] w fun e w' => e = .returned (.bool (formB k x d n nk)) ∧ Below w.heap.size w w' := by
  have hb : Below w.heap.size w (w.alloc (.cells #[.int .i64 k, .bool x, .slice ad d cd, .slice an n cn, .slice ak nk ck] 34)) := (Below.refl _ _).alloc (Nat.le_refl _) _
  by_cases h1 : k = 1
  · subst h1
    go_enter Try.func82, Try.ntmps82
    go_wp2_with fail
    all_goals go_ret
    all_goals refine ⟨ret_bool ?_, (Below.refl _ _).alloc (Nat.le_refl _) _⟩
    all_goals (clear hb; simp_all [formB] <;> (rw [Bool.eq_iff_iff]; simp <;> omega))
  by_cases h3 : k = 3
  · subst h3
    go_enter Try.func82, Try.ntmps82
    go_wp2_with fail
    all_goals go_ret
    all_goals refine ⟨ret_bool ?_, (Below.refl _ _).alloc (Nat.le_refl _) _⟩
    all_goals (clear hb; simp_all [formB] <;> (rw [Bool.eq_iff_iff]; simp <;> omega))
  by_cases h2 : k = 2
  · subst h2
    go_enter Try.func82, Try.ntmps82
    go_wp2_with fail
    all_goals go_ret
    all_goals refine ⟨ret_bool ?_, (Below.refl _ _).alloc (Nat.le_refl _) _⟩
    all_goals (clear hb; simp_all [formB] <;> (rw [Bool.eq_iff_iff]; simp <;> omega))
  have e1 : (k == 1) = false := by simpa using h1
  have e2 : (k == 2) = false := by simpa using h2
  have e3 : (k == 3) = false := by simpa using h3
  have HF : Hid (formB k x d n nk = false) := by unfold formB; show (if k = 1 then _ else _) = false; rw [if_neg h1, if_neg h3, if_neg h2]
  clear h1 h2 h3
  go_enter Try.func82, Try.ntmps82
  go_wp2_with fail
  all_goals go_ret
  all_goals refine ⟨ret_bool ?_, (Below.refl _ _).alloc (Nat.le_refl _) _⟩
  all_goals exact (unhide HF).symm
theorem form_no {k : Int} {x : Bool} {d nk : Nat} {ns : List ByteArray} (h : formB k x d ns.length nk = false) : locErr k x d ns nk = 3 := by
  unfold formB at h
  unfold locErr
  obtain ⟨n, hn⟩ : ∃ n, n = ns.length := ⟨_, rfl⟩
  rw [← hn] at h ⊢
  clear hn
  by_cases h1 : k = 1
  · rw [if_pos h1] at h ⊢
    rw [if_pos]; simp at h; omega
  rw [if_neg h1] at h ⊢
  by_cases h3 : k = 3
  · rw [if_pos h3] at h ⊢
    rw [if_pos]; cases x <;> simp at h ⊢; omega
  rw [if_neg h3] at h ⊢
  by_cases h2 : k = 2
  · rw [if_pos h2] at h ⊢
    rw [if_pos]; cases x <;> simp at h ⊢; omega
  rw [if_neg h2]
theorem form_yes {k : Int} {x : Bool} {d n nk : Nat} (h : formB k x d n nk = true) : (k = 1 ∧ n = 0 ∧ nk = 0) ∨ (k = 3 ∧ x = false ∧ n = 0 ∧ nk = 0) ∨ (k = 2 ∧ x = false ∧ d = 0 ∧ nk = n) := by
  unfold formB at h
  by_cases h1 : k = 1
  · rw [if_pos h1] at h; simp at h; exact .inl ⟨h1, h⟩
  rw [if_neg h1] at h
  by_cases h3 : k = 3
  · rw [if_pos h3] at h; simp at h; exact .inr (.inl ⟨h3, h.1.1, h.1.2, h.2⟩)
  rw [if_neg h3] at h
  by_cases h2 : k = 2
  · rw [if_pos h2] at h; simp at h; exact .inr (.inr ⟨h2, h.1.1, h.1.2, h.2⟩)
  rw [if_neg h2] at h; cases h
theorem loc_file {x : Bool} {d nk : Nat} {ns : List ByteArray} (h0 : ns.length = 0) (hk : nk = 0) : locErr 1 x d ns nk = if 1048576 < d then 5 else 0 := by
  unfold locErr; rw [if_pos rfl, if_neg (by omega)]
theorem loc_link {d nk : Nat} {ns : List ByteArray} (h0 : ns.length = 0) (hk : nk = 0) : locErr 3 false d ns nk = if 1000 < d then 5 else if d = 0 then 3 else 0 := by
  unfold locErr; rw [if_neg (by omega), if_pos rfl, if_neg (by simp only [Bool.false_eq_true, or_false]; omega)]
theorem loc_dir_ok {ns : List ByteArray} (h : okNames ns) : locErr 2 false 0 ns ns.length = 0 := by
  unfold locErr; rw [if_neg (by omega), if_neg (by omega), if_pos rfl, if_neg (by simp), if_pos h]
theorem loc_dir_no {ns : List ByteArray} (h : ¬ okNames ns) : locErr 2 false 0 ns ns.length = 9 := by
  unfold locErr; rw [if_neg (by omega), if_neg (by omega), if_pos rfl, if_neg (by simp), if_neg h]
theorem okNames_nil {ns : List ByteArray} (h : ns.length = 0) : okNames ns := fun i hi => by omega
theorem ret_i {a b : Int} (h : a = b) : Ending.returned (.int .i64 a) = .returned (.int .i64 b) := by rw [h]
theorem okName_first {ns : List ByteArray} (h : 0 < ns.length) : okName ns 0 = entB ns[0] := by
  unfold okName; rw [List.getElem?_eq_getElem h]; simp
theorem okName_next {ns : List ByteArray} {i : Nat} (h : i + 1 < ns.length) : okName ns (i + 1) = (entB ns[i + 1] && decide ((ns.getD i ⟨#[]⟩).toList < ns[i + 1].toList)) := by
  unfold okName
  rw [List.getElem?_eq_getElem h]
  have e : (i + 1 == 0) = false := by simp
  simp only [e, Bool.false_or, Nat.add_sub_cancel]
end Go.Proofs.Ytlbfcneboaihnaa.Tn
/- Texts by their bytes: their order. No Go text is named here. -/
namespace Go.Proofs.Ytlbfcneboaihnaa.Tn
namespace Ord
abbrev S := List UInt8
instance : Std.Irrefl (α := UInt8) (· < ·) := ⟨fun a h => by have : a.toNat < a.toNat := h; omega⟩
theorem irrefl (a : S) : ¬ a < a := List.lt_irrefl a
theorem trans {a b c : S} (h1 : a < b) (h2 : b < c) : a < c := List.lt_trans h1 h2
theorem le_of {a b : S} : a ≤ b ↔ ¬ b < a := Iff.rfl
theorem tri (a b : S) : a < b ∨ a = b ∨ b < a := by
  by_cases h1 : a < b
  · exact .inl h1
  · by_cases h2 : b < a
    · exact .inr (.inr h2)
    · exact .inr (.inl (List.le_antisymm (show a ≤ b from h2) (show b ≤ a from h1)))
theorem le_total (a b : S) : a ≤ b ∨ b ≤ a := by
  rcases tri a b with h | rfl | h
  · exact .inl fun h2 => irrefl a (trans h h2)
  · exact .inl (irrefl a)
  · exact .inr fun h2 => irrefl b (trans h h2)
theorem le_trans {a b c : S} (h1 : a ≤ b) (h2 : b ≤ c) : a ≤ c := fun h => by
  rcases tri a b with h3 | rfl | h3
  · exact h2 (trans h h3)
  · exact h2 h
  · exact h1 h3
theorem lt_of_le_ne {a b : S} (h1 : a ≤ b) (h2 : a ≠ b) : a < b := by
  rcases tri a b with h | h | h
  · exact h
  · exact absurd h h2
  · exact absurd h h1
theorem lt_of_le_lt {a b c : S} (h1 : a ≤ b) (h2 : b < c) : a < c := by
  rcases tri a b with h | rfl | h
  · exact trans h h2
  · exact h2
  · exact absurd h h1
end Ord
theorem less_no {a b : List UInt8} (h : Op.bytesLess a b = false ∧ (a == b) = false) : b < a := by
  have h1 : ¬ a < b := by have := h.1; rw [Go.Proofs.bytesLess_eq] at this; simpa using this
  have h2 : a ≠ b := by simpa using h.2
  rcases Ord.tri a b with h | h | h
  · exact absurd h h1
  · exact absurd h h2
  · exact h
theorem less_yes {a b : List UInt8} (h : Op.bytesLess a b = true ∨ (a == b) = true) : ¬ b < a := by
  rcases h with h | h
  · rw [Go.Proofs.bytesLess_eq] at h
    have h1 : a < b := by simpa using h
    exact fun h2 => Ord.irrefl a (Ord.trans h1 h2)
  · obtain rfl : a = b := by simpa using h
    exact Ord.irrefl a
end Go.Proofs.Ytlbfcneboaihnaa.Tn
/- A node alone, in the code. -/
namespace Go.Proofs.Ytlbfcneboaihnaa.Tn
open Go.RowKit
set_option maxRecDepth 20000 in
set_option maxHeartbeats 1000000 in
theorem node_any (lo hi : Nat) (k : Int) (x : Bool) (d : Nat) (ns : List ByteArray) (ad an ak : Option Addr) (nk cd cn ck : Nat) (w : World) (hd : d ≤ 140737488355328) (hn : ns.length ≤ 140737488355328) (hk : nk ≤ 140737488355328) (hs : ∀ s ∈ ns, s.size ≤ 140737488355328)
    (hR : Row lo hi w (.slice an ns.length cn) ns.length (ns.map .string)) (hhi : hi ≤ w.heap.size) :
    Calls Try.prog 63 #[nodeV k x (.slice ad d cd) (.slice an ns.length cn) (.slice ak nk ck)] w fun e w' => e = .returned (.int .i64 ((locErr k x d ns nk : Nat) : Int)) ∧ Below w.heap.size w w' := by
  have HF := hide (fun w => formed_any k x ad an ak d ns.length nk cd cn ck w)
  have hb0 : Below w.heap.size w (w.alloc (.cells #[.int .i64 k, .bool x, .slice ad d cd, .slice an ns.length cn, .slice ak nk ck] 34)) := (Below.refl _ _).alloc (Nat.le_refl _) _
  have hB0 := bx_new w (.int .i64 k) (.bool x) (.slice ad d cd) (.slice an ns.length cn) (.slice ak nk ck)
  go_enter Try.func63, Try.ntmps63
  go_wp2_with fail
  refine (unhide HF _).mono ?_
  rintro e w1 ⟨rfl, hb1⟩
  have hB1 := hB0.kept hb1 (by simp)
  have hbl : Below w.heap.size w w1 := hb0.trans (hb1.mono (by simp))
  obtain ⟨c0, c1, c2, c3, c4⟩ := hB1.cells
  clear hb0 hb1 hB0
  cases hform : formB k x d ns.length nk
  case false =>
    have HE := hide (form_no hform)
    go_wp2_with fail
    go_ret
    exact ⟨by rw [unhide HE]; rfl, hbl⟩
  have hf := form_yes hform
  by_cases h5 : (k = 1 ∧ 1048576 < d) ∨ (k = 3 ∧ 1000 < d)
  · have HE : Hid (locErr k x d ns nk = 5) := by
      show locErr k x d ns nk = 5
      rcases hf with ⟨rfl, h0, hk⟩ | ⟨rfl, rfl, h0, hk⟩ | ⟨rfl, _⟩
      · rw [loc_file h0 hk, if_pos (by omega)]
      · rw [loc_link h0 hk, if_pos (by omega)]
      · omega
    clear hf
    rcases h5 with ⟨rfl, h5⟩ | ⟨rfl, h5⟩
    all_goals
      go_wp2_with fail
      go_ret
      exact ⟨by rw [unhide HE]; rfl, hbl⟩
  by_cases hl0 : k = 3 ∧ d = 0
  · obtain ⟨rfl, rfl⟩ := hl0
    have HE : Hid (locErr 3 x 0 ns nk = 3) := by
      show locErr 3 x 0 ns nk = 3
      rcases hf with ⟨h, _⟩ | ⟨_, rfl, h0, hk⟩ | ⟨h, _⟩
      · omega
      · rw [loc_link h0 hk, if_neg (by omega), if_pos rfl]
      · omega
    clear hf h5
    go_wp2_with fail
    go_ret
    exact ⟨by rw [unhide HE]; rfl, hbl⟩
  have HE0 : Hid (okNames ns → locErr k x d ns nk = 0) := fun hok => by
    rcases hf with ⟨rfl, h0, hk⟩ | ⟨rfl, rfl, h0, hk⟩ | ⟨rfl, rfl, rfl, rfl⟩
    · rw [loc_file h0 hk, if_neg (by omega)]
    · rw [loc_link h0 hk, if_neg (by omega), if_neg (by omega)]
    · exact loc_dir_ok hok
  have HE9 : Hid (¬ okNames ns → locErr k x d ns nk = 9) := fun hok => by
    rcases hf with ⟨rfl, h0, hk⟩ | ⟨rfl, rfl, h0, hk⟩ | ⟨rfl, rfl, rfl, rfl⟩
    · exact absurd (okNames_nil h0) hok
    · exact absurd (okNames_nil h0) hok
    · exact loc_dir_no hok
  have HR := hide (hR.below hbl hhi)
  have HS := hide hs
  clear hR hs
  have hcat : (k = 1 ∧ ¬ 1048576 < d ∧ ns.length = 0) ∨ (k = 3 ∧ ¬ 1000 < d ∧ ¬ d = 0 ∧ ns.length = 0) ∨ k = 2 := by
    rcases hf with ⟨rfl, h, _⟩ | ⟨rfl, _, h, _⟩ | ⟨rfl, _⟩
    · exact .inl ⟨rfl, by omega, h⟩
    · exact .inr (.inl ⟨rfl, by omega, by omega, h⟩)
    · exact .inr (.inr rfl)
  clear hf h5 hl0
  rcases hcat with ⟨rfl, h5, hz⟩ | ⟨rfl, h5, h6, hz⟩ | rfl
  · have HK := hide (unhide HE0 (okNames_nil hz))
    obtain rfl : ns = [] := List.eq_nil_of_length_eq_zero hz
    clear hz
    go_wp2_with fail
    go_loop [41] (fun vi => vi = .int .i64 0) (fun _ => 0)
    case atStart => rfl
    case round =>
      subst hrel
      go_wp2_with fail
      go_ret
      exact ⟨by rw [unhide HK]; rfl, hbl⟩
  · have HK := hide (unhide HE0 (okNames_nil hz))
    obtain rfl : ns = [] := List.eq_nil_of_length_eq_zero hz
    clear hz
    go_wp2_with fail
    go_loop [41] (fun vi => vi = .int .i64 0) (fun _ => 0)
    case atStart => rfl
    case round =>
      subst hrel
      go_wp2_with fail
      go_ret
      exact ⟨by rw [unhide HK]; rfl, hbl⟩
  all_goals
    go_wp2_with fail
    go_loop [41] (fun vi => ∃ i : Nat, i ≤ ns.length ∧ vi = .int .i64 (i : Int) ∧ Hid (∀ j, j < i → okName ns j = true)) (fun vi => ns.length - (intOf vi).toNat)
    case atStart => exact ⟨0, by omega, rfl, fun j h => by omega⟩
    case round =>
      obtain ⟨i, hin, rfl, hall⟩ := hrel
      by_cases hlt : i < ns.length
      · obtain ⟨g, o, rfl, hg1, hg2, hcell⟩ := (unhide HR).at (by omega)
        have hci : w1.cell? ⟨g, o + i, none⟩ = some (.string ns[i]) := hcell i _ (by simp [List.getElem?_eq_getElem hlt])
        have HEn := hide (fun w => ent_any ns[i] w (by have := unhide HS ns[i] (List.getElem_mem hlt); omega))
        have hsi := unhide HS ns[i] (List.getElem_mem hlt)
        cases i with
        | zero =>
          have HO := hide (okName_first hlt)
          simp only [Nat.add_zero] at hci
          clear hcell
          generalize ns[0] = s at *
          cases hent : entB s
          case false =>
            have HB : Hid (¬ okNames ns) := fun h => by have := h 0 hlt; rw [unhide HO, hent] at this; simp at this
            have HK := hide (unhide HE9 (unhide HB))
            go_wp2_with (go_at_call 83; refine (unhide HEn _).mono ?_; rintro e w2 ⟨rfl, hw2⟩; rw [hw2, hent]; clear hw2 w2)
            go_ret
            exact ⟨by rw [unhide HK]; rfl, hbl⟩
          case true =>
            go_wp2_with (go_at_call 83; refine (unhide HEn _).mono ?_; rintro e w2 ⟨rfl, hw2⟩; rw [hw2, hent]; clear hw2 w2)
            go_round
            case rel => exact ⟨1, by omega, by go_num, fun j hj => by
              obtain rfl : j = 0 := by omega
              rw [unhide HO, hent]⟩
            case measure => simp [intOf]; omega
        | succ i =>
          have hcj : w1.cell? ⟨g, o + i, none⟩ = some (.string (ns.getD i ⟨#[]⟩)) := hcell i _ (by simp [List.getElem?_eq_getElem (show i < ns.length by omega), List.getD_eq_getElem?_getD])
          have HO := hide (okName_next hlt)
          clear hcell
          generalize ns.getD i ⟨#[]⟩ = q at *
          generalize ns[i + 1] = s at *
          cases hent : entB s
          case false =>
            have HB : Hid (¬ okNames ns) := fun h => by have := h (i + 1) hlt; rw [unhide HO, hent] at this; simp at this
            have HK := hide (unhide HE9 (unhide HB))
            go_wp2_with (go_at_call 83; refine (unhide HEn _).mono ?_; rintro e w2 ⟨rfl, hw2⟩; rw [hw2, hent]; clear hw2 w2)
            go_ret
            exact ⟨by rw [unhide HK]; rfl, hbl⟩
          case true =>
            go_wp2_with (go_at_call 83; refine (unhide HEn _).mono ?_; rintro e w2 ⟨rfl, hw2⟩; rw [hw2, hent]; clear hw2 w2)
            · rename_i hle
              have hno : ¬ okNames ns := fun h => by have := h (i + 1) hlt; rw [unhide HO, hent] at this; exact less_yes hle (by simpa using this)
              have HK := hide (unhide HE9 hno)
              go_ret
              exact ⟨by rw [unhide HK]; rfl, hbl⟩
            · rename_i hle
              have HY : Hid (okName ns (i + 1) = true) := by show okName ns (i + 1) = true; rw [unhide HO, hent]; simpa using less_no hle
              go_round
              case rel => exact ⟨i + 1 + 1, by omega, by go_num, fun j hj => by
                by_cases e : j = i + 1
                · subst e; exact unhide HY
                · exact unhide hall j (by omega)⟩
              case measure => simp [intOf]; omega
      · have HK := hide (unhide HE0 (fun j hj => unhide hall j (by omega)))
        go_wp2_with fail
        go_ret
        exact ⟨by rw [unhide HK]; rfl, hbl⟩
end Go.Proofs.Ytlbfcneboaihnaa.Tn
/- Bounds: what is not much has no long parts. -/
namespace Go.Proofs.Ytlbfcneboaihnaa.Tn
open Go.RowKit
theorem below_drewN {B : Nat} {a w : World} (h : Below B a w) (n : Nat) : Below B a (w.drewN n) := h.trans ⟨rfl, rfl, rfl, Nat.le_refl _, fun _ _ => rfl⟩
theorem Sole.drewN {g : Nat} {a b : World} (h : Sole g a b) (n : Nat) : Sole g a (b.drewN n) := ⟨h.os, h.tape, h.output, h.size, h.block⟩
theorem Ctr.drewN {w : World} {c : Nat} {v : Value} (h : Ctr w c v) (n : Nat) : Ctr (w.drewN n) c v := ⟨h.cell, h.fr⟩
theorem Bx.drewN {w : World} {b : Nat} {v0 v1 v2 v3 v4 : Value} (h : Bx w b v0 v1 v2 v3 v4) (n : Nat) : Bx (w.drewN n) b v0 v1 v2 v3 v4 := h
/-- A kid, its slices as such. -/
theorem kid_sl {lo hi : Nat} {w : World} {ks : List Tr} {Ks : List (List Value)} {g o : Nat} (hl : Ks.length = ks.length) (hcell : ∀ j u, Ks.flatten[j]? = some u → w.cell? ⟨g, o + j, none⟩ = some u)
    (hK : ∀ (i : Nat) (t : Tr) (c : List Value), ks[i]? = some t → Ks[i]? = some c → Lies lo hi w t c) (i : Nat) (hi' : i < ks.length) :
    ∃ k x a1 n1 c1 a2 n2 c2 a3 n3 c3, Lies lo hi w ks[i] [.int .i64 k, .bool x, .slice a1 n1 c1, .slice a2 n2 c2, .slice a3 n3 c3] ∧ w.cell? ⟨g, o + i * 5, none⟩ = some (.int .i64 k) ∧ w.cell? ⟨g, o + i * 5 + 1, none⟩ = some (.bool x) ∧ w.cell? ⟨g, o + i * 5 + 2, none⟩ = some (.slice a1 n1 c1) ∧ w.cell? ⟨g, o + i * 5 + 3, none⟩ = some (.slice a2 n2 c2) ∧ w.cell? ⟨g, o + i * 5 + 4, none⟩ = some (.slice a3 n3 c3) := by
  obtain ⟨k, x, vd, vn, vk, hL, z0, z1, z2, z3, z4⟩ := kid_at hl hcell hK i hi'
  generalize ks[i] = t at *
  cases hL with
  | mk _ _ d ns ks' _ _ _ Ks' hl' hd hn hk hK' =>
    obtain ⟨a1, c1, rfl, _⟩ := hd.slice
    obtain ⟨a2, c2, rfl, _⟩ := hn.slice
    obtain ⟨a3, c3, rfl, _⟩ := hk.slice
    exact ⟨k, x, a1, _, c1, a2, _, c2, a3, _, c3, .mk k x d ns ks' _ _ _ Ks' hl' hd hn hk hK', z0, z1, z2, z3, z4⟩
theorem wt_pos (T : Tr) : 1 ≤ wt T := by cases T; rw [wt]; omega
theorem wts_mem {l : List Tr} {t : Tr} (h : t ∈ l) : wt t ≤ wts l := by
  induction l with
  | nil => simp at h
  | cons a r ih =>
    rw [wts]
    rcases List.mem_cons.1 h with rfl | h
    · omega
    · have := ih h; omega
theorem wts_len (l : List Tr) : l.length ≤ wts l := by
  induction l with
  | nil => simp
  | cons a r ih => rw [wts, List.length_cons]; have := wt_pos a; omega
theorem tenths_mem {l : List ByteArray} {s : ByteArray} (h : s ∈ l) : s.size / 10 ≤ tenths l := by
  induction l with
  | nil => simp at h
  | cons a r ih =>
    rw [tenths]
    rcases List.mem_cons.1 h with rfl | h
    · omega
    · have := ih h; omega
structure Small (d : ByteArray) (ns : List ByteArray) (ks : List Tr) : Prop where
  d : d.size ≤ 140737488355328
  n : ns.length ≤ 8796093022208
  s : ∀ s ∈ ns, s.size ≤ 140737488355328
  k : ks.length ≤ 1599289640401
  t : ∀ t ∈ ks, Fit t
theorem small_of {k : Int} {x : Bool} {d : ByteArray} {ns : List ByteArray} {ks : List Tr} (h : Fit (.mk k x d ns ks)) : Small d ns ks := by
  cases h with
  | mk _ _ _ _ _ h1 h2 h3 h4 h5 => exact ⟨h1, h2, h3, h4, h5⟩
theorem chk_ok (T : Tr) : ∀ deep n, (chk T deep n).1 = 0 → (chk T deep n).2 ≤ 65536 := by
  induction T using Tr.ind with
  | h k x d ns ks ih =>
  have hs : ∀ l : List Tr, (∀ t ∈ l, t ∈ ks) → ∀ deep n, n ≤ 65536 → (chks l deep n).1 = 0 → (chks l deep n).2 ≤ 65536 := by
    intro l
    induction l with
    | nil => intro _ deep n hn _; simpa [chks] using hn
    | cons t r ihr =>
      intro hm deep n hn h
      rw [chks] at h ⊢
      by_cases he : (chk t deep n).1 = 0
      · rw [if_pos he] at h ⊢
        exact ihr (fun t ht => hm t (by simp [ht])) deep _ (ih t (hm t (by simp)) deep n he) h
      · rw [if_neg he] at h ⊢
        exact absurd h he
  intro deep n h
  rw [chk] at h ⊢
  split at h
  · simp at h
  · rename_i hb
    rw [if_neg hb]
    split at h
    · rename_i h0; rw [if_pos h0]; exact hs ks (fun _ h => h) _ _ (by omega) h
    · rename_i h0; exact absurd h h0
theorem chk_le (T : Tr) (deep n : Nat) : (chk T deep n).1 ≤ 9 := by
  induction T using Tr.ind generalizing deep n with
  | h k x d ns ks ih =>
  have hs : ∀ l : List Tr, (∀ t ∈ l, t ∈ ks) → ∀ deep n, (chks l deep n).1 ≤ 9 := by
    intro l
    induction l with
    | nil => intro _ deep n; simp [chks]
    | cons t r ihr =>
      intro hm deep n
      rw [chks]
      split
      · exact ihr (fun t ht => hm t (by simp [ht])) deep _
      · exact ih t (hm t (by simp)) deep n
  rw [chk]
  split
  · simp
  · split
    · exact hs ks (fun _ h => h) _ _
    · simp only
      unfold locErr
      split
      · split
        · omega
        · split <;> omega
      · split
        · split
          · omega
          · split
            · omega
            · split <;> omega
        · split
          · split
            · omega
            · split <;> omega
          · omega
end Go.Proofs.Ytlbfcneboaihnaa.Tn
/- Check, in the code: every node and all below. -/
namespace Go.Proofs.Ytlbfcneboaihnaa.Tn
open Go.RowKit
set_option maxRecDepth 20000 in
set_option maxHeartbeats 1000000 in
theorem chkC_any (T : Tr) : ∀ (lo hi : Nat) (cs : List Value) (w : World) (c deep n : Nat), Lies lo hi w T cs → Fit T → Ctr w c (.int .i64 (n : Int)) → hi ≤ c → n ≤ 65536 → deep ≤ 65 →
    Calls Try.prog 49 #[.agg cs.toArray, .int .i64 (deep : Int), .pointer (some ⟨c, 0, none⟩)] w fun e w' => e = .returned (.int .i64 (((chk T deep n).1 : Nat) : Int)) ∧ Sole c w w' ∧ Ctr w' c (.int .i64 (((chk T deep n).2 : Nat) : Int)) := by
  induction T using Tr.ind with
  | h k x d ns ks ih =>
  intro lo hi cs w c deep n hL hW hC hhi hn0 hd0
  have hSm := small_of hW
  cases hL with
  | mk _ _ _ _ _ vd vn vk Ks hl hd hn hk hK =>
  obtain ⟨ad, cd, rfl, hcd⟩ := hd.slice
  obtain ⟨an, cn, rfl, hcn⟩ := hn.slice
  obtain ⟨ak, ck, rfl, hck⟩ := hk.slice
  have hcl := hC.lt
  obtain ⟨z, hz⟩ : ∃ z : Int, z = (n : Int) := ⟨_, rfl⟩
  rw [← hz] at hC
  have HC := hide hC
  have hkl := hSm.k
  obtain ⟨hcc, hcf⟩ := hC
  have hS0 : Sole c w ((w.setCell ⟨c, 0, none⟩ (.int .i64 (z + 1))).alloc (.cells #[.int .i64 k, .bool x, .slice ad d.size cd, .slice an ns.length cn, .slice ak ks.length ck] 34)) := (((Sole.refl c w).setCell 0 _).alloc _)
  have hB0 : Bx ((w.setCell ⟨c, 0, none⟩ (.int .i64 (z + 1))).alloc (.cells #[.int .i64 k, .bool x, .slice ad d.size cd, .slice an ns.length cn, .slice ak ks.length ck] 34)) w.heap.size (.int .i64 k) (.bool x) (.slice ad d.size cd) (.slice an ns.length cn) (.slice ak ks.length ck) := bx_new' _ _ _ _ _ _ _ _
  have hC0 : Ctr ((w.setCell ⟨c, 0, none⟩ (.int .i64 (z + 1))).alloc (.cells #[.int .i64 k, .bool x, .slice ad d.size cd, .slice an ns.length cn, .slice ak ks.length ck] 34)) c (.int .i64 (z + 1)) :=
    ((unhide HC).set (.int .i64 (z + 1))).below ((Below.refl w.heap.size _).alloc (by simp) (.cells #[.int .i64 k, .bool x, .slice ad d.size cd, .slice an ns.length cn, .slice ak ks.length ck] 34)) hcl
  have H0 := hide (And.intro hS0 (And.intro hB0 hC0))
  clear hS0 hB0 hC0
  obtain ⟨E, M, hEM⟩ : ∃ E M, chk (.mk k x d ns ks) deep n = (E, M) := ⟨_, _, rfl⟩
  rw [hEM]
  simp only
  have HEM := hide hEM
  clear hEM
  have hn1 : z ≤ 1000000 := by omega
  have hn2 : 0 ≤ z := by omega
  have HZ : Hid (((n + 1 : Nat) : Int) = z + 1) := by show ((n + 1 : Nat) : Int) = z + 1; omega
  have hd1 : (deep : Int) ≤ 1000 := by omega
  have hkl1 : (ks.length : Int) ≤ 1599289640401 := by omega
  by_cases hbig : 65536 < n + 1 ∨ 64 < deep
  · have HE : (5, n + 1) = (E, M) := by rw [← unhide HEM, chk, if_pos hbig]
    obtain ⟨rfl, rfl⟩ := Prod.mk.inj HE
    clear HE HEM
    clear hd hn hk hK hl ih hSm hW
    have hbig' : (65536 : Int) < z + 1 ∨ (64 : Int) < (deep : Int) := by omega
    clear hbig
    rw [unhide HZ]
    clear hn0 hd0 hkl hz HZ
    rcases hbig' with hbig | hbig
    all_goals
      go_enter Try.func49, Try.ntmps49
      go_wp2_with fail
      all_goals go_ret
      all_goals exact ⟨rfl, (unhide H0).1, (unhide H0).2.2⟩
  have hbig1 : ¬ (65536 : Int) < z + 1 := by omega
  have HNb : Hid (n + 1 ≤ 65536) := by show n + 1 ≤ 65536; omega
  have hbig2 : ¬ (64 : Int) < (deep : Int) := by omega
  have HE : Hid ((E, M) = if locErr k x d.size ns ks.length = 0 then chks ks (deep + 1) (n + 1) else (locErr k x d.size ns ks.length, n + 1)) := by show (E, M) = _; rw [← unhide HEM, chk, if_neg hbig]
  clear HEM
  have HN := hide (fun w (h : Row lo hi w (.slice an ns.length cn) ns.length (ns.map .string)) (hw : hi ≤ w.heap.size) => node_any lo hi k x d.size ns ad an ak ks.length cd cn ck w (by have := hSm.d; omega) (by have := hSm.n; omega) (by have := hSm.k; omega) (fun s hs => by have := hSm.s s hs; omega) h hw)
  have HT := hide hSm.t
  have HR := hide (And.intro hn (And.intro hk (And.intro hl hK)))
  have HN0 := hide hn0
  have HD0 := hide (show deep ≤ 64 by omega)
  clear hd hn hk hK hl hSm hW hbig hn0 hd0 hkl hz
  go_enter Try.func49, Try.ntmps49
  go_wp2_with fail
  obtain ⟨hS0, hB0, hC0⟩ := unhide H0
  clear H0 hcc hcf HC
  generalize (w.setCell ⟨c, 0, none⟩ (.int .i64 (z + 1))).alloc (.cells #[.int .i64 k, .bool x, .slice ad d.size cd, .slice an ns.length cn, .slice ak ks.length ck] 34) = w1 at *
  rw [← unhide HZ] at hC0
  have hz1 := hS0.size
  refine (unhide HN _ ((unhide HR).1.below (hS0.below hhi (by omega)) (Nat.le_refl _)) (by omega)).mono ?_
  rintro e w2 ⟨rfl, hb2⟩
  have hS2 : Sole c w w2 := hS0.trans (Sole.of_below hb2)
  have hB2 := hB0.kept hb2 hB0.lt
  have hC2 := hC0.below hb2 hC0.lt
  clear HN hb2 hS0 hB0 hC0
  by_cases hloc : locErr k x d.size ns ks.length = 0
  case neg =>
    have hne : (((locErr k x d.size ns ks.length : Nat) : Int) == 0) = false := by rw [beq_eq_false_iff_ne]; omega
    have HE' := unhide HE
    rw [if_neg hloc] at HE'
    obtain ⟨rfl, rfl⟩ := Prod.mk.inj HE'
    clear hloc HE HE'
    go_wp2_with fail
    go_ret
    exact ⟨rfl, hS2, hC2⟩
  have HE' : Hid (chks ks (deep + 1) (n + 1) = (E, M)) := by show _ = (E, M); rw [unhide HE, if_pos hloc]
  rw [hloc]
  clear HE hloc
  obtain ⟨c0, c1, c2, c3, c4⟩ := hB2.cells
  go_wp2_with fail
  clear c0 c1 c2 c3 c4
  go_loopw [32] (fun vi wr => ∃ i m : Nat, i ≤ ks.length ∧ vi = .int .i64 (i : Int) ∧ Sole c w wr ∧ Ctr wr c (.int .i64 (m : Int)) ∧ Hid (m ≤ 65536) ∧ Hid (chks (ks.drop i) (deep + 1) m = (E, M))) (fun vi _ => ks.length - (intOf vi).toNat)
  case atStart => exact ⟨0, n + 1, by omega, rfl, hS2, hC2, HNb, HE'⟩
  case round =>
    obtain ⟨i, m, hik, rfl, hS, hC, hm, hq⟩ := hrel
    by_cases hlt : i < ks.length
    · obtain ⟨g, o, rfl, hg1, hg2, hcell⟩ := (unhide HR).2.1.at (by omega)
      obtain ⟨hl, hK⟩ := (unhide HR).2.2
      have hbel := hS.below (base := hi) hhi (by omega)
      have hcell' : ∀ j u, Ks.flatten[j]? = some u → wr.cell? ⟨g, o + j, none⟩ = some u := fun j u hj => by rw [hbel.cell (p := ⟨g, o + j, none⟩) hg2]; exact hcell j u hj
      obtain ⟨k', x', a1, n1, c1, a2, n2, c2, a3, n3, c3, hLi, z0, z1, z2, z3, z4⟩ := kid_sl hl hcell' (fun i t c h1 h2 => (hK i t c h1 h2).kept hbel (Nat.le_refl _)) i hlt
      have hzr := hS.size
      have HI := hide (fun w' (h : Lies lo hi w' ks[i] [.int .i64 k', .bool x', Value.slice a1 n1 c1, Value.slice a2 n2 c2, Value.slice a3 n3 c3]) (hc : Ctr w' c (.int .i64 (m : Int))) => ih ks[i] (List.getElem_mem hlt) lo hi _ w' c (deep + 1) m h (unhide HT _ (List.getElem_mem hlt)) hc hhi (unhide hm) (by have := unhide HD0; omega))
      have HLi := hide hLi
      have HQ := hide (chks_step ks i (deep + 1) m hlt)
      have HM := hide (chk_ok ks[i] (deep + 1) m)
      have HCr := hide hC
      clear hcell hcell' hl hK hLi hC
      generalize ks[i] = t at *
      go_wp2_with fail
      have hbr : Below wr.heap.size wr (wr.alloc (.cells #[.int .i64 k', .bool x', Value.slice a1 n1 c1, Value.slice a2 n2 c2, Value.slice a3 n3 c3] 34)) := (Below.refl _ _).alloc (Nat.le_refl _) _
      refine (unhide HI _ ((unhide HLi).kept hbr (by omega)) ((unhide HCr).below hbr (by omega))).mono ?_
      rintro e w3 ⟨rfl, hS3, hC3⟩
      have hS4 : Sole c w w3 := (hS.alloc _).trans hS3
      clear hS3 hbr HI HLi HCr z0 z1 z2 z3 z4
      by_cases he : (chk t (deep + 1) m).1 = 0
      · have hq' : Hid (chks (ks.drop (i + 1)) (deep + 1) (chk t (deep + 1) m).2 = (E, M)) := by
          have h := unhide HQ
          rw [if_pos he, unhide hq] at h
          exact h.symm
        have hm' : Hid ((chk t (deep + 1) m).2 ≤ 65536) := unhide HM he
        rw [he]
        clear HQ HM he hq hm
        generalize (chk t (deep + 1) m).2 = m' at *
        have HS4 := hide (And.intro hS4 hC3)
        clear hC3 hS4
        go_wp2_with fail
        go_roundw
        case rel => exact ⟨i + 1, m', by omega, by go_num, (unhide HS4).1, (unhide HS4).2, hm', hq'⟩
        case measure => simp [intOf]; omega
      · have h := unhide HQ
        rw [if_neg he, unhide hq] at h
        have hne : ((((chk t (deep + 1) m).1 : Nat) : Int) == 0) = false := by rw [beq_eq_false_iff_ne]; omega
        rw [← h] at hC3 hne ⊢
        clear HQ HM he hq hm h
        go_wp2_with fail
        go_ret
        exact ⟨rfl, hS4, hC3⟩
    · obtain rfl : i = ks.length := by omega
      have HF := unhide hq
      rw [chks_end] at HF
      obtain ⟨rfl, rfl⟩ := Prod.mk.inj HF
      clear HF hq HE'
      go_wp2_with fail
      go_ret
      exact ⟨rfl, hS, hC⟩
end Go.Proofs.Ytlbfcneboaihnaa.Tn
/- Check, in the document's own answer. -/
namespace Go.Proofs.Ytlbfcneboaihnaa.Tn
open Go.RowKit
theorem loc_one {x : Bool} {d nk : Nat} {ns : List ByteArray} : locErr 1 x d ns nk = if 0 < ns.length ∨ 0 < nk then 3 else if 1048576 < d then 5 else 0 := by unfold locErr; rw [if_pos rfl]
theorem loc_three {x : Bool} {d nk : Nat} {ns : List ByteArray} : locErr 3 x d ns nk = if 0 < ns.length ∨ 0 < nk ∨ x = true then 3 else if 1000 < d then 5 else if d = 0 then 3 else 0 := by unfold locErr; rw [if_neg (by omega), if_pos rfl]
theorem loc_two_no {x : Bool} {d nk : Nat} {ns : List ByteArray} (h : x = true ∨ 0 < d ∨ ns.length ≠ nk) : locErr 2 x d ns nk = 3 := by unfold locErr; rw [if_neg (by omega), if_neg (by omega), if_pos rfl, if_pos h]
theorem loc_else {k : Int} {x : Bool} {d nk : Nat} {ns : List ByteArray} (h1 : k ≠ 1) (h2 : k ≠ 2) (h3 : k ≠ 3) : locErr k x d ns nk = 3 := by unfold locErr; rw [if_neg h1, if_neg h3, if_neg h2]
/-- What is no directory has no kids that are asked. -/
theorem chk_flat {k : Int} {x : Bool} {d : ByteArray} {ns : List ByteArray} {ks : List Tr} {deep n : Nat} (hk : k ≠ 2) (hb : ¬ (65536 < n + 1 ∨ 64 < deep)) : chk (.mk k x d ns ks) deep n = (locErr k x d.size ns ks.length, n + 1) := by
  rw [chk, if_neg hb]
  split
  · rename_i h0
    have hz : ks.length = 0 := by
      unfold locErr at h0
      split at h0
      · split at h0
        · omega
        · omega
      · split at h0
        · split at h0
          · omega
          · omega
        · omega
    obtain rfl : ks = [] := List.eq_nil_of_length_eq_zero hz
    rw [chks, h0]
  · rfl
set_option maxRecDepth 20000 in
set_option maxHeartbeats 1000000 in
theorem chkR_flat (k : Int) (x : Bool) (d : ByteArray) (ns : List ByteArray) (ks : List Tr) (lo hi : Nat) (cs : List Value) (w : World) (c deep n : Nat) (hL : Lies lo hi w (.mk k x d ns ks) cs) (hW : Fit (.mk k x d ns ks)) (hC : Ctr w c (.int .i64 (n : Int))) (_ : hi ≤ c) (hn0 : n ≤ 65536) (hd0 : deep ≤ 65)
    (hflat : k ≠ 2 ∨ 65536 < n + 1 ∨ 64 < deep) :
    Calls Try.prog 50 #[.agg cs.toArray, .int .i64 (deep : Int), .pointer (some ⟨c, 0, none⟩)] w fun e w' => e = .returned (.int .i64 (((chk (.mk k x d ns ks) deep n).1 : Nat) : Int)) ∧ Sole c w w' ∧ Ctr w' c (.int .i64 (((chk (.mk k x d ns ks) deep n).2 : Nat) : Int)) := by
  have hSm := small_of hW
  cases hL with
  | mk _ _ _ _ _ vd vn vk Ks hl hd hn hk hK =>
  obtain ⟨ad, cd, rfl, hcd⟩ := hd.slice
  obtain ⟨an, cn, rfl, hcn⟩ := hn.slice
  obtain ⟨ak, ck, rfl, hck⟩ := hk.slice
  have hcl := hC.lt
  obtain ⟨z, hz⟩ : ∃ z : Int, z = (n : Int) := ⟨_, rfl⟩
  rw [← hz] at hC
  have HC := hide hC
  have hkl := hSm.k
  obtain ⟨hcc, hcf⟩ := hC
  have hS0 : Sole c w ((w.setCell ⟨c, 0, none⟩ (.int .i64 (z + 1))).alloc (.cells #[.int .i64 k, .bool x, .slice ad d.size cd, .slice an ns.length cn, .slice ak ks.length ck] 34)) := (((Sole.refl c w).setCell 0 _).alloc _)
  have hB0 : Bx ((w.setCell ⟨c, 0, none⟩ (.int .i64 (z + 1))).alloc (.cells #[.int .i64 k, .bool x, .slice ad d.size cd, .slice an ns.length cn, .slice ak ks.length ck] 34)) w.heap.size (.int .i64 k) (.bool x) (.slice ad d.size cd) (.slice an ns.length cn) (.slice ak ks.length ck) := bx_new' _ _ _ _ _ _ _ _
  have hC0 : Ctr ((w.setCell ⟨c, 0, none⟩ (.int .i64 (z + 1))).alloc (.cells #[.int .i64 k, .bool x, .slice ad d.size cd, .slice an ns.length cn, .slice ak ks.length ck] 34)) c (.int .i64 (z + 1)) :=
    ((unhide HC).set (.int .i64 (z + 1))).below ((Below.refl w.heap.size _).alloc (by simp) (.cells #[.int .i64 k, .bool x, .slice ad d.size cd, .slice an ns.length cn, .slice ak ks.length ck] 34)) hcl
  have H0 := hide (And.intro hS0 (And.intro hB0 hC0))
  clear hS0 hB0 hC0
  obtain ⟨E, M, hEM⟩ : ∃ E M, chk (.mk k x d ns ks) deep n = (E, M) := ⟨_, _, rfl⟩
  rw [hEM]
  simp only
  have HEM := hide hEM
  clear hEM
  have hn1 : z ≤ 1000000 := by omega
  have hn2 : 0 ≤ z := by omega
  have HZ : Hid (((n + 1 : Nat) : Int) = z + 1) := by show ((n + 1 : Nat) : Int) = z + 1; omega
  have hd1 : (deep : Int) ≤ 1000 := by omega
  have hkl1 : (ks.length : Int) ≤ 1599289640401 := by omega
  by_cases hbig : 65536 < n + 1 ∨ 64 < deep
  · have HE : (5, n + 1) = (E, M) := by rw [← unhide HEM, chk, if_pos hbig]
    obtain ⟨rfl, rfl⟩ := Prod.mk.inj HE
    clear HE HEM
    clear hd hn hk hK hl hSm hW hflat
    have hbig' : (65536 : Int) < z + 1 ∨ (64 : Int) < (deep : Int) := by omega
    clear hbig
    rw [unhide HZ]
    clear hn0 hd0 hkl hz HZ
    rcases hbig' with hbig | hbig
    all_goals
      go_enter Try.func50, Try.ntmps50
      go_wp2_with fail
      all_goals go_ret
      all_goals exact ⟨rfl, (unhide H0).1, (unhide H0).2.2⟩
  have hbig1 : ¬ (65536 : Int) < z + 1 := by omega
  have hbig2 : ¬ (64 : Int) < (deep : Int) := by omega
  have HNb : Hid (n + 1 ≤ 65536) := by show n + 1 ≤ 65536; omega
  have HD0 := hide (show deep ≤ 64 by omega)
  have hk2 : k ≠ 2 := by rcases hflat with h | h | h
                         · exact h
                         · omega
                         · omega
  · clear hflat
    have HE : (locErr k x d.size ns ks.length, n + 1) = (E, M) := by rw [← unhide HEM, chk_flat hk2 hbig]
    obtain ⟨hE, rfl⟩ := Prod.mk.inj HE
    rw [unhide HZ]
    clear HE HEM hn0 hd0 hkl hz HZ HNb HD0 hSm hW hd hn hk hK hl hbig
    by_cases hk1 : k = 1
    · subst hk1
      rw [loc_one] at hE
      by_cases hn3 : 0 < ns.length
      · rw [if_pos (.inl hn3)] at hE
        subst hE
        go_enter Try.func50, Try.ntmps50
        go_wp2_with fail
        all_goals go_ret
        all_goals exact ⟨rfl, (unhide H0).1, (unhide H0).2.2⟩
      by_cases hk3 : 0 < ks.length
      · rw [if_pos (.inr hk3)] at hE
        subst hE
        go_enter Try.func50, Try.ntmps50
        go_wp2_with fail
        all_goals go_ret
        all_goals exact ⟨rfl, (unhide H0).1, (unhide H0).2.2⟩
      rw [if_neg (by omega)] at hE
      by_cases hd5 : 1048576 < d.size
      · rw [if_pos hd5] at hE
        subst hE
        go_enter Try.func50, Try.ntmps50
        go_wp2_with fail
        all_goals go_ret
        all_goals exact ⟨rfl, (unhide H0).1, (unhide H0).2.2⟩
      · rw [if_neg hd5] at hE
        subst hE
        go_enter Try.func50, Try.ntmps50
        go_wp2_with fail
        all_goals go_ret
        all_goals exact ⟨rfl, (unhide H0).1, (unhide H0).2.2⟩
    by_cases hk3 : k = 3
    · subst hk3
      rw [loc_three] at hE
      by_cases hn3 : 0 < ns.length
      · rw [if_pos (.inl hn3)] at hE
        subst hE
        go_enter Try.func50, Try.ntmps50
        go_wp2_with fail
        all_goals go_ret
        all_goals exact ⟨rfl, (unhide H0).1, (unhide H0).2.2⟩
      by_cases hk3 : 0 < ks.length
      · rw [if_pos (.inr (.inl hk3))] at hE
        subst hE
        go_enter Try.func50, Try.ntmps50
        go_wp2_with fail
        all_goals go_ret
        all_goals exact ⟨rfl, (unhide H0).1, (unhide H0).2.2⟩
      cases hx : x
      case true =>
        rw [if_pos (.inr (.inr hx))] at hE
        subst hx
        subst hE
        go_enter Try.func50, Try.ntmps50
        go_wp2_with fail
        all_goals go_ret
        all_goals exact ⟨rfl, (unhide H0).1, (unhide H0).2.2⟩
      rw [if_neg (by rw [hx]; simp only [Bool.false_eq_true, or_false]; omega)] at hE
      subst hx
      by_cases hd5 : 1000 < d.size
      · rw [if_pos hd5] at hE
        subst hE
        go_enter Try.func50, Try.ntmps50
        go_wp2_with fail
        all_goals go_ret
        all_goals exact ⟨rfl, (unhide H0).1, (unhide H0).2.2⟩
      rw [if_neg hd5] at hE
      by_cases hd6 : d.size = 0
      · rw [if_pos hd6] at hE
        rw [hd6] at H0
        subst hE
        go_enter Try.func50, Try.ntmps50
        go_wp2_with fail
        all_goals go_ret
        all_goals exact ⟨rfl, (unhide H0).1, (unhide H0).2.2⟩
      · rw [if_neg hd6] at hE
        have hd7 : ((d.size : Int) == 0) = false := by rw [beq_eq_false_iff_ne]; omega
        subst hE
        go_enter Try.func50, Try.ntmps50
        go_wp2_with fail
        all_goals go_ret
        all_goals exact ⟨rfl, (unhide H0).1, (unhide H0).2.2⟩
    rw [loc_else hk1 hk2 hk3] at hE
    have e1 : (k == 1) = false := by simpa using hk1
    have e2 : (k == 2) = false := by simpa using hk2
    have e3 : (k == 3) = false := by simpa using hk3
    clear hk1 hk2 hk3
    by_cases hn3 : 0 < ns.length
    · subst hE
      go_enter Try.func50, Try.ntmps50
      go_wp2_with fail
      all_goals go_ret
      all_goals exact ⟨rfl, (unhide H0).1, (unhide H0).2.2⟩
    obtain rfl : ns = [] := List.eq_nil_of_length_eq_zero (by omega)
    by_cases hk3 : 0 < ks.length
    · subst hE
      go_enter Try.func50, Try.ntmps50
      go_wp2_with fail
      all_goals go_ret
      all_goals exact ⟨rfl, (unhide H0).1, (unhide H0).2.2⟩
    obtain rfl : ks = [] := List.eq_nil_of_length_eq_zero (by omega)
    subst hE
    go_enter Try.func50, Try.ntmps50
    go_wp2_with fail
    all_goals go_ret
    all_goals exact ⟨rfl, (unhide H0).1, (unhide H0).2.2⟩
end Go.Proofs.Ytlbfcneboaihnaa.Tn
/- Check, in the document's own answer: a directory that is none, or empty. -/
namespace Go.Proofs.Ytlbfcneboaihnaa.Tn
open Go.RowKit
set_option maxRecDepth 20000 in
set_option maxHeartbeats 1000000 in
theorem chkR_odd (x : Bool) (d : ByteArray) (ns : List ByteArray) (ks : List Tr) (lo hi : Nat) (cs : List Value) (w : World) (c deep n : Nat) (hL : Lies lo hi w (.mk 2 x d ns ks) cs) (hW : Fit (.mk 2 x d ns ks)) (hC : Ctr w c (.int .i64 (n : Int))) (_ : hi ≤ c) (hn0 : n ≤ 65536) (hd0 : deep ≤ 65) (hbig : ¬ (65536 < n + 1 ∨ 64 < deep)) (hodd : (x = true ∨ 0 < d.size ∨ ns.length ≠ ks.length) ∨ ns.length = 0) :
    Calls Try.prog 50 #[.agg cs.toArray, .int .i64 (deep : Int), .pointer (some ⟨c, 0, none⟩)] w fun e w' => e = .returned (.int .i64 (((chk (.mk 2 x d ns ks) deep n).1 : Nat) : Int)) ∧ Sole c w w' ∧ Ctr w' c (.int .i64 (((chk (.mk 2 x d ns ks) deep n).2 : Nat) : Int)) := by
  have hSm := small_of hW
  cases hL with
  | mk _ _ _ _ _ vd vn vk Ks hl hd hn hk hK =>
  obtain ⟨ad, cd, rfl, hcd⟩ := hd.slice
  obtain ⟨an, cn, rfl, hcn⟩ := hn.slice
  obtain ⟨ak, ck, rfl, hck⟩ := hk.slice
  have hcl := hC.lt
  obtain ⟨z, hz⟩ : ∃ z : Int, z = (n : Int) := ⟨_, rfl⟩
  rw [← hz] at hC
  have HC := hide hC
  have hkl := hSm.k
  obtain ⟨hcc, hcf⟩ := hC
  have hS0 : Sole c w ((w.setCell ⟨c, 0, none⟩ (.int .i64 (z + 1))).alloc (.cells #[.int .i64 2, .bool x, .slice ad d.size cd, .slice an ns.length cn, .slice ak ks.length ck] 34)) := (((Sole.refl c w).setCell 0 _).alloc _)
  have hB0 : Bx ((w.setCell ⟨c, 0, none⟩ (.int .i64 (z + 1))).alloc (.cells #[.int .i64 2, .bool x, .slice ad d.size cd, .slice an ns.length cn, .slice ak ks.length ck] 34)) w.heap.size (.int .i64 2) (.bool x) (.slice ad d.size cd) (.slice an ns.length cn) (.slice ak ks.length ck) := bx_new' _ _ _ _ _ _ _ _
  have hC0 : Ctr ((w.setCell ⟨c, 0, none⟩ (.int .i64 (z + 1))).alloc (.cells #[.int .i64 2, .bool x, .slice ad d.size cd, .slice an ns.length cn, .slice ak ks.length ck] 34)) c (.int .i64 (z + 1)) :=
    ((unhide HC).set (.int .i64 (z + 1))).below ((Below.refl w.heap.size _).alloc (by simp) (.cells #[.int .i64 2, .bool x, .slice ad d.size cd, .slice an ns.length cn, .slice ak ks.length ck] 34)) hcl
  have H0 := hide (And.intro hS0 (And.intro hB0 hC0))
  have HH : Hid (∀ v0 v1 v2 v3 v4, Sole c w ((w.setCell ⟨c, 0, none⟩ (.int .i64 (z + 1))).alloc (.cells #[v0, v1, v2, v3, v4] 34)) ∧ Ctr ((w.setCell ⟨c, 0, none⟩ (.int .i64 (z + 1))).alloc (.cells #[v0, v1, v2, v3, v4] 34)) c (.int .i64 (z + 1))) := fun v0 v1 v2 v3 v4 =>
    ⟨(((Sole.refl c w).setCell 0 _).alloc _), ((unhide HC).set (.int .i64 (z + 1))).below ((Below.refl w.heap.size _).alloc (by simp) (.cells #[v0, v1, v2, v3, v4] 34)) hcl⟩
  clear hS0 hB0 hC0
  obtain ⟨E, M, hEM⟩ : ∃ E M, chk (.mk 2 x d ns ks) deep n = (E, M) := ⟨_, _, rfl⟩
  rw [hEM]
  simp only
  have HEM := hide hEM
  clear hEM
  have hn1 : z ≤ 1000000 := by omega
  have hn2 : 0 ≤ z := by omega
  have HZ : Hid (((n + 1 : Nat) : Int) = z + 1) := by show ((n + 1 : Nat) : Int) = z + 1; omega
  have hd1 : (deep : Int) ≤ 1000 := by omega
  have hkl1 : (ks.length : Int) ≤ 1599289640401 := by omega
  have hbig1 : ¬ (65536 : Int) < z + 1 := by omega
  have hbig2 : ¬ (64 : Int) < (deep : Int) := by omega
  have HNb : Hid (n + 1 ≤ 65536) := by show n + 1 ≤ 65536; omega
  have HD0 := hide (show deep ≤ 64 by omega)
  by_cases hform : x = true ∨ 0 < d.size ∨ ns.length ≠ ks.length
  · have HE : (3, n + 1) = (E, M) := by rw [← unhide HEM, chk, if_neg hbig, if_neg (by rw [loc_two_no hform]; omega), loc_two_no hform]
    obtain ⟨hE, rfl⟩ := Prod.mk.inj HE
    rw [unhide HZ]
    clear HE HEM hn0 hd0 hkl hz HZ HNb HD0 hSm hW hd hn hk hK hl hbig
    subst hE
    cases hx : x
    case true =>
      subst hx
      go_enter Try.func50, Try.ntmps50
      go_wp2_with fail
      all_goals go_ret
      all_goals exact ⟨rfl, (unhide HH _ _ _ _ _).1, (unhide HH _ _ _ _ _).2⟩
    subst hx
    by_cases hd5 : 0 < d.size
    · clear hform
      go_enter Try.func50, Try.ntmps50
      go_wp2_with fail
      all_goals go_ret
      all_goals exact ⟨rfl, (unhide HH _ _ _ _ _).1, (unhide HH _ _ _ _ _).2⟩
    · have hne : ((ns.length : Int) == (ks.length : Int)) = false := by
        rw [beq_eq_false_iff_ne]
        rcases hform with h | h | h
        · cases h
        · omega
        · omega
      have hd6 : d.size = 0 := by omega
      clear hform hd5
      by_cases hn3 : 0 < ns.length
      case neg =>
        obtain rfl : ns = [] := List.eq_nil_of_length_eq_zero (by omega)
        have hk3 : 0 < ks.length := by
          rw [beq_eq_false_iff_ne] at hne
          by_cases h : ks.length = 0
          · rw [h] at hne; exact absurd rfl hne
          · omega
        have hne' : ((0 : Int) == (ks.length : Int)) = false := hne
        clear hne
        go_enter Try.func50, Try.ntmps50
        go_wp2_with fail
        all_goals go_ret
        all_goals exact ⟨rfl, (unhide HH _ _ _ _ _).1, (unhide HH _ _ _ _ _).2⟩
      go_enter Try.func50, Try.ntmps50
      go_wp2_with fail
      all_goals go_ret
      all_goals exact ⟨rfl, (unhide HH _ _ _ _ _).1, (unhide HH _ _ _ _ _).2⟩
  obtain ⟨rfl, hd6, hlen⟩ : x = false ∧ d.size = 0 ∧ ns.length = ks.length := by
    refine ⟨?_, ?_, ?_⟩
    · cases x
      · rfl
      · exact absurd (.inl rfl) hform
    · by_cases h : d.size = 0
      · exact h
      · exact absurd (.inr (.inl (by omega))) hform
    · by_cases h : ns.length = ks.length
      · exact h
      · exact absurd (.inr (.inr h)) hform
  have hn3 : ns.length = 0 := by
    rcases hodd with h | h
    · exact absurd h hform
    · exact h
  clear hform hodd
  have HY : Hid (okNames ns → chks ks (deep + 1) (n + 1) = (E, M)) := fun hok => by
    rw [← unhide HEM, chk, if_neg hbig, hd6, ← hlen, if_pos (loc_dir_ok hok)]
  have HX : Hid (¬ okNames ns → (9, n + 1) = (E, M)) := fun hok => by
    rw [← unhide HEM, chk, if_neg hbig, hd6, ← hlen, loc_dir_no hok, if_neg (by omega)]
  clear HEM
  have HSm := hide hSm
  have HR := hide (And.intro hn (And.intro hk (And.intro hl hK)))
  clear hd hn hk hK hl hSm hW hbig hn0 hd0 hkl hz
  rw [hd6] at H0
  · obtain rfl : ns = [] := List.eq_nil_of_length_eq_zero hn3
    obtain rfl : ks = [] := List.eq_nil_of_length_eq_zero (by rw [← hlen]; rfl)
    have h := unhide HY (okNames_nil rfl)
    rw [chks] at h
    obtain ⟨rfl, rfl⟩ := Prod.mk.inj h
    rw [unhide HZ]
    clear h HX HY HZ HNb HD0 HSm HR hlen hn3 hkl1
    go_enter Try.func50, Try.ntmps50
    go_wp2_with fail
    go_loopw [8] (fun vi wr => vi = .int .i64 0 ∧ Sole c w wr ∧ Ctr wr c (.int .i64 (z + 1)) ∧ Bx wr w.heap.size (.int .i64 2) (.bool false) (.slice ad 0 cd) (.slice an 0 cn) (.slice ak 0 ck)) (fun _ _ => 0)
    case atStart => exact ⟨rfl, (unhide H0).1, (unhide H0).2.2, (unhide H0).2.1⟩
    case round =>
      obtain ⟨rfl, hS, hC, hB⟩ := hrel
      obtain ⟨c0, c1, c2, c3, c4⟩ := hB.cells
      go_wp2_with fail
      clear c0 c1 c2 c3 c4
      go_loopw [9] (fun vi wr => vi = .int .i64 0 ∧ Sole c w wr ∧ Ctr wr c (.int .i64 (z + 1)) ∧ Bx wr w.heap.size (.int .i64 2) (.bool false) (.slice ad 0 cd) (.slice an 0 cn) (.slice ak 0 ck)) (fun _ _ => 0)
      case atStart => exact ⟨rfl, hS, hC, hB⟩
      case round =>
        clear hS hC hB
        obtain ⟨rfl, hS, hC, hB⟩ := hrel
        obtain ⟨c0, c1, c2, c3, c4⟩ := hB.cells
        go_wp2_with fail
        go_ret
        exact ⟨rfl, hS, hC⟩
end Go.Proofs.Ytlbfcneboaihnaa.Tn
/- Check, in the document's own answer: a directory and all below. -/
namespace Go.Proofs.Ytlbfcneboaihnaa.Tn
open Go.RowKit
set_option maxRecDepth 20000 in
set_option maxHeartbeats 1000000 in
theorem chkR_any (T : Tr) : ∀ (lo hi : Nat) (cs : List Value) (w : World) (c deep n : Nat), Lies lo hi w T cs → Fit T → Ctr w c (.int .i64 (n : Int)) → hi ≤ c → n ≤ 65536 → deep ≤ 65 →
    Calls Try.prog 50 #[.agg cs.toArray, .int .i64 (deep : Int), .pointer (some ⟨c, 0, none⟩)] w fun e w' => e = .returned (.int .i64 (((chk T deep n).1 : Nat) : Int)) ∧ Sole c w w' ∧ Ctr w' c (.int .i64 (((chk T deep n).2 : Nat) : Int)) := by
  induction T using Tr.ind with
  | h k x d ns ks ih =>
  intro lo hi cs w c deep n hL hW hC hhi hn0 hd0
  by_cases hflat : k ≠ 2 ∨ 65536 < n + 1 ∨ 64 < deep
  · exact chkR_flat k x d ns ks lo hi cs w c deep n hL hW hC hhi hn0 hd0 hflat
  obtain rfl : k = 2 := by
    by_cases h : k = 2
    · exact h
    · exact absurd (.inl h) hflat
  have hbig : ¬ (65536 < n + 1 ∨ 64 < deep) := fun h => hflat (.inr h)
  clear hflat
  by_cases hodd : (x = true ∨ 0 < d.size ∨ ns.length ≠ ks.length) ∨ ns.length = 0
  · exact chkR_odd x d ns ks lo hi cs w c deep n hL hW hC hhi hn0 hd0 hbig hodd
  have hform : ¬ (x = true ∨ 0 < d.size ∨ ns.length ≠ ks.length) := fun h => hodd (.inl h)
  have hn3 : 0 < ns.length := by
    have : ¬ ns.length = 0 := fun h => hodd (.inr h)
    omega
  clear hodd
  have hSm := small_of hW
  cases hL with
  | mk _ _ _ _ _ vd vn vk Ks hl hd hn hk hK =>
  obtain ⟨ad, cd, rfl, hcd⟩ := hd.slice
  obtain ⟨an, cn, rfl, hcn⟩ := hn.slice
  obtain ⟨ak, ck, rfl, hck⟩ := hk.slice
  have hcl := hC.lt
  obtain ⟨z, hz⟩ : ∃ z : Int, z = (n : Int) := ⟨_, rfl⟩
  rw [← hz] at hC
  have HC := hide hC
  have hkl := hSm.k
  obtain ⟨hcc, hcf⟩ := hC
  have hS0 : Sole c w ((w.setCell ⟨c, 0, none⟩ (.int .i64 (z + 1))).alloc (.cells #[.int .i64 2, .bool x, .slice ad d.size cd, .slice an ns.length cn, .slice ak ks.length ck] 34)) := (((Sole.refl c w).setCell 0 _).alloc _)
  have hB0 : Bx ((w.setCell ⟨c, 0, none⟩ (.int .i64 (z + 1))).alloc (.cells #[.int .i64 2, .bool x, .slice ad d.size cd, .slice an ns.length cn, .slice ak ks.length ck] 34)) w.heap.size (.int .i64 2) (.bool x) (.slice ad d.size cd) (.slice an ns.length cn) (.slice ak ks.length ck) := bx_new' _ _ _ _ _ _ _ _
  have hC0 : Ctr ((w.setCell ⟨c, 0, none⟩ (.int .i64 (z + 1))).alloc (.cells #[.int .i64 2, .bool x, .slice ad d.size cd, .slice an ns.length cn, .slice ak ks.length ck] 34)) c (.int .i64 (z + 1)) :=
    ((unhide HC).set (.int .i64 (z + 1))).below ((Below.refl w.heap.size _).alloc (by simp) (.cells #[.int .i64 2, .bool x, .slice ad d.size cd, .slice an ns.length cn, .slice ak ks.length ck] 34)) hcl
  have H0 := hide (And.intro hS0 (And.intro hB0 hC0))
  have HH : Hid (∀ v0 v1 v2 v3 v4, Sole c w ((w.setCell ⟨c, 0, none⟩ (.int .i64 (z + 1))).alloc (.cells #[v0, v1, v2, v3, v4] 34)) ∧ Ctr ((w.setCell ⟨c, 0, none⟩ (.int .i64 (z + 1))).alloc (.cells #[v0, v1, v2, v3, v4] 34)) c (.int .i64 (z + 1))) := fun v0 v1 v2 v3 v4 =>
    ⟨(((Sole.refl c w).setCell 0 _).alloc _), ((unhide HC).set (.int .i64 (z + 1))).below ((Below.refl w.heap.size _).alloc (by simp) (.cells #[v0, v1, v2, v3, v4] 34)) hcl⟩
  clear hS0 hB0 hC0
  obtain ⟨E, M, hEM⟩ : ∃ E M, chk (.mk 2 x d ns ks) deep n = (E, M) := ⟨_, _, rfl⟩
  rw [hEM]
  simp only
  have HEM := hide hEM
  clear hEM
  have hn1 : z ≤ 1000000 := by omega
  have hn2 : 0 ≤ z := by omega
  have HZ : Hid (((n + 1 : Nat) : Int) = z + 1) := by show ((n + 1 : Nat) : Int) = z + 1; omega
  have hd1 : (deep : Int) ≤ 1000 := by omega
  have hkl1 : (ks.length : Int) ≤ 1599289640401 := by omega
  have hbig1 : ¬ (65536 : Int) < z + 1 := by omega
  have hbig2 : ¬ (64 : Int) < (deep : Int) := by omega
  have HNb : Hid (n + 1 ≤ 65536) := by show n + 1 ≤ 65536; omega
  have HD0 := hide (show deep ≤ 64 by omega)
  obtain ⟨rfl, hd6, hlen⟩ : x = false ∧ d.size = 0 ∧ ns.length = ks.length := by
    refine ⟨?_, ?_, ?_⟩
    · cases x
      · rfl
      · exact absurd (.inl rfl) hform
    · by_cases h : d.size = 0
      · exact h
      · exact absurd (.inr (.inl (by omega))) hform
    · by_cases h : ns.length = ks.length
      · exact h
      · exact absurd (.inr (.inr h)) hform
  clear hform
  have HY : Hid (okNames ns → chks ks (deep + 1) (n + 1) = (E, M)) := fun hok => by
    rw [← unhide HEM, chk, if_neg hbig, hd6, ← hlen, if_pos (loc_dir_ok hok)]
  have HX : Hid (¬ okNames ns → (9, n + 1) = (E, M)) := fun hok => by
    rw [← unhide HEM, chk, if_neg hbig, hd6, ← hlen, loc_dir_no hok, if_neg (by omega)]
  clear HEM
  have HSm := hide hSm
  have HR := hide (And.intro hn (And.intro hk (And.intro hl hK)))
  clear hd hn hk hK hl hSm hW hbig hn0 hd0 hkl hz
  rw [hd6] at H0
  obtain ⟨L, hLn⟩ : ∃ L, ns.length = L := ⟨_, rfl⟩
  have hLk : ks.length = L := by rw [← hlen]; exact hLn
  clear hlen
  rw [hLn] at hn3 hcn HR H0
  rw [hLk] at hkl1 hck HR H0
  have HL := hide (And.intro hLn hLk)
  rw [hd6, hLn, hLk]
  clear hLn hLk hd6 hcd
  go_enter Try.func50, Try.ntmps50
  go_wp2_with fail
  obtain ⟨hS0, hB0, hC0⟩ := unhide H0
  clear H0 HH hcc hcf HC
  generalize (w.setCell ⟨c, 0, none⟩ (.int .i64 (z + 1))).alloc (.cells #[.int .i64 2, .bool false, .slice ad 0 cd, .slice an L cn, .slice ak L ck] 34) = w1 at *
  rw [← unhide HZ] at hC0
  go_loopw [8] (fun vi wr => ∃ i : Nat, i ≤ L ∧ vi = .int .i64 (i : Int) ∧ Sole c w wr ∧ Ctr wr c (.int .i64 ((n + 1 : Nat) : Int)) ∧ Bx wr w.heap.size (.int .i64 2) (.bool false) (.slice ad 0 cd) (.slice an L cn) (.slice ak L ck) ∧ Hid (∀ j, j < i → okName ns j = true)) (fun vi _ => L - (intOf vi).toNat)
  case atStart => exact ⟨0, by omega, rfl, hS0, hC0, hB0, fun j h => by omega⟩
  case round =>
    clear hS0 hC0 hB0
    obtain ⟨i, hin, rfl, hS, hC, hB, hall⟩ := hrel
    obtain ⟨c0, c1, c2, c3, c4⟩ := hB.cells
    by_cases hltL : i < L
    · have hlt : i < ns.length := by rw [(unhide HL).1]; exact hltL
      obtain ⟨g, o, rfl, hg1, hg2, hcell⟩ := (unhide HR).1.at hn3
      have hbel := hS.below (base := hi) hhi (by omega)
      have hci : wr.cell? ⟨g, o + i, none⟩ = some (.string ns[i]) := by rw [hbel.cell (p := ⟨g, o + i, none⟩) hg2]; exact hcell i _ (by simp [List.getElem?_eq_getElem hlt])
      have hsi := (unhide HSm).s ns[i] (List.getElem_mem hlt)
      have HEn := hide (fun w => entR_any ns[i] w (by omega))
      have HF := hide (fun (h : ¬ okNames ns) => unhide HX h)
      have HW := hide (And.intro hS (And.intro hC hB))
      clear hS hC hB
      cases i with
      | zero =>
        have HO := hide (okName_first hlt)
        have HLT := hide hlt
        simp only [Nat.add_zero] at hci
        clear hcell
        generalize ns[0] = s at *
        clear hlt
        cases hent : entB s
        case false =>
          have h9 := unhide HF (fun h => by have := h 0 (unhide HLT); rw [unhide HO, hent] at this; simp at this)
          obtain ⟨rfl, rfl⟩ := Prod.mk.inj h9
          rw [hent] at HEn
          clear h9 HF HX HY HO HLT HSm HL ih hsi hbel hall
          go_wp2_with fail
          go_quiet ((go_at_call 64; exact Calls.quiet_of_same (unhide HEn _)))
          go_wp2_with fail
          go_ret
          exact ⟨rfl, (unhide HW).1.drewN _, (unhide HW).2.1.drewN _⟩
        case true =>
          rw [hent] at HEn
          clear HF HX HY HSm ih hsi hbel
          go_wp2_with fail
          go_quiet ((go_at_call 64; exact Calls.quiet_of_same (unhide HEn _)))
          go_wp2_with fail
          go_roundw
          case rel =>
            refine ⟨1, by omega, by go_num, (unhide HW).1.drewN _, (unhide HW).2.1.drewN _, (unhide HW).2.2.drewN _, fun j hj => ?_⟩
            obtain rfl : j = 0 := by omega
            rw [unhide HO, hent]
          case measure => simp [intOf]; omega
      | succ i =>
        have hcj : wr.cell? ⟨g, o + i, none⟩ = some (.string (ns.getD i ⟨#[]⟩)) := by
          rw [hbel.cell (p := ⟨g, o + i, none⟩) hg2]
          exact hcell i _ (by simp [List.getElem?_eq_getElem (show i < ns.length by omega), List.getD_eq_getElem?_getD])
        have HO := hide (okName_next hlt)
        have HLT := hide hlt
        clear hcell
        generalize ns.getD i ⟨#[]⟩ = q at *
        generalize ns[i + 1] = s at *
        clear hlt
        cases hent : entB s
        case false =>
          have h9 := unhide HF (fun h => by have := h (i + 1) (unhide HLT); rw [unhide HO, hent] at this; simp at this)
          obtain ⟨rfl, rfl⟩ := Prod.mk.inj h9
          rw [hent] at HEn
          clear h9 HF HX HY HO HLT HSm HL ih hsi hbel hall
          go_wp2_with fail
          go_quiet ((go_at_call 64; exact Calls.quiet_of_same (unhide HEn _)))
          go_wp2_with fail
          go_ret
          exact ⟨rfl, (unhide HW).1.drewN _, (unhide HW).2.1.drewN _⟩
        case true =>
          rw [hent] at HEn
          clear HSm ih hsi hbel
          go_wp2_with fail
          go_quiet ((go_at_call 64; exact Calls.quiet_of_same (unhide HEn _)))
          go_wp2_with fail
          · rename_i hle
            have hno : ¬ okNames ns := fun h => by have := h (i + 1) (unhide HLT); rw [unhide HO, hent] at this; exact less_yes hle (by simpa using this)
            have h9 := unhide HF hno
            obtain ⟨rfl, rfl⟩ := Prod.mk.inj h9
            go_ret
            exact ⟨rfl, (unhide HW).1.drewN _, (unhide HW).2.1.drewN _⟩
          · rename_i hle
            have HYe : Hid (okName ns (i + 1) = true) := by show okName ns (i + 1) = true; rw [unhide HO, hent]; simpa using less_no hle
            clear HF HX HY
            go_roundw
            case rel =>
              refine ⟨i + 1 + 1, by omega, by go_num, (unhide HW).1.drewN _, (unhide HW).2.1.drewN _, (unhide HW).2.2.drewN _, fun j hj => ?_⟩
              by_cases e : j = i + 1
              · subst e; exact unhide HYe
              · exact unhide hall j (by omega)
            case measure => simp [intOf]; omega
    · have HE' : Hid (chks ks (deep + 1) (n + 1) = (E, M)) := unhide HY (fun j hj => unhide hall j (by have := (unhide HL).1; omega))
      clear HY HX hall
      go_wp2_with fail
      clear c0 c1 c2 c3 c4
      have HT := hide (unhide HSm).t
      have HW := hide (And.intro hS (And.intro hC hB))
      clear hS hC hB HSm
      generalize wr = w2 at *
      go_loopw [9] (fun vi wr => ∃ i m : Nat, i ≤ L ∧ vi = .int .i64 (i : Int) ∧ Sole c w wr ∧ Bx wr w.heap.size (.int .i64 2) (.bool false) (.slice ad 0 cd) (.slice an L cn) (.slice ak L ck) ∧ Ctr wr c (.int .i64 (m : Int)) ∧ Hid (m ≤ 65536) ∧ Hid (chks (ks.drop i) (deep + 1) m = (E, M))) (fun vi _ => L - (intOf vi).toNat)
      case atStart => exact ⟨0, n + 1, by omega, rfl, (unhide HW).1, (unhide HW).2.2, (unhide HW).2.1, HNb, HE'⟩
      case round =>
        obtain ⟨i, m, hik, rfl, hS, hB, hC, hm, hq⟩ := hrel
        obtain ⟨c0, c1, c2, c3, c4⟩ := hB.cells
        by_cases hlt : i < L
        · have hltk : i < ks.length := by rw [(unhide HL).2]; exact hlt
          obtain ⟨g, o, rfl, hg1, hg2, hcell⟩ := (unhide HR).2.1.at hn3
          obtain ⟨hl, hK⟩ := (unhide HR).2.2
          have hbel := hS.below (base := hi) hhi (by omega)
          have hcell' : ∀ j u, Ks.flatten[j]? = some u → wr.cell? ⟨g, o + j, none⟩ = some u := fun j u hj => by rw [hbel.cell (p := ⟨g, o + j, none⟩) hg2]; exact hcell j u hj
          obtain ⟨k', x', a1, n1, c1', a2, n2, c2', a3, n3, c3', hLi, z0, z1, z2, z3, z4⟩ := kid_sl (hl.trans (unhide HL).2.symm) hcell' (fun i t c h1 h2 => (hK i t c h1 h2).kept hbel (Nat.le_refl _)) i hltk
          have hzr := hS.size
          have HI := hide (ih ks[i] (List.getElem_mem hltk) lo hi _ wr c (deep + 1) m hLi (unhide HT _ (List.getElem_mem hltk)) hC hhi (unhide hm) (by have := unhide HD0; omega))
          have HQ := hide (chks_step ks i (deep + 1) m hltk)
          have HM := hide (chk_ok ks[i] (deep + 1) m)
          clear hcell hcell' hl hK hLi hC hbel
          generalize ks[i] = t at *
          clear hltk
          go_wp2_with fail
          refine (unhide HI).mono ?_
          rintro e w3 ⟨rfl, hS3, hC3⟩
          have hS4 : Sole c w w3 := hS.trans hS3
          have hB4 := hB.sole hS3 (by omega)
          clear hS3 HI z0 z1 z2 z3 z4
          by_cases he : (chk t (deep + 1) m).1 = 0
          · have hq' : Hid (chks (ks.drop (i + 1)) (deep + 1) (chk t (deep + 1) m).2 = (E, M)) := by
              have h := unhide HQ
              rw [if_pos he, unhide hq] at h
              exact h.symm
            have hm' : Hid ((chk t (deep + 1) m).2 ≤ 65536) := unhide HM he
            rw [he]
            clear HQ HM he hq hm
            generalize (chk t (deep + 1) m).2 = m' at *
            have HS4 := hide (And.intro hS4 (And.intro hB4 hC3))
            clear hC3 hS4 hB4
            go_wp2_with fail
            go_roundw
            case rel => exact ⟨i + 1, m', by omega, by go_num, (unhide HS4).1, (unhide HS4).2.1, (unhide HS4).2.2, hm', hq'⟩
            case measure => simp [intOf]; omega
          · have h := unhide HQ
            rw [if_neg he, unhide hq] at h
            have hne : ((((chk t (deep + 1) m).1 : Nat) : Int) == 0) = false := by rw [beq_eq_false_iff_ne]; omega
            rw [← h] at hC3 hne ⊢
            clear HQ HM he hq hm h
            go_wp2_with fail
            go_ret
            exact ⟨rfl, hS4, hC3⟩
        · obtain rfl : i = L := by omega
          have HF := unhide hq
          rw [← (unhide HL).2, chks_end] at HF
          obtain ⟨rfl, rfl⟩ := Prod.mk.inj HF
          clear HF hq HE'
          go_wp2_with fail
          go_ret
          exact ⟨rfl, hS, hC⟩
end Go.Proofs.Ytlbfcneboaihnaa.Tn
