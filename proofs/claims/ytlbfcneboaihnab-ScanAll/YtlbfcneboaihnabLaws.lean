/- Laws of the walk for arrays by value in this program: a whole array is loaded from, and stored into, a block, whatever its cells are. -/
import Derived.Test.YtlbfcneboaihnabRows
import Derived.Test.YtlbfcneboaihnabK1
import Derived.WalkKit
import Derived.WalkSpells
import Derived.WalkLawsBesides
import Derived.Deep.QuietTactic
import Derived.BigQuiet
import Derived.Deep.WholeRow
import Derived.Great.Walk
namespace Go.Proofs.Ytlbfcneboaihnab
open Go.RowKit

theorem hide {p : Prop} (h : p) : Hid p := h
theorem unhide {p : Prop} (h : Hid p) : p := h
/-- A word, a byte, as a value; a row of them as cells. -/
def W32 (n : Nat) : Value := .int .u32 (n : Int)
def B8 (n : Nat) : Value := .int .u8 (n : Int)
def E32 (l : List Nat) : Array Value := (l.map W32).toArray
def E8 (l : List Nat) : Array Value := (l.map B8).toArray
@[simp] theorem E32_size (l : List Nat) : (E32 l).size = l.length := by simp [E32]
@[simp] theorem E8_size (l : List Nat) : (E8 l).size = l.length := by simp [E8]
theorem E32_get (l : List Nat) (i : Nat) (h : i < l.length) : (E32 l)[i]? = some (.int .u32 ((Sha.nth l i : Nat) : Int)) := by
  simp [E32, W32, List.getElem?_eq_getElem h, Sha.nth]
theorem E8_get (l : List Nat) (i : Nat) (h : i < l.length) : (E8 l)[i]? = some (.int .u8 ((Sha.nth l i : Nat) : Int)) := by
  simp [E8, B8, List.getElem?_eq_getElem h, Sha.nth]
theorem E32_set (l : List Nat) (i : Nat) (n : Nat) : (E32 l).setIfInBounds i (.int .u32 (n : Int)) = E32 (l.set i n) := by
  simp [E32, List.map_set, W32]
theorem E8_set (l : List Nat) (i : Nat) (n : Nat) : (E8 l).setIfInBounds i (.int .u8 (n : Int)) = E8 (l.set i n) := by
  simp [E8, List.map_set, B8]
/-- Every cell is one cell wide. -/
def ones (c : Array Value) : Bool := c.all (·.oneCell')
@[simp] theorem E32_all (l : List Nat) : ones (E32 l) = true := by simp [ones, E32, W32, Value.oneCell']
@[simp] theorem E8_all (l : List Nat) : ones (E8 l) = true := by simp [ones, E8, B8, Value.oneCell']
@[go_sem, simp] theorem E32_getElem (l : List Nat) (i : Nat) (h : i < (E32 l).size) : (E32 l)[i] = .int .u32 ((Sha.nth l i : Nat) : Int) := by
  have := E32_get l i (by simpa using h)
  rw [Array.getElem?_eq_getElem h] at this
  exact Option.some.inj this
@[go_sem, simp] theorem E8_getElem (l : List Nat) (i : Nat) (h : i < (E8 l).size) : (E8 l)[i] = .int .u8 ((Sha.nth l i : Nat) : Int) := by
  have := E8_get l i (by simpa using h)
  rw [Array.getElem?_eq_getElem h] at this
  exact Option.some.inj this
attribute [go_sem] E32_get E8_get E32_set E8_set

/-- The cells of a block. -/
def rowOf (w : World) (b : Nat) : Array Value := match w.heap[b]? with | some (.cells cs _ _) => cs | _ => #[]
/-- A block of so many cells, none of them frozen. -/
def fits (w : World) (b n : Nat) : Bool := match w.heap[b]? with | some (.cells cs _ fr) => cs.size == n && fr == (0, 0) | _ => false

theorem rowOf_of {w w' : World} {b : Nat} (h : w'.heap[b]? = w.heap[b]?) : rowOf w' b = rowOf w b := by unfold rowOf; rw [h]
theorem fits_of {w w' : World} {b n : Nat} (h : w'.heap[b]? = w.heap[b]?) : fits w' b n = fits w b n := by unfold fits; rw [h]
@[go_sem] theorem rowOf_alloc_at (w : World) (c : Array Value) (t : TypeId) (n : Nat) (hn : n = w.heap.size) : rowOf (w.alloc (.cells c t)) n = c := by
  subst hn; unfold rowOf; rw [heap_alloc_new]
@[go_sem] theorem rowOf_alloc_past (w : World) (o : Obj) (n : Nat) (hn : n < w.heap.size) : rowOf (w.alloc o) n = rowOf w n := rowOf_of (Below.heap_alloc w o n hn)
@[go_sem] theorem fits_alloc_at (w : World) (c : Array Value) (t : TypeId) (n k : Nat) (hn : n = w.heap.size) : fits (w.alloc (.cells c t)) n k = (c.size == k) := by
  subst hn; unfold fits; rw [heap_alloc_new]; simp
@[go_sem] theorem fits_alloc_past (w : World) (o : Obj) (n k : Nat) (hn : n < w.heap.size) : fits (w.alloc o) n k = fits w n k := fits_of (Below.heap_alloc w o n hn)
@[go_sem] theorem rowOf_drew (w : World) (n : Nat) : rowOf w.drew n = rowOf w n := rfl
@[go_sem] theorem fits_drew (w : World) (n k : Nat) : fits w.drew n k = fits w n k := rfl
@[go_sem] theorem rowOf_drewN (w : World) (m n : Nat) : rowOf (w.drewN m) n = rowOf w n := rfl
@[go_sem] theorem fits_drewN (w : World) (m n k : Nat) : fits (w.drewN m) n k = fits w n k := rfl
@[go_sem] theorem rowOf_setCell_other (w : World) (a : Addr) (v : Value) (n : Nat) (hn : n ≠ a.block) : rowOf (w.setCell a v) n = rowOf w n := rowOf_of (Below.heap_setCell w a v n hn)
@[go_sem] theorem fits_setCell_other (w : World) (a : Addr) (v : Value) (n k : Nat) (hn : n ≠ a.block) : fits (w.setCell a v) n k = fits w n k := fits_of (Below.heap_setCell w a v n hn)
theorem fits_some {w : World} {b n : Nat} (h : fits w b n = true) : ∃ cs t, w.heap[b]? = some (.cells cs t (0, 0)) ∧ cs.size = n ∧ rowOf w b = cs := by
  unfold fits at h
  split at h
  · rename_i cs t fr e
    simp at h
    obtain ⟨h1, h2⟩ := h
    refine ⟨cs, t, ?_, h1, ?_⟩
    · rw [e, h2]
    · unfold rowOf; rw [e]
  · simp at h
theorem rowOf_some {w : World} {b n : Nat} (h : (rowOf w b).size = n) (hn : 0 < n) : ∃ cs t fr, w.heap[b]? = some (.cells cs t fr) ∧ rowOf w b = cs := by
  unfold rowOf at h ⊢
  split at h
  · rename_i cs t fr e
    exact ⟨cs, t, fr, e, rfl⟩
  · simp at h; omega
theorem cell_row (w : World) (b i : Nat) (v : Value) (h : (rowOf w b)[i]? = some v) : w.cell? ⟨b, i, none⟩ = some v := by
  unfold rowOf at h
  split at h
  · rename_i cs t fr e
    rw [cell_of_row w b i cs t fr e]; exact h
  · simp at h
theorem frozen_fits {w : World} {b n : Nat} (h : fits w b n = true) (i : Nat) : w.frozen? ⟨b, i, none⟩ = false := by
  obtain ⟨cs, t, e, -, -⟩ := fits_some h
  simp [World.frozen?, e]

section
variable {P : Program}
theorem run_loadVar_rowOf (w : World) (b : Nat) (ty : TypeId) (n : Nat) (d : TypeDesc) (hu : P.underlying ty = some d) (hd : (match d with | .struct _ | .array _ _ => true | _ => false) = true)
    (hi : (P.info? ty).map (·.size) = some n) (hn : 0 < n) (h : (rowOf w b).size = n) : (loadVar ty ⟨b, 0, none⟩).run P w = .ok (.agg (rowOf w b)) w := by
  obtain ⟨cs, t, fr, e, er⟩ := rowOf_some h hn
  rw [er]
  exact run_loadVar_row w b t ty cs fr d e hu hd (by rw [hi, ← h, er])
theorem run_storeVar_rowOf (w : World) (b : Nat) (ty : TypeId) (n : Nat) (c : Array Value) (hi : (P.info? ty).map (·.size) = some n) (h : fits w b n = true) (hc : c.size = n) (h1 : ones c = true) :
    (storeVar ty ⟨b, 0, none⟩ (.agg c)).run P w = .ok () (w.setRow b c) := by
  obtain ⟨cs, t, e, es, er⟩ := fits_some h
  exact run_storeVar_row w b t ty cs c e (by rw [hi, hc]) (by rw [es, hc]) h1
@[go_sem ↓] theorem run_storeCells_rowOf (w : World) (b : Nat) (c : Array Value) (h : fits w b c.size = true) (h1 : ones c = true) :
    (storeCells ⟨b, 0, none⟩ c.toList 0).run P w = .ok () (w.setRow b c) := by
  obtain ⟨cs, t, e, es, er⟩ := fits_some h
  have := run_storeCells_from (P := P) b t c.toList 0 cs w e (by simp; omega) (fun v hv => (Array.all_eq_true_iff_forall_mem.1 h1) v (by simpa using hv))
  simpa using this
@[go_sem ↓] theorem run_loadCells_rowOf (w : World) (b n : Nat) (h : (rowOf w b).size = n) (hn : 0 < n) :
    (loadCellsFrom ⟨b, 0, none⟩ 0 n #[]).run P w = .ok (rowOf w b) w := by
  obtain ⟨cs, t, fr, e, er⟩ := rowOf_some h hn
  rw [er] at h ⊢
  subst h
  have := run_loadCells_list (P := P) w ⟨b, 0, none⟩ cs.toList (fun j v hv => by
    have hadd : (⟨b, 0, none⟩ : Addr).add j = ⟨b, j, none⟩ := by unfold Addr.add; split <;> simp_all
    rw [hadd, cell_of_row w b j cs t fr e]
    simpa using hv)
  simpa [loadCells] using this
/-- The result that lies in a block: its cells. -/
theorem results_rowOf {fn : Func} {p : Tmp} {ty : TypeId} (h : fn.results = #[.cell p ty]) (n : Nat) (d : TypeDesc) (hu : P.underlying ty = some d) (hd : (match d with | .struct _ | .array _ _ => true | _ => false) = true)
    (hi : (P.info? ty).map (·.size) = some n) (hn : 0 < n) {tmps : Array Value} {w : World} {b : Nat} (hp : tmps.getD p undef = .pointer (some ⟨b, 0, none⟩)) {c : Array Value} (hr : rowOf w b = c) (hs : c.size = n) :
    (results fn tmps).run P w = .ok (.agg c) w := by
  obtain ⟨cs, t, fr, e, er⟩ := rowOf_some (by rw [hr, hs]) hn
  have ec : cs = c := by rw [← er, hr]
  subst ec
  exact results_cell_row h tmps w b t cs fr d hp e hu hd (by rw [hi, hs])
end

@[go_sem] theorem setRow_alloc_at (w : World) (c c' : Array Value) (t : TypeId) (n : Nat) (hn : n = w.heap.size) : (w.alloc (.cells c t)).setRow n c' = w.alloc (.cells c' t) := by
  subst hn; exact World.setRow_alloc_new w c c' t
@[go_sem] theorem setRow_alloc_past (w : World) (o : Obj) (c' : Array Value) (n : Nat) (hn : n < w.heap.size) : (w.alloc o).setRow n c' = (w.setRow n c').alloc o := by
  unfold World.setRow World.alloc
  congr 1
  apply Array.ext_getElem?
  intro k
  simp only [Array.getElem?_modify, Array.getElem?_push, Array.size_modify]
  by_cases hk : k = w.heap.size
  · subst hk
    simp [Nat.ne_of_lt hn]
  · simp [hk]
@[go_sem] theorem setRow_drew (w : World) (n : Nat) (c : Array Value) : w.drew.setRow n c = (w.setRow n c).drew := rfl
@[go_sem] theorem drewN_setCell (w : World) (m : Nat) (a : Addr) (v : Value) : (w.drewN m).setCell a v = (w.setCell a v).drewN m := rfl
@[go_sem] theorem drewN_setRow (w : World) (m n : Nat) (c : Array Value) : (w.drewN m).setRow n c = (w.setRow n c).drewN m := rfl
@[go_sem] theorem rowOf_setRow_at (w : World) (n k : Nat) (c : Array Value) (h : fits w n k = true) : rowOf (w.setRow n c) n = c := by
  obtain ⟨cs, t, e, -, -⟩ := fits_some h
  unfold rowOf; rw [setRow_heap w n cs c t _ e]
theorem below_setRow {B : Nat} {a w : World} (h : Below B a w) {g : Nat} (hg : B ≤ g) (c : Array Value) : Below B a (w.setRow g c) :=
  h.trans ⟨rfl, rfl, rfl, by simp, fun k hk => setRow_other w g k c (by omega)⟩
theorem below_drews {B : Nat} {a w : World} (h : Below B a w) (n : Nat) : Below B a (w.drewN n) := ⟨h.os, h.tape, h.output, h.size, h.block⟩
theorem below_rowOf {B : Nat} {a w : World} (h : Below B a w) {b : Nat} (hb : b < B) : rowOf w b = rowOf a b := rowOf_of (h.block b hb)
theorem below_fits {B : Nat} {a w : World} (h : Below B a w) {b n : Nat} (hb : b < B) : fits w b n = fits a b n := fits_of (h.block b hb)

/-! The array types of this program: 54 is sixty-four words, 50 eight words, 25 thirty-two bytes, 58 sixty-four bytes, 93 a hundred and twenty-eight, 30 twenty. -/
attribute [simp] Sha.K_length Sha.sched_length

def Z68 : Array Value := E32 (List.replicate 64 0)
@[simp] theorem Z68_size : Z68.size = 64 := by simp [Z68]
def ld68 (v : Value) : Sem Value := Instr.loadAt 68 v
def st68 (p v : Value) : Sem Unit := Instr.storeAt 68 p v
theorem loadAt68 (v : Value) : Instr.loadAt 68 v = ld68 v := rfl
theorem storeAt68 (p v : Value) : Instr.storeAt 68 p v = st68 p v := rfl
def Z63 : Array Value := E32 (List.replicate 8 0)
@[simp] theorem Z63_size : Z63.size = 8 := by simp [Z63]
def ld63 (v : Value) : Sem Value := Instr.loadAt 63 v
def st63 (p v : Value) : Sem Unit := Instr.storeAt 63 p v
theorem loadAt63 (v : Value) : Instr.loadAt 63 v = ld63 v := rfl
theorem storeAt63 (p v : Value) : Instr.storeAt 63 p v = st63 p v := rfl
def Z25 : Array Value := E8 (List.replicate 32 0)
@[simp] theorem Z25_size : Z25.size = 32 := by simp [Z25]
def ld25 (v : Value) : Sem Value := Instr.loadAt 25 v
def st25 (p v : Value) : Sem Unit := Instr.storeAt 25 p v
theorem loadAt25 (v : Value) : Instr.loadAt 25 v = ld25 v := rfl
theorem storeAt25 (p v : Value) : Instr.storeAt 25 p v = st25 p v := rfl
def Z101 : Array Value := E8 (List.replicate 128 0)
@[simp] theorem Z101_size : Z101.size = 128 := by simp [Z101]
def ld101 (v : Value) : Sem Value := Instr.loadAt 101 v
def st101 (p v : Value) : Sem Unit := Instr.storeAt 101 p v
theorem loadAt101 (v : Value) : Instr.loadAt 101 v = ld101 v := rfl
theorem storeAt101 (p v : Value) : Instr.storeAt 101 p v = st101 p v := rfl
def Z49 : Array Value := E8 (List.replicate 20 0)
@[simp] theorem Z49_size : Z49.size = 20 := by simp [Z49]
def ld49 (v : Value) : Sem Value := Instr.loadAt 49 v
def st49 (p v : Value) : Sem Unit := Instr.storeAt 49 p v
theorem loadAt49 (v : Value) : Instr.loadAt 49 v = ld49 v := rfl
theorem storeAt49 (p v : Value) : Instr.storeAt 49 p v = st49 p v := rfl
@[go_sem] theorem all_eight (k : IntKind) (a b c d e f g h : Int) : ones #[Value.int k a, .int k b, .int k c, .int k d, .int k e, .int k f, .int k g, .int k h] = true := by simp [ones, Value.oneCell']
theorem E32_eight (s : Sha.St) : E32 s.list = #[Value.int .u32 (s.a : Int), .int .u32 (s.b : Int), .int .u32 (s.c : Int), .int .u32 (s.d : Int), .int .u32 (s.e : Int), .int .u32 (s.f : Int), .int .u32 (s.g : Int), .int .u32 (s.h : Int)] := rfl
@[simp] theorem list_eight (s : Sha.St) : s.list.length = 8 := rfl
end Go.Proofs.Ytlbfcneboaihnab
