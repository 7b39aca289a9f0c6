/- Laws of the walk for arrays by value in this program: a whole array is loaded from, and stored into, a block, whatever its cells are. -/
import Derived.Test.YtdkhmjiconedkaaRows
import Derived.Test.YtdkhmjiconedkaaSpec
import Derived.WalkKit
import Derived.WalkSpells
import Derived.WalkLawsBesides
import Derived.Deep.QuietTactic
import Derived.BigQuiet
import Derived.Deep.WholeRow
import Derived.Great.Walk
namespace Go.Proofs.Ytdkhmjiconedkaa
open Go.RowKit

theorem hide {p : Prop} (h : p) : Hid p := h
theorem unhide {p : Prop} (h : Hid p) : p := h
/-- A word, a byte, as a value; a row of them as cells. -/
def W32 (n : Nat) : Value := .int .u32 (n : Int)
def B8 (n : Nat) : Value := .int .u8 (n : Int)
def E32 (l : List Nat) : Array Value := (l.map W32).toArray
def E8 (l : List Nat) : Array Value := (l.map B8).toArray
@[simp] theorem E32_size (l : List Nat) : (E32 l).size = l.length := by simp [E32]
@[simp] theorem E8_size (l : List Nat) : (E8 l).size = l.length := by simp [E8]
theorem E32_get (l : List Nat) (i : Nat) (h : i < l.length) : (E32 l)[i]? = some (.int .u32 ((Sha.nth l i : Nat) : Int)) := by
  simp [E32, W32, List.getElem?_eq_getElem h, Sha.nth]
theorem E8_get (l : List Nat) (i : Nat) (h : i < l.length) : (E8 l)[i]? = some (.int .u8 ((Sha.nth l i : Nat) : Int)) := by
  simp [E8, B8, List.getElem?_eq_getElem h, Sha.nth]
theorem E32_set (l : List Nat) (i : Nat) (n : Nat) : (E32 l).setIfInBounds i (.int .u32 (n : Int)) = E32 (l.set i n) := by
  simp [E32, List.map_set, W32]
theorem E8_set (l : List Nat) (i : Nat) (n : Nat) : (E8 l).setIfInBounds i (.int .u8 (n : Int)) = E8 (l.set i n) := by
  simp [E8, List.map_set, B8]
/-- Every cell is one cell wide. -/
def ones (c : Array Value) : Bool := c.all (·.oneCell')
@[simp] theorem E32_all (l : List Nat) : ones (E32 l) = true := by simp [ones, E32, W32, Value.oneCell']
@[simp] theorem E8_all (l : List Nat) : ones (E8 l) = true := by simp [ones, E8, B8, Value.oneCell']
@[go_sem, simp] theorem E32_getElem (l : List Nat) (i : Nat) (h : i < (E32 l).size) : (E32 l)[i] = .int .u32 ((Sha.nth l i : Nat) : Int) := by
  have := E32_get l i (by simpa using h)
  rw [Array.getElem?_eq_getElem h] at this
  exact Option.some.inj this
@[go_sem, simp] theorem E8_getElem (l : List Nat) (i : Nat) (h : i < (E8 l).size) : (E8 l)[i] = .int .u8 ((Sha.nth l i : Nat) : Int) := by
  have := E8_get l i (by simpa using h)
  rw [Array.getElem?_eq_getElem h] at this
  exact Option.some.inj this
attribute [go_sem] E32_get E8_get E32_set E8_set

/-- The cells of a block. -/
def rowOf (w : World) (b : Nat) : Array Value := match w.heap[b]? with | some (.cells cs _ _) => cs | _ => #[]
/-- A block of so many cells, none of them frozen. -/
def fits (w : World) (b n : Nat) : Bool := match w.heap[b]? with | some (.cells cs _ fr) => cs.size == n && fr == (0, 0) | _ => false

theorem rowOf_of {w w' : World} {b : Nat} (h : w'.heap[b]? = w.heap[b]?) : rowOf w' b = rowOf w b := by unfold rowOf; rw [h]
theorem fits_of {w w' : World} {b n : Nat} (h : w'.heap[b]? = w.heap[b]?) : fits w' b n = fits w b n := by unfold fits; rw [h]
@[go_sem] theorem rowOf_alloc_at (w : World) (c : Array Value) (t : TypeId) (n : Nat) (hn : n = w.heap.size) : rowOf (w.alloc (.cells c t)) n = c := by
  subst hn; unfold rowOf; rw [heap_alloc_new]
@[go_sem] theorem rowOf_alloc_past (w : World) (o : Obj) (n : Nat) (hn : n < w.heap.size) : rowOf (w.alloc o) n = rowOf w n := rowOf_of (Below.heap_alloc w o n hn)
@[go_sem] theorem fits_alloc_at (w : World) (c : Array Value) (t : TypeId) (n k : Nat) (hn : n = w.heap.size) : fits (w.alloc (.cells c t)) n k = (c.size == k) := by
  subst hn; unfold fits; rw [heap_alloc_new]; simp
@[go_sem] theorem fits_alloc_past (w : World) (o : Obj) (n k : Nat) (hn : n < w.heap.size) : fits (w.alloc o) n k = fits w n k := fits_of (Below.heap_alloc w o n hn)
@[go_sem] theorem rowOf_drew (w : World) (n : Nat) : rowOf w.drew n = rowOf w n := rfl
@[go_sem] theorem fits_drew (w : World) (n k : Nat) : fits w.drew n k = fits w n k := rfl
@[go_sem] theorem rowOf_drewN (w : World) (m n : Nat) : rowOf (w.drewN m) n = rowOf w n := rfl
@[go_sem] theorem fits_drewN (w : World) (m n k : Nat) : fits (w.drewN m) n k = fits w n k := rfl
@[go_sem] theorem rowOf_setCell_other (w : World) (a : Addr) (v : Value) (n : Nat) (hn : n ≠ a.block) : rowOf (w.setCell a v) n = rowOf w n := rowOf_of (Below.heap_setCell w a v n hn)
@[go_sem] theorem fits_setCell_other (w : World) (a : Addr) (v : Value) (n k : Nat) (hn : n ≠ a.block) : fits (w.setCell a v) n k = fits w n k := fits_of (Below.heap_setCell w a v n hn)
theorem fits_some {w : World} {b n : Nat} (h : fits w b n = true) : ∃ cs t, w.heap[b]? = some (.cells cs t (0, 0)) ∧ cs.size = n ∧ rowOf w b = cs := by
  unfold fits at h
  split at h
  · rename_i cs t fr e
    simp at h
    obtain ⟨h1, h2⟩ := h
    refine ⟨cs, t, ?_, h1, ?_⟩
    · rw [e, h2]
    · unfold rowOf; rw [e]
  · simp at h
theorem rowOf_some {w : World} {b n : Nat} (h : (rowOf w b).size = n) (hn : 0 < n) : ∃ cs t fr, w.heap[b]? = some (.cells cs t fr) ∧ rowOf w b = cs := by
  unfold rowOf at h ⊢
  split at h
  · rename_i cs t fr e
    exact ⟨cs, t, fr, e, rfl⟩
  · simp at h; omega
theorem cell_row (w : World) (b i : Nat) (v : Value) (h : (rowOf w b)[i]? = some v) : w.cell? ⟨b, i, none⟩ = some v := by
  unfold rowOf at h
  split at h
  · rename_i cs t fr e
    rw [cell_of_row w b i cs t fr e]; exact h
  · simp at h
theorem frozen_fits {w : World} {b n : Nat} (h : fits w b n = true) (i : Nat) : w.frozen? ⟨b, i, none⟩ = false := by
  obtain ⟨cs, t, e, -, -⟩ := fits_some h
  simp [World.frozen?, e]

section
variable {P : Program}
theorem run_loadVar_rowOf (w : World) (b : Nat) (ty : TypeId) (n : Nat) (d : TypeDesc) (hu : P.underlying ty = some d) (hd : (match d with | .struct _ | .array _ _ => true | _ => false) = true)
    (hi : (P.info? ty).map (·.size) = some n) (hn : 0 < n) (h : (rowOf w b).size = n) : (loadVar ty ⟨b, 0, none⟩).run P w = .ok (.agg (rowOf w b)) w := by
  obtain ⟨cs, t, fr, e, er⟩ := rowOf_some h hn
  rw [er]
  exact run_loadVar_row w b t ty cs fr d e hu hd (by rw [hi, ← h, er])
theorem run_storeVar_rowOf (w : World) (b : Nat) (ty : TypeId) (n : Nat) (c : Array Value) (hi : (P.info? ty).map (·.size) = some n) (h : fits w b n = true) (hc : c.size = n) (h1 : ones c = true) :
    (storeVar ty ⟨b, 0, none⟩ (.agg c)).run P w = .ok () (w.setRow b c) := by
  obtain ⟨cs, t, e, es, er⟩ := fits_some h
  exact run_storeVar_row w b t ty cs c e (by rw [hi, hc]) (by rw [es, hc]) h1
@[go_sem ↓] theorem run_storeCells_rowOf (w : World) (b : Nat) (c : Array Value) (h : fits w b c.size = true) (h1 : ones c = true) :
    (storeCells ⟨b, 0, none⟩ c.toList 0).run P w = .ok () (w.setRow b c) := by
  obtain ⟨cs, t, e, es, er⟩ := fits_some h
  have := run_storeCells_from (P := P) b t c.toList 0 cs w e (by simp; omega) (fun v hv => (Array.all_eq_true_iff_forall_mem.1 h1) v (by simpa using hv))
  simpa using this
@[go_sem ↓] theorem run_loadCells_rowOf (w : World) (b n : Nat) (h : (rowOf w b).size = n) (hn : 0 < n) :
    (loadCellsFrom ⟨b, 0, none⟩ 0 n #[]).run P w = .ok (rowOf w b) w := by
  obtain ⟨cs, t, fr, e, er⟩ := rowOf_some h hn
  rw [er] at h ⊢
  subst h
  have := run_loadCells_list (P := P) w ⟨b, 0, none⟩ cs.toList (fun j v hv => by
    have hadd : (⟨b, 0, none⟩ : Addr).add j = ⟨b, j, none⟩ := by unfold Addr.add; split <;> simp_all
    rw [hadd, cell_of_row w b j cs t fr e]
    simpa using hv)
  simpa [loadCells] using this
/-- The result that lies in a block: its cells. -/
theorem results_rowOf {fn : Func} {p : Tmp} {ty : TypeId} (h : fn.results = #[.cell p ty]) (n : Nat) (d : TypeDesc) (hu : P.underlying ty = some d) (hd : (match d with | .struct _ | .array _ _ => true | _ => false) = true)
    (hi : (P.info? ty).map (·.size) = some n) (hn : 0 < n) {tmps : Array Value} {w : World} {b : Nat} (hp : tmps.getD p undef = .pointer (some ⟨b, 0, none⟩)) {c : Array Value} (hr : rowOf w b = c) (hs : c.size = n) :
    (results fn tmps).run P w = .ok (.agg c) w := by
  obtain ⟨cs, t, fr, e, er⟩ := rowOf_some (by rw [hr, hs]) hn
  have ec : cs = c := by rw [← er, hr]
  subst ec
  exact results_cell_row h tmps w b t cs fr d hp e hu hd (by rw [hi, hs])
end

@[go_sem] theorem setRow_alloc_at (w : World) (c c' : Array Value) (t : TypeId) (n : Nat) (hn : n = w.heap.size) : (w.alloc (.cells c t)).setRow n c' = w.alloc (.cells c' t) := by
  subst hn; exact World.setRow_alloc_new w c c' t
@[go_sem] theorem setRow_alloc_past (w : World) (o : Obj) (c' : Array Value) (n : Nat) (hn : n < w.heap.size) : (w.alloc o).setRow n c' = (w.setRow n c').alloc o := by
  unfold World.setRow World.alloc
  congr 1
  apply Array.ext_getElem?
  intro k
  simp only [Array.getElem?_modify, Array.getElem?_push, Array.size_modify]
  by_cases hk : k = w.heap.size
  · subst hk
    simp [Nat.ne_of_lt hn]
  · simp [hk]
@[go_sem] theorem setRow_drew (w : World) (n : Nat) (c : Array Value) : w.drew.setRow n c = (w.setRow n c).drew := rfl
@[go_sem] theorem drewN_setCell (w : World) (m : Nat) (a : Addr) (v : Value) : (w.drewN m).setCell a v = (w.setCell a v).drewN m := rfl
@[go_sem] theorem drewN_setRow (w : World) (m n : Nat) (c : Array Value) : (w.drewN m).setRow n c = (w.setRow n c).drewN m := rfl
@[go_sem] theorem rowOf_setRow_at (w : World) (n k : Nat) (c : Array Value) (h : fits w n k = true) : rowOf (w.setRow n c) n = c := by
  obtain ⟨cs, t, e, -, -⟩ := fits_some h
  unfold rowOf; rw [setRow_heap w n cs c t _ e]
theorem below_setRow {B : Nat} {a w : World} (h : Below B a w) {g : Nat} (hg : B ≤ g) (c : Array Value) : Below B a (w.setRow g c) :=
  h.trans ⟨rfl, rfl, rfl, by simp, fun k hk => setRow_other w g k c (by omega)⟩
theorem below_drews {B : Nat} {a w : World} (h : Below B a w) (n : Nat) : Below B a (w.drewN n) := ⟨h.os, h.tape, h.output, h.size, h.block⟩
theorem below_rowOf {B : Nat} {a w : World} (h : Below B a w) {b : Nat} (hb : b < B) : rowOf w b = rowOf a b := rowOf_of (h.block b hb)
theorem below_fits {B : Nat} {a w : World} (h : Below B a w) {b n : Nat} (hb : b < B) : fits w b n = fits a b n := fits_of (h.block b hb)

/-! The array types of this program: 54 is sixty-four words, 50 eight words, 25 thirty-two bytes, 58 sixty-four bytes, 93 a hundred and twenty-eight, 30 twenty. -/
attribute [simp] Sha.K_length Sha.sched_length

def Z54 : Array Value := E32 (List.replicate 64 0)
theorem Z54_info : ((Try.prog.info? 54).map (fun i => (i.zero, i.size))) = some (some (.agg Z54), 64) := by kernel_rfl
@[go_sem ↓] theorem zero54 (w : World) : (zeroValue 54).run Try.prog w = .ok (.agg Z54) w := (zero_of_info Z54_info).1 w
@[simp] theorem Z54_size : Z54.size = 64 := by simp [Z54]
def ld54 (v : Value) : Sem Value := Instr.loadAt 54 v
def st54 (p v : Value) : Sem Unit := Instr.storeAt 54 p v
@[go_sem ↓] theorem loadAt54 (v : Value) : Instr.loadAt 54 v = ld54 v := rfl
@[go_sem ↓] theorem storeAt54 (p v : Value) : Instr.storeAt 54 p v = st54 p v := rfl
@[go_sem] theorem run_ld54 (w : World) (b : Nat) (h : (rowOf w b).size = 64) : (ld54 (.pointer (some ⟨b, 0, none⟩))).run Try.prog w = .ok (.agg (rowOf w b)) w := by
  unfold ld54
  simp only [Instr.loadAt, Instr.sureAddr, Sem.run_bind, Sem.run_pure, Result.andThen]
  exact run_loadVar_rowOf w b 54 64 _ Try.underlying54 rfl (zero_of_info Z54_info).2 (by omega) h
@[go_sem] theorem run_st54 (w : World) (b : Nat) (c : Array Value) (h : fits w b 64 = true) (hc : c.size = 64) (h1 : ones c = true) :
    (st54 (.pointer (some ⟨b, 0, none⟩)) (.agg c)).run Try.prog w = .ok () (w.setRow b c) := by
  unfold st54
  simp only [Instr.storeAt, Instr.sureAddr, Sem.run_bind, Sem.run_pure, Result.andThen]
  exact run_storeVar_rowOf w b 54 64 c (zero_of_info Z54_info).2 h hc h1
theorem res54 {fn : Func} {p : Tmp} (h : fn.results = #[.cell p 54]) {tmps : Array Value} {w : World} {b : Nat} (hp : tmps.getD p undef = .pointer (some ⟨b, 0, none⟩)) {c : Array Value} (hr : rowOf w b = c) (hs : c.size = 64) :
    (results fn tmps).run Try.prog w = .ok (.agg c) w := results_rowOf h 64 _ Try.underlying54 rfl (zero_of_info Z54_info).2 (by omega) hp hr hs

def Z50 : Array Value := E32 (List.replicate 8 0)
theorem Z50_info : ((Try.prog.info? 50).map (fun i => (i.zero, i.size))) = some (some (.agg Z50), 8) := by kernel_rfl
theorem zero50 (w : World) : (zeroValue 50).run Try.prog w = .ok (.agg Z50) w := (zero_of_info Z50_info).1 w
@[simp] theorem Z50_size : Z50.size = 8 := by simp [Z50]
def ld50 (v : Value) : Sem Value := Instr.loadAt 50 v
def st50 (p v : Value) : Sem Unit := Instr.storeAt 50 p v
@[go_sem ↓] theorem loadAt50 (v : Value) : Instr.loadAt 50 v = ld50 v := rfl
@[go_sem ↓] theorem storeAt50 (p v : Value) : Instr.storeAt 50 p v = st50 p v := rfl
@[go_sem] theorem run_ld50 (w : World) (b : Nat) (h : (rowOf w b).size = 8) : (ld50 (.pointer (some ⟨b, 0, none⟩))).run Try.prog w = .ok (.agg (rowOf w b)) w := by
  unfold ld50
  simp only [Instr.loadAt, Instr.sureAddr, Sem.run_bind, Sem.run_pure, Result.andThen]
  exact run_loadVar_rowOf w b 50 8 _ Try.underlying50 rfl (zero_of_info Z50_info).2 (by omega) h
@[go_sem] theorem run_st50 (w : World) (b : Nat) (c : Array Value) (h : fits w b 8 = true) (hc : c.size = 8) (h1 : ones c = true) :
    (st50 (.pointer (some ⟨b, 0, none⟩)) (.agg c)).run Try.prog w = .ok () (w.setRow b c) := by
  unfold st50
  simp only [Instr.storeAt, Instr.sureAddr, Sem.run_bind, Sem.run_pure, Result.andThen]
  exact run_storeVar_rowOf w b 50 8 c (zero_of_info Z50_info).2 h hc h1
theorem res50 {fn : Func} {p : Tmp} (h : fn.results = #[.cell p 50]) {tmps : Array Value} {w : World} {b : Nat} (hp : tmps.getD p undef = .pointer (some ⟨b, 0, none⟩)) {c : Array Value} (hr : rowOf w b = c) (hs : c.size = 8) :
    (results fn tmps).run Try.prog w = .ok (.agg c) w := results_rowOf h 8 _ Try.underlying50 rfl (zero_of_info Z50_info).2 (by omega) hp hr hs

def Z25 : Array Value := E8 (List.replicate 32 0)
theorem Z25_info : ((Try.prog.info? 25).map (fun i => (i.zero, i.size))) = some (some (.agg Z25), 32) := by kernel_rfl
@[go_sem ↓] theorem zero25 (w : World) : (zeroValue 25).run Try.prog w = .ok (.agg Z25) w := (zero_of_info Z25_info).1 w
@[simp] theorem Z25_size : Z25.size = 32 := by simp [Z25]
def ld25 (v : Value) : Sem Value := Instr.loadAt 25 v
def st25 (p v : Value) : Sem Unit := Instr.storeAt 25 p v
@[go_sem ↓] theorem loadAt25 (v : Value) : Instr.loadAt 25 v = ld25 v := rfl
@[go_sem ↓] theorem storeAt25 (p v : Value) : Instr.storeAt 25 p v = st25 p v := rfl
@[go_sem] theorem run_ld25 (w : World) (b : Nat) (h : (rowOf w b).size = 32) : (ld25 (.pointer (some ⟨b, 0, none⟩))).run Try.prog w = .ok (.agg (rowOf w b)) w := by
  unfold ld25
  simp only [Instr.loadAt, Instr.sureAddr, Sem.run_bind, Sem.run_pure, Result.andThen]
  exact run_loadVar_rowOf w b 25 32 _ Try.underlying25 rfl (zero_of_info Z25_info).2 (by omega) h
@[go_sem] theorem run_st25 (w : World) (b : Nat) (c : Array Value) (h : fits w b 32 = true) (hc : c.size = 32) (h1 : ones c = true) :
    (st25 (.pointer (some ⟨b, 0, none⟩)) (.agg c)).run Try.prog w = .ok () (w.setRow b c) := by
  unfold st25
  simp only [Instr.storeAt, Instr.sureAddr, Sem.run_bind, Sem.run_pure, Result.andThen]
  exact run_storeVar_rowOf w b 25 32 c (zero_of_info Z25_info).2 h hc h1
theorem res25 {fn : Func} {p : Tmp} (h : fn.results = #[.cell p 25]) {tmps : Array Value} {w : World} {b : Nat} (hp : tmps.getD p undef = .pointer (some ⟨b, 0, none⟩)) {c : Array Value} (hr : rowOf w b = c) (hs : c.size = 32) :
    (results fn tmps).run Try.prog w = .ok (.agg c) w := results_rowOf h 32 _ Try.underlying25 rfl (zero_of_info Z25_info).2 (by omega) hp hr hs

def Z58 : Array Value := E8 (List.replicate 64 0)
theorem Z58_info : ((Try.prog.info? 58).map (fun i => (i.zero, i.size))) = some (some (.agg Z58), 64) := by kernel_rfl
@[go_sem ↓] theorem zero58 (w : World) : (zeroValue 58).run Try.prog w = .ok (.agg Z58) w := (zero_of_info Z58_info).1 w
@[simp] theorem Z58_size : Z58.size = 64 := by simp [Z58]
def ld58 (v : Value) : Sem Value := Instr.loadAt 58 v
def st58 (p v : Value) : Sem Unit := Instr.storeAt 58 p v
@[go_sem ↓] theorem loadAt58 (v : Value) : Instr.loadAt 58 v = ld58 v := rfl
@[go_sem ↓] theorem storeAt58 (p v : Value) : Instr.storeAt 58 p v = st58 p v := rfl
@[go_sem] theorem run_ld58 (w : World) (b : Nat) (h : (rowOf w b).size = 64) : (ld58 (.pointer (some ⟨b, 0, none⟩))).run Try.prog w = .ok (.agg (rowOf w b)) w := by
  unfold ld58
  simp only [Instr.loadAt, Instr.sureAddr, Sem.run_bind, Sem.run_pure, Result.andThen]
  exact run_loadVar_rowOf w b 58 64 _ Try.underlying58 rfl (zero_of_info Z58_info).2 (by omega) h
@[go_sem] theorem run_st58 (w : World) (b : Nat) (c : Array Value) (h : fits w b 64 = true) (hc : c.size = 64) (h1 : ones c = true) :
    (st58 (.pointer (some ⟨b, 0, none⟩)) (.agg c)).run Try.prog w = .ok () (w.setRow b c) := by
  unfold st58
  simp only [Instr.storeAt, Instr.sureAddr, Sem.run_bind, Sem.run_pure, Result.andThen]
  exact run_storeVar_rowOf w b 58 64 c (zero_of_info Z58_info).2 h hc h1
theorem res58 {fn : Func} {p : Tmp} (h : fn.results = #[.cell p 58]) {tmps : Array Value} {w : World} {b : Nat} (hp : tmps.getD p undef = .pointer (some ⟨b, 0, none⟩)) {c : Array Value} (hr : rowOf w b = c) (hs : c.size = 64) :
    (results fn tmps).run Try.prog w = .ok (.agg c) w := results_rowOf h 64 _ Try.underlying58 rfl (zero_of_info Z58_info).2 (by omega) hp hr hs

def Z93 : Array Value := E8 (List.replicate 128 0)
theorem Z93_info : ((Try.prog.info? 93).map (fun i => (i.zero, i.size))) = some (some (.agg Z93), 128) := by kernel_rfl
@[go_sem ↓] theorem zero93 (w : World) : (zeroValue 93).run Try.prog w = .ok (.agg Z93) w := (zero_of_info Z93_info).1 w
@[simp] theorem Z93_size : Z93.size = 128 := by simp [Z93]
def ld93 (v : Value) : Sem Value := Instr.loadAt 93 v
def st93 (p v : Value) : Sem Unit := Instr.storeAt 93 p v
@[go_sem ↓] theorem loadAt93 (v : Value) : Instr.loadAt 93 v = ld93 v := rfl
@[go_sem ↓] theorem storeAt93 (p v : Value) : Instr.storeAt 93 p v = st93 p v := rfl
@[go_sem] theorem run_ld93 (w : World) (b : Nat) (h : (rowOf w b).size = 128) : (ld93 (.pointer (some ⟨b, 0, none⟩))).run Try.prog w = .ok (.agg (rowOf w b)) w := by
  unfold ld93
  simp only [Instr.loadAt, Instr.sureAddr, Sem.run_bind, Sem.run_pure, Result.andThen]
  exact run_loadVar_rowOf w b 93 128 _ Try.underlying93 rfl (zero_of_info Z93_info).2 (by omega) h
@[go_sem] theorem run_st93 (w : World) (b : Nat) (c : Array Value) (h : fits w b 128 = true) (hc : c.size = 128) (h1 : ones c = true) :
    (st93 (.pointer (some ⟨b, 0, none⟩)) (.agg c)).run Try.prog w = .ok () (w.setRow b c) := by
  unfold st93
  simp only [Instr.storeAt, Instr.sureAddr, Sem.run_bind, Sem.run_pure, Result.andThen]
  exact run_storeVar_rowOf w b 93 128 c (zero_of_info Z93_info).2 h hc h1
theorem res93 {fn : Func} {p : Tmp} (h : fn.results = #[.cell p 93]) {tmps : Array Value} {w : World} {b : Nat} (hp : tmps.getD p undef = .pointer (some ⟨b, 0, none⟩)) {c : Array Value} (hr : rowOf w b = c) (hs : c.size = 128) :
    (results fn tmps).run Try.prog w = .ok (.agg c) w := results_rowOf h 128 _ Try.underlying93 rfl (zero_of_info Z93_info).2 (by omega) hp hr hs

def Z30 : Array Value := E8 (List.replicate 20 0)
theorem Z30_info : ((Try.prog.info? 30).map (fun i => (i.zero, i.size))) = some (some (.agg Z30), 20) := by kernel_rfl
@[go_sem ↓] theorem zero30 (w : World) : (zeroValue 30).run Try.prog w = .ok (.agg Z30) w := (zero_of_info Z30_info).1 w
@[simp] theorem Z30_size : Z30.size = 20 := by simp [Z30]
def ld30 (v : Value) : Sem Value := Instr.loadAt 30 v
def st30 (p v : Value) : Sem Unit := Instr.storeAt 30 p v
@[go_sem ↓] theorem loadAt30 (v : Value) : Instr.loadAt 30 v = ld30 v := rfl
@[go_sem ↓] theorem storeAt30 (p v : Value) : Instr.storeAt 30 p v = st30 p v := rfl
@[go_sem] theorem run_ld30 (w : World) (b : Nat) (h : (rowOf w b).size = 20) : (ld30 (.pointer (some ⟨b, 0, none⟩))).run Try.prog w = .ok (.agg (rowOf w b)) w := by
  unfold ld30
  simp only [Instr.loadAt, Instr.sureAddr, Sem.run_bind, Sem.run_pure, Result.andThen]
  exact run_loadVar_rowOf w b 30 20 _ Try.underlying30 rfl (zero_of_info Z30_info).2 (by omega) h
@[go_sem] theorem run_st30 (w : World) (b : Nat) (c : Array Value) (h : fits w b 20 = true) (hc : c.size = 20) (h1 : ones c = true) :
    (st30 (.pointer (some ⟨b, 0, none⟩)) (.agg c)).run Try.prog w = .ok () (w.setRow b c) := by
  unfold st30
  simp only [Instr.storeAt, Instr.sureAddr, Sem.run_bind, Sem.run_pure, Result.andThen]
  exact run_storeVar_rowOf w b 30 20 c (zero_of_info Z30_info).2 h hc h1
theorem res30 {fn : Func} {p : Tmp} (h : fn.results = #[.cell p 30]) {tmps : Array Value} {w : World} {b : Nat} (hp : tmps.getD p undef = .pointer (some ⟨b, 0, none⟩)) {c : Array Value} (hr : rowOf w b = c) (hs : c.size = 20) :
    (results fn tmps).run Try.prog w = .ok (.agg c) w := results_rowOf h 20 _ Try.underlying30 rfl (zero_of_info Z30_info).2 (by omega) hp hr hs

@[go_sem] theorem all_eight (k : IntKind) (a b c d e f g h : Int) : ones #[Value.int k a, .int k b, .int k c, .int k d, .int k e, .int k f, .int k g, .int k h] = true := by simp [ones, Value.oneCell']
theorem E32_eight (s : Sha.St) : E32 s.list = #[Value.int .u32 (s.a : Int), .int .u32 (s.b : Int), .int .u32 (s.c : Int), .int .u32 (s.d : Int), .int .u32 (s.e : Int), .int .u32 (s.f : Int), .int .u32 (s.g : Int), .int .u32 (s.h : Int)] := rfl
@[simp] theorem list_eight (s : Sha.St) : s.list.length = 8 := rfl
end Go.Proofs.Ytdkhmjiconedkaa
