/- Laws of the walk for rows of bytes at this seat, and the plain mathematics of lists of numbers. -/
import Derived.Test.YtgchndogklmpdaaRows
import Derived.WalkKit
import Derived.WalkSpells
import Derived.WalkLawsBesides
import Derived.Deep.QuietTactic
import Derived.BigQuiet
import Derived.Deep.WholeRow
import Derived.Great.Walk
import Derived.Deep.AppendSrc
import Derived.Deep.Upon
import Derived.Deep.MidRow
namespace Go.Proofs.Ytgchndogklmpdaa
namespace Sha
/-- What stands at a place of a list; nought behind its end. -/
def nth (l : List Nat) (i : Nat) : Nat := l[i]?.getD 0
def Bytes (l : List Nat) : Prop := ∀ x ∈ l, x < 256
theorem Bytes.at {l : List Nat} (h : Bytes l) (i : Nat) : nth l i < 256 := by
  unfold nth
  cases e : l[i]? with
  | none => simp
  | some v => exact h v (List.mem_of_getElem? e)
theorem nth_ext {l m : List Nat} (hl : l.length = m.length) (h : ∀ i, i < l.length → nth l i = nth m i) : l = m := by
  apply List.ext_getElem hl
  intro i h1 h2
  have := h i h1
  unfold nth at this
  rw [List.getElem?_eq_getElem h1, List.getElem?_eq_getElem h2] at this
  simpa using this
theorem nth_append_left {l m : List Nat} {i : Nat} (h : i < l.length) : nth (l ++ m) i = nth l i := by unfold nth; rw [List.getElem?_append_left h]
theorem nth_append_right {l m : List Nat} {i : Nat} (h : l.length ≤ i) : nth (l ++ m) i = nth m (i - l.length) := by unfold nth; rw [List.getElem?_append_right h]
theorem nth_set_same {l : List Nat} {i x : Nat} (h : i < l.length) : nth (l.set i x) i = x := by unfold nth; rw [List.getElem?_set_self h]; rfl
theorem nth_set_other {l : List Nat} {i j x : Nat} (h : i ≠ j) : nth (l.set i x) j = nth l j := by unfold nth; rw [List.getElem?_set_ne h]
theorem nth_replicate (n i : Nat) : nth (List.replicate n 0) i = 0 := by
  unfold nth; rw [List.getElem?_replicate]; split <;> rfl
theorem nth_beyond {l : List Nat} {i : Nat} (h : l.length ≤ i) : nth l i = 0 := by unfold nth; rw [List.getElem?_eq_none h]; rfl
theorem nth_take {l : List Nat} {n i : Nat} (h : i < n) : nth (l.take n) i = nth l i := by unfold nth; rw [List.getElem?_take_of_lt h]
theorem nth_drop (l : List Nat) (n i : Nat) : nth (l.drop n) i = nth l (n + i) := by unfold nth; rw [List.getElem?_drop]
theorem nth_one (x i : Nat) : nth [x] i = if i = 0 then x else 0 := by
  unfold nth; cases i <;> simp
theorem Bytes.append {l m : List Nat} (h : Bytes l) (k : Bytes m) : Bytes (l ++ m) := fun x hx => by
  rcases List.mem_append.1 hx with hx | hx
  · exact h x hx
  · exact k x hx
theorem Bytes.rep (n : Nat) : Bytes (List.replicate n 0) := fun x hx => by rw [(List.mem_replicate.1 hx).2]; omega
theorem Bytes.one {x : Nat} (h : x < 256) : Bytes [x] := fun y hy => by simp at hy; omega
theorem Bytes.take {l : List Nat} (h : Bytes l) (n : Nat) : Bytes (l.take n) := fun x hx => h x (List.mem_of_mem_take hx)
theorem Bytes.drop {l : List Nat} (h : Bytes l) (n : Nat) : Bytes (l.drop n) := fun x hx => h x (List.mem_of_mem_drop hx)
end Sha
open Go.RowKit Go.Great

theorem hide {p : Prop} (h : p) : Hid p := h
theorem unhide {p : Prop} (h : Hid p) : p := h
def B8 (n : Nat) : Value := .int .u8 (n : Int)
def E8 (l : List Nat) : Array Value := (l.map B8).toArray
@[simp] theorem E8_size (l : List Nat) : (E8 l).size = l.length := by simp [E8]
theorem E8_get (l : List Nat) (i : Nat) (h : i < l.length) : (E8 l)[i]? = some (.int .u8 ((Sha.nth l i : Nat) : Int)) := by
  simp [E8, B8, List.getElem?_eq_getElem h, Sha.nth]
theorem E8_set (l : List Nat) (i : Nat) (n : Nat) : (E8 l).setIfInBounds i (.int .u8 (n : Int)) = E8 (l.set i n) := by
  simp [E8, List.map_set, B8]
/-- Every cell is one cell wide. -/
def ones (c : Array Value) : Bool := c.all (·.oneCell')
@[simp] theorem E8_all (l : List Nat) : ones (E8 l) = true := by simp [ones, E8, B8, Value.oneCell']
@[go_sem, simp] theorem E8_getElem (l : List Nat) (i : Nat) (h : i < (E8 l).size) : (E8 l)[i] = .int .u8 ((Sha.nth l i : Nat) : Int) := by
  have := E8_get l i (by simpa using h)
  rw [Array.getElem?_eq_getElem h] at this
  exact Option.some.inj this
/-- The cells of a block. -/
def rowOf (w : World) (b : Nat) : Array Value := match w.heap[b]? with | some (.cells cs _ _) => cs | _ => #[]
/-- A block of so many cells, none of them frozen. -/
def fits (w : World) (b n : Nat) : Bool := match w.heap[b]? with | some (.cells cs _ fr) => cs.size == n && fr == (0, 0) | _ => false

theorem rowOf_of {w w' : World} {b : Nat} (h : w'.heap[b]? = w.heap[b]?) : rowOf w' b = rowOf w b := by unfold rowOf; rw [h]
theorem fits_of {w w' : World} {b n : Nat} (h : w'.heap[b]? = w.heap[b]?) : fits w' b n = fits w b n := by unfold fits; rw [h]
@[go_sem] theorem rowOf_alloc_at (w : World) (c : Array Value) (t : TypeId) (n : Nat) (hn : n = w.heap.size) : rowOf (w.alloc (.cells c t)) n = c := by
  subst hn; unfold rowOf; rw [heap_alloc_new]
@[go_sem] theorem rowOf_alloc_past (w : World) (o : Obj) (n : Nat) (hn : n < w.heap.size) : rowOf (w.alloc o) n = rowOf w n := rowOf_of (Below.heap_alloc w o n hn)
@[go_sem] theorem fits_alloc_at (w : World) (c : Array Value) (t : TypeId) (n k : Nat) (hn : n = w.heap.size) : fits (w.alloc (.cells c t)) n k = (c.size == k) := by
  subst hn; unfold fits; rw [heap_alloc_new]; simp
@[go_sem] theorem fits_alloc_past (w : World) (o : Obj) (n k : Nat) (hn : n < w.heap.size) : fits (w.alloc o) n k = fits w n k := fits_of (Below.heap_alloc w o n hn)
@[go_sem] theorem rowOf_drew (w : World) (n : Nat) : rowOf w.drew n = rowOf w n := rfl
@[go_sem] theorem fits_drew (w : World) (n k : Nat) : fits w.drew n k = fits w n k := rfl
@[go_sem] theorem rowOf_drewN (w : World) (m n : Nat) : rowOf (w.drewN m) n = rowOf w n := rfl
@[go_sem] theorem fits_drewN (w : World) (m n k : Nat) : fits (w.drewN m) n k = fits w n k := rfl
@[go_sem] theorem rowOf_setCell_other (w : World) (a : Addr) (v : Value) (n : Nat) (hn : n ≠ a.block) : rowOf (w.setCell a v) n = rowOf w n := rowOf_of (Below.heap_setCell w a v n hn)
@[go_sem] theorem fits_setCell_other (w : World) (a : Addr) (v : Value) (n k : Nat) (hn : n ≠ a.block) : fits (w.setCell a v) n k = fits w n k := fits_of (Below.heap_setCell w a v n hn)
theorem fits_some {w : World} {b n : Nat} (h : fits w b n = true) : ∃ cs t, w.heap[b]? = some (.cells cs t (0, 0)) ∧ cs.size = n ∧ rowOf w b = cs := by
  unfold fits at h
  split at h
  · rename_i cs t fr e
    simp at h
    obtain ⟨h1, h2⟩ := h
    refine ⟨cs, t, ?_, h1, ?_⟩
    · rw [e, h2]
    · unfold rowOf; rw [e]
  · simp at h
theorem rowOf_some {w : World} {b n : Nat} (h : (rowOf w b).size = n) (hn : 0 < n) : ∃ cs t fr, w.heap[b]? = some (.cells cs t fr) ∧ rowOf w b = cs := by
  unfold rowOf at h ⊢
  split at h
  · rename_i cs t fr e
    exact ⟨cs, t, fr, e, rfl⟩
  · simp at h; omega
theorem cell_row (w : World) (b i : Nat) (v : Value) (h : (rowOf w b)[i]? = some v) : w.cell? ⟨b, i, none⟩ = some v := by
  unfold rowOf at h
  split at h
  · rename_i cs t fr e
    rw [cell_of_row w b i cs t fr e]; exact h
  · simp at h
theorem frozen_fits {w : World} {b n : Nat} (h : fits w b n = true) (i : Nat) : w.frozen? ⟨b, i, none⟩ = false := by
  obtain ⟨cs, t, e, -, -⟩ := fits_some h
  simp [World.frozen?, e]

section
variable {P : Program}
theorem run_loadVar_rowOf (w : World) (b : Nat) (ty : TypeId) (n : Nat) (d : TypeDesc) (hu : P.underlying ty = some d) (hd : (match d with | .struct _ | .array _ _ => true | _ => false) = true)
    (hi : (P.info? ty).map (·.size) = some n) (hn : 0 < n) (h : (rowOf w b).size = n) : (loadVar ty ⟨b, 0, none⟩).run P w = .ok (.agg (rowOf w b)) w := by
  obtain ⟨cs, t, fr, e, er⟩ := rowOf_some h hn
  rw [er]
  exact run_loadVar_row w b t ty cs fr d e hu hd (by rw [hi, ← h, er])
theorem run_storeVar_rowOf (w : World) (b : Nat) (ty : TypeId) (n : Nat) (c : Array Value) (hi : (P.info? ty).map (·.size) = some n) (h : fits w b n = true) (hc : c.size = n) (h1 : ones c = true) :
    (storeVar ty ⟨b, 0, none⟩ (.agg c)).run P w = .ok () (w.setRow b c) := by
  obtain ⟨cs, t, e, es, er⟩ := fits_some h
  exact run_storeVar_row w b t ty cs c e (by rw [hi, hc]) (by rw [es, hc]) h1
@[go_sem ↓] theorem run_storeCells_rowOf (w : World) (b : Nat) (c : Array Value) (h : fits w b c.size = true) (h1 : ones c = true) :
    (storeCells ⟨b, 0, none⟩ c.toList 0).run P w = .ok () (w.setRow b c) := by
  obtain ⟨cs, t, e, es, er⟩ := fits_some h
  have := run_storeCells_from (P := P) b t c.toList 0 cs w e (by simp; omega) (fun v hv => (Array.all_eq_true_iff_forall_mem.1 h1) v (by simpa using hv))
  simpa using this
@[go_sem ↓] theorem run_loadCells_rowOf (w : World) (b n : Nat) (h : (rowOf w b).size = n) (hn : 0 < n) :
    (loadCellsFrom ⟨b, 0, none⟩ 0 n #[]).run P w = .ok (rowOf w b) w := by
  obtain ⟨cs, t, fr, e, er⟩ := rowOf_some h hn
  rw [er] at h ⊢
  subst h
  have := run_loadCells_list (P := P) w ⟨b, 0, none⟩ cs.toList (fun j v hv => by
    have hadd : (⟨b, 0, none⟩ : Addr).add j = ⟨b, j, none⟩ := by unfold Addr.add; split <;> simp_all
    rw [hadd, cell_of_row w b j cs t fr e]
    simpa using hv)
  simpa [loadCells] using this
/-- The result that lies in a block: its cells. -/
theorem results_rowOf {fn : Func} {p : Tmp} {ty : TypeId} (h : fn.results = #[.cell p ty]) (n : Nat) (d : TypeDesc) (hu : P.underlying ty = some d) (hd : (match d with | .struct _ | .array _ _ => true | _ => false) = true)
    (hi : (P.info? ty).map (·.size) = some n) (hn : 0 < n) {tmps : Array Value} {w : World} {b : Nat} (hp : tmps.getD p undef = .pointer (some ⟨b, 0, none⟩)) {c : Array Value} (hr : rowOf w b = c) (hs : c.size = n) :
    (results fn tmps).run P w = .ok (.agg c) w := by
  obtain ⟨cs, t, fr, e, er⟩ := rowOf_some (by rw [hr, hs]) hn
  have ec : cs = c := by rw [← er, hr]
  subst ec
  exact results_cell_row h tmps w b t cs fr d hp e hu hd (by rw [hi, hs])
end

@[go_sem] theorem setRow_alloc_at (w : World) (c c' : Array Value) (t : TypeId) (n : Nat) (hn : n = w.heap.size) : (w.alloc (.cells c t)).setRow n c' = w.alloc (.cells c' t) := by
  subst hn; exact World.setRow_alloc_new w c c' t
@[go_sem] theorem setRow_alloc_past (w : World) (o : Obj) (c' : Array Value) (n : Nat) (hn : n < w.heap.size) : (w.alloc o).setRow n c' = (w.setRow n c').alloc o := by
  unfold World.setRow World.alloc
  congr 1
  apply Array.ext_getElem?
  intro k
  simp only [Array.getElem?_modify, Array.getElem?_push, Array.size_modify]
  by_cases hk : k = w.heap.size
  · subst hk
    simp [Nat.ne_of_lt hn]
  · simp [hk]
@[go_sem] theorem setRow_drew (w : World) (n : Nat) (c : Array Value) : w.drew.setRow n c = (w.setRow n c).drew := rfl
@[go_sem] theorem drewN_setCell (w : World) (m : Nat) (a : Addr) (v : Value) : (w.drewN m).setCell a v = (w.setCell a v).drewN m := rfl
@[go_sem] theorem drewN_setRow (w : World) (m n : Nat) (c : Array Value) : (w.drewN m).setRow n c = (w.setRow n c).drewN m := rfl
@[go_sem] theorem rowOf_setRow_at (w : World) (n k : Nat) (c : Array Value) (h : fits w n k = true) : rowOf (w.setRow n c) n = c := by
  obtain ⟨cs, t, e, -, -⟩ := fits_some h
  unfold rowOf; rw [setRow_heap w n cs c t _ e]
theorem below_setRow {B : Nat} {a w : World} (h : Below B a w) {g : Nat} (hg : B ≤ g) (c : Array Value) : Below B a (w.setRow g c) :=
  h.trans ⟨rfl, rfl, rfl, by simp, fun k hk => setRow_other w g k c (by omega)⟩
theorem below_drews {B : Nat} {a w : World} (h : Below B a w) (n : Nat) : Below B a (w.drewN n) := ⟨h.os, h.tape, h.output, h.size, h.block⟩
theorem below_rowOf {B : Nat} {a w : World} (h : Below B a w) {b : Nat} (hb : b < B) : rowOf w b = rowOf a b := rowOf_of (h.block b hb)
theorem below_fits {B : Nat} {a w : World} (h : Below B a w) {b n : Nat} (hb : b < B) : fits w b n = fits a b n := fits_of (h.block b hb)
attribute [go_sem] E8_get E8_set
/-- A slice value whose bytes lie in a block that was there. -/
def BytesAt (w : World) (v : Value) (m : List Nat) : Prop :=
  ∃ a cap, v = .slice a m.length cap ∧ m.length ≤ cap ∧ (0 < m.length → ∃ b o, a = some ⟨b, o, none⟩ ∧ b < w.heap.size ∧ ∀ i, i < m.length → w.cell? ⟨b, o + i, none⟩ = some (.int .u8 ((Sha.nth m i : Nat) : Int)))
theorem BytesAt.below {w w' : World} {v : Value} {m : List Nat} (h : BytesAt w v m) (hb : Below w.heap.size w w') : BytesAt w' v m := by
  obtain ⟨a, cap, e, hc, hm⟩ := h
  refine ⟨a, cap, e, hc, fun hp => ?_⟩
  obtain ⟨b, o, ea, hl, hcell⟩ := hm hp
  exact ⟨b, o, ea, Nat.lt_of_lt_of_le hl hb.size, fun i hi => by rw [hb.cell (p := ⟨b, o + i, none⟩) hl]; exact hcell i hi⟩
def zs (n : Nat) : List Nat := List.replicate n 0
@[simp] theorem zs_length (n : Nat) : (zs n).length = n := by simp [zs]
theorem bytesAt_row (w : World) (g : Nat) (L m : List Nat) (e cap : Nat) (hr : rowOf w g = E8 L) (hg : g < w.heap.size) (he : e ≤ L.length) (hcap : e ≤ cap) (hm : L.take e = m) : BytesAt w (.slice (some ⟨g, 0, none⟩) e cap) m := by
  have hl : m.length = e := by rw [← hm, List.length_take]; omega
  refine ⟨some ⟨g, 0, none⟩, cap, by rw [hl], by omega, fun _ => ⟨g, 0, rfl, hg, fun i hi => ?_⟩⟩
  rw [Nat.zero_add]
  refine cell_row _ _ _ _ ?_
  rw [hr, E8_get _ _ (by omega), ← hm, Sha.nth_take (by omega)]
theorem BytesAt.firsts {w : World} {a : Option Addr} {n cap : Nat} {b : List Nat} (h : BytesAt w (.slice a n cap) b) (q : Nat) (hq : q ≤ b.length) : BytesAt w (.slice a q cap) (b.take q) := by
  obtain ⟨a', c, e, hc, hb⟩ := h
  cases e
  have hl : (b.take q).length = q := by rw [List.length_take]; omega
  refine ⟨a, cap, by rw [hl], by omega, fun h0 => ?_⟩
  obtain ⟨g, o, ea, hg, hcell⟩ := hb (by omega)
  exact ⟨g, o, ea, hg, fun i hi => by rw [hcell i (by omega), Sha.nth_take (by omega)]⟩
/-- A row of numbers, and noughts behind it up to n. -/
def padTo (n : Nat) (l : List Nat) : List Nat := l ++ List.replicate (n - l.length) 0
theorem padTo_length (n : Nat) (l : List Nat) (h : l.length ≤ n) : (padTo n l).length = n := by simp [padTo]; omega
theorem padTo_set (n : Nat) (l : List Nat) (k x : Nat) (hk : l.length = k) (h : k < n) : (padTo n l).set k x = padTo n (l ++ [x]) := by
  subst hk
  unfold padTo
  rw [List.set_append_right _ _ (Nat.le_refl _), Nat.sub_self]
  obtain ⟨m, hm⟩ : ∃ m, n - l.length = m + 1 := ⟨n - l.length - 1, by omega⟩
  have e : n - (l ++ [x]).length = m := by simp; omega
  rw [hm, e, List.replicate_succ]
  simp
theorem padTo_full (n : Nat) (l : List Nat) (h : l.length = n) : padTo n l = l := by simp [padTo, h]
theorem info5 : (Try.prog.info? 5).map (fun i => (i.zero, i.size, i.bytes)) = some (some (.int .u8 0), 1, 1) := by kernel_rfl
theorem info5_at : ∃ i, Try.prog.info? 5 = some i ∧ i.zero = some (.int .u8 0) ∧ i.size = 1 ∧ i.bytes = 1 := by
  have h := info5
  cases hq : Try.prog.info? 5 with
  | none => simp [hq] at h
  | some i => simp [hq] at h; exact ⟨i, rfl, h.1, h.2.1, h.2.2⟩
theorem made_zs (n : Nat) : madeCells (Value.int .u8 0).cells n = E8 (zs n) := by
  apply Array.ext
  · simp [madeCells, zs]
  · intro i h1 h2
    rw [E8_getElem]
    unfold zs
    rw [Sha.nth_replicate]
    simp [madeCells, Value.cells, Nat.mod_one]
@[go_sem] theorem make22 (w : World) (l c : Int) (h0 : 0 ≤ l) (h1 : l ≤ c) (h2 : c ≤ 65536) :
    (Instr.makeSlice 22 (.int .i64 l) (.int .i64 c)).run Try.prog w = .ok (.slice (some ⟨w.heap.size, 0, none⟩) l.toNat c.toNat) (w.alloc (.cells (E8 (zs c.toNat)) 5)) := by
  obtain ⟨i, hi, hz, hs, hby⟩ := info5_at
  rw [run_make (P := Try.prog) w 22 5 i _ Try.underlying22 hi hz .i64 .i64 l c h0 h1 (by rw [hby]; omega) (by omega), hs, Nat.mul_one, made_zs]
theorem rowOf_set (w : World) (b i : Nat) (v : Value) : rowOf (w.setCell ⟨b, i, none⟩ v) b = (rowOf w b).setIfInBounds i v := by
  unfold rowOf World.setCell
  simp only [Array.getElem?_modify]
  cases e : w.heap[b]? with
  | none => simp
  | some o => cases o <;> simp
theorem fits_set (w : World) (b i n : Nat) (v : Value) : fits (w.setCell ⟨b, i, none⟩ v) b n = fits w b n := by
  unfold fits World.setCell
  simp only [Array.getElem?_modify]
  cases e : w.heap[b]? with
  | none => simp
  | some o => cases o <;> simp
def app22 (ty : TypeId) (args : Array Value) : Sem Value := Builtin.append_ #[22, 22] ty args
@[go_sem ↓] theorem append_app22 (ty : TypeId) (args : Array Value) : Builtin.append_ #[22, 22] ty args = app22 ty args := rfl
/-- Bytes as a text. -/
def strOf (l : List Nat) : ByteArray := ⟨(l.map UInt8.ofNat).toArray⟩
theorem strOf_fold (l : List Nat) : ∀ r : ByteArray, (l.map Int.ofNat).foldl (fun r n => r.push (UInt8.ofNat n.toNat)) r = ⟨r.data ++ (l.map UInt8.ofNat).toArray⟩ := by
  induction l with
  | nil => intro r; simp
  | cons x l ih =>
    intro r
    rw [List.map_cons, List.foldl_cons, ih]
    simp [ByteArray.push]
theorem conv_row (w : World) (g n cap : Nat) (L : List Nat) (hr : rowOf w g = E8 L) (hn : L.length = n) (h0 : 0 < n) :
    (convert 22 9 (.slice (some ⟨g, 0, none⟩) n cap)).run Try.prog w = .ok (.string (strOf L)) w := by
  rw [run_convert_bytes_string w 22 9 5 _ _ _ Try.underlying22 Try.underlying5 Try.underlying9]
  have hl : (loadCells ⟨g, 0, none⟩ n).run Try.prog w = .ok ((L.map Int.ofNat).map (Value.int .u8)).toArray w := by
    have := run_loadCells_rowOf (P := Try.prog) w g n (by rw [hr]; simp [hn]) h0
    rw [hr] at this
    rw [List.map_map]
    exact this
  rw [run_bytesToString w _ n cap _ hl, strOf_fold]
  simp [strOf, ByteArray.empty, ByteArray.emptyWithCapacity]
  rfl
@[go_sem] theorem lt_two (a : Nat) : a < a + 1 + 1 := by omega
@[go_sem] theorem lt_three (a : Nat) : a < a + 1 + 1 + 1 := by omega
@[go_sem] theorem lt_four (a : Nat) : a < a + 1 + 1 + 1 + 1 := by omega
@[go_sem] theorem strOf_size (l : List Nat) : (strOf l).size = l.length := by simp [strOf, ByteArray.size]
theorem strOf_append (a b : List Nat) : strOf a ++ strOf b = strOf (a ++ b) := by
  apply ByteArray.ext
  simp [ByteArray.data_append, strOf]

/-- A slice of bytes whose row is the call's own. -/
def OwnB (w : World) (base : Nat) (v : Value) (L : List Nat) : Prop :=
  ∃ (g : Nat) (R : List Nat), v = .slice (some ⟨g, 0, none⟩) L.length (L ++ R).length ∧ base ≤ g ∧ w.heap[g]? = some (.cells (E8 (L ++ R)) 5 (0, 0))
theorem E8_append (a b : List Nat) : E8 (a ++ b) = E8 a ++ E8 b := by simp [E8]
theorem nth_map (m : List Nat) (j : Nat) (u : Value) (h : (m.map B8)[j]? = some u) : j < m.length ∧ u = .int .u8 ((Sha.nth m j : Nat) : Int) := by
  rw [List.getElem?_map] at h
  cases e : m[j]? with
  | none => simp [e] at h
  | some x =>
    simp [e] at h
    refine ⟨(List.getElem?_eq_some_iff.1 e).1, ?_⟩
    rw [← h]; unfold B8 Sha.nth; rw [e]; rfl
theorem app_own (w : World) (base : Nat) (v : Value) (L : List Nat) (a : Option Addr) (m : List Nat) (c : Nat) (ho : OwnB w base v L) (hs : BytesAt w (.slice a m.length c) m) (hm : 0 < m.length) (hmax : L.length + m.length ≤ 1000000) :
    ∃ v' w', (∀ ty, (app22 ty #[v, .slice a m.length c]).run Try.prog w = .ok v' w') ∧ OwnB w' base v' (L ++ m) ∧ Below base w w' ∧ w.heap.size ≤ w'.heap.size := by
  obtain ⟨g, R, rfl, hg, hh⟩ := ho
  obtain ⟨a', c', ev, hc, hb⟩ := hs
  cases ev
  obtain ⟨b, o, rfl, hbl, hcell⟩ := hb hm
  obtain ⟨i, hi, hz, hsz, hby⟩ := info5_at
  have hlt : g < w.heap.size := (Array.getElem?_eq_some_iff.1 hh).1
  have hnews : ∀ j u, (m.map B8)[j]? = some u → w.cell? ((⟨b, o, none⟩ : Addr).add j) = some u := fun j u hj => by
    obtain ⟨hj1, rfl⟩ := nth_map m j u hj
    rw [Addr.add_mid]; exact hcell j hj1
  have hone : ∀ u ∈ m.map B8, u.oneCell' = true := fun u hu => by obtain ⟨x, -, rfl⟩ := List.mem_map.1 hu; rfl
  by_cases hroom : L.length + m.length ≤ (L ++ R).length
  · have hrl : m.length ≤ R.length := by simp at hroom; omega
    refine ⟨.slice (some ⟨g, 0, none⟩) (L.length + m.length) (L ++ R).length, w.setRow g (E8 (L ++ m ++ R.drop m.length)), fun ty => ?_, ?_, ?_, ?_⟩
    · unfold app22
      rw [run_append_room (P := Try.prog) w 22 ty 5 i Try.underlying22 hi g L.length (L ++ R).length (E8 (L ++ R)) hh ⟨b, o, none⟩ m.length c (m.map B8) (by simp [hsz]) hnews hone hroom (by simp [hsz]; omega)]
      rw [hsz, Nat.mul_one]
      have e : ((E8 (L ++ R)).toList.take L.length ++ m.map B8 ++ (E8 (L ++ R)).toList.drop (L.length + (m.map B8).length)).toArray = E8 (L ++ m ++ R.drop m.length) := by
        unfold E8
        rw [List.toList_toArray, List.map_append, List.take_left' (by simp), List.drop_append]
        simp [List.map_drop]
      rw [e]
    · refine ⟨g, R.drop m.length, by simp; omega, hg, ?_⟩
      rw [setRow_heap w g _ _ 5 _ hh]
    · exact below_setRow (Below.refl _ _) hg _
    · simp
  · refine ⟨.slice (some ⟨w.heap.size, 0, none⟩) (L.length + m.length) (grownCap w (L.length + m.length) (L ++ R).length 5), w.drew.alloc (.cells (E8 (L ++ m ++ zs (grownCap w (L.length + m.length) (L ++ R).length 5 - (L.length + m.length)))) 5), fun ty => ?_, ?_, ?_, ?_⟩
    · unfold app22
      have hold : (Builtin.firstCells i.size L.length (.slice (some ⟨g, 0, none⟩) L.length (L ++ R).length)).run Try.prog w.drew = .ok (L.map B8).toArray w.drew :=
        run_firstCells_some w.drew i.size L.length ⟨g, 0, none⟩ L.length _ (L.map B8) (by simp [hsz]) (fun j u hj => by
          obtain ⟨hj1, rfl⟩ := nth_map L j u hj
          rw [Addr.add_mid, Nat.zero_add]
          have : w.cell? ⟨g, j, none⟩ = some (.int .u8 ((Sha.nth L j : Nat) : Int)) := by
            rw [cell_of_row w g j _ 5 _ hh, E8_get _ _ (by simp; omega), Sha.nth_append_left hj1]
          exact this)
      rw [run_append_grow_src (P := Try.prog) w 22 22 ty 5 i (.int .u8 0) Try.underlying22 hi hz (some ⟨g, 0, none⟩) L.length (L ++ R).length (L.map B8) hold (.slice (some ⟨b, o, none⟩) m.length c) m.length (m.map B8)
        (Src.ofSlice w Try.underlying22 ⟨b, o, none⟩ m.length c (m.map B8) (by simp [hsz]) hnews hone) (by omega) (by omega) (growslice_fits (by omega) (by rw [hby]; omega))]
      have hzc : ∀ k, Builtin.zeroCells (Value.int .u8 0).cells k = E8 (zs k) := fun k => by
        have := made_zs k
        unfold madeCells at this
        unfold Builtin.zeroCells
        simpa [Value.cells] using this
      have e : ((L.map B8 ++ m.map B8).toArray : Array Value) = E8 (L ++ m) := by unfold E8; rw [List.map_append]
      rw [hzc, e, ← E8_append]
    · refine ⟨w.heap.size, zs (grownCap w (L.length + m.length) (L ++ R).length 5 - (L.length + m.length)), ?_, by omega, ?_⟩
      · have hge := grownCap_ge w (L.length + m.length) (L ++ R).length 5
        have e1 : (L ++ m).length = L.length + m.length := List.length_append
        have e2 : (L ++ m ++ zs (grownCap w (L.length + m.length) (L ++ R).length 5 - (L.length + m.length))).length = grownCap w (L.length + m.length) (L ++ R).length 5 := by
          rw [List.length_append, e1, zs_length]; omega
        rw [e2, e1]
      · exact heap_alloc_last w.drew _
    · exact (Below.refl _ _).drew.alloc (by show base ≤ w.heap.size; omega) _
    · simp
theorem app_none (w : World) (a a' : Option Addr) (n cap c : Nat) (h : n ≤ cap) : ∀ ty, (app22 ty #[.slice a n cap, .slice a' 0 c]).run Try.prog w = .ok (.slice a n cap) w := by
  intro ty
  obtain ⟨i, hi, hz, hsz, hby⟩ := info5_at
  unfold app22
  refine run_append_nothing w 22 22 ty 5 i Try.underlying22 hi a n cap h _ ?_
  cases a' with
  | none => exact Src.ofNil w Try.underlying22 c
  | some x => exact Src.ofSlice w Try.underlying22 x 0 c [] (by simp) (fun j u hj => by simp at hj) (fun u hu => by simp at hu)
theorem OwnB.alloc {w : World} {base : Nat} {v : Value} {L : List Nat} (h : OwnB w base v L) (o : Obj) : OwnB (w.alloc o) base v L := by
  obtain ⟨g, R, rfl, hg, hh⟩ := h
  exact ⟨g, R, rfl, hg, by rw [Below.heap_alloc w o g (Array.getElem?_eq_some_iff.1 hh).1]; exact hh⟩
theorem one_at (w : World) (x : Nat) : BytesAt (w.alloc (.cells #[.int .u8 (x : Int)] 5)) (.slice (some ⟨w.heap.size, 0, none⟩) [x].length 1) [x] :=
  bytesAt_row _ _ [x] [x] 1 1 (rowOf_alloc_at _ _ _ _ rfl) (by simp) (by simp) (by simp) rfl
end Go.Proofs.Ytgchndogklmpdaa
