/- The code's Hex. -/
import Derived.Test.YtlbfcneboaihnaaX8
namespace Go.Proofs.Ytlbfcneboaihnaa
open Go.RowKit Go.Great
attribute [local go_sem] f_8 f_1024

theorem info5 : (Try.prog.info? 5).map (fun i => (i.zero, i.size, i.bytes)) = some (some (.int .u8 0), 1, 1) := by kernel_rfl
theorem info5_at : ∃ i, Try.prog.info? 5 = some i ∧ i.zero = some (.int .u8 0) ∧ i.size = 1 ∧ i.bytes = 1 := by
  have h := info5
  cases hq : Try.prog.info? 5 with
  | none => simp [hq] at h
  | some i => simp [hq] at h; exact ⟨i, rfl, h.1, h.2.1, h.2.2⟩
theorem made_zs (n : Nat) : madeCells (Value.int .u8 0).cells n = E8 (zs n) := by
  apply Array.ext
  · simp [madeCells, zs]
  · intro i h1 h2
    rw [E8_getElem]
    unfold zs
    rw [Sha.nth_replicate]
    simp [madeCells, Value.cells, Nat.mod_one]
@[go_sem] theorem make52 (w : World) (l c : Int) (h0 : 0 ≤ l) (h1 : l ≤ c) (h2 : c ≤ 65536) :
    (Instr.makeSlice 22 (.int .i64 l) (.int .i64 c)).run Try.prog w = .ok (.slice (some ⟨w.heap.size, 0, none⟩) l.toNat c.toNat) (w.alloc (.cells (E8 (zs c.toNat)) 5)) := by
  obtain ⟨i, hi, hz, hs, hby⟩ := info5_at
  rw [run_make (P := Try.prog) w 22 5 i _ Try.underlying22 hi hz .i64 .i64 l c h0 h1 (by rw [hby]; omega) (by omega), hs, Nat.mul_one, made_zs]

def hexd (n : Nat) : Nat := if n < 10 then 48 + n else 87 + n
theorem hexd_lt (n : Nat) (h : n < 16) : hexd n < 256 := by unfold hexd; split <;> omega
def hi4 (x : Nat) : Nat := x / 16
def lo4 (x : Nat) : Nat := x % 16
@[go_sem] theorem hi4_lt (x : Nat) (h : x < 256) : hi4 x < 16 := by unfold hi4; omega
@[go_sem] theorem lo4_lt (x : Nat) : lo4 x < 16 := by unfold lo4; omega
theorem f_hi4 (x : Nat) : (x : Int) / 16 = ((hi4 x : Nat) : Int) := by unfold hi4; omega
theorem f_lo4 (x : Nat) : (x : Int) % 16 = ((lo4 x : Nat) : Int) := by unfold lo4; omega
attribute [local go_sem] f_hi4 f_lo4
theorem hex_byte (k : Nat) (hk : k < 16) : (⟨#[48, 49, 50, 51, 52, 53, 54, 55, 56, 57, 97, 98, 99, 100, 101, 102]⟩ : ByteArray)[k]?.map UInt8.toNat = some (hexd k) := by
  have : ∀ k : Fin 16, (⟨#[48, 49, 50, 51, 52, 53, 54, 55, 56, 57, 97, 98, 99, 100, 101, 102]⟩ : ByteArray)[k.val]?.map UInt8.toNat = some (hexd k.val) := by decide
  exact this ⟨k, hk⟩
def hexIx (v : Value) : Sem Value := Instr.index 9 (.string ⟨#[48, 49, 50, 51, 52, 53, 54, 55, 56, 57, 97, 98, 99, 100, 101, 102]⟩) v
@[go_sem] theorem index_hexIx (v : Value) : Instr.index 9 (.string ⟨#[48, 49, 50, 51, 52, 53, 54, 55, 56, 57, 97, 98, 99, 100, 101, 102]⟩) v = hexIx v := rfl
@[go_sem] theorem run_hexIx (w : World) (k : Nat) (hk : k < 16) : (hexIx (.int .u8 (k : Int))).run Try.prog w = .ok (.int .u8 ((hexd k : Nat) : Int)) w := by
  have h := hex_byte k hk
  unfold hexIx
  cases e : (⟨#[48, 49, 50, 51, 52, 53, 54, 55, 56, 57, 97, 98, 99, 100, 101, 102]⟩ : ByteArray)[k]? with
  | none => simp [e] at h
  | some b =>
    simp [e] at h
    simp only [Instr.index, asIntOf, Sem.run_bind, Sem.run_pure, Result.andThen_ok, run_underlying Try.underlying9, Int.natCast_nonneg, if_true, Int.toNat_natCast, e, h]
@[go_sem] theorem run_hexIx_mod (w : World) (x : Nat) : (hexIx (.int .u8 ((x : Int) % 16))).run Try.prog w = .ok (.int .u8 ((hexd (lo4 x) : Nat) : Int)) w := by
  rw [f_lo4]; exact run_hexIx w _ (lo4_lt x)

theorem rowOf_set (w : World) (b i : Nat) (v : Value) : rowOf (w.setCell ⟨b, i, none⟩ v) b = (rowOf w b).setIfInBounds i v := by
  unfold rowOf World.setCell
  simp only [Array.getElem?_modify]
  cases e : w.heap[b]? with
  | none => simp
  | some o => cases o <;> simp
theorem fits_set (w : World) (b i n : Nat) (v : Value) : fits (w.setCell ⟨b, i, none⟩ v) b n = fits w b n := by
  unfold fits World.setCell
  simp only [Array.getElem?_modify]
  cases e : w.heap[b]? with
  | none => simp
  | some o => cases o <;> simp
def app52 (ty : TypeId) (args : Array Value) : Sem Value := Builtin.append_ #[22, 22] ty args
@[go_sem ↓] theorem append_app52 (ty : TypeId) (args : Array Value) : Builtin.append_ #[22, 22] ty args = app52 ty args := rfl
/-- Two bytes appended where there is room. -/
theorem append2 (w : World) (ty : TypeId) (g n cap : Nat) (L : List Nat) (a b : Nat) (hf : fits w g L.length = true) (hr : rowOf w g = E8 L) (hg : g < w.heap.size) (hn : n + 2 ≤ cap) (hL : n + 2 ≤ L.length) :
    (app52 ty #[.slice (some ⟨g, 0, none⟩) n cap, .slice (some ⟨w.heap.size, 0, none⟩) 2 2]).run Try.prog (w.alloc (.cells #[.int .u8 (a : Int), .int .u8 (b : Int)] 5)).drew
      = .ok (.slice (some ⟨g, 0, none⟩) (n + 2) cap) (((w.setCell ⟨g, n, none⟩ (.int .u8 (a : Int))).setCell ⟨g, n + 1, none⟩ (.int .u8 (b : Int))).alloc (.cells #[.int .u8 (a : Int), .int .u8 (b : Int)] 5)).drew := by
  obtain ⟨i, hi, hz, hs, hby⟩ := info5_at
  have hcell : ∀ j, j < L.length → (w.cell? ⟨g, j, none⟩) = some (.int .u8 ((Sha.nth L j : Nat) : Int)) := fun j hj => cell_row _ _ _ _ (by rw [hr]; exact E8_get _ _ hj)
  have hfz : ∀ j, w.frozen? ⟨g, j, none⟩ = false := fun j => frozen_fits hf j
  have := run_append_room_cells (P := Try.prog) (w.alloc (.cells #[.int .u8 (a : Int), .int .u8 (b : Int)] 5)).drew 22 ty 5 i Try.underlying22 hi g 0 n cap ⟨w.heap.size, 0, none⟩ 2 2 [.int .u8 (a : Int), .int .u8 (b : Int)] (by rw [hs]; rfl)
    (fun j u hj => by
      rw [Addr.add_mid, Nat.zero_add]
      match j, hj with
      | 0, hj => simp at hj; subst hj; simp [go_sem]
      | 1, hj => simp at hj; subst hj; simp [go_sem]
      | j + 2, hj => simp at hj)
    (fun u hu => by simp at hu; rcases hu with rfl | rfl <;> rfl) hn
    (fun j hj => by
      have hj2 : j < 2 := hj
      rw [hs, Nat.zero_add, Nat.mul_one]
      have : (w.alloc (.cells #[.int .u8 (a : Int), .int .u8 (b : Int)] 5)).drew.cell? ⟨g, n + j, none⟩ = w.cell? ⟨g, n + j, none⟩ := by simp [go_sem, hg]
      rw [this, hcell (n + j) (by omega)]; rfl)
    (fun j hj => by
      rw [hs, Nat.zero_add, Nat.mul_one]
      have : (w.alloc (.cells #[.int .u8 (a : Int), .int .u8 (b : Int)] 5)).drew.frozen? ⟨g, n + j, none⟩ = w.frozen? ⟨g, n + j, none⟩ := by simp [go_sem, hg]
      rw [this, hfz])
  unfold app52
  rw [this, hs, Nat.zero_add, Nat.mul_one]
  simp only [World.setCells, World.setCell_drew]
  rw [World.setCell_alloc_past _ _ _ _ hg, World.setCell_alloc_past _ _ _ _ (by simpa [World.setCell] using hg)]

/-- Bytes as a text. -/
def strOf (l : List Nat) : ByteArray := ⟨(l.map UInt8.ofNat).toArray⟩
theorem strOf_fold (l : List Nat) : ∀ r : ByteArray, (l.map Int.ofNat).foldl (fun r n => r.push (UInt8.ofNat n.toNat)) r = ⟨r.data ++ (l.map UInt8.ofNat).toArray⟩ := by
  induction l with
  | nil => intro r; simp
  | cons x l ih =>
    intro r
    rw [List.map_cons, List.foldl_cons, ih]
    simp [ByteArray.push]
theorem conv_row (w : World) (g n cap : Nat) (L : List Nat) (hr : rowOf w g = E8 L) (hn : L.length = n) (h0 : 0 < n) :
    (convert 22 9 (.slice (some ⟨g, 0, none⟩) n cap)).run Try.prog w = .ok (.string (strOf L)) w := by
  rw [run_convert_bytes_string w 22 9 5 _ _ _ Try.underlying22 Try.underlying5 Try.underlying9]
  have hl : (loadCells ⟨g, 0, none⟩ n).run Try.prog w = .ok ((L.map Int.ofNat).map (Value.int .u8)).toArray w := by
    have := run_loadCells_rowOf (P := Try.prog) w g n (by rw [hr]; simp [hn]) h0
    rw [hr] at this
    rw [List.map_map]
    exact this
  rw [run_bytesToString w _ n cap _ hl, strOf_fold]
  simp [strOf, ByteArray.empty, ByteArray.emptyWithCapacity]
  rfl
/-- The text of a digest's first k bytes. -/
def hexTo (l : List Nat) : Nat → List Nat
  | 0 => []
  | k + 1 => hexTo l k ++ [hexd (hi4 (Sha.nth l k))] ++ [hexd (lo4 (Sha.nth l k))]
theorem hexTo_length (l : List Nat) (k : Nat) : (hexTo l k).length = 2 * k := by
  induction k with
  | zero => rfl
  | succ k ih => simp [hexTo, ih]; omega

end Go.Proofs.Ytlbfcneboaihnaa
