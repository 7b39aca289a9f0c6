import Derived.Test.YtebcmicmklpflaaGreatDoorK1
import Derived.Deep.RegionHeld3
import Derived.Deep.AppendSrc
import Derived.Deep.Upon
import Derived.Laws.LoneSync
import Derived.Laws.CopyRow
/- The code's padKey, keyState and Mac. -/
namespace Go.Proofs.YtebcmicmklpflaaGreatDoor.Dg
open Go.RowKit Go.Great
attribute [local go_sem] f_8 f_1024

def x8 (a b : Nat) : Nat := (bits .xor .u8 (a : Int) (b : Int)).toNat
theorem x8_eq {a b : Nat} (ha : a < 256) (hb : b < 256) : x8 a b = a ^^^ b := by unfold x8; rw [u8_xor_nat a b ha hb]; rfl
theorem bits_pos8 (op : BinOp) (a b : Int) : 0 ≤ bits op .u8 a b := by
  have h := (bits_within op .u8 a b).1
  have e : IntKind.u8.min = 0 := by decide
  rw [e] at h; exact h
@[go_sem] theorem f_xor8 (a b : Nat) : bits .xor .u8 (a : Int) (b : Int) = ((x8 a b : Nat) : Int) := by unfold x8; have := bits_pos8 .xor (a : Int) (b : Int); omega

theorem fill_zs (n : Nat) (l : List Nat) : l ++ (zs n).drop l.length = Sha.fill n l := by
  unfold zs Sha.fill; rw [List.drop_replicate]
theorem Z251_zs : Z251 = E8 (zs 64) := rfl
theorem bytesAt_n {w : World} {g o n cap : Nat} {b : List Nat} (hn : b.length = n) (h : BytesAt w (.slice (some ⟨g, o, none⟩) n cap) b) : BytesAt w (.slice (some ⟨g, o, none⟩) b.length cap) b := by subst hn; exact h
end Go.Proofs.YtebcmicmklpflaaGreatDoor.Dg
/- The code's Hex. -/
namespace Go.Proofs.YtebcmicmklpflaaGreatDoor.Dg
open Go.RowKit Go.Great
attribute [local go_sem] f_8 f_1024

set_option maxRecDepth 20000 in
theorem info5 : (Tryz.prog.info? 5).map (fun i => (i.zero, i.size, i.bytes)) = some (some (.int .u8 0), 1, 1) := by kernel_rfl
theorem info5_at : ∃ i, Tryz.prog.info? 5 = some i ∧ i.zero = some (.int .u8 0) ∧ i.size = 1 ∧ i.bytes = 1 := by
  have h := info5
  cases hq : Tryz.prog.info? 5 with
  | none => simp [hq] at h
  | some i => simp [hq] at h; exact ⟨i, rfl, h.1, h.2.1, h.2.2⟩
theorem made_zs (n : Nat) : madeCells (Value.int .u8 0).cells n = E8 (zs n) := by
  apply Array.ext
  · simp [madeCells, zs]
  · intro i h1 h2
    rw [E8_getElem]
    unfold zs
    rw [Sha.nth_replicate]
    simp [madeCells, Value.cells, Nat.mod_one]
@[go_sem] theorem make39 (w : World) (l c : Int) (h0 : 0 ≤ l) (h1 : l ≤ c) (h2 : c ≤ 65536) :
    (Instr.makeSlice 39 (.int .i64 l) (.int .i64 c)).run Tryz.prog w = .ok (.slice (some ⟨w.heap.size, 0, none⟩) l.toNat c.toNat) (w.alloc (.cells (E8 (zs c.toNat)) 5)) := by
  obtain ⟨i, hi, hz, hs, hby⟩ := info5_at
  rw [run_make (P := Tryz.prog) w 39 5 i _ Tryz.underlying39 hi hz .i64 .i64 l c h0 h1 (by rw [hby]; omega) (by omega), hs, Nat.mul_one, made_zs]

@[go_sem] theorem idx113 (w : World) (l : List Nat) (k : Nat) (hl : l.length = 32) (hk : k < 32) :
    (Instr.index 113 (.agg (E8 l)) (.int .i64 (k : Int))).run Tryz.prog w = .ok (.int .u8 ((Sha.nth l k : Nat) : Int)) w := by
  have h1 : (0 : Int) ≤ (k : Int) ∧ (k : Int) < 32 := by omega
  have h2 : k < l.length := by omega
  simp [Instr.index, asIntOf, run_underlying Tryz.underlying113, h1, part, go_sem, h2, hk]
def hexd (n : Nat) : Nat := if n < 10 then 48 + n else 87 + n
theorem hexd_lt (n : Nat) (h : n < 16) : hexd n < 256 := by unfold hexd; split <;> omega
def hi4 (x : Nat) : Nat := x / 16
def lo4 (x : Nat) : Nat := x % 16
@[go_sem] theorem hi4_lt (x : Nat) (h : x < 256) : hi4 x < 16 := by unfold hi4; omega
@[go_sem] theorem lo4_lt (x : Nat) : lo4 x < 16 := by unfold lo4; omega
theorem f_hi4 (x : Nat) : (x : Int) / 16 = ((hi4 x : Nat) : Int) := by unfold hi4; omega
theorem f_lo4 (x : Nat) : (x : Int) % 16 = ((lo4 x : Nat) : Int) := by unfold lo4; omega
theorem hex_byte (k : Nat) (hk : k < 16) : (⟨#[48, 49, 50, 51, 52, 53, 54, 55, 56, 57, 97, 98, 99, 100, 101, 102]⟩ : ByteArray)[k]?.map UInt8.toNat = some (hexd k) := by
  have : ∀ k : Fin 16, (⟨#[48, 49, 50, 51, 52, 53, 54, 55, 56, 57, 97, 98, 99, 100, 101, 102]⟩ : ByteArray)[k.val]?.map UInt8.toNat = some (hexd k.val) := by decide
  exact this ⟨k, hk⟩
def hexIx (v : Value) : Sem Value := Instr.index 9 (.string ⟨#[48, 49, 50, 51, 52, 53, 54, 55, 56, 57, 97, 98, 99, 100, 101, 102]⟩) v
@[go_sem] theorem index_hexIx (v : Value) : Instr.index 9 (.string ⟨#[48, 49, 50, 51, 52, 53, 54, 55, 56, 57, 97, 98, 99, 100, 101, 102]⟩) v = hexIx v := rfl
@[go_sem] theorem run_hexIx (w : World) (k : Nat) (hk : k < 16) : (hexIx (.int .u8 (k : Int))).run Tryz.prog w = .ok (.int .u8 ((hexd k : Nat) : Int)) w := by
  have h := hex_byte k hk
  unfold hexIx
  cases e : (⟨#[48, 49, 50, 51, 52, 53, 54, 55, 56, 57, 97, 98, 99, 100, 101, 102]⟩ : ByteArray)[k]? with
  | none => simp [e] at h
  | some b =>
    simp [e] at h
    simp only [Instr.index, asIntOf, Sem.run_bind, Sem.run_pure, Result.andThen_ok, run_underlying Tryz.underlying9, Int.natCast_nonneg, if_true, Int.toNat_natCast, e, h]
@[go_sem] theorem run_hexIx_mod (w : World) (x : Nat) : (hexIx (.int .u8 ((x : Int) % 16))).run Tryz.prog w = .ok (.int .u8 ((hexd (lo4 x) : Nat) : Int)) w := by
  rw [f_lo4]; exact run_hexIx w _ (lo4_lt x)

theorem rowOf_set (w : World) (b i : Nat) (v : Value) : rowOf (w.setCell ⟨b, i, none⟩ v) b = (rowOf w b).setIfInBounds i v := by
  unfold rowOf World.setCell
  simp only [Array.getElem?_modify]
  cases e : w.heap[b]? with
  | none => simp
  | some o => cases o <;> simp
theorem fits_set (w : World) (b i n : Nat) (v : Value) : fits (w.setCell ⟨b, i, none⟩ v) b n = fits w b n := by
  unfold fits World.setCell
  simp only [Array.getElem?_modify]
  cases e : w.heap[b]? with
  | none => simp
  | some o => cases o <;> simp
def app39 (ty : TypeId) (args : Array Value) : Sem Value := Builtin.append_ #[39, 39] ty args
@[go_sem ↓] theorem append_app39 (ty : TypeId) (args : Array Value) : Builtin.append_ #[39, 39] ty args = app39 ty args := rfl
/-- Two bytes appended where there is room. -/
theorem append2 (w : World) (ty : TypeId) (g n cap : Nat) (L : List Nat) (a b : Nat) (hf : fits w g L.length = true) (hr : rowOf w g = E8 L) (hg : g < w.heap.size) (hn : n + 2 ≤ cap) (hL : n + 2 ≤ L.length) :
    (app39 ty #[.slice (some ⟨g, 0, none⟩) n cap, .slice (some ⟨w.heap.size, 0, none⟩) 2 2]).run Tryz.prog (w.alloc (.cells #[.int .u8 (a : Int), .int .u8 (b : Int)] 5)).drew
      = .ok (.slice (some ⟨g, 0, none⟩) (n + 2) cap) (((w.setCell ⟨g, n, none⟩ (.int .u8 (a : Int))).setCell ⟨g, n + 1, none⟩ (.int .u8 (b : Int))).alloc (.cells #[.int .u8 (a : Int), .int .u8 (b : Int)] 5)).drew := by
  obtain ⟨i, hi, hz, hs, hby⟩ := info5_at
  have hcell : ∀ j, j < L.length → (w.cell? ⟨g, j, none⟩) = some (.int .u8 ((Sha.nth L j : Nat) : Int)) := fun j hj => cell_row _ _ _ _ (by rw [hr]; exact E8_get _ _ hj)
  have hfz : ∀ j, w.frozen? ⟨g, j, none⟩ = false := fun j => frozen_fits hf j
  have := run_append_room_cells (P := Tryz.prog) (w.alloc (.cells #[.int .u8 (a : Int), .int .u8 (b : Int)] 5)).drew 39 ty 5 i Tryz.underlying39 hi g 0 n cap ⟨w.heap.size, 0, none⟩ 2 2 [.int .u8 (a : Int), .int .u8 (b : Int)] (by rw [hs]; rfl)
    (fun j u hj => by
      rw [Addr.add_mid, Nat.zero_add]
      match j, hj with
      | 0, hj => simp at hj; subst hj; simp [go_sem]
      | 1, hj => simp at hj; subst hj; simp [go_sem]
      | j + 2, hj => simp at hj)
    (fun u hu => by simp at hu; rcases hu with rfl | rfl <;> rfl) hn
    (fun j hj => by
      have hj2 : j < 2 := hj
      rw [hs, Nat.zero_add, Nat.mul_one]
      have : (w.alloc (.cells #[.int .u8 (a : Int), .int .u8 (b : Int)] 5)).drew.cell? ⟨g, n + j, none⟩ = w.cell? ⟨g, n + j, none⟩ := by simp [go_sem, hg]
      rw [this, hcell (n + j) (by omega)]; rfl)
    (fun j hj => by
      rw [hs, Nat.zero_add, Nat.mul_one]
      have : (w.alloc (.cells #[.int .u8 (a : Int), .int .u8 (b : Int)] 5)).drew.frozen? ⟨g, n + j, none⟩ = w.frozen? ⟨g, n + j, none⟩ := by simp [go_sem, hg]
      rw [this, hfz])
  unfold app39
  rw [this, hs, Nat.zero_add, Nat.mul_one]
  simp only [World.setCells, World.setCell_drew]
  rw [World.setCell_alloc_past _ _ _ _ hg, World.setCell_alloc_past _ _ _ _ (by simpa [World.setCell] using hg)]

/-- Bytes as a text. -/
def strOf (l : List Nat) : ByteArray := ⟨(l.map UInt8.ofNat).toArray⟩
theorem strOf_fold (l : List Nat) : ∀ r : ByteArray, (l.map Int.ofNat).foldl (fun r n => r.push (UInt8.ofNat n.toNat)) r = ⟨r.data ++ (l.map UInt8.ofNat).toArray⟩ := by
  induction l with
  | nil => intro r; simp
  | cons x l ih =>
    intro r
    rw [List.map_cons, List.foldl_cons, ih]
    simp [ByteArray.push]
theorem conv_row (w : World) (g n cap : Nat) (L : List Nat) (hr : rowOf w g = E8 L) (hn : L.length = n) (h0 : 0 < n) :
    (convert 39 9 (.slice (some ⟨g, 0, none⟩) n cap)).run Tryz.prog w = .ok (.string (strOf L)) w := by
  rw [run_convert_bytes_string w 39 9 5 _ _ _ Tryz.underlying39 Tryz.underlying5 Tryz.underlying9]
  have hl : (loadCells ⟨g, 0, none⟩ n).run Tryz.prog w = .ok ((L.map Int.ofNat).map (Value.int .u8)).toArray w := by
    have := run_loadCells_rowOf (P := Tryz.prog) w g n (by rw [hr]; simp [hn]) h0
    rw [hr] at this
    rw [List.map_map]
    exact this
  rw [run_bytesToString w _ n cap _ hl, strOf_fold]
  simp [strOf, ByteArray.empty, ByteArray.emptyWithCapacity]
  rfl
/-- The text of a digest's first k bytes. -/
def hexTo (l : List Nat) : Nat → List Nat
  | 0 => []
  | k + 1 => hexTo l k ++ [hexd (hi4 (Sha.nth l k))] ++ [hexd (lo4 (Sha.nth l k))]
theorem hexTo_length (l : List Nat) (k : Nat) : (hexTo l k).length = 2 * k := by
  induction k with
  | zero => rfl
  | succ k ih => simp [hexTo, ih]; omega
end Go.Proofs.YtebcmicmklpflaaGreatDoor.Dg
/- Fold, in the code and in the document's own answer: the same twenty bytes. -/
namespace Go.Proofs.YtebcmicmklpflaaGreatDoor.Dg
open Go.RowKit Go.Great
attribute [local go_sem] f_8 f_1024 f_hi4 f_lo4

@[go_sem] theorem lt_two (a : Nat) : a < a + 1 + 1 := by omega
@[go_sem] theorem lt_three (a : Nat) : a < a + 1 + 1 + 1 := by omega
@[go_sem] theorem lt_four (a : Nat) : a < a + 1 + 1 + 1 + 1 := by omega
/-- The twenty bytes behind the first i of the digest. -/
def foldTo (l : List Nat) : Nat → List Nat
  | 0 => zs 20
  | i + 1 => (foldTo l i).set (i % 20) (x8 (Sha.nth (foldTo l i) (i % 20)) (Sha.nth l i))
theorem foldTo_length (l : List Nat) (i : Nat) : (foldTo l i).length = 20 := by
  induction i with
  | zero => exact zs_length 20
  | succ i ih => simp [foldTo, ih]
end Go.Proofs.YtebcmicmklpflaaGreatDoor.Dg
/- The document's own block. -/
namespace Go.Proofs.YtebcmicmklpflaaGreatDoor.Dg
open Go.RowKit Go.Great
attribute [local go_sem] f_8 f_1024 f_hi4 f_lo4

theorem cell_set_other (w : World) (b i j : Nat) (v : Value) (h : i ≠ j) : (w.setCell ⟨b, i, none⟩ v).cell? ⟨b, j, none⟩ = w.cell? ⟨b, j, none⟩ := by
  refine World.cell?_setCell_other _ _ _ _ (fun e => ?_)
  simp_all
theorem wrap_add (a b : Nat) : IntKind.u32.wrap ((a : Int) + (b : Int)) = ((Sha.add a b : Nat) : Int) := by rw [IntKind.wrap_u32]; exact f_add a b
theorem row_cell32 (w : World) (b : Nat) (l : List Nat) (h : rowOf w b = E32 l) (i : Nat) (hi : i < l.length) : w.cell? ⟨b, i, none⟩ = some (.int .u32 ((Sha.nth l i : Nat) : Int)) :=
  cell_row _ _ _ _ (by rw [h]; exact E32_get _ _ hi)
theorem block_plus (s : Sha.St) (p : List Nat) : Sha.block s p = Sha.plus s (Sha.rounds s (Sha.sched p) 64) := by unfold Sha.block; rfl
/-- The cells that one of the document's rounds reads. -/
structure R3 (wr : World) (kb z k : Nat) (t : Sha.St) (kk ss : Nat) : Prop where
  ck : wr.cell? ⟨kb, k, none⟩ = some (.int .u32 (kk : Int))
  cs : wr.cell? ⟨z + 1 + 1, k, none⟩ = some (.int .u32 (ss : Int))
  c0 : wr.cell? ⟨z + 1 + 1 + 1, 0, none⟩ = some (.int .u32 (t.a : Int))
  c1 : wr.cell? ⟨z + 1 + 1 + 1, 1, none⟩ = some (.int .u32 (t.b : Int))
  c2 : wr.cell? ⟨z + 1 + 1 + 1, 2, none⟩ = some (.int .u32 (t.c : Int))
  c3 : wr.cell? ⟨z + 1 + 1 + 1, 3, none⟩ = some (.int .u32 (t.d : Int))
  c4 : wr.cell? ⟨z + 1 + 1 + 1, 4, none⟩ = some (.int .u32 (t.e : Int))
  c5 : wr.cell? ⟨z + 1 + 1 + 1, 5, none⟩ = some (.int .u32 (t.f : Int))
  c6 : wr.cell? ⟨z + 1 + 1 + 1, 6, none⟩ = some (.int .u32 (t.g : Int))
  c7 : wr.cell? ⟨z + 1 + 1 + 1, 7, none⟩ = some (.int .u32 (t.h : Int))
theorem R3.drews {wr : World} {kb z k : Nat} {t : Sha.St} {kk ss : Nat} (h : R3 wr kb z k t kk ss) (n : Nat) : R3 (wr.drewN n) kb z k t kk ss :=
  ⟨h.ck, h.cs, h.c0, h.c1, h.c2, h.c3, h.c4, h.c5, h.c6, h.c7⟩
theorem R3.mk' {wr : World} {kb z k : Nat} {t : Sha.St} {kk ss : Nat} (ck : wr.cell? ⟨kb, k, none⟩ = some (.int .u32 (kk : Int))) (cs : wr.cell? ⟨z + 1 + 1, k, none⟩ = some (.int .u32 (ss : Int))) (h : rowOf wr (z + 1 + 1 + 1) = E32 t.list) : R3 wr kb z k t kk ss := by
  have e : ∀ i, i < 8 → wr.cell? ⟨z + 1 + 1 + 1, i, none⟩ = some (.int .u32 ((Sha.nth t.list i : Nat) : Int)) := fun i hi => row_cell32 _ _ _ h i (by simpa using hi)
  exact ⟨ck, cs, e 0 (by omega), e 1 (by omega), e 2 (by omega), e 3 (by omega), e 4 (by omega), e 5 (by omega), e 6 (by omega), e 7 (by omega)⟩
theorem fits_setRow_at (w : World) (n k : Nat) (c : Array Value) (h : fits w n k = true) (hc : c.size = k) : fits (w.setRow n c) n k = true := by
  obtain ⟨cs, t, e, -, -⟩ := fits_some h
  unfold fits; rw [setRow_heap w n cs c t _ e]; simp [hc]
end Go.Proofs.YtebcmicmklpflaaGreatDoor.Dg
/- The law's own helper same: two rows of the same bytes. -/
namespace Go.Proofs.YtebcmicmklpflaaGreatDoor.Dg
open Go.RowKit Go.Great
attribute [local go_sem] f_8 f_1024 f_hi4 f_lo4
end Go.Proofs.YtebcmicmklpflaaGreatDoor.Dg
/- Bytes appended to a row of the call's own: it has room, or a new row is made. -/
namespace Go.Proofs.YtebcmicmklpflaaGreatDoor.Dg
open Go.RowKit Go.Great
attribute [local go_sem] f_8 f_1024 f_hi4 f_lo4

/-- A slice of bytes whose row is the call's own. -/
def OwnB (w : World) (base : Nat) (v : Value) (L : List Nat) : Prop :=
  ∃ (g : Nat) (R : List Nat), v = .slice (some ⟨g, 0, none⟩) L.length (L ++ R).length ∧ base ≤ g ∧ w.heap[g]? = some (.cells (E8 (L ++ R)) 5 (0, 0))
theorem E8_append (a b : List Nat) : E8 (a ++ b) = E8 a ++ E8 b := by simp [E8]
theorem nth_map (m : List Nat) (j : Nat) (u : Value) (h : (m.map B8)[j]? = some u) : j < m.length ∧ u = .int .u8 ((Sha.nth m j : Nat) : Int) := by
  rw [List.getElem?_map] at h
  cases e : m[j]? with
  | none => simp [e] at h
  | some x =>
    simp [e] at h
    refine ⟨(List.getElem?_eq_some_iff.1 e).1, ?_⟩
    rw [← h]; unfold B8 Sha.nth; rw [e]; rfl
theorem app_own (w : World) (base : Nat) (v : Value) (L : List Nat) (a : Option Addr) (m : List Nat) (c : Nat) (ho : OwnB w base v L) (hs : BytesAt w (.slice a m.length c) m) (hm : 0 < m.length) (hmax : L.length + m.length ≤ 1000000) :
    ∃ v' w', (∀ ty, (app39 ty #[v, .slice a m.length c]).run Tryz.prog w = .ok v' w') ∧ OwnB w' base v' (L ++ m) ∧ Below base w w' ∧ w.heap.size ≤ w'.heap.size := by
  obtain ⟨g, R, rfl, hg, hh⟩ := ho
  obtain ⟨a', c', ev, hc, hb⟩ := hs
  cases ev
  obtain ⟨b, o, rfl, hbl, hcell⟩ := hb hm
  obtain ⟨i, hi, hz, hsz, hby⟩ := info5_at
  have hlt : g < w.heap.size := (Array.getElem?_eq_some_iff.1 hh).1
  have hnews : ∀ j u, (m.map B8)[j]? = some u → w.cell? ((⟨b, o, none⟩ : Addr).add j) = some u := fun j u hj => by
    obtain ⟨hj1, rfl⟩ := nth_map m j u hj
    rw [Addr.add_mid]; exact hcell j hj1
  have hone : ∀ u ∈ m.map B8, u.oneCell' = true := fun u hu => by obtain ⟨x, -, rfl⟩ := List.mem_map.1 hu; rfl
  by_cases hroom : L.length + m.length ≤ (L ++ R).length
  · have hrl : m.length ≤ R.length := by simp at hroom; omega
    refine ⟨.slice (some ⟨g, 0, none⟩) (L.length + m.length) (L ++ R).length, w.setRow g (E8 (L ++ m ++ R.drop m.length)), fun ty => ?_, ?_, ?_, ?_⟩
    · unfold app39
      rw [run_append_room (P := Tryz.prog) w 39 ty 5 i Tryz.underlying39 hi g L.length (L ++ R).length (E8 (L ++ R)) hh ⟨b, o, none⟩ m.length c (m.map B8) (by simp [hsz]) hnews hone hroom (by simp [hsz]; omega)]
      rw [hsz, Nat.mul_one]
      have e : ((E8 (L ++ R)).toList.take L.length ++ m.map B8 ++ (E8 (L ++ R)).toList.drop (L.length + (m.map B8).length)).toArray = E8 (L ++ m ++ R.drop m.length) := by
        unfold E8
        rw [List.toList_toArray, List.map_append, List.take_left' (by simp), List.drop_append]
        simp [List.map_drop]
      rw [e]
    · refine ⟨g, R.drop m.length, by simp; omega, hg, ?_⟩
      rw [setRow_heap w g _ _ 5 _ hh]
    · exact below_setRow (Below.refl _ _) hg _
    · simp
  · refine ⟨.slice (some ⟨w.heap.size, 0, none⟩) (L.length + m.length) (grownCap w (L.length + m.length) (L ++ R).length 5), w.drew.alloc (.cells (E8 (L ++ m ++ zs (grownCap w (L.length + m.length) (L ++ R).length 5 - (L.length + m.length)))) 5), fun ty => ?_, ?_, ?_, ?_⟩
    · unfold app39
      have hold : (Builtin.firstCells i.size L.length (.slice (some ⟨g, 0, none⟩) L.length (L ++ R).length)).run Tryz.prog w.drew = .ok (L.map B8).toArray w.drew :=
        run_firstCells_some w.drew i.size L.length ⟨g, 0, none⟩ L.length _ (L.map B8) (by simp [hsz]) (fun j u hj => by
          obtain ⟨hj1, rfl⟩ := nth_map L j u hj
          rw [Addr.add_mid, Nat.zero_add]
          have : w.cell? ⟨g, j, none⟩ = some (.int .u8 ((Sha.nth L j : Nat) : Int)) := by
            rw [cell_of_row w g j _ 5 _ hh, E8_get _ _ (by simp; omega), Sha.nth_append_left hj1]
          exact this)
      rw [run_append_grow_src (P := Tryz.prog) w 39 39 ty 5 i (.int .u8 0) Tryz.underlying39 hi hz (some ⟨g, 0, none⟩) L.length (L ++ R).length (L.map B8) hold (.slice (some ⟨b, o, none⟩) m.length c) m.length (m.map B8)
        (Src.ofSlice w Tryz.underlying39 ⟨b, o, none⟩ m.length c (m.map B8) (by simp [hsz]) hnews hone) (by omega) (by omega) (growslice_fits (by omega) (by rw [hby]; omega))]
      have hzc : ∀ k, Builtin.zeroCells (Value.int .u8 0).cells k = E8 (zs k) := fun k => by
        have := made_zs k
        unfold madeCells at this
        unfold Builtin.zeroCells
        simpa [Value.cells] using this
      have e : ((L.map B8 ++ m.map B8).toArray : Array Value) = E8 (L ++ m) := by unfold E8; rw [List.map_append]
      rw [hzc, e, ← E8_append]
    · refine ⟨w.heap.size, zs (grownCap w (L.length + m.length) (L ++ R).length 5 - (L.length + m.length)), ?_, by omega, ?_⟩
      · have hge := grownCap_ge w (L.length + m.length) (L ++ R).length 5
        have e1 : (L ++ m).length = L.length + m.length := List.length_append
        have e2 : (L ++ m ++ zs (grownCap w (L.length + m.length) (L ++ R).length 5 - (L.length + m.length))).length = grownCap w (L.length + m.length) (L ++ R).length 5 := by
          rw [List.length_append, e1, zs_length]; omega
        rw [e2, e1]
      · exact heap_alloc_last w.drew _
    · exact (Below.refl _ _).drew.alloc (by show base ≤ w.heap.size; omega) _
    · simp
end Go.Proofs.YtebcmicmklpflaaGreatDoor.Dg
/- The law's own helper roomy: bytes in a list of their own, with room behind them, which is marked. -/
namespace Go.Proofs.YtebcmicmklpflaaGreatDoor.Dg
open Go.RowKit Go.Great
attribute [local go_sem] f_8 f_1024 f_hi4 f_lo4

theorem app_none (w : World) (a a' : Option Addr) (n cap c : Nat) (h : n ≤ cap) : ∀ ty, (app39 ty #[.slice a n cap, .slice a' 0 c]).run Tryz.prog w = .ok (.slice a n cap) w := by
  intro ty
  obtain ⟨i, hi, hz, hsz, hby⟩ := info5_at
  unfold app39
  refine run_append_nothing w 39 39 ty 5 i Tryz.underlying39 hi a n cap h _ ?_
  cases a' with
  | none => exact Src.ofNil w Tryz.underlying39 c
  | some x => exact Src.ofSlice w Tryz.underlying39 x 0 c [] (by simp) (fun j u hj => by simp at hj) (fun u hu => by simp at hu)

theorem OwnB.alloc {w : World} {base : Nat} {v : Value} {L : List Nat} (h : OwnB w base v L) (o : Obj) : OwnB (w.alloc o) base v L := by
  obtain ⟨g, R, rfl, hg, hh⟩ := h
  exact ⟨g, R, rfl, hg, by rw [Below.heap_alloc w o g (Array.getElem?_eq_some_iff.1 hh).1]; exact hh⟩
theorem one_at (w : World) (x : Nat) : BytesAt (w.alloc (.cells #[.int .u8 (x : Int)] 5)) (.slice (some ⟨w.heap.size, 0, none⟩) [x].length 1) [x] :=
  bytesAt_row _ _ [x] [x] 1 1 (rowOf_alloc_at _ _ _ _ rfl) (by simp) (by simp) (by simp) rfl
end Go.Proofs.YtebcmicmklpflaaGreatDoor.Dg
/- The law's own helper stands: the bytes, and the mark behind them, are as they were. -/
namespace Go.Proofs.YtebcmicmklpflaaGreatDoor.Dg
open Go.RowKit Go.Great
attribute [local go_sem] f_8 f_1024 f_hi4 f_lo4
end Go.Proofs.YtebcmicmklpflaaGreatDoor.Dg
/- The document's own Sum: the padded row, block by block. -/
namespace Go.Proofs.YtebcmicmklpflaaGreatDoor.Dg
namespace Sha
/-- How many noughts stand behind the mark. -/
def gap (n : Nat) : Nat := endOf (n % 64) - 9 - n % 64
theorem gap_lt (n : Nat) : gap n < 64 := by
  unfold gap; have := endOf_cases (n % 64); omega
theorem gap_at (n k : Nat) (h : k ≤ gap n) : (n + 1 + k) % 64 = 56 ↔ k = gap n := by
  unfold gap at h ⊢; have := endOf_cases (n % 64); omega
/-- The padded row. -/
def padded (b : List Nat) : List Nat := b ++ [128] ++ List.replicate (gap b.length) 0 ++ count (8 * b.length)
theorem padded_length (b : List Nat) : (padded b).length = 64 * (b.length / 64 + endOf (b.length % 64) / 64) := by
  unfold padded gap
  have := endOf_cases (b.length % 64)
  simp [count]; omega
theorem padded_bytes {b : List Nat} (h : Bytes b) : Bytes (padded b) :=
  ((h.append (Bytes.one (by omega))).append (Bytes.rep _)).append (count_bytes _)
theorem sum_padded (b : List Nat) : out (blocks start (padded b) (b.length / 64 + endOf (b.length % 64) / 64)) = sum b := by
  have hq : (b.take (b.length - b.length % 64)).length = 64 * (b.length / 64) := by rw [List.length_take]; omega
  have hr : (b.drop (b.length - b.length % 64)).length = b.length % 64 := by rw [List.length_drop]; omega
  unfold sum sumBehind
  rw [← blocks_append start (b.take (b.length - b.length % 64)) _ (b.length / 64) _ hq]
  congr 2
  unfold tail padded gap
  rw [hr, Nat.zero_add]
  simp only [← List.append_assoc]
  rw [List.take_append_drop]
theorem count_take (c J : Nat) (h : J < 8) : (count c).take (8 - J) = (count c).take (8 - (J + 1)) ++ [c / 2 ^ (8 * J) % 256] := by
  match J, h with
  | 0, _ => simp [count]
  | 1, _ => rfl
  | 2, _ => rfl
  | 3, _ => rfl
  | 4, _ => rfl
  | 5, _ => rfl
  | 6, _ => rfl
  | 7, _ => rfl
end Sha
open Go.RowKit Go.Great
attribute [local go_sem] f_8 f_1024 f_hi4 f_lo4
theorem OwnB.below' {w w' : World} {base : Nat} {v : Value} {L : List Nat} (h : OwnB w base v L) (hb : Below w.heap.size w w') : OwnB w' base v L := by
  obtain ⟨g, R, rfl, hg, hh⟩ := h
  exact ⟨g, R, rfl, hg, by rw [hb.block g (Array.getElem?_eq_some_iff.1 hh).1]; exact hh⟩
theorem OwnB.bytesAt {w : World} {base : Nat} {v : Value} {L : List Nat} (h : OwnB w base v L) : BytesAt w v L := by
  obtain ⟨g, R, rfl, hg, hh⟩ := h
  exact bytesAt_row w g (L ++ R) L _ _ (by unfold rowOf; rw [hh]) (Array.getElem?_eq_some_iff.1 hh).1 (by simp) (by simp) (List.take_left' rfl)
theorem shr_byte (c J : Nat) (hJ : J < 8) (hc : c < 18446744073709551616) : ((c : Int) / 2 ^ (8 * J)) % 256 = ((c / 2 ^ (8 * J) % 256 : Nat) : Int) := by
  have _ := hJ
  have _ := hc
  have e : ((c : Int) / 2 ^ (8 * J)) = ((c / 2 ^ (8 * J) : Nat) : Int) := by push_cast; rfl
  rw [e]; omega
theorem app_first (w : World) (base : Nat) (a : Option Addr) (b : List Nat) (cap : Nat) (hbase : base = w.heap.size) (hv : BytesAt w (.slice a b.length cap) b) (hmax : b.length ≤ 950000) :
    ∃ v' w', (∀ ty, (app39 ty #[.slice (some ⟨w.heap.size, 0, none⟩) 0 0, .slice a b.length cap]).run Tryz.prog (w.alloc (.cells #[] 5)) = .ok v' w') ∧ OwnB w' base v' b ∧ Below base w w' ∧ w.heap.size + 1 ≤ w'.heap.size := by
  subst hbase
  have hb0 : Below w.heap.size w (w.alloc (.cells #[] 5)) := (Below.refl _ _).alloc (Nat.le_refl _) _
  by_cases h0 : 0 < b.length
  · obtain ⟨v1, w1, hr1, ho1, hbl1, hz1⟩ := app_own (w.alloc (.cells #[] 5)) w.heap.size (.slice (some ⟨w.heap.size, 0, none⟩) 0 0) [] a b cap ⟨w.heap.size, [], rfl, Nat.le_refl _, heap_alloc_last w _⟩ (hv.below hb0) h0 (by simp; omega)
    exact ⟨v1, w1, hr1, by simpa using ho1, hb0.trans hbl1, by simpa using hz1⟩
  · obtain rfl : b = [] := List.eq_nil_of_length_eq_zero (by omega)
    exact ⟨_, _, app_none (w.alloc (.cells #[] 5)) (some ⟨w.heap.size, 0, none⟩) a 0 0 cap (Nat.le_refl _), ⟨w.heap.size, [], rfl, Nat.le_refl _, heap_alloc_last w _⟩, hb0, by simp⟩
def lenV : Value → Nat
  | .slice _ l _ => l
  | _ => 0
theorem OwnB.len {w : World} {base : Nat} {v : Value} {L : List Nat} (h : OwnB w base v L) : lenV v = L.length := by
  obtain ⟨g, R, rfl, hg, hh⟩ := h; rfl
end Go.Proofs.YtebcmicmklpflaaGreatDoor.Dg
/- The Hasher's leaves: its size, how many bytes it holds, its length. -/
namespace Go.Proofs.YtebcmicmklpflaaGreatDoor.Dg
open Go.RowKit Go.Great
attribute [local go_sem] f_8 f_1024 f_hi4 f_lo4
set_option maxRecDepth 20000 in
set_option maxHeartbeats 400000 in
theorem load_any (b o : Nat) (x : Int) (w : World) (hc : w.cell? ⟨b, o, none⟩ = some (.int .i64 x)) :
    Calls Tryz.prog 205 #[.pointer (some ⟨b, o, none⟩)] w fun e w' => e = .returned (.int .i64 x) ∧ w' = w := by
  have hl := run_call_load (P := Tryz.prog) Tryz.func227 (by kernel_rfl) (by kernel_rfl) (by kernel_rfl) .i64 (by kernel_rfl) hc
  go_enter Tryz.func205, Tryz.ntmps205
  go_wp2
  go_ret
  exact ⟨rfl, rfl⟩
set_option maxRecDepth 20000 in
set_option maxHeartbeats 400000 in
theorem add_any (b o : Nat) (x y s : Int) (w : World) (hc : w.cell? ⟨b, o, none⟩ = some (.int .i64 x)) (hz : w.frozen? ⟨b, o, none⟩ = false) (hs : s = x + y) (h1 : 0 ≤ s) (h2 : s ≤ 4611686018427387904) :
    Calls Tryz.prog 200 #[.pointer (some ⟨b, o, none⟩), .int .i64 y] w fun e w' => e = .returned (.int .i64 s) ∧ w' = w.setCell ⟨b, o, none⟩ (.int .i64 s) := by
  subst hs
  have hl := run_call_add (P := Tryz.prog) Tryz.func222 (by kernel_rfl) (by kernel_rfl) (by kernel_rfl) .i64 (by kernel_rfl) (y := y) (s := x + y) hc hz (by
    have e : IntKind.i64.wrap (x + y) = x + y := IntWalk.i64_in _ (by omega)
    simp [Op.intArith, go_sem, e])
  go_enter Tryz.func200, Tryz.ntmps200
  go_wp2
  go_ret
  exact ⟨rfl, rfl⟩
set_option maxRecDepth 20000 in
set_option maxHeartbeats 400000 in
theorem held_any (g : Nat) (N : Nat) (w : World) (hN : N ≤ 4611686018427387904) (hc : w.cell? ⟨g, 72, none⟩ = some (.int .i64 (N : Int))) :
    Calls Tryz.prog 199 #[.pointer (some ⟨g, 0, none⟩)] w fun e w' => e = .returned (.int .i64 ((N % 64 : Nat) : Int)) ∧ w' = w := by
  have HL := hide (load_any g 72 N w hc)
  go_enter Tryz.func199, Tryz.ntmps199
  go_wp2_with (go_at_call 205; refine (unhide HL).mono ?_; rintro e w' ⟨rfl, hw'⟩; rw [hw']; clear hw' w')
  go_ret
  exact ⟨ret_int (by omega), rfl⟩
/-- The Once's word, and its lock. -/
structure DL where
  w : Int
  lk : Int
def dz : DL := ⟨0, 0⟩
/-- The cells of a Hasher: the state, what no full block holds yet, how many bytes, the Once's word and lock, whether it is told, the digest. -/
def hcells (st rest : List Nat) (N : Int) (done : DL) (told : Bool) (sum : List Nat) : Array Value :=
  E32 st ++ E8 rest ++ #[.int .i64 N, .int .u32 done.w, .int .i32 done.lk, .int .u32 0, .bool told] ++ E8 sum
def H0 : Array Value := hcells (zs 8) (zs 64) 0 dz false (zs 32)
set_option maxRecDepth 20000 in
theorem H0_info : ((Tryz.prog.info? 255).map (fun i => (i.zero, i.size))) = some (some (.agg H0), 109) := by kernel_rfl
end Go.Proofs.YtebcmicmklpflaaGreatDoor.Dg
/- A new Hasher. -/
namespace Go.Proofs.YtebcmicmklpflaaGreatDoor.Dg
open Go.RowKit Go.Great
attribute [local go_sem] f_8 f_1024 f_hi4 f_lo4
@[go_sem ↓] theorem zero78 (w : World) : (zeroValue 255).run Tryz.prog w = .ok (.agg H0) w := (zero_of_info H0_info).1 w
@[simp] theorem H0_size : H0.size = 109 := by simp [H0, hcells]
theorem H0_ones : ones H0 = true := by
  simp [ones, H0, hcells, E32, E8, W32, B8, Value.oneCell', zs]
set_option maxRecDepth 20000 in
set_option maxHeartbeats 400000 in
theorem new_any (w : World) : Calls Tryz.prog 151 #[] w fun e w' => e = .returned (.pointer (some ⟨w.heap.size, 0, none⟩)) ∧ w' = w.alloc (.cells H0 255) := by
  go_enter Tryz.func151, Tryz.ntmps151
  go_wp2
  go_ret
  exact ⟨rfl, rfl⟩
end Go.Proofs.YtebcmicmklpflaaGreatDoor.Dg
/- Parts of a Hasher's block, loaded and stored. -/
namespace Go.Proofs.YtebcmicmklpflaaGreatDoor.Dg
open Go.RowKit Go.Great
attribute [local go_sem] f_8 f_1024 f_hi4 f_lo4
theorem store_part (w : World) (g o : Nat) (A B C B' : List Value) (h : w.heap[g]? = some (.cells (A ++ B ++ C).toArray 255 (0, 0))) (hA : A.length = o) (hB : B'.length = B.length) (h1 : ∀ v ∈ B', v.oneCell' = true) :
    (storeCells ⟨g, o, none⟩ B').run Tryz.prog w = .ok () (w.setRow g (A ++ B' ++ C).toArray) := by
  have := run_storeCells_at (P := Tryz.prog) g o 255 B' 0 (A ++ B ++ C).toArray w h (by simp; omega) h1
  rw [this]
  have e1 : (A ++ B ++ C).toArray.toList.take (o + 0) = A := by rw [List.toList_toArray, List.append_assoc, Nat.add_zero, List.take_left' hA]
  have e2 : (A ++ B ++ C).toArray.toList.drop (o + 0 + B'.length) = C := by rw [List.toList_toArray, List.drop_left' (by simp; omega)]
  rw [e1, e2]
theorem load_part (w : World) (g o n : Nat) (A B C : List Value) (h : w.heap[g]? = some (.cells (A ++ B ++ C).toArray 255 (0, 0))) (hA : A.length = o) (hB : B.length = n) :
    (loadCells ⟨g, o, none⟩ n).run Tryz.prog w = .ok B.toArray w := by
  subst hB
  refine run_loadCells_list (P := Tryz.prog) (w := w) ⟨g, o, none⟩ B (fun j v hj => ?_)
  rw [Addr.add_mid, cell_of_row w g (o + j) _ 255 _ h]
  have hj' := (List.getElem?_eq_some_iff.1 hj).1
  rw [List.getElem?_toArray, List.append_assoc, List.getElem?_append_right (by omega), hA, Nat.add_sub_cancel_left, List.getElem?_append_left hj']
  exact hj
/-- A Hasher in a block of its own. -/
def HasH (w : World) (g : Nat) (st rest : List Nat) (N : Int) (done : DL) (told : Bool) (sum : List Nat) : Prop :=
  w.heap[g]? = some (.cells (hcells st rest N done told sum) 255 (0, 0)) ∧ st.length = 8 ∧ rest.length = 64 ∧ sum.length = 32
def mids (N : Int) (done : DL) (told : Bool) : List Value := [.int .i64 N, .int .u32 done.w, .int .i32 done.lk, .int .u32 0, .bool told]
theorem hcells_list (st rest : List Nat) (N : Int) (done : DL) (told : Bool) (sum : List Nat) :
    hcells st rest N done told sum = (st.map W32 ++ rest.map B8 ++ mids N done told ++ sum.map B8).toArray := by
  unfold hcells E32 E8 mids; simp
theorem w32_one (l : List Nat) : ∀ v ∈ l.map W32, v.oneCell' = true := fun v hv => by obtain ⟨x, -, rfl⟩ := List.mem_map.1 hv; rfl
theorem b8_one (l : List Nat) : ∀ v ∈ l.map B8, v.oneCell' = true := fun v hv => by obtain ⟨x, -, rfl⟩ := List.mem_map.1 hv; rfl
theorem loadVar_of (w : World) (ty n : Nat) (a : Addr) (c : Array Value) (d : TypeDesc) (hu : Tryz.prog.underlying ty = some d) (hd : (match d with | .struct _ | .array _ _ => true | _ => false) = true)
    (hi : (Tryz.prog.info? ty).map (·.size) = some n) (hl : (loadCells a n).run Tryz.prog w = .ok c w) : (loadVar ty a).run Tryz.prog w = .ok (.agg c) w := by
  cases hq : Tryz.prog.info? ty with
  | none => simp [hq] at hi
  | some i =>
    have hs : i.size = n := by simpa [hq] using hi
    have hagg : (isAgg ty).run Tryz.prog w = .ok true w := by
      cases d <;> simp_all [isAgg, run_underlying hu]
    simp [loadVar, hagg, sizeOf, typeInfo, hq, hs, hl]
theorem storeVar_of (w w' : World) (ty n : Nat) (a : Addr) (c : Array Value) (hi : (Tryz.prog.info? ty).map (·.size) = some n) (hc : c.size = n) (hl : (storeCells a c.toList).run Tryz.prog w = .ok () w') : (storeVar ty a (.agg c)).run Tryz.prog w = .ok () w' := by
  cases hq : Tryz.prog.info? ty with
  | none => simp [hq] at hi
  | some i =>
    have hs : i.size = n := by simpa [hq] using hi
    simp [storeVar, sizeOf, typeInfo, hq, hs, hl, Value.cells, hc]
theorem HasH.ld250 {w : World} {g : Nat} {st rest sum : List Nat} {N : Int} {done : DL} {told : Bool} (h : HasH w g st rest N done told sum) : (ld250 (.pointer (some ⟨g, 0, none⟩))).run Tryz.prog w = .ok (.agg (E32 st)) w := by
  obtain ⟨hh, h8, h64, h32⟩ := h
  rw [hcells_list] at hh
  have := load_part w g 0 8 [] (st.map W32) (rest.map B8 ++ mids N done told ++ sum.map B8) (by simpa [List.append_assoc] using hh) rfl (by simp [h8])
  unfold YtebcmicmklpflaaGreatDoor.Dg.ld250
  simp only [Instr.loadAt, Instr.sureAddr, Sem.run_bind, Sem.run_pure, Result.andThen]
  exact loadVar_of w 250 8 _ _ _ Tryz.underlying250 rfl (zero_of_info Z250_info).2 this
theorem HasH.st250 {w : World} {g : Nat} {st rest sum : List Nat} {N : Int} {done : DL} {told : Bool} (h : HasH w g st rest N done told sum) (st' : List Nat) (h' : st'.length = 8) :
    (st250 (.pointer (some ⟨g, 0, none⟩)) (.agg (E32 st'))).run Tryz.prog w = .ok () (w.setRow g (hcells st' rest N done told sum)) := by
  obtain ⟨hh, h8, h64, h32⟩ := h
  rw [hcells_list] at hh ⊢
  have := store_part w g 0 [] (st.map W32) (rest.map B8 ++ mids N done told ++ sum.map B8) (st'.map W32) (by simpa [List.append_assoc] using hh) rfl (by simp [h8, h']) (w32_one _)
  unfold YtebcmicmklpflaaGreatDoor.Dg.st250
  simp only [Instr.storeAt, Instr.sureAddr, Sem.run_bind, Sem.run_pure, Result.andThen]
  exact storeVar_of w _ 250 8 _ (E32 st') (zero_of_info Z250_info).2 (by simp [h']) (by simpa [E32, List.append_assoc] using this)
theorem HasH.setSt {w : World} {g : Nat} {st rest sum : List Nat} {N : Int} {done : DL} {told : Bool} (h : HasH w g st rest N done told sum) (st' : List Nat) (h' : st'.length = 8) :
    HasH (w.setRow g (hcells st' rest N done told sum)) g st' rest N done told sum := by
  obtain ⟨hh, h8, h64, h32⟩ := h
  exact ⟨setRow_heap w g _ _ 255 _ hh, h', h64, h32⟩
theorem HasH.size {w : World} {g : Nat} {st rest sum : List Nat} {N : Int} {done : DL} {told : Bool} (h : HasH w g st rest N done told sum) : w.cell? ⟨g, 72, none⟩ = some (.int .i64 N) := by
  obtain ⟨hh, h8, h64, h32⟩ := h
  rw [hcells_list] at hh
  rw [cell_of_row w g 72 _ 255 _ hh, List.getElem?_toArray, List.append_assoc, List.getElem?_append_right (by simp; omega)]
  have e : 72 - (st.map W32 ++ rest.map B8).length = 0 := by simp; omega
  rw [e]; rfl
end Go.Proofs.YtebcmicmklpflaaGreatDoor.Dg
/- The Hasher's start: the first state is laid in as long as there is no byte. -/
namespace Go.Proofs.YtebcmicmklpflaaGreatDoor.Dg
open Go.RowKit Go.Great
attribute [local go_sem] f_8 f_1024 f_hi4 f_lo4
/-- Of what was there only one block has changed. -/
structure Sole (g : Nat) (a b : World) : Prop where
  os : b.os = a.os
  tape : b.tape = a.tape
  output : b.output = a.output
  size : a.heap.size ≤ b.heap.size
  block : ∀ k, k < a.heap.size → k ≠ g → b.heap[k]? = a.heap[k]?
theorem Sole.refl (g : Nat) (w : World) : Sole g w w := ⟨rfl, rfl, rfl, Nat.le_refl _, fun _ _ _ => rfl⟩
theorem Sole.trans {g : Nat} {a b c : World} (h : Sole g a b) (k : Sole g b c) : Sole g a c :=
  ⟨k.os.trans h.os, k.tape.trans h.tape, k.output.trans h.output, Nat.le_trans h.size k.size, fun i hi hg => (k.block i (Nat.lt_of_lt_of_le hi h.size) hg).trans (h.block i hi hg)⟩
theorem Sole.of_below {g : Nat} {a b : World} (h : Below a.heap.size a b) : Sole g a b := ⟨h.os, h.tape, h.output, h.size, fun k hk _ => h.block k hk⟩
theorem Sole.setRow (g : Nat) (w : World) (c : Array Value) : Sole g w (w.setRow g c) := ⟨rfl, rfl, rfl, by simp, fun k _ hg => setRow_other w g k c hg⟩
theorem Sole.below {g base : Nat} {a b : World} (h : Sole g a b) (hb : base ≤ g) (hg : base ≤ a.heap.size) : Below base a b := ⟨h.os, h.tape, h.output, h.size, fun k hk => h.block k (by omega) (by omega)⟩
theorem HasH.below {w w' : World} {g : Nat} {st rest sum : List Nat} {N : Int} {done : DL} {told : Bool} (h : HasH w g st rest N done told sum) (hb : Below w.heap.size w w') : HasH w' g st rest N done told sum := by
  obtain ⟨hh, h8, h64, h32⟩ := h
  exact ⟨by rw [hb.block g (Array.getElem?_eq_some_iff.1 hh).1]; exact hh, h8, h64, h32⟩
theorem HasH.lt {w : World} {g : Nat} {st rest sum : List Nat} {N : Int} {done : DL} {told : Bool} (h : HasH w g st rest N done told sum) : g < w.heap.size := (Array.getElem?_eq_some_iff.1 h.1).1
set_option maxRecDepth 20000 in
set_option maxHeartbeats 400000 in
theorem start_any (g : Nat) (st rest sum : List Nat) (N : Nat) (done : DL) (told : Bool) (w : World) (h : HasH w g st rest (N : Int) done told sum) :
    Calls Tryz.prog 198 #[.pointer (some ⟨g, 0, none⟩)] w fun e w' => e = .returned (.tuple #[]) ∧ HasH w' g (if N = 0 then Sha.start.list else st) rest (N : Int) done told sum ∧ Sole g w w' := by
  have HL := hide (load_any g 72 N w h.size)
  by_cases hN : N = 0
  · subst hN
    go_enter Tryz.func198, Tryz.ntmps198
    go_wp2_with (go_at_call 205; refine (unhide HL).mono ?_; rintro e w' ⟨rfl, hw'⟩; rw [hw']; clear hw' w')
    refine (firstState_any _).mono ?_
    rintro e w1 ⟨rfl, hb1⟩
    have h1 := h.below hb1
    have hst := h1.st250 Sha.start.list rfl
    have hset := h1.setSt Sha.start.list rfl
    have hsole : Sole g w (w1.setRow g (hcells Sha.start.list rest 0 done told sum)) := (Sole.of_below hb1).trans (Sole.setRow g w1 _)
    generalize hS : Sha.start.list = S at *
    have HS := hide hS
    clear hS
    go_wp2
    go_end0
    exact ⟨rfl, by first | exact hset | (rw [unhide HS]; exact hset), hsole⟩
  · have hne : ((N : Int) == 0) = false := by rw [beq_eq_false_iff_ne]; omega
    go_enter Tryz.func198, Tryz.ntmps198
    go_wp2_with (go_at_call 205; refine (unhide HL).mono ?_; rintro e w' ⟨rfl, hw'⟩; rw [hw']; clear hw' w')
    go_end0
    refine ⟨rfl, ?_, Sole.refl _ _⟩
    assumption
end Go.Proofs.YtebcmicmklpflaaGreatDoor.Dg
/- The law's own helper spoil: bytes are written over, and grown: nothing ahead of their own row is touched. -/
namespace Go.Proofs.YtebcmicmklpflaaGreatDoor.Dg
open Go.RowKit Go.Great
attribute [local go_sem] f_8 f_1024 f_hi4 f_lo4
end Go.Proofs.YtebcmicmklpflaaGreatDoor.Dg
/- The Once of a Hasher that is told already. -/
namespace Go.Proofs.YtebcmicmklpflaaGreatDoor.Dg
open Go.RowKit Go.Great
attribute [local go_sem] f_8 f_1024 f_hi4 f_lo4
theorem HasH.done {w : World} {g : Nat} {st rest sum : List Nat} {N : Int} {done : DL} {told : Bool} (h : HasH w g st rest N done told sum) : w.cell? ⟨g, 73, none⟩ = some (.int .u32 done.w) := by
  obtain ⟨hh, h8, h64, h32⟩ := h
  rw [hcells_list] at hh
  rw [cell_of_row w g 73 _ 255 _ hh, List.getElem?_toArray, List.append_assoc, List.getElem?_append_right (by simp; omega)]
  have e : 73 - (st.map W32 ++ rest.map B8).length = 1 := by simp; omega
  rw [e]; rfl
theorem HasH.told {w : World} {g : Nat} {st rest sum : List Nat} {N : Int} {done : DL} {told : Bool} (h : HasH w g st rest N done told sum) : w.cell? ⟨g, 76, none⟩ = some (.bool told) := by
  obtain ⟨hh, h8, h64, h32⟩ := h
  rw [hcells_list] at hh
  rw [cell_of_row w g 76 _ 255 _ hh, List.getElem?_toArray, List.append_assoc, List.getElem?_append_right (by simp; omega)]
  have e : 76 - (st.map W32 ++ rest.map B8).length = 4 := by simp; omega
  rw [e]; rfl
theorem HasH.ld113 {w : World} {g : Nat} {st rest sum : List Nat} {N : Int} {done : DL} {told : Bool} (h : HasH w g st rest N done told sum) : (ld113 (.pointer (some ⟨g, 77, none⟩))).run Tryz.prog w = .ok (.agg (E8 sum)) w := by
  obtain ⟨hh, h8, h64, h32⟩ := h
  rw [hcells_list] at hh
  have := load_part w g 77 32 (st.map W32 ++ rest.map B8 ++ mids N done told) (sum.map B8) [] (by simpa [List.append_assoc] using hh) (by simp [mids, h8, h64]) (by simp [h32])
  unfold YtebcmicmklpflaaGreatDoor.Dg.ld113
  simp only [Instr.loadAt, Instr.sureAddr, Sem.run_bind, Sem.run_pure, Result.andThen]
  exact loadVar_of w 113 32 _ _ _ Tryz.underlying113 rfl (zero_of_info Z113_info).2 this
set_option maxRecDepth 20000 in
set_option maxHeartbeats 400000 in
theorem do_done (g : Nat) (d : Int) (hd : ¬ d = 0) (fv : Value) (w : World) (h0 : w.cell? ⟨g, 73, none⟩ = some (.int .u32 d)) :
    Calls Tryz.prog 149 #[.pointer (some ⟨g, 73, none⟩), fv] w fun e w' => e = .returned (.tuple #[]) ∧ w' = w := by
  have hl := run_call_load (P := Tryz.prog) Tryz.func143 (by kernel_rfl) (by kernel_rfl) (by kernel_rfl) .u32 (by kernel_rfl) h0
  have hnot : ∀ (x : Bool) (w : World), (Op.unary .not (.bool x)).run Tryz.prog w = .ok (.bool (!x)) w := fun _ _ => rfl
  have hd' : (d != 0) = true := by simp [hd]
  go_enter Tryz.func149, Tryz.ntmps149
  go_wp2
  go_end0
  exact ⟨rfl, rfl⟩
/-- A Hasher that is told takes nothing more. -/
theorem write_told (g : Nat) (st rest sum : List Nat) (N : Int) (done : DL) (v : Value) (w : World) (h : HasH w g st rest N done true sum) :
    Calls Tryz.prog 152 #[.pointer (some ⟨g, 0, none⟩), v] w fun e w' => e = .returned (.bool false) ∧ w' = w := by
  have ht := h.told
  go_enter Tryz.func152, Tryz.ntmps152
  go_wp2
  go_ret
  exact ⟨rfl, rfl⟩
end Go.Proofs.YtebcmicmklpflaaGreatDoor.Dg
/- The law's own helper roomy, its capacity said. -/
namespace Go.Proofs.YtebcmicmklpflaaGreatDoor.Dg
open Go.RowKit Go.Great
attribute [local go_sem] f_8 f_1024 f_hi4 f_lo4
end Go.Proofs.YtebcmicmklpflaaGreatDoor.Dg
/- Bytes copied into what no full block holds yet; how many bytes there are, set anew. -/
namespace Go.Proofs.YtebcmicmklpflaaGreatDoor.Dg
open Go.RowKit Go.Great
attribute [local go_sem] f_8 f_1024 f_hi4 f_lo4
/-- Copied bytes, at a place of a row. -/
def laid (rest b : List Nat) (o m : Nat) : List Nat := rest.take o ++ b.take m ++ rest.drop (o + m)
theorem laid_length {rest b : List Nat} {o m : Nat} (h1 : o + m ≤ rest.length) (h2 : m ≤ b.length) : (laid rest b o m).length = rest.length := by
  unfold laid; simp; omega
theorem HasH.copy {w : World} {g : Nat} {st rest sum : List Nat} {N : Int} {done : DL} {told : Bool} (h : HasH w g st rest N done told sum) (ty : TypeId) (o c n cap : Nat) (a : Option Addr) (b : List Nat) (hn : b.length = n) (hv : BytesAt w (.slice a n cap) b) (ho : o ≤ 64) (m : Nat) (hm : m = Nat.min n (64 - o)) :
    ∃ w', (Builtin.copy_ #[39, 39] ty #[.slice (some ⟨g, 8 + o, none⟩) (64 - o) c, .slice a n cap]).run Tryz.prog w = .ok (.int .i64 (m : Int)) w' ∧ HasH w' g st (laid rest b o m) N done told sum ∧ Sole g w w' := by
  subst hn
  have hmn : m ≤ b.length := by rw [hm]; exact Nat.min_le_left _ _
  have hmo : m ≤ 64 - o := by rw [hm]; exact Nat.min_le_right _ _
  obtain ⟨hh, h8, h64, h32⟩ := h
  by_cases h0 : 0 < m
  · obtain ⟨a', c', e, hc, hx⟩ := hv
    cases e
    obtain ⟨b', o', rfl, hb, hcell⟩ := hx (by omega)
    have hh' := hh
    rw [hcells_list] at hh'
    have hr := run_copy_row (P := Tryz.prog) w 39 39 ty 5 g (8 + o) (64 - o) c ⟨b', o', none⟩ b.length cap _ 255 ((b.take m).map B8) Tryz.underlying39 size5 hh' (by rw [List.length_map, List.length_take, hm]; omega)
      (fun j v hj => by
        obtain ⟨hj1, rfl⟩ := nth_map (b.take m) j v hj
        rw [List.length_take] at hj1
        rw [Addr.add_mid, hcell j (by omega), Sha.nth_take (by omega)])
      (by simp [mids, h8, h64, h32]; omega) (b8_one _)
    refine ⟨_, by rw [hr, List.length_map, List.length_take, Nat.min_eq_left (by omega)]; rfl, ?_, Sole.setRow g w _⟩
    refine ⟨?_, h8, by rw [laid_length (by omega) (by omega)]; exact h64, h32⟩
    rw [setRow_heap w g _ _ 255 _ hh, hcells_list]
    refine congrArg (fun c : Array Value => some (Obj.cells c 255 (0, 0))) ?_
    refine congrArg List.toArray ?_
    rw [List.toList_toArray]
    have e1 : (st.map W32 ++ rest.map B8 ++ mids N done told ++ sum.map B8).take (8 + o) = st.map W32 ++ (rest.take o).map B8 := by
      rw [List.append_assoc, List.append_assoc, List.take_append, List.take_of_length_le (by simp; omega), List.take_append_of_le_length (by simp; omega), List.map_take]
      simp [h8]
    have e2 : (st.map W32 ++ rest.map B8 ++ mids N done told ++ sum.map B8).drop (8 + o + m) = (rest.drop (o + m)).map B8 ++ mids N done told ++ sum.map B8 := by
      rw [List.append_assoc, List.append_assoc, List.drop_append, List.drop_of_length_le (by simp; omega), List.nil_append, List.drop_append_of_le_length (by simp; omega), List.map_drop]
      simp [h8, List.append_assoc, Nat.add_assoc]
    rw [e1, e2]
    unfold laid
    simp [List.append_assoc]
  · obtain rfl : m = 0 := by omega
    refine ⟨w, ?_, ⟨?_, h8, by rw [laid_length (by omega) (by omega)]; exact h64, h32⟩, Sole.refl _ _⟩
    · rw [run_copy_none w 39 39 ty 5 _ _ _ _ _ _ Tryz.underlying39 size5 hm.symm]; rfl
    · have : laid rest b o 0 = rest := by unfold laid; simp
      rw [this]; exact hh
theorem HasH.setSize {w : World} {g : Nat} {st rest sum : List Nat} {N : Int} {done : DL} {told : Bool} (h : HasH w g st rest N done told sum) (N' : Int) :
    HasH (w.setCell ⟨g, 72, none⟩ (.int .i64 N')) g st rest N' done told sum ∧ Sole g w (w.setCell ⟨g, 72, none⟩ (.int .i64 N')) := by
  obtain ⟨hh, h8, h64, h32⟩ := h
  refine ⟨⟨?_, h8, h64, h32⟩, ⟨rfl, rfl, rfl, by simp [World.setCell], fun k _ hk => Below.heap_setCell w ⟨g, 72, none⟩ _ k hk⟩⟩
  unfold World.setCell
  simp only [Array.getElem?_modify, hh]
  simp only [if_true, Option.map_some]
  congr 2
  rw [hcells_list, hcells_list]
  have e : (st.map W32 ++ rest.map B8).length = 72 := by simp; omega
  simp only [List.setIfInBounds_toArray]
  congr 1
  rw [List.append_assoc, List.append_assoc, List.append_assoc, List.append_assoc, ← List.append_assoc (st.map W32), ← List.append_assoc (st.map W32), List.set_append_right _ _ (by omega), e]
  rfl
theorem HasH.free {w : World} {g : Nat} {st rest sum : List Nat} {N : Int} {done : DL} {told : Bool} (h : HasH w g st rest N done told sum) (i : Nat) : w.frozen? ⟨g, i, none⟩ = false := by
  simp [World.frozen?, h.1]
theorem HasH.drewN {w : World} {g : Nat} {st rest sum : List Nat} {N : Int} {done : DL} {told : Bool} (h : HasH w g st rest N done told sum) (m : Nat) : HasH (w.drewN m) g st rest N done told sum := h
theorem HasH.rest {w : World} {g : Nat} {st rest sum : List Nat} {N : Int} {done : DL} {told : Bool} (h : HasH w g st rest N done told sum) (n cap : Nat) (hn : n ≤ 64) (hc : n ≤ cap) : BytesAt w (.slice (some ⟨g, 8, none⟩) n cap) (rest.take n) := by
  have hg := h.lt
  obtain ⟨hh, h8, h64, h32⟩ := h
  have hl : (rest.take n).length = n := by rw [List.length_take]; omega
  refine ⟨_, cap, by rw [hl], by omega, fun _ => ⟨g, 8, rfl, hg, fun i hi => ?_⟩⟩
  rw [hl] at hi
  rw [hcells_list] at hh
  rw [cell_of_row w g (8 + i) _ 255 _ hh, List.getElem?_toArray, List.append_assoc, List.append_assoc, List.getElem?_append_right (by simp; omega)]
  have e : 8 + i - (st.map W32).length = i := by simp; omega
  rw [e, List.getElem?_append_left (by simp; omega), List.getElem?_map, List.getElem?_eq_getElem (by omega)]
  simp only [Option.map_some, B8]
  congr 2
  rw [Sha.nth_take hi]
  unfold Sha.nth
  rw [List.getElem?_eq_getElem (by omega)]
  rfl
end Go.Proofs.YtebcmicmklpflaaGreatDoor.Dg
/- What a Hasher keeps of the bytes that were written: the state of all full blocks, and the bytes that no full block holds. No Go text is named here. -/
namespace Go.Proofs.YtebcmicmklpflaaGreatDoor.Dg
namespace Sha
/-- How many bytes the full blocks have. -/
def full (all : List Nat) : Nat := 64 * (all.length / 64)
/-- The state of all full blocks. -/
def stOf (all : List Nat) : St := blocks start (all.take (full all)) (all.length / 64)
theorem stOf_ok (all : List Nat) : (stOf all).ok := blocks_ok start_ok _ _
theorem stOf_nil : stOf [] = start := rfl
/-- Bytes that fill no block. -/
theorem inv_less {rest all b rest' : List Nat} (hr : rest.take (all.length % 64) = all.drop (full all)) (hb : all.length % 64 + b.length < 64) (hr' : rest'.take (all.length % 64 + b.length) = rest.take (all.length % 64) ++ b) :
    stOf (all ++ b) = stOf all ∧ rest'.take ((all ++ b).length % 64) = (all ++ b).drop (full (all ++ b)) := by
  have e1 : (all ++ b).length / 64 = all.length / 64 := by rw [List.length_append]; omega
  have e2 : (all ++ b).length % 64 = all.length % 64 + b.length := by rw [List.length_append]; omega
  have e3 : full (all ++ b) = full all := by unfold full; rw [e1]
  have hf : full all ≤ all.length := by unfold full; omega
  constructor
  · unfold stOf
    rw [e1, e3, List.take_append_of_le_length hf]
  · rw [e2, e3, hr', hr, List.drop_append_of_le_length hf]
/-- Bytes that fill a block, and more. -/
theorem inv_more {rest all b r1 rest' : List Nat} {m wh : Nat} (hr : rest.take (all.length % 64) = all.drop (full all)) (hm : all.length % 64 + m = 64) (hmb : m ≤ b.length) (hr1 : r1 = rest.take (all.length % 64) ++ b.take m)
    (hw : wh = (b.length - m) - (b.length - m) % 64) (hr' : rest'.take ((b.length - m) % 64) = (b.drop m).drop wh) :
    stOf (all ++ b) = blocks (blocks (stOf all) r1 1) ((b.drop m).take wh) (wh / 64) ∧ rest'.take ((all ++ b).length % 64) = (all ++ b).drop (full (all ++ b)) := by
  have hf : full all ≤ all.length := by unfold full; omega
  have hfd : (all.drop (full all)).length = all.length % 64 := by rw [List.length_drop]; unfold full; omega
  have hr1l : r1.length = 64 * 1 := by rw [hr1, hr, List.length_append, hfd, List.length_take]; omega
  have hftl : (all.take (full all)).length = 64 * (all.length / 64) := by rw [List.length_take]; unfold full; omega
  have hwl : ((b.drop m).take wh).length = wh := by rw [List.length_take, List.length_drop]; omega
  have hsplit : all ++ b = (all.take (full all) ++ (r1 ++ (b.drop m).take wh)) ++ (b.drop m).drop wh := by
    rw [List.append_assoc, List.append_assoc, List.take_append_drop, hr1, hr, List.append_assoc, List.take_append_drop, ← List.append_assoc, List.take_append_drop]
  have hpl : (all.take (full all) ++ (r1 ++ (b.drop m).take wh)).length = 64 * (all.length / 64 + (1 + wh / 64)) := by
    rw [List.length_append, List.length_append, hftl, hr1l, hwl]; omega
  have e1 : (all ++ b).length / 64 = all.length / 64 + (1 + wh / 64) := by rw [List.length_append]; omega
  have e3 : full (all ++ b) = (all.take (full all) ++ (r1 ++ (b.drop m).take wh)).length := by unfold full; rw [e1]; exact hpl.symm
  have e2 : (all ++ b).length % 64 = (b.length - m) % 64 := by rw [List.length_append]; omega
  constructor
  · show blocks start ((all ++ b).take (full (all ++ b))) ((all ++ b).length / 64) = _
    rw [e1, e3]
    conv => lhs; rw [hsplit]
    rw [List.take_left' rfl, blocks_append _ _ _ _ _ hftl, blocks_append _ _ _ _ _ hr1l]
    rfl
  · rw [e2, e3, hr', hsplit, List.drop_left' rfl]
/-- The digest of all, out of what is kept. -/
theorem sum_kept {rest all : List Nat} (hr : rest.take (all.length % 64) = all.drop (full all)) : out (blocks (stOf all) (tail (rest.take (all.length % 64)) (8 * all.length)) (endOf (all.length % 64) / 64)) = sum all := by
  have e : all.length - all.length % 64 = full all := by unfold full; omega
  unfold sum sumBehind
  rw [hr, e, Nat.zero_add]
  rfl
end Sha
end Go.Proofs.YtebcmicmklpflaaGreatDoor.Dg
/- Write, while the Hasher is not told. -/
namespace Go.Proofs.YtebcmicmklpflaaGreatDoor.Dg
open Go.RowKit Go.Great
attribute [local go_sem] f_8 f_1024 f_hi4 f_lo4
theorem BytesAt.sole {w w' : World} {g n cap : Nat} {a : Option Addr} {m : List Nat} (h : BytesAt w (.slice a n cap) m) (hg : ∀ x, a = some x → 0 < m.length → x.block ≠ g) (hs : Sole g w w') : BytesAt w' (.slice a n cap) m := by
  obtain ⟨a', c, e, hc, hm⟩ := h
  cases e
  refine ⟨a, cap, rfl, hc, fun hp => ?_⟩
  obtain ⟨b, o, ea, hl, hcell⟩ := hm hp
  have hne : b ≠ g := hg ⟨b, o, none⟩ ea hp
  exact ⟨b, o, ea, Nat.lt_of_lt_of_le hl hs.size, fun i hi => by rw [World.cell?_of_block (w := w) (w' := w') (a := ⟨b, o + i, none⟩) (hs.block b hl hne)]; exact hcell i hi⟩
theorem laid_less {rest b : List Nat} {o : Nat} (h : o + b.length ≤ rest.length) : (laid rest b o b.length).take (o + b.length) = rest.take o ++ b := by
  unfold laid
  rw [List.take_left' (by simp; omega), List.take_length]
set_option maxRecDepth 20000 in
set_option maxHeartbeats 1000000 in
theorem write_less (g : Nat) (st rest sum ST : List Nat) (N n cap : Nat) (a : Option Addr) (b : List Nat) (w : World) (h : HasH w g st rest (N : Int) dz false sum) (hST : (if N = 0 then Sha.start.list else st) = ST) (hn : b.length = n) (hv : BytesAt w (.slice a n cap) b) (hg : ∀ x, a = some x → 0 < b.length → x.block ≠ g) (hN : N + n ≤ 20000000) (o : Nat) (ho : o = N % 64) (hl : o + n < 64) :
    Calls Tryz.prog 152 #[.pointer (some ⟨g, 0, none⟩), .slice a n cap] w fun e w' => e = .returned (.bool true) ∧ HasH w' g ST (laid rest b o n) ((N : Int) + (n : Int)) dz false sum ∧ Sole g w w' := by
  have ht := h.told
  have HOO := hide ho
  have hsa := start_any g st rest sum N dz false w h
  rw [hST] at hsa
  have HSA := hide hsa
  clear ho hsa hST
  go_enter Tryz.func152, Tryz.ntmps152
  go_wp2_with fail
  refine (unhide HSA).mono ?_
  rintro e w1 ⟨rfl, h1, hs1⟩
  go_wp2_with fail
  have hhe := held_any g N w1 (by omega) h1.size
  rw [← unhide HOO] at hhe
  refine hhe.mono ?_
  clear hhe
  rintro e w' ⟨rfl, hw'⟩; rw [hw']; clear hw' w'
  go_wp2_with fail
  refine (add_any g 72 N n ((N : Int) + (n : Int)) _ h1.size (h1.free 72) rfl (by omega) (by omega)).mono ?_
  rintro e w' ⟨rfl, hw'⟩; rw [hw']; clear hw' w'
  obtain ⟨h2, hs2⟩ := h1.setSize ((N : Int) + (n : Int))
  have hs12 := hs1.trans hs2
  generalize w1.setCell ⟨g, 72, none⟩ (.int .i64 ((N : Int) + (n : Int))) = w2 at *
  clear h1 hs1 hs2
  obtain ⟨w3, hr3, h3, hs3⟩ := h2.copy 3 o (64 - o) n cap a b hn (hv.sole hg hs12) (by omega) n (by have : Nat.min n (64 - o) = n := Nat.min_eq_left (by omega); exact this.symm)
  have ho1 : (o : Int) ≤ 64 := by omega
  have ho2 : ¬ (64 = o) := by omega
  have H3 := hide h3
  have hs13 := hs12.trans hs3
  clear h3 hs12 hs3 h2
  go_wp2
  go_ret
  exact ⟨rfl, unhide H3, hs13⟩
set_option maxRecDepth 20000 in
set_option maxHeartbeats 1000000 in
theorem write_more (g : Nat) (rest sum : List Nat) (st : List Nat) (ST : Sha.St) (N n cap : Nat) (a : Option Addr) (b : List Nat) (w : World) (h : HasH w g st rest (N : Int) dz false sum) (hST : (if N = 0 then Sha.start.list else st) = ST.list) (hok : ST.ok) (hn : b.length = n) (hbb : Sha.Bytes b) (hrb : Sha.Bytes (rest.take (N % 64))) (hv : BytesAt w (.slice a n cap) b) (hg : ∀ x, a = some x → 0 < b.length → x.block ≠ g) (hN : N + n ≤ 20000000) (o m wh : Nat) (ho : o = N % 64) (hm : o + m = 64) (hmn : m ≤ n) (hwh : wh = (n - m) - (n - m) % 64) :
    Calls Tryz.prog 152 #[.pointer (some ⟨g, 0, none⟩), .slice a n cap] w fun e w' => e = .returned (.bool true) ∧ HasH w' g (Sha.blocks (Sha.blocks ST (laid rest b o m) 1) ((b.drop m).take wh) (wh / 64)).list (laid (laid rest b o m) ((b.drop m).drop wh) 0 ((n - m) % 64)) ((N : Int) + (n : Int)) dz false sum ∧ Sole g w w' := by
  have ht := h.told
  obtain ⟨q, p, rfl⟩ : ∃ q p, a = some ⟨q, p, none⟩ := by
    obtain ⟨a', c', e, hc, hx⟩ := hv
    obtain ⟨q, p, ea, _, _⟩ := hx (by omega)
    cases e
    exact ⟨q, p, ea⟩
  have hnc : n ≤ cap := by obtain ⟨a', c', e, hc, hx⟩ := hv; cases e; omega
  obtain ⟨p', hA⟩ : ∃ p', (if cap = m then some (⟨q, p, none⟩ : Addr) else some ⟨q, p + m, none⟩) = some ⟨q, p', none⟩ := by
    by_cases hc : cap = m
    · exact ⟨p, if_pos hc⟩
    · exact ⟨p + m, if_neg hc⟩
  obtain ⟨p2, hA2⟩ : ∃ p2, (if cap - m = wh then some (⟨q, p', none⟩ : Addr) else some ⟨q, p' + wh, none⟩) = some ⟨q, p2, none⟩ := by
    by_cases hc : cap - m = wh
    · exact ⟨p', if_pos hc⟩
    · exact ⟨p' + wh, if_neg hc⟩
  have HOO := hide ho
  have hsa := start_any g st rest sum N dz false w h
  rw [hST] at hsa
  have HSA := hide hsa
  clear ho hsa hST
  go_enter Tryz.func152, Tryz.ntmps152
  go_wp2_with fail
  refine (unhide HSA).mono ?_
  rintro e w1 ⟨rfl, h1, hs1⟩
  go_wp2_with fail
  have hhe := held_any g N w1 (by omega) h1.size
  rw [← unhide HOO] at hhe
  refine hhe.mono ?_
  clear hhe
  rintro e w' ⟨rfl, hw'⟩; rw [hw']; clear hw' w'
  go_wp2_with fail
  refine (add_any g 72 N n ((N : Int) + (n : Int)) _ h1.size (h1.free 72) rfl (by omega) (by omega)).mono ?_
  rintro e w' ⟨rfl, hw'⟩; rw [hw']; clear hw' w'
  obtain ⟨h2, hs2⟩ := h1.setSize ((N : Int) + (n : Int))
  have hs12 := hs1.trans hs2
  generalize w1.setCell ⟨g, 72, none⟩ (.int .i64 ((N : Int) + (n : Int))) = w2 at *
  clear h1 hs1 hs2
  obtain ⟨w3, hr3, h3, hs3⟩ := h2.copy 3 o (64 - o) n cap (some ⟨q, p, none⟩) b hn (hv.sole hg hs12) (by omega) m (by have : Nat.min n (64 - o) = 64 - o := Nat.min_eq_right (by omega); rw [this]; omega)
  have ho1 : (o : Int) ≤ 64 := by omega
  have ho2 : ¬ (64 = o) := by have := unhide HOO; omega
  have hs13 := hs12.trans hs3
  have HB3 := hide (hv.sole hg hs13)
  clear hs12 hs3 h2
  go_wp2_with fail
  clear hr3
  have hrl : (laid rest b o m).length = 64 := h3.2.2.1
  have hrbt : Sha.Bytes (laid rest b o m) := by
    have e : laid rest b o m = rest.take (N % 64) ++ b.take m := by
      have h64 : rest.length = 64 := by have := laid_length (rest := rest) (b := b) (o := o) (m := m); by_cases hc : rest.length = 64; exact hc; exact h.2.2.1
      unfold laid; rw [List.drop_of_length_le (by omega), List.append_nil, unhide HOO]
    rw [e]; exact hrb.append (hbb.take m)
  have hld0 := h3.ld250
  have hld1 : (ld250 (.pointer (some ⟨g, 0, none⟩))).run Tryz.prog w3.drew = .ok (.agg (E32 ST.list)) w3.drew := (h3.drewN 1).ld250
  have hrt := h3.rest 64 64 (Nat.le_refl _) (Nat.le_refl _)
  rw [List.take_of_length_le (by omega)] at hrt
  have HAB : Hid (∀ k, Calls Tryz.prog 201 #[.agg (E32 ST.list), .slice (some ⟨g, 8, none⟩) 64 64] (w3.drewN k) fun e w' => e = .returned (.agg (E32 (Sha.blocks ST (laid rest b o m) 1).list)) ∧ HasH w' g ST.list (laid rest b o m) ((N : Int) + (n : Int)) dz false sum ∧ Sole g w3 w') := fun k => by
    refine (addBlocks_any ST _ (laid rest b o m) 1 (w3.drewN k) hok hrt hrbt (by omega) (by omega)).mono fun e w' hh => ⟨hh.1, (h3.drewN k).below hh.2, ?_⟩
    exact (show Sole g w3 (w3.drewN k) from ⟨rfl, rfl, rfl, Nat.le_refl _, fun _ _ _ => rfl⟩).trans (Sole.of_below hh.2)
  have hX8 := list_eight (Sha.blocks ST (laid rest b o m) 1)
  generalize hB1 : Sha.blocks ST (laid rest b o m) 1 = B1 at *
  have HB1 := hide hB1
  clear hB1 hrt
  go_region_with (go_at_call 201
                  refine Calls.mono (by first | exact unhide HAB 0 | exact unhide HAB 1) ?_
                  rintro e w4 ⟨rfl, h4, hs4⟩
                  have hst4 := h4.st250 B1.list hX8)
  have h5 := h4.setSt B1.list hX8
  have hs15 := hs13.trans (hs4.trans (Sole.setRow g w4 (hcells B1.list (laid rest b o m) ((N : Int) + (n : Int)) dz false sum)))
  generalize w4.setRow g (hcells B1.list (laid rest b o m) ((N : Int) + (n : Int)) dz false sum) = w5 at *
  have hs35 : Sole g w w5 := hs15
  clear h4 hs4 hst4 hs15 hld0 hld1 h3 hs13 HB3 HAB
  have hbs := hv.sole hg hs35
  have hsf := hbs
  rw [← hn] at hsf
  have hsf := hsf.suffix m (by omega)
  rw [hA, hn] at hsf
  have hdl : (b.drop m).length = n - m := by rw [List.length_drop, hn]
  have hdb := hbb.drop m
  have hmc : m ≤ cap := by omega
  have hwn : wh ≤ n - m := by omega
  have hwc : wh ≤ cap - m := by omega
  have HWH := hide hwh
  have hfs := hsf.firsts wh (by omega)
  have hsf2 := hsf
  rw [← hdl] at hsf2
  have hsf2 := hsf2.suffix wh (by omega)
  rw [hA2, hdl] at hsf2
  have hok1 : B1.ok := by rw [← unhide HB1]; exact Sha.blocks_ok hok _ _
  have HFS := hide hfs
  have HSF2 := hide hsf2
  clear hfs hsf hsf2 hbs hwh
  go_wp2_with fail
  have hwb := wholeBlocks_any (some ⟨q, p', none⟩) (n - m) (cap - m) w5 (by omega)
  rw [← unhide HWH] at hwb
  refine hwb.mono ?_
  clear hwb
  rintro e w' ⟨rfl, hw'⟩; rw [hw']; clear hw' w'
  have hld0 := h5.ld250
  have hld1 : (ld250 (.pointer (some ⟨g, 0, none⟩))).run Tryz.prog w5.drew = .ok (.agg (E32 B1.list)) w5.drew := (h5.drewN 1).ld250
  have HAB : Hid (∀ k, Calls Tryz.prog 201 #[.agg (E32 B1.list), .slice (some ⟨q, p', none⟩) wh (cap - m)] (w5.drewN k) fun e w' => e = .returned (.agg (E32 (Sha.blocks B1 ((b.drop m).take wh) (wh / 64)).list)) ∧ HasH w' g B1.list (laid rest b o m) ((N : Int) + (n : Int)) dz false sum ∧ Sole g w5 w') := fun k => by
    have hbk : BytesAt (w5.drewN k) (.slice (some ⟨q, p', none⟩) wh (cap - m)) ((b.drop m).take wh) := unhide HFS
    have hlk : ((b.drop m).take wh).length = wh := by rw [List.length_take, hdl]; omega
    refine (addBlocks_any B1 _ ((b.drop m).take wh) (wh / 64) (w5.drewN k) hok1 hbk (hdb.take wh) (by rw [hlk]; have := unhide HWH; omega) (by rw [hlk]; omega)).mono fun e w' hh => ⟨hh.1, (h5.drewN k).below hh.2, ?_⟩
    exact (show Sole g w5 (w5.drewN k) from ⟨rfl, rfl, rfl, Nat.le_refl _, fun _ _ _ => rfl⟩).trans (Sole.of_below hh.2)
  have hX9 := list_eight (Sha.blocks B1 ((b.drop m).take wh) (wh / 64))
  generalize hB2 : Sha.blocks B1 ((b.drop m).take wh) (wh / 64) = B2 at *
  have HB2 := hide hB2
  clear hB2
  go_wp2
  go_region_with (go_at_call 201
                  refine Calls.mono (by first | exact unhide HAB 0 | exact unhide HAB 1) ?_
                  rintro e w6 ⟨rfl, h6, hs6⟩
                  have hst6 := h6.st250 B2.list hX9)
  have h7 := h6.setSt B2.list hX9
  have hs67 := hs6.trans (Sole.setRow g w6 (hcells B2.list (laid rest b o m) ((N : Int) + (n : Int)) dz false sum))
  generalize w6.setRow g (hcells B2.list (laid rest b o m) ((N : Int) + (n : Int)) dz false sum) = w7 at *
  clear h6 hs6 hst6 hld0 hld1 HAB
  have hs07 : Sole g w w7 := hs35.trans hs67
  have hrw : n - m - wh = (n - m) % 64 := by have := unhide HWH; omega
  obtain ⟨r, hr⟩ : ∃ r, r = (n - m) % 64 := ⟨_, rfl⟩
  have hr64 : r < 64 := by omega
  have hv7 : BytesAt w7 (.slice (some ⟨q, p2, none⟩) (n - m - wh) (cap - m - wh)) ((b.drop m).drop wh) := (unhide HSF2).sole (fun x hx h0 => by cases hx; exact hg ⟨q, p, none⟩ rfl (by simp at h0; omega)) hs67
  have hs77 : Sole g w7 (w7.drewN 1) := ⟨rfl, rfl, rfl, Nat.le_refl _, fun _ _ _ => rfl⟩
  obtain ⟨w8, hr8, h8, hs8⟩ := (h7.drewN 1).copy 3 0 64 (n - m - wh) (cap - m - wh) (some ⟨q, p2, none⟩) ((b.drop m).drop wh) (by rw [List.length_drop, hdl]) (show BytesAt (w7.drewN 1) _ _ from hv7) (by omega) r (by
    have : Nat.min (n - m - wh) (64 - 0) = n - m - wh := Nat.min_eq_left (by omega)
    rw [this]; omega)
  have H8 := hide h8
  have hs08 := (hs07.trans hs77).trans hs8
  have HR := hide hr
  have hr8' : (Builtin.copy_ #[39, 39] 3 #[.slice (some ⟨g, 8, none⟩) 64 64, .slice (some ⟨q, p2, none⟩) (n - m - wh) (cap - m - wh)]).run Tryz.prog w7.drew = .ok (.int .i64 (r : Int)) w8 := hr8
  clear h8 h7 hs67 hs8 hv7 hs35 hs07 hr hr8 hs77 hrw
  go_wp2
  go_region
  all_goals
    go_wp2
    go_ret
    exact ⟨rfl, by rw [unhide HB1, unhide HB2, ← unhide HR]; exact unhide H8, hs08⟩
/-- A Hasher to which so many bytes were written, and that is not told. -/
def Kept (w : World) (g : Nat) (all sum : List Nat) : Prop :=
  ∃ st rest, HasH w g st rest (all.length : Int) dz false sum ∧ (0 < all.length → st = (Sha.stOf all).list) ∧ rest.take (all.length % 64) = all.drop (Sha.full all)
theorem start_of {all st : List Nat} (h : 0 < all.length → st = (Sha.stOf all).list) : (if all.length = 0 then Sha.start.list else st) = (Sha.stOf all).list := by
  by_cases h0 : all.length = 0
  · obtain rfl : all = [] := List.eq_nil_of_length_eq_zero h0
    rfl
  · rw [if_neg h0]; exact h (by omega)
theorem write_any (g : Nat) (all sum : List Nat) (n cap : Nat) (a : Option Addr) (b : List Nat) (w : World) (h : Kept w g all sum) (hab : Sha.Bytes all) (hn : b.length = n) (hbb : Sha.Bytes b) (hv : BytesAt w (.slice a n cap) b) (hg : ∀ x, a = some x → 0 < b.length → x.block ≠ g) (hN : all.length + n ≤ 20000000) :
    Calls Tryz.prog 152 #[.pointer (some ⟨g, 0, none⟩), .slice a n cap] w fun e w' => e = .returned (.bool true) ∧ Kept w' g (all ++ b) sum ∧ Sole g w w' := by
  obtain ⟨st, rest, hh, hst, hr⟩ := h
  have h64 : rest.length = 64 := hh.2.2.1
  subst hn
  have hlen : (((all ++ b).length : Nat) : Int) = (all.length : Int) + (b.length : Int) := by rw [List.length_append]; omega
  by_cases hl : all.length % 64 + b.length < 64
  · refine (write_less g st rest sum _ all.length b.length cap a b w hh (start_of hst) rfl hv hg hN _ rfl hl).mono fun e w' ⟨he, hH, hs⟩ => ⟨he, ⟨_, _, by rw [hlen]; exact hH, fun _ => ?_, ?_⟩, hs⟩
    · exact congrArg Sha.St.list (Sha.inv_less hr hl (laid_less (by omega))).1.symm
    · exact (Sha.inv_less hr hl (laid_less (by omega))).2
  · have hm : all.length % 64 + (64 - all.length % 64) = 64 := by omega
    have hr1 : laid rest b (all.length % 64) (64 - all.length % 64) = rest.take (all.length % 64) ++ b.take (64 - all.length % 64) := by
      unfold laid; rw [List.drop_of_length_le (by omega), List.append_nil]
    have hr' : (laid (laid rest b (all.length % 64) (64 - all.length % 64)) ((b.drop (64 - all.length % 64)).drop ((b.length - (64 - all.length % 64)) - (b.length - (64 - all.length % 64)) % 64)) 0 ((b.length - (64 - all.length % 64)) % 64)).take ((b.length - (64 - all.length % 64)) % 64) = (b.drop (64 - all.length % 64)).drop ((b.length - (64 - all.length % 64)) - (b.length - (64 - all.length % 64)) % 64) := by
      have hl2 : ((b.drop (64 - all.length % 64)).drop ((b.length - (64 - all.length % 64)) - (b.length - (64 - all.length % 64)) % 64)).length = (b.length - (64 - all.length % 64)) % 64 := by
        rw [List.length_drop, List.length_drop]; omega
      generalize ((b.drop (64 - all.length % 64)).drop ((b.length - (64 - all.length % 64)) - (b.length - (64 - all.length % 64)) % 64)) = X at *
      unfold laid
      rw [List.take_zero, List.nil_append, ← hl2, List.take_length, List.take_left' rfl]
    have hinv := Sha.inv_more hr hm (by omega) hr1 rfl hr'
    refine (write_more g rest sum st (Sha.stOf all) all.length b.length cap a b w hh (start_of hst) (Sha.stOf_ok all) rfl hbb (by rw [hr]; exact hab.drop _) hv hg hN (all.length % 64) (64 - all.length % 64) _ rfl hm (by omega) rfl).mono fun e w' ⟨he, hH, hs⟩ => ⟨he, ⟨_, _, by rw [hlen]; exact hH, fun _ => ?_, ?_⟩, hs⟩
    · exact congrArg Sha.St.list hinv.1.symm
    · exact hinv.2
end Go.Proofs.YtebcmicmklpflaaGreatDoor.Dg
