import Derived.Test.YtlbfcneboaihnaaGreatDoorK2
import Derived.Deep.RegionHeld3
import Derived.Deep.AppendSrc
import Derived.Deep.Upon
import Derived.Laws.LoneSync
import Derived.Laws.CopyRow
/- The code's sumBehind and Sum: the digest of any bytes. -/
namespace Go.Proofs.YtlbfcneboaihnaaGreatDoor.Dg
open Go.RowKit Go.Great
attribute [local go_sem] f_8 f_1024

theorem lastStep_n (s : Sha.St) (a : Option Addr) (n cap : Nat) (r : List Nat) (size : Int) (N : Nat) (hN : size = (N : Int)) (w : World) (hs : s.ok) (hn : r.length = n) (hv : BytesAt w (.slice a n cap) r) (hm : Sha.Bytes r) (hr : n < 64) (hsize : N ≤ 1099511627776) :
    Calls Tryz.prog 39 #[.agg (E32 s.list), .slice a n cap, .int .i64 size] w fun e w' => e = .returned (.agg (E8 (Sha.out (Sha.blocks s (Sha.tail r (8 * N)) (Sha.endOf n / 64))))) ∧ Below w.heap.size w w' := by
  subst hn hN; exact lastStep_any s a cap r N w hs hv hm hr hsize
theorem BytesAt.firsts {w : World} {a : Option Addr} {n cap : Nat} {b : List Nat} (h : BytesAt w (.slice a n cap) b) (q : Nat) (hq : q ≤ b.length) : BytesAt w (.slice a q cap) (b.take q) := by
  obtain ⟨a', c, e, hc, hb⟩ := h
  cases e
  have hl : (b.take q).length = q := by rw [List.length_take]; omega
  refine ⟨a, cap, by rw [hl], by omega, fun h0 => ?_⟩
  obtain ⟨g, o, ea, hg, hcell⟩ := hb (by omega)
  exact ⟨g, o, ea, hg, fun i hi => by rw [hcell i (by omega), Sha.nth_take (by omega)]⟩
theorem BytesAt.suffix {w : World} {g o n cap : Nat} {b : List Nat} (h : BytesAt w (.slice (some ⟨g, o, none⟩) n cap) b) (q : Nat) (hq : q ≤ b.length) :
    BytesAt w (.slice (if cap = q then some ⟨g, o, none⟩ else some ⟨g, o + q, none⟩) (b.length - q) (cap - q)) (b.drop q) := by
  obtain ⟨a', c, e, hc, hb⟩ := h
  cases e
  have hl : (b.drop q).length = b.length - q := by rw [List.length_drop]
  refine ⟨_, cap - q, by rw [hl], by omega, fun h0 => ?_⟩
  obtain ⟨g', o', ea, hg, hcell⟩ := hb (by omega)
  cases ea
  exact ⟨g, o + q, if_neg (by omega), hg, fun i hi => by rw [Nat.add_assoc, hcell (q + i) (by omega), Sha.nth_drop]⟩

theorem wrap_i64 (n : Nat) (h : n ≤ 4611686018427387904) : IntKind.i64.wrap (n : Int) = (n : Int) := by
  exact IntWalk.i64_in _ (by omega)
end Go.Proofs.YtlbfcneboaihnaaGreatDoor.Dg
/- The code's padKey, keyState and Mac. -/
namespace Go.Proofs.YtlbfcneboaihnaaGreatDoor.Dg
open Go.RowKit Go.Great
attribute [local go_sem] f_8 f_1024

def x8 (a b : Nat) : Nat := (bits .xor .u8 (a : Int) (b : Int)).toNat
theorem x8_eq {a b : Nat} (ha : a < 256) (hb : b < 256) : x8 a b = a ^^^ b := by unfold x8; rw [u8_xor_nat a b ha hb]; rfl
theorem bits_pos8 (op : BinOp) (a b : Int) : 0 ≤ bits op .u8 a b := by
  have h := (bits_within op .u8 a b).1
  have e : IntKind.u8.min = 0 := by decide
  rw [e] at h; exact h
@[go_sem] theorem f_xor8 (a b : Nat) : bits .xor .u8 (a : Int) (b : Int) = ((x8 a b : Nat) : Int) := by unfold x8; have := bits_pos8 .xor (a : Int) (b : Int); omega

theorem fill_zs (n : Nat) (l : List Nat) : l ++ (zs n).drop l.length = Sha.fill n l := by
  unfold zs Sha.fill; rw [List.drop_replicate]
theorem Z69_zs : Z69 = E8 (zs 64) := rfl
theorem bytesAt_n {w : World} {g o n cap : Nat} {b : List Nat} (hn : b.length = n) (h : BytesAt w (.slice (some ⟨g, o, none⟩) n cap) b) : BytesAt w (.slice (some ⟨g, o, none⟩) b.length cap) b := by subst hn; exact h
end Go.Proofs.YtlbfcneboaihnaaGreatDoor.Dg
/- The code's Hex. -/
namespace Go.Proofs.YtlbfcneboaihnaaGreatDoor.Dg
open Go.RowKit Go.Great
attribute [local go_sem] f_8 f_1024

theorem info5 : (Tryz.prog.info? 5).map (fun i => (i.zero, i.size, i.bytes)) = some (some (.int .u8 0), 1, 1) := by kernel_rfl
theorem info5_at : ∃ i, Tryz.prog.info? 5 = some i ∧ i.zero = some (.int .u8 0) ∧ i.size = 1 ∧ i.bytes = 1 := by
  have h := info5
  cases hq : Tryz.prog.info? 5 with
  | none => simp [hq] at h
  | some i => simp [hq] at h; exact ⟨i, rfl, h.1, h.2.1, h.2.2⟩
theorem made_zs (n : Nat) : madeCells (Value.int .u8 0).cells n = E8 (zs n) := by
  apply Array.ext
  · simp [madeCells, zs]
  · intro i h1 h2
    rw [E8_getElem]
    unfold zs
    rw [Sha.nth_replicate]
    simp [madeCells, Value.cells, Nat.mod_one]
@[go_sem] theorem make22 (w : World) (l c : Int) (h0 : 0 ≤ l) (h1 : l ≤ c) (h2 : c ≤ 65536) :
    (Instr.makeSlice 22 (.int .i64 l) (.int .i64 c)).run Tryz.prog w = .ok (.slice (some ⟨w.heap.size, 0, none⟩) l.toNat c.toNat) (w.alloc (.cells (E8 (zs c.toNat)) 5)) := by
  obtain ⟨i, hi, hz, hs, hby⟩ := info5_at
  rw [run_make (P := Tryz.prog) w 22 5 i _ Tryz.underlying22 hi hz .i64 .i64 l c h0 h1 (by rw [hby]; omega) (by omega), hs, Nat.mul_one, made_zs]

@[go_sem] theorem idx25 (w : World) (l : List Nat) (k : Nat) (hl : l.length = 32) (hk : k < 32) :
    (Instr.index 25 (.agg (E8 l)) (.int .i64 (k : Int))).run Tryz.prog w = .ok (.int .u8 ((Sha.nth l k : Nat) : Int)) w := by
  have h1 : (0 : Int) ≤ (k : Int) ∧ (k : Int) < 32 := by omega
  have h2 : k < l.length := by omega
  simp [Instr.index, asIntOf, run_underlying Tryz.underlying25, h1, part, go_sem, h2, hk]
def hexd (n : Nat) : Nat := if n < 10 then 48 + n else 87 + n
theorem hexd_lt (n : Nat) (h : n < 16) : hexd n < 256 := by unfold hexd; split <;> omega
def hi4 (x : Nat) : Nat := x / 16
def lo4 (x : Nat) : Nat := x % 16
@[go_sem] theorem hi4_lt (x : Nat) (h : x < 256) : hi4 x < 16 := by unfold hi4; omega
@[go_sem] theorem lo4_lt (x : Nat) : lo4 x < 16 := by unfold lo4; omega
theorem f_hi4 (x : Nat) : (x : Int) / 16 = ((hi4 x : Nat) : Int) := by unfold hi4; omega
theorem f_lo4 (x : Nat) : (x : Int) % 16 = ((lo4 x : Nat) : Int) := by unfold lo4; omega
theorem hex_byte (k : Nat) (hk : k < 16) : (⟨#[48, 49, 50, 51, 52, 53, 54, 55, 56, 57, 97, 98, 99, 100, 101, 102]⟩ : ByteArray)[k]?.map UInt8.toNat = some (hexd k) := by
  have : ∀ k : Fin 16, (⟨#[48, 49, 50, 51, 52, 53, 54, 55, 56, 57, 97, 98, 99, 100, 101, 102]⟩ : ByteArray)[k.val]?.map UInt8.toNat = some (hexd k.val) := by decide
  exact this ⟨k, hk⟩
def hexIx (v : Value) : Sem Value := Instr.index 9 (.string ⟨#[48, 49, 50, 51, 52, 53, 54, 55, 56, 57, 97, 98, 99, 100, 101, 102]⟩) v
@[go_sem] theorem index_hexIx (v : Value) : Instr.index 9 (.string ⟨#[48, 49, 50, 51, 52, 53, 54, 55, 56, 57, 97, 98, 99, 100, 101, 102]⟩) v = hexIx v := rfl
@[go_sem] theorem run_hexIx (w : World) (k : Nat) (hk : k < 16) : (hexIx (.int .u8 (k : Int))).run Tryz.prog w = .ok (.int .u8 ((hexd k : Nat) : Int)) w := by
  have h := hex_byte k hk
  unfold hexIx
  cases e : (⟨#[48, 49, 50, 51, 52, 53, 54, 55, 56, 57, 97, 98, 99, 100, 101, 102]⟩ : ByteArray)[k]? with
  | none => simp [e] at h
  | some b =>
    simp [e] at h
    simp only [Instr.index, asIntOf, Sem.run_bind, Sem.run_pure, Result.andThen_ok, run_underlying Tryz.underlying9, Int.natCast_nonneg, if_true, Int.toNat_natCast, e, h]
@[go_sem] theorem run_hexIx_mod (w : World) (x : Nat) : (hexIx (.int .u8 ((x : Int) % 16))).run Tryz.prog w = .ok (.int .u8 ((hexd (lo4 x) : Nat) : Int)) w := by
  rw [f_lo4]; exact run_hexIx w _ (lo4_lt x)

theorem rowOf_set (w : World) (b i : Nat) (v : Value) : rowOf (w.setCell ⟨b, i, none⟩ v) b = (rowOf w b).setIfInBounds i v := by
  unfold rowOf World.setCell
  simp only [Array.getElem?_modify]
  cases e : w.heap[b]? with
  | none => simp
  | some o => cases o <;> simp
theorem fits_set (w : World) (b i n : Nat) (v : Value) : fits (w.setCell ⟨b, i, none⟩ v) b n = fits w b n := by
  unfold fits World.setCell
  simp only [Array.getElem?_modify]
  cases e : w.heap[b]? with
  | none => simp
  | some o => cases o <;> simp
def app22 (ty : TypeId) (args : Array Value) : Sem Value := Builtin.append_ #[22, 22] ty args
@[go_sem ↓] theorem append_app22 (ty : TypeId) (args : Array Value) : Builtin.append_ #[22, 22] ty args = app22 ty args := rfl
/-- Two bytes appended where there is room. -/
theorem append2 (w : World) (ty : TypeId) (g n cap : Nat) (L : List Nat) (a b : Nat) (hf : fits w g L.length = true) (hr : rowOf w g = E8 L) (hg : g < w.heap.size) (hn : n + 2 ≤ cap) (hL : n + 2 ≤ L.length) :
    (app22 ty #[.slice (some ⟨g, 0, none⟩) n cap, .slice (some ⟨w.heap.size, 0, none⟩) 2 2]).run Tryz.prog (w.alloc (.cells #[.int .u8 (a : Int), .int .u8 (b : Int)] 5)).drew
      = .ok (.slice (some ⟨g, 0, none⟩) (n + 2) cap) (((w.setCell ⟨g, n, none⟩ (.int .u8 (a : Int))).setCell ⟨g, n + 1, none⟩ (.int .u8 (b : Int))).alloc (.cells #[.int .u8 (a : Int), .int .u8 (b : Int)] 5)).drew := by
  obtain ⟨i, hi, hz, hs, hby⟩ := info5_at
  have hcell : ∀ j, j < L.length → (w.cell? ⟨g, j, none⟩) = some (.int .u8 ((Sha.nth L j : Nat) : Int)) := fun j hj => cell_row _ _ _ _ (by rw [hr]; exact E8_get _ _ hj)
  have hfz : ∀ j, w.frozen? ⟨g, j, none⟩ = false := fun j => frozen_fits hf j
  have := run_append_room_cells (P := Tryz.prog) (w.alloc (.cells #[.int .u8 (a : Int), .int .u8 (b : Int)] 5)).drew 22 ty 5 i Tryz.underlying22 hi g 0 n cap ⟨w.heap.size, 0, none⟩ 2 2 [.int .u8 (a : Int), .int .u8 (b : Int)] (by rw [hs]; rfl)
    (fun j u hj => by
      rw [Addr.add_mid, Nat.zero_add]
      match j, hj with
      | 0, hj => simp at hj; subst hj; simp [go_sem]
      | 1, hj => simp at hj; subst hj; simp [go_sem]
      | j + 2, hj => simp at hj)
    (fun u hu => by simp at hu; rcases hu with rfl | rfl <;> rfl) hn
    (fun j hj => by
      have hj2 : j < 2 := hj
      rw [hs, Nat.zero_add, Nat.mul_one]
      have : (w.alloc (.cells #[.int .u8 (a : Int), .int .u8 (b : Int)] 5)).drew.cell? ⟨g, n + j, none⟩ = w.cell? ⟨g, n + j, none⟩ := by simp [go_sem, hg]
      rw [this, hcell (n + j) (by omega)]; rfl)
    (fun j hj => by
      rw [hs, Nat.zero_add, Nat.mul_one]
      have : (w.alloc (.cells #[.int .u8 (a : Int), .int .u8 (b : Int)] 5)).drew.frozen? ⟨g, n + j, none⟩ = w.frozen? ⟨g, n + j, none⟩ := by simp [go_sem, hg]
      rw [this, hfz])
  unfold app22
  rw [this, hs, Nat.zero_add, Nat.mul_one]
  simp only [World.setCells, World.setCell_drew]
  rw [World.setCell_alloc_past _ _ _ _ hg, World.setCell_alloc_past _ _ _ _ (by simpa [World.setCell] using hg)]

/-- Bytes as a text. -/
def strOf (l : List Nat) : ByteArray := ⟨(l.map UInt8.ofNat).toArray⟩
theorem strOf_fold (l : List Nat) : ∀ r : ByteArray, (l.map Int.ofNat).foldl (fun r n => r.push (UInt8.ofNat n.toNat)) r = ⟨r.data ++ (l.map UInt8.ofNat).toArray⟩ := by
  induction l with
  | nil => intro r; simp
  | cons x l ih =>
    intro r
    rw [List.map_cons, List.foldl_cons, ih]
    simp [ByteArray.push]
theorem conv_row (w : World) (g n cap : Nat) (L : List Nat) (hr : rowOf w g = E8 L) (hn : L.length = n) (h0 : 0 < n) :
    (convert 22 9 (.slice (some ⟨g, 0, none⟩) n cap)).run Tryz.prog w = .ok (.string (strOf L)) w := by
  rw [run_convert_bytes_string w 22 9 5 _ _ _ Tryz.underlying22 Tryz.underlying5 Tryz.underlying9]
  have hl : (loadCells ⟨g, 0, none⟩ n).run Tryz.prog w = .ok ((L.map Int.ofNat).map (Value.int .u8)).toArray w := by
    have := run_loadCells_rowOf (P := Tryz.prog) w g n (by rw [hr]; simp [hn]) h0
    rw [hr] at this
    rw [List.map_map]
    exact this
  rw [run_bytesToString w _ n cap _ hl, strOf_fold]
  simp [strOf, ByteArray.empty, ByteArray.emptyWithCapacity]
  rfl
/-- The text of a digest's first k bytes. -/
def hexTo (l : List Nat) : Nat → List Nat
  | 0 => []
  | k + 1 => hexTo l k ++ [hexd (hi4 (Sha.nth l k))] ++ [hexd (lo4 (Sha.nth l k))]
theorem hexTo_length (l : List Nat) (k : Nat) : (hexTo l k).length = 2 * k := by
  induction k with
  | zero => rfl
  | succ k ih => simp [hexTo, ih]; omega
end Go.Proofs.YtlbfcneboaihnaaGreatDoor.Dg
/- Fold, in the code and in the document's own answer: the same twenty bytes. -/
namespace Go.Proofs.YtlbfcneboaihnaaGreatDoor.Dg
open Go.RowKit Go.Great
attribute [local go_sem] f_8 f_1024 f_hi4 f_lo4

@[go_sem] theorem lt_two (a : Nat) : a < a + 1 + 1 := by omega
@[go_sem] theorem lt_three (a : Nat) : a < a + 1 + 1 + 1 := by omega
@[go_sem] theorem lt_four (a : Nat) : a < a + 1 + 1 + 1 + 1 := by omega
/-- The twenty bytes behind the first i of the digest. -/
def foldTo (l : List Nat) : Nat → List Nat
  | 0 => zs 20
  | i + 1 => (foldTo l i).set (i % 20) (x8 (Sha.nth (foldTo l i) (i % 20)) (Sha.nth l i))
theorem foldTo_length (l : List Nat) (i : Nat) : (foldTo l i).length = 20 := by
  induction i with
  | zero => exact zs_length 20
  | succ i ih => simp [foldTo, ih]
end Go.Proofs.YtlbfcneboaihnaaGreatDoor.Dg
/- The document's own block. -/
namespace Go.Proofs.YtlbfcneboaihnaaGreatDoor.Dg
open Go.RowKit Go.Great
attribute [local go_sem] f_8 f_1024 f_hi4 f_lo4

theorem cell_set_other (w : World) (b i j : Nat) (v : Value) (h : i ≠ j) : (w.setCell ⟨b, i, none⟩ v).cell? ⟨b, j, none⟩ = w.cell? ⟨b, j, none⟩ := by
  refine World.cell?_setCell_other _ _ _ _ (fun e => ?_)
  simp_all
theorem wrap_add (a b : Nat) : IntKind.u32.wrap ((a : Int) + (b : Int)) = ((Sha.add a b : Nat) : Int) := by rw [IntKind.wrap_u32]; exact f_add a b
theorem row_cell32 (w : World) (b : Nat) (l : List Nat) (h : rowOf w b = E32 l) (i : Nat) (hi : i < l.length) : w.cell? ⟨b, i, none⟩ = some (.int .u32 ((Sha.nth l i : Nat) : Int)) :=
  cell_row _ _ _ _ (by rw [h]; exact E32_get _ _ hi)
theorem block_plus (s : Sha.St) (p : List Nat) : Sha.block s p = Sha.plus s (Sha.rounds s (Sha.sched p) 64) := by unfold Sha.block; rfl
/-- The cells that one of the document's rounds reads. -/
structure R3 (wr : World) (kb z k : Nat) (t : Sha.St) (kk ss : Nat) : Prop where
  ck : wr.cell? ⟨kb, k, none⟩ = some (.int .u32 (kk : Int))
  cs : wr.cell? ⟨z + 1 + 1, k, none⟩ = some (.int .u32 (ss : Int))
  c0 : wr.cell? ⟨z + 1 + 1 + 1, 0, none⟩ = some (.int .u32 (t.a : Int))
  c1 : wr.cell? ⟨z + 1 + 1 + 1, 1, none⟩ = some (.int .u32 (t.b : Int))
  c2 : wr.cell? ⟨z + 1 + 1 + 1, 2, none⟩ = some (.int .u32 (t.c : Int))
  c3 : wr.cell? ⟨z + 1 + 1 + 1, 3, none⟩ = some (.int .u32 (t.d : Int))
  c4 : wr.cell? ⟨z + 1 + 1 + 1, 4, none⟩ = some (.int .u32 (t.e : Int))
  c5 : wr.cell? ⟨z + 1 + 1 + 1, 5, none⟩ = some (.int .u32 (t.f : Int))
  c6 : wr.cell? ⟨z + 1 + 1 + 1, 6, none⟩ = some (.int .u32 (t.g : Int))
  c7 : wr.cell? ⟨z + 1 + 1 + 1, 7, none⟩ = some (.int .u32 (t.h : Int))
theorem R3.drews {wr : World} {kb z k : Nat} {t : Sha.St} {kk ss : Nat} (h : R3 wr kb z k t kk ss) (n : Nat) : R3 (wr.drewN n) kb z k t kk ss :=
  ⟨h.ck, h.cs, h.c0, h.c1, h.c2, h.c3, h.c4, h.c5, h.c6, h.c7⟩
theorem R3.mk' {wr : World} {kb z k : Nat} {t : Sha.St} {kk ss : Nat} (ck : wr.cell? ⟨kb, k, none⟩ = some (.int .u32 (kk : Int))) (cs : wr.cell? ⟨z + 1 + 1, k, none⟩ = some (.int .u32 (ss : Int))) (h : rowOf wr (z + 1 + 1 + 1) = E32 t.list) : R3 wr kb z k t kk ss := by
  have e : ∀ i, i < 8 → wr.cell? ⟨z + 1 + 1 + 1, i, none⟩ = some (.int .u32 ((Sha.nth t.list i : Nat) : Int)) := fun i hi => row_cell32 _ _ _ h i (by simpa using hi)
  exact ⟨ck, cs, e 0 (by omega), e 1 (by omega), e 2 (by omega), e 3 (by omega), e 4 (by omega), e 5 (by omega), e 6 (by omega), e 7 (by omega)⟩
theorem fits_setRow_at (w : World) (n k : Nat) (c : Array Value) (h : fits w n k = true) (hc : c.size = k) : fits (w.setRow n c) n k = true := by
  obtain ⟨cs, t, e, -, -⟩ := fits_some h
  unfold fits; rw [setRow_heap w n cs c t _ e]; simp [hc]
set_option linter.unusedSimpArgs false in
set_option maxRecDepth 20000 in
set_option maxHeartbeats 2000000 in
theorem block_any (s : Sha.St) (b o cap kb : Nat) (p : List Nat) (w : World) (hs : s.ok) (hb : Sha.Bytes p) (_hcap : 64 ≤ cap) (hB : b < w.heap.size) (hK : kb < w.heap.size) (hk : rowOf w kb = E32 Sha.K)
    (hc : ∀ i, i < 64 → w.cell? ⟨b, o + i, none⟩ = some (.int .u8 ((Sha.nth p i : Nat) : Int))) :
    Calls Tryz.prog 44 #[.agg (E32 s.list), .slice (some ⟨b, o, none⟩) 64 cap, .pointer (some ⟨kb, 0, none⟩)] w fun e w' => e = .returned (.agg (E32 (Sha.block s p).list)) ∧ Below w.heap.size w w' := by
  obtain ⟨F, hF⟩ : ∃ F : Nat → List Nat, F = fun k => pad64 (Sha.first p k) := ⟨_, rfl⟩
  have h0 : Z99 = E32 (F 0) := by rw [hF]; rfl
  have hlen : ∀ k, k ≤ 16 → (F k).length = 64 := fun k hk => by rw [hF]; exact pad64_length _ (by rw [Sha.first_length]; omega)
  have HS : Hid (∀ k, k < 16 → (F k).set k (Sha.wordAt p k) = F (k + 1)) := fun k hk => by rw [hF]; exact first_pad p k hk
  have HE : Hid (F 16 = pad64 (Sha.first p 16)) := by rw [hF]; exact rfl
  have HL := hide hlen
  have H0 := hide h0
  have HC := hide hc
  generalize hR : Sha.block s p = R at *
  have HR := hide hR
  clear hF h0 hlen hc hR
  have hs8 := list_eight s
  go_enter Tryz.func44, Tryz.ntmps44
  go_wp2
  go_loopw [8] (fun c wr => ∃ k n : Nat, k ≤ 16 ∧ c = .int .i64 (k : Int) ∧ wr = (((w.alloc (.cells (E32 s.list) 68)).alloc (.cells #[.int .u32 0, .int .u32 0, .int .u32 0, .int .u32 0, .int .u32 0, .int .u32 0, .int .u32 0, .int .u32 0] 68)).alloc (.cells (E32 (F k)) 99)).drewN n) (fun c _ => 16 - (intOf c).toNat)
  case atStart => exact ⟨0, 0, by omega, rfl, by rw [← unhide H0]; rfl⟩
  case round =>
    obtain ⟨k, n, hk', rfl, rfl⟩ := hrel
    have hpl := unhide HL k hk'
    by_cases hlt : k < 16
    · have c0 := unhide HC (4 * k) (by omega)
      have c1 := unhide HC (4 * k + 1) (by omega)
      have c2 := unhide HC (4 * k + 2) (by omega)
      have c3 := unhide HC (4 * k + 3) (by omega)
      have l0 := hb.at (4 * k)
      have l1 := hb.at (4 * k + 1)
      have l2 := hb.at (4 * k + 2)
      have l3 := hb.at (4 * k + 3)
      have hk64 : k < 64 := by omega
      have hB1 : b < w.heap.size + 1 := by omega
      have hB2 : b < w.heap.size + 1 + 1 := by omega
      go_wp2
      go_region
      go_wp2
      go_roundw
      case rel => exact ⟨k + 1, n + 1, by omega, by go_num, by rw [or_word _ _ _ _ l0 l1 l2 l3, E32_set, ← unhide HS k hlt]; rfl⟩
      case measure => simp [intOf]; omega
    · have hk16 : k = 16 := by omega
      subst hk16
      obtain ⟨G, hG⟩ : ∃ G : Nat → List Nat, G = fun i => pad64 (Sha.more (Sha.first p 16) (i - 16)) := ⟨_, rfl⟩
      have hG16 : F 16 = G 16 := by rw [unhide HE, hG]; rfl
      have hglen : ∀ i, i ≤ 64 → (G i).length = 64 := fun i hi => by rw [hG]; exact pad64_length _ (by rw [Sha.more_length, Sha.first_length]; omega)
      have hgw : ∀ i j, 16 ≤ i → j < i → Sha.nth (G i) j < 4294967296 := fun i j h1 h2 => by
        rw [hG]; simp only; rw [pad64_get _ _ (by rw [Sha.more_length, Sha.first_length]; omega)]; exact (Sha.more_words (Sha.first_words hb 16) (i - 16)).at j
      have HGS : Hid (∀ i, 16 ≤ i → i < 64 → (G i).set i (Sha.next (G i) i) = G (i + 1)) := fun i h1 h2 => by
        rw [hG]; simp only
        have := more_pad (Sha.first p 16) (Sha.first_length p 16) (i - 16) (by omega)
        rw [show 16 + (i - 16) = i by omega, show i - 16 + 1 = i + 1 - 16 by omega] at this
        have e : ∀ j, j < i → Sha.nth (pad64 (Sha.more (Sha.first p 16) (i - 16))) j = Sha.nth (Sha.more (Sha.first p 16) (i - 16)) j := fun j hj => pad64_get _ _ (by rw [Sha.more_length, Sha.first_length]; omega)
        rw [← this]; unfold Sha.next
        rw [e _ (by omega), e _ (by omega), e _ (by omega), e _ (by omega)]
      have HGE : Hid (G 64 = Sha.sched p) := by rw [hG]; exact pad64_full _ (Sha.sched_length p)
      have HGL := hide hglen
      have HGW := hide hgw
      rw [hG16, show ((16 : Nat) : Int) = 16 from rfl]
      clear hG hG16 hpl hlt hglen hgw HS HE HL H0 HC
      go_wp2
      go_loopw [9] (fun c wr => ∃ i n : Nat, 16 ≤ i ∧ i ≤ 64 ∧ c = .int .i64 (i : Int) ∧ wr = (((w.alloc (.cells (E32 s.list) 68)).alloc (.cells #[.int .u32 0, .int .u32 0, .int .u32 0, .int .u32 0, .int .u32 0, .int .u32 0, .int .u32 0, .int .u32 0] 68)).alloc (.cells (E32 (G i)) 99)).drewN n) (fun c _ => 64 - (intOf c).toNat)
      case atStart => exact ⟨16, n, by omega, by omega, rfl, rfl⟩
      case round =>
        obtain ⟨i, m, hi1, hi2, rfl, rfl⟩ := hrel
        have hpl := unhide HGL i hi2
        by_cases hlt : i < 64
        · have l15 := unhide HGW i (i - 15) hi1 (by omega)
          have l2 := unhide HGW i (i - 2) hi1 (by omega)
          have e15 : IntKind.i64.wrap ((i : Int) - 15) = ((i - 15 : Nat) : Int) := wrap_sub i 15 (by omega) (by omega)
          have e2 : IntKind.i64.wrap ((i : Int) - 2) = ((i - 2 : Nat) : Int) := wrap_sub i 2 (by omega) (by omega)
          have e16 : IntKind.i64.wrap ((i : Int) - 16) = ((i - 16 : Nat) : Int) := wrap_sub i 16 (by omega) (by omega)
          have e7 : IntKind.i64.wrap ((i : Int) - 7) = ((i - 7 : Nat) : Int) := wrap_sub i 7 (by omega) (by omega)
          have b15 : i - 15 < 64 := by omega
          have b2 : i - 2 < 64 := by omega
          have b16 : i - 16 < 64 := by omega
          have b7 : i - 7 < 64 := by omega
          have n16 : i ≠ i - 16 := by omega
          have n7 : i ≠ i - 7 := by omega
          go_wp2
          obtain ⟨W, hWe⟩ : ∃ W, (((w.alloc (.cells (E32 s.list) 68)).alloc (.cells #[.int .u32 0, .int .u32 0, .int .u32 0, .int .u32 0, .int .u32 0, .int .u32 0, .int .u32 0, .int .u32 0] 68)).alloc (.cells (E32 (G i)) 99)).drewN m = W := ⟨_, rfl⟩
          have hS16 : W.cell? ⟨w.heap.size + 1 + 1, i - 16, none⟩ = some (.int .u32 ((Sha.nth (G i) (i - 16) : Nat) : Int)) := by rw [← hWe]; simp [go_sem, hpl, b16]
          have hS7 : W.cell? ⟨w.heap.size + 1 + 1, i - 7, none⟩ = some (.int .u32 ((Sha.nth (G i) (i - 7) : Nat) : Int)) := by rw [← hWe]; simp [go_sem, hpl, b7]
          have hSi : W.cell? ⟨w.heap.size + 1 + 1, i, none⟩ = some (.int .u32 ((Sha.nth (G i) i : Nat) : Int)) := by rw [← hWe]; simp [go_sem, hpl, hlt]
          have hfzi : W.frozen? ⟨w.heap.size + 1 + 1, i, none⟩ = false := by rw [← hWe]; simp [go_sem]
          have hst : ∀ V : Nat, (W.setCell ⟨w.heap.size + 1 + 1, i, none⟩ (.int .u32 (V : Int))).drew = (((w.alloc (.cells (E32 s.list) 68)).alloc (.cells #[.int .u32 0, .int .u32 0, .int .u32 0, .int .u32 0, .int .u32 0, .int .u32 0, .int .u32 0, .int .u32 0] 68)).alloc (.cells (E32 ((G i).set i V)) 99)).drewN (m + 1) := fun V => by
            rw [← hWe, drewN_setCell, World.setCell_alloc_at _ _ _ _ _ (by simp), E32_set]; rfl
          have HST := hide hst
          have hnx := unhide HGS i hi1 hlt
          unfold Sha.next at hnx
          clear hst
          have HWe := hide hWe
          rw [hWe]
          generalize hx15 : Sha.nth (G i) (i - 15) = x at *
          generalize hy2 : Sha.nth (G i) (i - 2) = y at *
          generalize ha16 : Sha.nth (G i) (i - 16) = A16 at *
          generalize ha7 : Sha.nth (G i) (i - 7) = A7 at *
          have HX := hide hx15
          have HY := hide hy2
          have HA16 := hide ha16
          have HA7 := hide ha7
          have HNX := hide hnx
          clear hnx
          clear hWe hx15 hy2 ha16 ha7 n16 n7
          refine wp_region_noPanic ?_
          refine wp_region_held_drew (S := fun w' => w'.cell? ⟨w.heap.size + 1 + 1, i - 16, none⟩ = some (.int .u32 ((A16 : Nat) : Int)) ∧ w'.cell? ⟨w.heap.size + 1 + 1, i - 7, none⟩ = some (.int .u32 ((A7 : Nat) : Int))) (by kernel_rfl) ⟨hS16, hS7⟩ (fun hHeld => ?_)
          refine wpAnyH_take (i := 0) (v := .int .i64 (i : Int)) rfl (by kernel_rfl) (by kernel_rfl) (by kernel_rfl) (fun _ _ _ h => h) (Or.inl ⟨by rfl, ?_⟩) hHeld ?_
          · rintro w' ⟨q1, q2⟩; go_simp; all_goals (first | (intro hx; omega) | exact wrap_add _ _)
          try simp only [Act.put, List.getElem_toArray, List.getElem_cons_zero, List.getElem_cons_succ, List.setIfInBounds_toArray, List.set_cons_zero, List.set_cons_succ]
          refine wpAnyH_take (i := 1) (v := .int .i64 (i : Int)) rfl (by kernel_rfl) (by kernel_rfl) (by kernel_rfl) (fun _ _ _ h => h) (Or.inl ⟨by rfl, ?_⟩) hHeld ?_
          · rintro w' ⟨q1, q2⟩; go_simp; all_goals (first | (intro hx; omega) | exact wrap_add _ _)
          try simp only [Act.put, List.getElem_toArray, List.getElem_cons_zero, List.getElem_cons_succ, List.setIfInBounds_toArray, List.set_cons_zero, List.set_cons_succ]
          refine wpAnyH_take (i := 14) (v := .int .i64 (i : Int)) rfl (by kernel_rfl) (by kernel_rfl) (by kernel_rfl) (fun _ _ _ h => h) (Or.inl ⟨by rfl, ?_⟩) hHeld ?_
          · rintro w' ⟨q1, q2⟩; go_simp; all_goals (first | (intro hx; omega) | exact wrap_add _ _)
          try simp only [Act.put, List.getElem_toArray, List.getElem_cons_zero, List.getElem_cons_succ, List.setIfInBounds_toArray, List.set_cons_zero, List.set_cons_succ]
          refine wpAnyH_take (i := 2) (v := .int .i64 ((i - 16 : Nat) : Int)) rfl (by kernel_rfl) (by kernel_rfl) (by kernel_rfl) (fun _ _ _ h => h) (Or.inl ⟨by rfl, ?_⟩) hHeld ?_
          · rintro w' ⟨q1, q2⟩; go_simp; all_goals (first | (intro hx; omega) | exact wrap_add _ _)
          try simp only [Act.put, List.getElem_toArray, List.getElem_cons_zero, List.getElem_cons_succ, List.setIfInBounds_toArray, List.set_cons_zero, List.set_cons_succ]
          refine wpAnyH_take (i := 15) (v := .int .i64 ((i - 7 : Nat) : Int)) rfl (by kernel_rfl) (by kernel_rfl) (by kernel_rfl) (fun _ _ _ h => h) (Or.inl ⟨by rfl, ?_⟩) hHeld ?_
          · rintro w' ⟨q1, q2⟩; go_simp; all_goals (first | (intro hx; omega) | exact wrap_add _ _)
          try simp only [Act.put, List.getElem_toArray, List.getElem_cons_zero, List.getElem_cons_succ, List.setIfInBounds_toArray, List.set_cons_zero, List.set_cons_succ]
          refine wpAnyH_take (i := 3) (v := .pointer (some ⟨w.heap.size + 1 + 1, i - 16, none⟩)) rfl (by kernel_rfl) (by kernel_rfl) (by kernel_rfl) (fun _ _ _ h => h) (Or.inl ⟨by rfl, ?_⟩) hHeld ?_
          · rintro w' ⟨q1, q2⟩; go_simp; all_goals (first | (intro hx; omega) | exact wrap_add _ _)
          try simp only [Act.put, List.getElem_toArray, List.getElem_cons_zero, List.getElem_cons_succ, List.setIfInBounds_toArray, List.set_cons_zero, List.set_cons_succ]
          refine wpAnyH_take (i := 16) (v := .pointer (some ⟨w.heap.size + 1 + 1, i - 7, none⟩)) rfl (by kernel_rfl) (by kernel_rfl) (by kernel_rfl) (fun _ _ _ h => h) (Or.inl ⟨by rfl, ?_⟩) hHeld ?_
          · rintro w' ⟨q1, q2⟩; go_simp; all_goals (first | (intro hx; omega) | exact wrap_add _ _)
          try simp only [Act.put, List.getElem_toArray, List.getElem_cons_zero, List.getElem_cons_succ, List.setIfInBounds_toArray, List.set_cons_zero, List.set_cons_succ]
          refine wpAnyH_take (i := 4) (v := .int .u32 ((A16 : Nat) : Int)) rfl (by kernel_rfl) (by kernel_rfl) (by kernel_rfl) (fun _ _ _ h => h) (Or.inl ⟨by rfl, ?_⟩) hHeld ?_
          · rintro w' ⟨q1, q2⟩; go_simp; all_goals (first | (intro hx; omega) | exact wrap_add _ _)
          try simp only [Act.put, List.getElem_toArray, List.getElem_cons_zero, List.getElem_cons_succ, List.setIfInBounds_toArray, List.set_cons_zero, List.set_cons_succ]
          refine wpAnyH_take (i := 17) (v := .int .u32 ((A7 : Nat) : Int)) rfl (by kernel_rfl) (by kernel_rfl) (by kernel_rfl) (fun _ _ _ h => h) (Or.inl ⟨by rfl, ?_⟩) hHeld ?_
          · rintro w' ⟨q1, q2⟩; go_simp; all_goals (first | (intro hx; omega) | exact wrap_add _ _)
          try simp only [Act.put, List.getElem_toArray, List.getElem_cons_zero, List.getElem_cons_succ, List.setIfInBounds_toArray, List.set_cons_zero, List.set_cons_succ]
          refine wpAnyH_take (i := 5) (v := .int .u32 ((x : Nat) : Int)) rfl (by kernel_rfl) (by kernel_rfl) (by kernel_rfl) (fun _ _ _ h => h) (Or.inl ⟨by rfl, ?_⟩) hHeld ?_
          · rintro w' ⟨q1, q2⟩; go_simp; all_goals (first | (intro hx; omega) | exact wrap_add _ _)
          try simp only [Act.put, List.getElem_toArray, List.getElem_cons_zero, List.getElem_cons_succ, List.setIfInBounds_toArray, List.set_cons_zero, List.set_cons_succ]
          refine wpAnyH_take (i := 7) (v := .int .u32 ((x : Nat) : Int)) rfl (by kernel_rfl) (by kernel_rfl) (by kernel_rfl) (fun _ _ _ h => h) (Or.inl ⟨by rfl, ?_⟩) hHeld ?_
          · rintro w' ⟨q1, q2⟩; go_simp; all_goals (first | (intro hx; omega) | exact wrap_add _ _)
          try simp only [Act.put, List.getElem_toArray, List.getElem_cons_zero, List.getElem_cons_succ, List.setIfInBounds_toArray, List.set_cons_zero, List.set_cons_succ]
          refine wpAnyH_take (i := 10) (v := .int .u32 ((x : Nat) : Int)) rfl (by kernel_rfl) (by kernel_rfl) (by kernel_rfl) (fun _ _ _ h => h) (Or.inl ⟨by rfl, ?_⟩) hHeld ?_
          · rintro w' ⟨q1, q2⟩; go_simp; all_goals (first | (intro hx; omega) | exact wrap_add _ _)
          try simp only [Act.put, List.getElem_toArray, List.getElem_cons_zero, List.getElem_cons_succ, List.setIfInBounds_toArray, List.set_cons_zero, List.set_cons_succ]
          refine wpAnyH_take (i := 19) (v := .int .u32 ((y : Nat) : Int)) rfl (by kernel_rfl) (by kernel_rfl) (by kernel_rfl) (fun _ _ _ h => h) (Or.inl ⟨by rfl, ?_⟩) hHeld ?_
          · rintro w' ⟨q1, q2⟩; go_simp; all_goals (first | (intro hx; omega) | exact wrap_add _ _)
          try simp only [Act.put, List.getElem_toArray, List.getElem_cons_zero, List.getElem_cons_succ, List.setIfInBounds_toArray, List.set_cons_zero, List.set_cons_succ]
          refine wpAnyH_take (i := 21) (v := .int .u32 ((y : Nat) : Int)) rfl (by kernel_rfl) (by kernel_rfl) (by kernel_rfl) (fun _ _ _ h => h) (Or.inl ⟨by rfl, ?_⟩) hHeld ?_
          · rintro w' ⟨q1, q2⟩; go_simp; all_goals (first | (intro hx; omega) | exact wrap_add _ _)
          try simp only [Act.put, List.getElem_toArray, List.getElem_cons_zero, List.getElem_cons_succ, List.setIfInBounds_toArray, List.set_cons_zero, List.set_cons_succ]
          refine wpAnyH_take (i := 24) (v := .int .u32 ((y : Nat) : Int)) rfl (by kernel_rfl) (by kernel_rfl) (by kernel_rfl) (fun _ _ _ h => h) (Or.inl ⟨by rfl, ?_⟩) hHeld ?_
          · rintro w' ⟨q1, q2⟩; go_simp; all_goals (first | (intro hx; omega) | exact wrap_add _ _)
          try simp only [Act.put, List.getElem_toArray, List.getElem_cons_zero, List.getElem_cons_succ, List.setIfInBounds_toArray, List.set_cons_zero, List.set_cons_succ]
          refine wpAnyH_take (i := 11) (v := .int .u32 ((Sha.shr x 3 : Nat) : Int)) rfl (by kernel_rfl) (by kernel_rfl) (by kernel_rfl) (fun _ _ _ h => h) (Or.inl ⟨by rfl, ?_⟩) hHeld ?_
          · rintro w' ⟨q1, q2⟩; go_simp; all_goals (first | (intro hx; omega) | exact wrap_add _ _)
          try simp only [Act.put, List.getElem_toArray, List.getElem_cons_zero, List.getElem_cons_succ, List.setIfInBounds_toArray, List.set_cons_zero, List.set_cons_succ]
          refine wpAnyH_take (i := 25) (v := .int .u32 ((Sha.shr y 10 : Nat) : Int)) rfl (by kernel_rfl) (by kernel_rfl) (by kernel_rfl) (fun _ _ _ h => h) (Or.inl ⟨by rfl, ?_⟩) hHeld ?_
          · rintro w' ⟨q1, q2⟩; go_simp; all_goals (first | (intro hx; omega) | exact wrap_add _ _)
          try simp only [Act.put, List.getElem_toArray, List.getElem_cons_zero, List.getElem_cons_succ, List.setIfInBounds_toArray, List.set_cons_zero, List.set_cons_succ]
          refine wpAnyH_ready (rs := [6]) (by kernel_rfl) (by simp) (AllReadyH.cons rfl (fun K hK => ?_) AllReadyH.nil)
          simp only [List.getElem_toArray, List.getElem_cons_zero, List.getElem_cons_succ]
          go_simp
          refine (r_i _ _ _ l15 (by omega) (by omega)).mono ?_; rintro e w' ⟨rfl, rfl⟩
          refine hK.out _ _ hHeld (fun hHeld => ?_)
          clear hK K
          try simp only [Act.put, List.getElem_toArray, List.getElem_cons_zero, List.getElem_cons_succ, List.setIfInBounds_toArray, List.set_cons_zero, List.set_cons_succ]
          refine wpAnyH_ready (rs := [8]) (by kernel_rfl) (by simp) (AllReadyH.cons rfl (fun K hK => ?_) AllReadyH.nil)
          simp only [List.getElem_toArray, List.getElem_cons_zero, List.getElem_cons_succ]
          go_simp
          refine (r_i _ _ _ l15 (by omega) (by omega)).mono ?_; rintro e w' ⟨rfl, rfl⟩
          refine hK.out _ _ hHeld (fun hHeld => ?_)
          clear hK K
          try simp only [Act.put, List.getElem_toArray, List.getElem_cons_zero, List.getElem_cons_succ, List.setIfInBounds_toArray, List.set_cons_zero, List.set_cons_succ]
          refine wpAnyH_take (i := 9) (v := .int .u32 ((x32 (Sha.rotr x 7) (Sha.rotr x 18) : Nat) : Int)) rfl (by kernel_rfl) (by kernel_rfl) (by kernel_rfl) (fun _ _ _ h => h) (Or.inl ⟨by rfl, ?_⟩) hHeld ?_
          · rintro w' ⟨q1, q2⟩; go_simp; all_goals (first | (intro hx; omega) | exact wrap_add _ _)
          try simp only [Act.put, List.getElem_toArray, List.getElem_cons_zero, List.getElem_cons_succ, List.setIfInBounds_toArray, List.set_cons_zero, List.set_cons_succ]
          refine wpAnyH_take (i := 12) (v := .int .u32 ((Sha.sig0 x : Nat) : Int)) rfl (by kernel_rfl) (by kernel_rfl) (by kernel_rfl) (fun _ _ _ h => h) (Or.inl ⟨by rfl, ?_⟩) hHeld ?_
          · rintro w' ⟨q1, q2⟩; go_simp; all_goals (first | (intro hx; omega) | exact wrap_add _ _)
          try simp only [Act.put, List.getElem_toArray, List.getElem_cons_zero, List.getElem_cons_succ, List.setIfInBounds_toArray, List.set_cons_zero, List.set_cons_succ]
          refine wpAnyH_take (i := 13) (v := .int .u32 ((Sha.add A16 (Sha.sig0 x) : Nat) : Int)) rfl (by kernel_rfl) (by kernel_rfl) (by kernel_rfl) (fun _ _ _ h => h) (Or.inl ⟨by rfl, ?_⟩) hHeld ?_
          · rintro w' ⟨q1, q2⟩; go_simp; all_goals (first | (intro hx; omega) | exact wrap_add _ _)
          try simp only [Act.put, List.getElem_toArray, List.getElem_cons_zero, List.getElem_cons_succ, List.setIfInBounds_toArray, List.set_cons_zero, List.set_cons_succ]
          refine wpAnyH_take (i := 18) (v := .int .u32 ((Sha.add (Sha.add A16 (Sha.sig0 x)) A7 : Nat) : Int)) rfl (by kernel_rfl) (by kernel_rfl) (by kernel_rfl) (fun _ _ _ h => h) (Or.inl ⟨by rfl, ?_⟩) hHeld ?_
          · rintro w' ⟨q1, q2⟩; go_simp; all_goals (first | (intro hx; omega) | exact wrap_add _ _)
          try simp only [Act.put, List.getElem_toArray, List.getElem_cons_zero, List.getElem_cons_succ, List.setIfInBounds_toArray, List.set_cons_zero, List.set_cons_succ]
          refine wpAnyH_ready (rs := [20]) (by kernel_rfl) (by simp) (AllReadyH.cons rfl (fun K hK => ?_) AllReadyH.nil)
          simp only [List.getElem_toArray, List.getElem_cons_zero, List.getElem_cons_succ]
          go_simp
          refine (r_i _ _ _ l2 (by omega) (by omega)).mono ?_; rintro e w' ⟨rfl, rfl⟩
          refine hK.out _ _ hHeld (fun hHeld => ?_)
          clear hK K
          try simp only [Act.put, List.getElem_toArray, List.getElem_cons_zero, List.getElem_cons_succ, List.setIfInBounds_toArray, List.set_cons_zero, List.set_cons_succ]
          refine wpAnyH_ready (rs := [22]) (by kernel_rfl) (by simp) (AllReadyH.cons rfl (fun K hK => ?_) AllReadyH.nil)
          simp only [List.getElem_toArray, List.getElem_cons_zero, List.getElem_cons_succ]
          go_simp
          refine (r_i _ _ _ l2 (by omega) (by omega)).mono ?_; rintro e w' ⟨rfl, rfl⟩
          refine hK.out _ _ hHeld (fun hHeld => ?_)
          clear hK K
          try simp only [Act.put, List.getElem_toArray, List.getElem_cons_zero, List.getElem_cons_succ, List.setIfInBounds_toArray, List.set_cons_zero, List.set_cons_succ]
          refine wpAnyH_take (i := 23) (v := .int .u32 ((x32 (Sha.rotr y 17) (Sha.rotr y 19) : Nat) : Int)) rfl (by kernel_rfl) (by kernel_rfl) (by kernel_rfl) (fun _ _ _ h => h) (Or.inl ⟨by rfl, ?_⟩) hHeld ?_
          · rintro w' ⟨q1, q2⟩; go_simp; all_goals (first | (intro hx; omega) | exact wrap_add _ _)
          try simp only [Act.put, List.getElem_toArray, List.getElem_cons_zero, List.getElem_cons_succ, List.setIfInBounds_toArray, List.set_cons_zero, List.set_cons_succ]
          refine wpAnyH_take (i := 26) (v := .int .u32 ((Sha.sig1 y : Nat) : Int)) rfl (by kernel_rfl) (by kernel_rfl) (by kernel_rfl) (fun _ _ _ h => h) (Or.inl ⟨by rfl, ?_⟩) hHeld ?_
          · rintro w' ⟨q1, q2⟩; go_simp; all_goals (first | (intro hx; omega) | exact wrap_add _ _)
          try simp only [Act.put, List.getElem_toArray, List.getElem_cons_zero, List.getElem_cons_succ, List.setIfInBounds_toArray, List.set_cons_zero, List.set_cons_succ]
          refine wpAnyH_take (i := 27) (v := .int .u32 ((Sha.add (Sha.add (Sha.add A16 (Sha.sig0 x)) A7) (Sha.sig1 y) : Nat) : Int)) rfl (by kernel_rfl) (by kernel_rfl) (by kernel_rfl) (fun _ _ _ h => h) (Or.inl ⟨by rfl, ?_⟩) hHeld ?_
          · rintro w' ⟨q1, q2⟩; go_simp; all_goals (first | (intro hx; omega) | exact wrap_add _ _)
          try simp only [Act.put, List.getElem_toArray, List.getElem_cons_zero, List.getElem_cons_succ, List.setIfInBounds_toArray, List.set_cons_zero, List.set_cons_succ]
          refine wpAnyH_take (i := 28) (v := .pointer (some ⟨w.heap.size + 1 + 1, i, none⟩)) rfl (by kernel_rfl) (by kernel_rfl) (by kernel_rfl) (fun _ _ _ h => h) (Or.inl ⟨by rfl, ?_⟩) hHeld ?_
          · rintro w' ⟨q1, q2⟩; go_simp; all_goals (first | (intro hx; omega) | exact wrap_add _ _)
          try simp only [Act.put, List.getElem_toArray, List.getElem_cons_zero, List.getElem_cons_succ, List.setIfInBounds_toArray, List.set_cons_zero, List.set_cons_succ]
          refine wpAnyH_ready (rs := [29]) (by kernel_rfl) (by simp) (AllReadyH.cons rfl (fun K hK => ?_) AllReadyH.nil)
          simp only [List.getElem_toArray, List.getElem_cons_zero, List.getElem_cons_succ]
          go_simp
          refine hK.out _ _ ⟨?_, ?_⟩ (fun hHeld => ?_)
          · exact (cell_set_other W (w.heap.size + 1 + 1) i (i - 16) _ (by omega)).trans hS16
          · exact (cell_set_other W (w.heap.size + 1 + 1) i (i - 7) _ (by omega)).trans hS7
          clear hK K
          refine wpAnyH_done (by kernel_rfl) ?_ _
          refine NoPanic.normal ?_
          clear hS16 hS7 hSi hfzi hHeld
          go_wp2
          go_roundw
          case rel => exact ⟨i + 1, m + 1, by omega, by omega, by go_num, by rw [unhide HST, unhide HNX]⟩
          case measure => simp [intOf]; omega
        · obtain rfl : i = 64 := by omega
          obtain ⟨W3, hW3⟩ : ∃ W3, (((w.alloc (.cells (E32 s.list) 68)).alloc (.cells #[.int .u32 0, .int .u32 0, .int .u32 0, .int .u32 0, .int .u32 0, .int .u32 0, .int .u32 0, .int .u32 0] 68)).alloc (.cells (E32 (G 64)) 99)).drewN m = W3 := ⟨_, rfl⟩
          have hz3 : W3.heap.size = w.heap.size + 1 + 1 + 1 := by rw [← hW3]; simp [World.drewN]
          have hbl3 : Below w.heap.size w W3 := by rw [← hW3]; exact below_drews ((((Below.refl _ _).alloc (Nat.le_refl _) _).alloc (by simp) _).alloc (by simp; omega) _) _
          have hk3 : rowOf W3 kb = E32 Sha.K := by rw [below_rowOf hbl3 hK]; exact hk
          have hs3 : rowOf W3 (w.heap.size + 1 + 1) = E32 (G 64) := by rw [← hW3]; simp [go_sem]
          rw [unhide HGE] at hs3
          have hst3 : rowOf W3 w.heap.size = E32 s.list := by rw [← hW3]; simp [go_sem]
          have hf3 : fits W3 w.heap.size 8 = true := by rw [← hW3]; simp [go_sem]
          have hf4 : fits W3 (w.heap.size + 1) 8 = true := by rw [← hW3]; simp [go_sem]
          have HK3 : Hid (∀ k, k < 64 → W3.cell? ⟨kb, k, none⟩ = some (.int .u32 ((Sha.nth Sha.K k : Nat) : Int))) := fun k hk' => row_cell32 _ _ _ hk3 k (by simp; omega)
          have HS3 : Hid (∀ k, k < 64 → W3.cell? ⟨w.heap.size + 1 + 1, k, none⟩ = some (.int .u32 ((Sha.nth (Sha.sched p) k : Nat) : Int))) := fun k hk' => row_cell32 _ _ _ hs3 k (by simp; omega)
          obtain ⟨T, hT⟩ : ∃ T : Nat → Sha.St, T = Sha.rounds s (Sha.sched p) := ⟨_, rfl⟩
          have HT0 : Hid (s = T 0) := by rw [hT]; exact rfl
          have HTN : Hid (∀ k, T (k + 1) = Sha.round (T k) (Sha.nth Sha.K k) (Sha.nth (Sha.sched p) k)) := fun k => by rw [hT]; exact rfl
          have HTok : Hid (∀ k, (T k).ok) := fun k => by rw [hT]; exact Sha.rounds_ok hs _ k
          have HTE : Hid (R = Sha.plus s (T 64)) := by rw [hT]; exact (unhide HR).symm.trans (block_plus s p)
          have hkz : kb < W3.heap.size := by omega
          have hsz3 : w.heap.size + 1 + 1 < W3.heap.size := by omega
          have hwz3 : w.heap.size < W3.heap.size := by omega
          have HST3 := hide hst3
          have HF3 := hide hf3
          have HF4 := hide hf4
          have HB3 := hide hbl3
          clear hT hk3 hs3 HGS HGE HGL HGW HR hpl hlt hf4 hbl3 hk hi1 hi2
          rw [hW3]
          clear hW3
          generalize Sha.sched p = ps at *
          have hrs : (rowOf W3 w.heap.size).size = 8 := by rw [hst3]; simp
          rw [show ((64 : Nat) : Int) = 64 from rfl]
          go_wp2
          have hkz' : kb < w.heap.size + 1 + 1 + 1 := by omega
          go_loopw [13] (fun q wr => ∃ k : Nat, k ≤ 64 ∧ q = .int .i64 (k : Int) ∧ Below (w.heap.size + 1 + 1 + 1) W3 wr ∧ rowOf wr (w.heap.size + 1 + 1 + 1) = E32 (T k).list ∧ fits wr (w.heap.size + 1 + 1 + 1) 8 = true) (fun q _ => 64 - (intOf q).toNat)
          case atStart => exact ⟨0, by omega, rfl, (Below.refl _ _).alloc (by omega) _, by rw [← unhide HT0]; simp [go_sem, hz3], by simp [go_sem, hz3]⟩
          case round =>
            obtain ⟨k, hk64, rfl, hbr, hrow, hfit⟩ := hrel
            have HROW := hide hrow
            by_cases hlt : k < 64
            · have hR : R3 wr kb w.heap.size k (T k) (Sha.nth Sha.K k) (Sha.nth ps k) := R3.mk' (by rw [hbr.cell (p := ⟨kb, k, none⟩) hkz']; exact unhide HK3 k hlt) (by rw [hbr.cell (p := ⟨w.heap.size + 1 + 1, k, none⟩) (by simp)]; exact unhide HS3 k hlt) hrow
              have hN := hide (unhide HTN k)
              obtain ⟨ha, hb', hc', hd', he, hf', hg', hh'⟩ := unhide HTok k
              clear hrs hst3 hf3 hb hrow
              generalize hTK : T k = t at *
              generalize Sha.nth Sha.K k = kk at *
              generalize Sha.nth ps k = ss at *
              obtain ⟨ck, cs, c0, c1, c2, c3, c4, c5, c6, c7⟩ := hR
              go_wp2
              go_quiet (fail)
              have hR1 := R3.drews ⟨ck, cs, c0, c1, c2, c3, c4, c5, c6, c7⟩ nq
              have hbr1 := below_drews hbr nq
              have hfit1 : fits (wr.drewN nq) (w.heap.size + 1 + 1 + 1) 8 = true := hfit
              clear ck cs c0 c1 c2 c3 c4 c5 c6 c7
              generalize wr.drewN nq = wr1 at *
              obtain ⟨ck, cs, c0, c1, c2, c3, c4, c5, c6, c7⟩ := hR1
              go_wp2
              go_quiet ((go_at_call 68; exact Calls.quiet_of_same (r_i _ _ _ he (by omega) (by omega))))
              have hR2 := R3.drews ⟨ck, cs, c0, c1, c2, c3, c4, c5, c6, c7⟩ nq
              have hbr2 := below_drews hbr1 nq
              have hfit2 : fits (wr1.drewN nq) (w.heap.size + 1 + 1 + 1) 8 = true := hfit1
              clear ck cs c0 c1 c2 c3 c4 c5 c6 c7
              generalize wr1.drewN nq = wr2 at *
              obtain ⟨ck, cs, c0, c1, c2, c3, c4, c5, c6, c7⟩ := hR2
              go_wp2
              go_quiet ((go_at_call 68; exact Calls.quiet_of_same (r_i _ _ _ ha (by omega) (by omega))))
              have hR3 := R3.drews ⟨ck, cs, c0, c1, c2, c3, c4, c5, c6, c7⟩ nq
              have hbr3 := below_drews hbr2 nq
              have hfit3 : fits (wr2.drewN nq) (w.heap.size + 1 + 1 + 1) 8 = true := hfit2
              clear ck cs c0 c1 c2 c3 c4 c5 c6 c7 hfit hfit1 hfit2 hbr hbr1 hbr2
              generalize wr2.drewN nq = wr3 at *
              obtain ⟨ck, cs, c0, c1, c2, c3, c4, c5, c6, c7⟩ := hR3
              go_wp2
              go_roundw
              case rel =>
                refine ⟨k + 1, by omega, by go_num, below_setRow hbr3 (Nat.le_refl _) _, ?_, fits_setRow_at _ _ _ _ hfit3 rfl⟩
                rw [rowOf_setRow_at _ _ 8 _ hfit3, unhide hN]; rfl
              case measure => simp [intOf]; omega
            · obtain rfl : k = 64 := by omega
              have hbw : Below w.heap.size w wr := (unhide HB3).trans (hbr.mono (by omega))
              have hst4 : rowOf wr w.heap.size = E32 s.list := by rw [below_rowOf hbr (by omega)]; exact unhide HST3
              have hf5 : fits wr w.heap.size 8 = true := by rw [below_fits hbr (by omega)]; exact unhide HF3
              have hf6 : fits wr (w.heap.size + 1) 8 = true := by rw [below_fits hbr (by omega)]; exact unhide HF4
              generalize hTT : T 64 = t at *
              clear hrs hst3 hf3 hb hfit hlt HST3 HF3 HF4 HB3 HK3 HS3 HTN HTok hbr hTT
              rw [show ((64 : Nat) : Int) = 64 from rfl]
              have hd64 : ((64 : Int) < 64) = False := by simp
              go_wp2
              go_loopw [18] (fun q wr => ∃ i : Nat, i ≤ 8 ∧ q = .int .i64 (i : Int) ∧ Below w.heap.size w wr ∧ rowOf wr w.heap.size = E32 (addTo s.list t.list i) ∧ fits wr w.heap.size 8 = true ∧ fits wr (w.heap.size + 1) 8 = true ∧ rowOf wr (w.heap.size + 1 + 1 + 1) = E32 t.list) (fun q _ => 8 - (intOf q).toNat)
              case atStart => exact ⟨0, by omega, rfl, hbw, hst4, hf5, hf6, unhide HROW⟩
              case round =>
                clear hbw hst4 hf5 hf6 hrow HROW
                obtain ⟨i, hi, rfl, hbw, hst, hfst, hfres, hrt⟩ := hrel
                have hlen := addTo_length s.list t.list i
                have l8 := list_eight s
                have l8t := list_eight t
                by_cases hi8 : i < 8
                · have hc1 : wr.cell? ⟨w.heap.size, i, none⟩ = some (.int .u32 ((Sha.nth s.list i : Nat) : Int)) := by
                    rw [← addTo_nth s.list t.list i i (Nat.le_refl _)]
                    exact cell_row _ _ _ _ (by rw [hst]; exact E32_get _ _ (by omega))
                  have hc2 : wr.cell? ⟨w.heap.size + 1 + 1 + 1, i, none⟩ = some (.int .u32 ((Sha.nth t.list i : Nat) : Int)) := cell_row _ _ _ _ (by rw [hrt]; exact E32_get _ _ (by omega))
                  have hfz := frozen_fits hfst i
                  have HRT := hide hrt
                  have HST := hide hst
                  have HFS := hide hfst
                  have HFR := hide hfres
                  clear hst hfst hlen hrt hfres
                  go_wp2
                  go_region
                  go_wp2
                  go_roundw
                  case rel =>
                    refine ⟨i + 1, by omega, by go_num, (hbw.setCell (Nat.le_refl _) _).drew, ?_, ?_, ?_, ?_⟩
                    · rw [rowOf_drew, rowOf_setCell_at _ _ _ _ _ (unhide HFS), unhide HST, E32_set]; rfl
                    · rw [fits_drew]; exact fits_setCell_at _ _ _ _ _ (unhide HFS)
                    · rw [fits_drew, fits_setCell_other _ _ _ _ _ (by simp)]; exact unhide HFR
                    · rw [rowOf_drew, rowOf_setCell_other _ _ _ _ (by simp; omega)]; exact unhide HRT
                  case measure => simp [intOf]; omega
                · obtain rfl : i = 8 := by omega
                  rw [addTo_plus, ← unhide HTE] at hst
                  have hrs : (rowOf wr w.heap.size).size = 8 := by rw [hst]; simp
                  go_wp2
                  exact bodyPost_ret (v := .agg (E32 R.list)) (res68 Tryz.results44 rfl (rowOf_setRow_at _ _ 8 _ hfres) (by simp)) rfl ⟨rfl, below_setRow hbw (by omega) _⟩
end Go.Proofs.YtlbfcneboaihnaaGreatDoor.Dg
/- The law's own helper same: two rows of the same bytes. -/
namespace Go.Proofs.YtlbfcneboaihnaaGreatDoor.Dg
open Go.RowKit Go.Great
attribute [local go_sem] f_8 f_1024 f_hi4 f_lo4
end Go.Proofs.YtlbfcneboaihnaaGreatDoor.Dg
/- Bytes appended to a row of the call's own: it has room, or a new row is made. -/
namespace Go.Proofs.YtlbfcneboaihnaaGreatDoor.Dg
open Go.RowKit Go.Great
attribute [local go_sem] f_8 f_1024 f_hi4 f_lo4

/-- A slice of bytes whose row is the call's own. -/
def OwnB (w : World) (base : Nat) (v : Value) (L : List Nat) : Prop :=
  ∃ (g : Nat) (R : List Nat), v = .slice (some ⟨g, 0, none⟩) L.length (L ++ R).length ∧ base ≤ g ∧ w.heap[g]? = some (.cells (E8 (L ++ R)) 5 (0, 0))
theorem E8_append (a b : List Nat) : E8 (a ++ b) = E8 a ++ E8 b := by simp [E8]
theorem nth_map (m : List Nat) (j : Nat) (u : Value) (h : (m.map B8)[j]? = some u) : j < m.length ∧ u = .int .u8 ((Sha.nth m j : Nat) : Int) := by
  rw [List.getElem?_map] at h
  cases e : m[j]? with
  | none => simp [e] at h
  | some x =>
    simp [e] at h
    refine ⟨(List.getElem?_eq_some_iff.1 e).1, ?_⟩
    rw [← h]; unfold B8 Sha.nth; rw [e]; rfl
theorem app_own (w : World) (base : Nat) (v : Value) (L : List Nat) (a : Option Addr) (m : List Nat) (c : Nat) (ho : OwnB w base v L) (hs : BytesAt w (.slice a m.length c) m) (hm : 0 < m.length) (hmax : L.length + m.length ≤ 1000000) :
    ∃ v' w', (∀ ty, (app22 ty #[v, .slice a m.length c]).run Tryz.prog w = .ok v' w') ∧ OwnB w' base v' (L ++ m) ∧ Below base w w' ∧ w.heap.size ≤ w'.heap.size := by
  obtain ⟨g, R, rfl, hg, hh⟩ := ho
  obtain ⟨a', c', ev, hc, hb⟩ := hs
  cases ev
  obtain ⟨b, o, rfl, hbl, hcell⟩ := hb hm
  obtain ⟨i, hi, hz, hsz, hby⟩ := info5_at
  have hlt : g < w.heap.size := (Array.getElem?_eq_some_iff.1 hh).1
  have hnews : ∀ j u, (m.map B8)[j]? = some u → w.cell? ((⟨b, o, none⟩ : Addr).add j) = some u := fun j u hj => by
    obtain ⟨hj1, rfl⟩ := nth_map m j u hj
    rw [Addr.add_mid]; exact hcell j hj1
  have hone : ∀ u ∈ m.map B8, u.oneCell' = true := fun u hu => by obtain ⟨x, -, rfl⟩ := List.mem_map.1 hu; rfl
  by_cases hroom : L.length + m.length ≤ (L ++ R).length
  · have hrl : m.length ≤ R.length := by simp at hroom; omega
    refine ⟨.slice (some ⟨g, 0, none⟩) (L.length + m.length) (L ++ R).length, w.setRow g (E8 (L ++ m ++ R.drop m.length)), fun ty => ?_, ?_, ?_, ?_⟩
    · unfold app22
      rw [run_append_room (P := Tryz.prog) w 22 ty 5 i Tryz.underlying22 hi g L.length (L ++ R).length (E8 (L ++ R)) hh ⟨b, o, none⟩ m.length c (m.map B8) (by simp [hsz]) hnews hone hroom (by simp [hsz]; omega)]
      rw [hsz, Nat.mul_one]
      have e : ((E8 (L ++ R)).toList.take L.length ++ m.map B8 ++ (E8 (L ++ R)).toList.drop (L.length + (m.map B8).length)).toArray = E8 (L ++ m ++ R.drop m.length) := by
        unfold E8
        rw [List.toList_toArray, List.map_append, List.take_left' (by simp), List.drop_append]
        simp [List.map_drop]
      rw [e]
    · refine ⟨g, R.drop m.length, by simp; omega, hg, ?_⟩
      rw [setRow_heap w g _ _ 5 _ hh]
    · exact below_setRow (Below.refl _ _) hg _
    · simp
  · refine ⟨.slice (some ⟨w.heap.size, 0, none⟩) (L.length + m.length) (grownCap w (L.length + m.length) (L ++ R).length 5), w.drew.alloc (.cells (E8 (L ++ m ++ zs (grownCap w (L.length + m.length) (L ++ R).length 5 - (L.length + m.length)))) 5), fun ty => ?_, ?_, ?_, ?_⟩
    · unfold app22
      have hold : (Builtin.firstCells i.size L.length (.slice (some ⟨g, 0, none⟩) L.length (L ++ R).length)).run Tryz.prog w.drew = .ok (L.map B8).toArray w.drew :=
        run_firstCells_some w.drew i.size L.length ⟨g, 0, none⟩ L.length _ (L.map B8) (by simp [hsz]) (fun j u hj => by
          obtain ⟨hj1, rfl⟩ := nth_map L j u hj
          rw [Addr.add_mid, Nat.zero_add]
          have : w.cell? ⟨g, j, none⟩ = some (.int .u8 ((Sha.nth L j : Nat) : Int)) := by
            rw [cell_of_row w g j _ 5 _ hh, E8_get _ _ (by simp; omega), Sha.nth_append_left hj1]
          exact this)
      rw [run_append_grow_src (P := Tryz.prog) w 22 22 ty 5 i (.int .u8 0) Tryz.underlying22 hi hz (some ⟨g, 0, none⟩) L.length (L ++ R).length (L.map B8) hold (.slice (some ⟨b, o, none⟩) m.length c) m.length (m.map B8)
        (Src.ofSlice w Tryz.underlying22 ⟨b, o, none⟩ m.length c (m.map B8) (by simp [hsz]) hnews hone) (by omega) (by omega) (growslice_fits (by omega) (by rw [hby]; omega))]
      have hzc : ∀ k, Builtin.zeroCells (Value.int .u8 0).cells k = E8 (zs k) := fun k => by
        have := made_zs k
        unfold madeCells at this
        unfold Builtin.zeroCells
        simpa [Value.cells] using this
      have e : ((L.map B8 ++ m.map B8).toArray : Array Value) = E8 (L ++ m) := by unfold E8; rw [List.map_append]
      rw [hzc, e, ← E8_append]
    · refine ⟨w.heap.size, zs (grownCap w (L.length + m.length) (L ++ R).length 5 - (L.length + m.length)), ?_, by omega, ?_⟩
      · have hge := grownCap_ge w (L.length + m.length) (L ++ R).length 5
        have e1 : (L ++ m).length = L.length + m.length := List.length_append
        have e2 : (L ++ m ++ zs (grownCap w (L.length + m.length) (L ++ R).length 5 - (L.length + m.length))).length = grownCap w (L.length + m.length) (L ++ R).length 5 := by
          rw [List.length_append, e1, zs_length]; omega
        rw [e2, e1]
      · exact heap_alloc_last w.drew _
    · exact (Below.refl _ _).drew.alloc (by show base ≤ w.heap.size; omega) _
    · simp
end Go.Proofs.YtlbfcneboaihnaaGreatDoor.Dg
/- The law's own helper roomy: bytes in a list of their own, with room behind them, which is marked. -/
namespace Go.Proofs.YtlbfcneboaihnaaGreatDoor.Dg
open Go.RowKit Go.Great
attribute [local go_sem] f_8 f_1024 f_hi4 f_lo4

theorem app_none (w : World) (a a' : Option Addr) (n cap c : Nat) (h : n ≤ cap) : ∀ ty, (app22 ty #[.slice a n cap, .slice a' 0 c]).run Tryz.prog w = .ok (.slice a n cap) w := by
  intro ty
  obtain ⟨i, hi, hz, hsz, hby⟩ := info5_at
  unfold app22
  refine run_append_nothing w 22 22 ty 5 i Tryz.underlying22 hi a n cap h _ ?_
  cases a' with
  | none => exact Src.ofNil w Tryz.underlying22 c
  | some x => exact Src.ofSlice w Tryz.underlying22 x 0 c [] (by simp) (fun j u hj => by simp at hj) (fun u hu => by simp at hu)

theorem OwnB.alloc {w : World} {base : Nat} {v : Value} {L : List Nat} (h : OwnB w base v L) (o : Obj) : OwnB (w.alloc o) base v L := by
  obtain ⟨g, R, rfl, hg, hh⟩ := h
  exact ⟨g, R, rfl, hg, by rw [Below.heap_alloc w o g (Array.getElem?_eq_some_iff.1 hh).1]; exact hh⟩
theorem one_at (w : World) (x : Nat) : BytesAt (w.alloc (.cells #[.int .u8 (x : Int)] 5)) (.slice (some ⟨w.heap.size, 0, none⟩) [x].length 1) [x] :=
  bytesAt_row _ _ [x] [x] 1 1 (rowOf_alloc_at _ _ _ _ rfl) (by simp) (by simp) (by simp) rfl
end Go.Proofs.YtlbfcneboaihnaaGreatDoor.Dg
/- The law's own helper stands: the bytes, and the mark behind them, are as they were. -/
namespace Go.Proofs.YtlbfcneboaihnaaGreatDoor.Dg
open Go.RowKit Go.Great
attribute [local go_sem] f_8 f_1024 f_hi4 f_lo4
end Go.Proofs.YtlbfcneboaihnaaGreatDoor.Dg
/- The document's own Sum: the padded row, block by block. -/
namespace Go.Proofs.YtlbfcneboaihnaaGreatDoor.Dg
namespace Sha
/-- How many noughts stand behind the mark. -/
def gap (n : Nat) : Nat := endOf (n % 64) - 9 - n % 64
theorem gap_lt (n : Nat) : gap n < 64 := by
  unfold gap; have := endOf_cases (n % 64); omega
theorem gap_at (n k : Nat) (h : k ≤ gap n) : (n + 1 + k) % 64 = 56 ↔ k = gap n := by
  unfold gap at h ⊢; have := endOf_cases (n % 64); omega
/-- The padded row. -/
def padded (b : List Nat) : List Nat := b ++ [128] ++ List.replicate (gap b.length) 0 ++ count (8 * b.length)
theorem padded_length (b : List Nat) : (padded b).length = 64 * (b.length / 64 + endOf (b.length % 64) / 64) := by
  unfold padded gap
  have := endOf_cases (b.length % 64)
  simp [count]; omega
theorem padded_bytes {b : List Nat} (h : Bytes b) : Bytes (padded b) :=
  ((h.append (Bytes.one (by omega))).append (Bytes.rep _)).append (count_bytes _)
theorem sum_padded (b : List Nat) : out (blocks start (padded b) (b.length / 64 + endOf (b.length % 64) / 64)) = sum b := by
  have hq : (b.take (b.length - b.length % 64)).length = 64 * (b.length / 64) := by rw [List.length_take]; omega
  have hr : (b.drop (b.length - b.length % 64)).length = b.length % 64 := by rw [List.length_drop]; omega
  unfold sum sumBehind
  rw [← blocks_append start (b.take (b.length - b.length % 64)) _ (b.length / 64) _ hq]
  congr 2
  unfold tail padded gap
  rw [hr, Nat.zero_add]
  simp only [← List.append_assoc]
  rw [List.take_append_drop]
theorem count_take (c J : Nat) (h : J < 8) : (count c).take (8 - J) = (count c).take (8 - (J + 1)) ++ [c / 2 ^ (8 * J) % 256] := by
  match J, h with
  | 0, _ => simp [count]
  | 1, _ => rfl
  | 2, _ => rfl
  | 3, _ => rfl
  | 4, _ => rfl
  | 5, _ => rfl
  | 6, _ => rfl
  | 7, _ => rfl
end Sha
open Go.RowKit Go.Great
attribute [local go_sem] f_8 f_1024 f_hi4 f_lo4
theorem OwnB.below' {w w' : World} {base : Nat} {v : Value} {L : List Nat} (h : OwnB w base v L) (hb : Below w.heap.size w w') : OwnB w' base v L := by
  obtain ⟨g, R, rfl, hg, hh⟩ := h
  exact ⟨g, R, rfl, hg, by rw [hb.block g (Array.getElem?_eq_some_iff.1 hh).1]; exact hh⟩
theorem OwnB.bytesAt {w : World} {base : Nat} {v : Value} {L : List Nat} (h : OwnB w base v L) : BytesAt w v L := by
  obtain ⟨g, R, rfl, hg, hh⟩ := h
  exact bytesAt_row w g (L ++ R) L _ _ (by unfold rowOf; rw [hh]) (Array.getElem?_eq_some_iff.1 hh).1 (by simp) (by simp) (List.take_left' rfl)
theorem shr_byte (c J : Nat) (hJ : J < 8) (hc : c < 18446744073709551616) : ((c : Int) / 2 ^ (8 * J)) % 256 = ((c / 2 ^ (8 * J) % 256 : Nat) : Int) := by
  have _ := hJ
  have _ := hc
  have e : ((c : Int) / 2 ^ (8 * J)) = ((c / 2 ^ (8 * J) : Nat) : Int) := by push_cast; rfl
  rw [e]; omega
theorem app_first (w : World) (base : Nat) (a : Option Addr) (b : List Nat) (cap : Nat) (hbase : base = w.heap.size) (hv : BytesAt w (.slice a b.length cap) b) (hmax : b.length ≤ 950000) :
    ∃ v' w', (∀ ty, (app22 ty #[.slice (some ⟨w.heap.size, 0, none⟩) 0 0, .slice a b.length cap]).run Tryz.prog (w.alloc (.cells #[] 5)) = .ok v' w') ∧ OwnB w' base v' b ∧ Below base w w' ∧ w.heap.size + 1 ≤ w'.heap.size := by
  subst hbase
  have hb0 : Below w.heap.size w (w.alloc (.cells #[] 5)) := (Below.refl _ _).alloc (Nat.le_refl _) _
  by_cases h0 : 0 < b.length
  · obtain ⟨v1, w1, hr1, ho1, hbl1, hz1⟩ := app_own (w.alloc (.cells #[] 5)) w.heap.size (.slice (some ⟨w.heap.size, 0, none⟩) 0 0) [] a b cap ⟨w.heap.size, [], rfl, Nat.le_refl _, heap_alloc_last w _⟩ (hv.below hb0) h0 (by simp; omega)
    exact ⟨v1, w1, hr1, by simpa using ho1, hb0.trans hbl1, by simpa using hz1⟩
  · obtain rfl : b = [] := List.eq_nil_of_length_eq_zero (by omega)
    exact ⟨_, _, app_none (w.alloc (.cells #[] 5)) (some ⟨w.heap.size, 0, none⟩) a 0 0 cap (Nat.le_refl _), ⟨w.heap.size, [], rfl, Nat.le_refl _, heap_alloc_last w _⟩, hb0, by simp⟩
def lenV : Value → Nat
  | .slice _ l _ => l
  | _ => 0
theorem OwnB.len {w : World} {base : Nat} {v : Value} {L : List Nat} (h : OwnB w base v L) : lenV v = L.length := by
  obtain ⟨g, R, rfl, hg, hh⟩ := h; rfl
set_option linter.unusedSimpArgs false in
set_option maxRecDepth 20000 in
set_option maxHeartbeats 2000000 in
theorem refSum_any (a : Option Addr) (n cap : Nat) (b : List Nat) (w : World) (hn : b.length = n) (hv : BytesAt w (.slice a n cap) b) (hb : Sha.Bytes b) (hmax : n ≤ 950000) :
    Calls Tryz.prog 22 #[.slice a n cap] w fun e w' => e = .returned (.agg (E8 (Sha.sum b))) ∧ Below w.heap.size w w' := by
  subst hn
  have hbA : Below w.heap.size w (w.alloc (.cells Z25 25)) := (Below.refl _ _).alloc (Nat.le_refl _) _
  obtain ⟨v1, w1, hr1, ho1, hbl1, hz1⟩ := app_first (w.alloc (.cells Z25 25)) (w.heap.size + 1) a b cap (by simp) (hv.below hbA) hmax
  have HR1 := hide hr1
  obtain ⟨D, hD⟩ : ∃ D : Nat → List Nat, D = fun k => b ++ [128] ++ List.replicate k 0 := ⟨_, rfl⟩
  have HD0 : Hid (b ++ [128] = D 0) := by rw [hD]; simp [Hid]
  have HDs : Hid (∀ k, D k ++ [0] = D (k + 1)) := fun k => by rw [hD]; simp [List.replicate_succ']
  have HDl : Hid (∀ k, (D k).length = b.length + 1 + k) := fun k => by rw [hD]; simp; omega
  have HDe : Hid (D (Sha.gap b.length) ++ Sha.count (8 * b.length) = Sha.padded b) := by rw [hD]; exact rfl
  have HG : Hid (∀ k, k ≤ Sha.gap b.length → ((b.length + 1 + k) % 64 = 56 ↔ k = Sha.gap b.length)) := fun k hk => Sha.gap_at _ k hk
  have hgl := Sha.gap_lt b.length
  have HPl := hide (Sha.padded_length b)
  have HPb := hide (Sha.padded_bytes hb)
  have HSum := hide (Sha.sum_padded b)
  have HRl : Hid ((Sha.sum b).length = 32) := Sha.sumBehind_length _ _ _
  generalize Sha.sum b = R at *
  generalize Sha.padded b = M at *
  generalize Sha.gap b.length = gp at *
  generalize hCn : Sha.count (8 * b.length) = C at *
  have HCt : Hid (∀ J, J < 8 → C.take (8 - J) = C.take (8 - (J + 1)) ++ [8 * b.length / 2 ^ (8 * J) % 256]) := fun J hJ => by rw [← hCn]; exact Sha.count_take _ J hJ
  have HCl : Hid (C.length = 8) := by rw [← hCn]; exact rfl
  generalize hQ : b.length / 64 + Sha.endOf (b.length % 64) / 64 = Q at *
  have HQb : Hid (Q ≤ 15000) := by rw [← hQ]; have := Sha.endOf_cases (b.length % 64); show _ ≤ _; omega
  clear hD hCn hb hr1 hv
  have hbl1' : Below (w.heap.size + 1) (w.alloc (.cells Z25 25)) w1 := hbl1
  have hz1' : w.heap.size + 1 + 1 ≤ w1.heap.size := by simpa using hz1
  go_enter Tryz.func22, Tryz.ntmps22
  go_wp2_with fail
  have hr1 := unhide HR1
  simp only [World.size_alloc] at hr1
  rw [hr1]
  clear hr1 HR1
  go_wp2_with fail
  obtain ⟨v2, w2, hr2, ho2, hbl2, hz2⟩ := app_own (w1.alloc (.cells #[.int .u8 128] 5)) (w.heap.size + 1) v1 b (some ⟨w1.heap.size, 0, none⟩) [128] 1 (ho1.alloc _) (one_at w1 128) (by simp) (by simp; omega)
  simp only [List.length_singleton] at hr2
  rw [hr2]
  clear hr2
  have hbl2' : Below (w.heap.size + 1) (w.alloc (.cells Z25 25)) w2 := (hbl1'.alloc (by omega) _).trans hbl2
  rw [unhide HD0] at ho2
  clear hbl1 hbl1' hz1 hz1' hbl2 hz2 ho1
  go_wp2_with fail
  go_loopw [3] (fun v wr => ∃ k : Nat, k ≤ gp ∧ OwnB wr (w.heap.size + 1) v (D k) ∧ Below (w.heap.size + 1) (w.alloc (.cells Z25 25)) wr) (fun v _ => b.length + 100 - lenV v)
  case atStart => exact ⟨0, by omega, ho2, hbl2'⟩
  case round =>
    obtain ⟨k, hk, ho, hbl⟩ := hrel
    clear ho2 hbl2'
    have hDl := unhide HDl k
    have hlv := hide ho.len
    have HO := hide ho
    have hzr : w.heap.size + 1 ≤ wr.heap.size := by have := hbl.size; simpa using this
    obtain ⟨g, Rs, rfl, hg, hh⟩ := ho
    by_cases hlt : k = gp
    · have hm : (b.length + 1 + k) % 64 = 56 := (unhide HG k hk).2 hlt
      subst hlt
      have hm' : (((b.length + 1 + k : Nat) : Int).tmod 64 != 56) = false := by rw [Int.tmod_eq_emod_of_nonneg (by omega), bne_eq_false_iff_eq]; omega
      have hm'' : (((b.length + 1 + k : Nat) : Int) % 64 != 56) = false := by rw [bne_eq_false_iff_eq]; omega
      rw [hDl]
      generalize hX : b.length + 1 + k = X at *
      have ho' : OwnB wr (w.heap.size + 1) (.slice (some ⟨g, 0, none⟩) X (D k ++ Rs).length) (D k) := by rw [← hDl]; exact unhide HO
      generalize (D k ++ Rs).length = Cp at *
      go_wp2_with fail
      go_loopw [3, 5] (fun v vj wr => ∃ J : Nat, J ≤ 8 ∧ vj = .int .i64 ((J : Int) - 1) ∧ OwnB wr (w.heap.size + 1) v (D k ++ C.take (8 - J)) ∧ Below (w.heap.size + 1) (w.alloc (.cells Z25 25)) wr) (fun _ vj _ => (intOf vj + 1).toNat)
      case atStart => exact ⟨8, by omega, rfl, by rw [Nat.sub_self, List.take_zero, List.append_nil]; exact ho', hbl⟩
      case round =>
        clear ho' HO hlv hbl hzr hg hh
        rename_i wr0 v0 vj0
        obtain ⟨J, hJ, rfl, ho, hbl⟩ := hrel
        by_cases hJ0 : 0 < J
        · obtain ⟨J, rfl⟩ : ∃ q, J = q + 1 := ⟨J - 1, by omega⟩
          rw [show (((J + 1 : Nat) : Int) - 1) = (J : Int) by omega]
          have hsh := shr_byte (8 * b.length) J (by omega) (by omega)
          rw [show ((8 * b.length : Nat) : Int) = (b.length : Int) * 8 by omega] at hsh
          have hC := hide (unhide HCt J (by omega))
          generalize 8 * b.length / 2 ^ (8 * J) % 256 = x at *
          have hzr : w.heap.size + 1 ≤ wr.heap.size := by have := hbl.size; simpa using this
          have hCl : Hid ((C.take (8 - (J + 1))).length ≤ 8) := by show _ ≤ _; rw [List.length_take, unhide HCl]; omega
          go_wp2_with fail
          obtain ⟨v', w', hr, ho2, hbl', hz'⟩ := app_own (wr.alloc (.cells #[.int .u8 (x : Int)] 5)) (w.heap.size + 1) _ _ (some ⟨wr.heap.size, 0, none⟩) [x] 1 (ho.alloc _) (one_at wr x) (by simp) (by have := unhide hCl; rw [List.length_append, hDl]; simp only [List.length_singleton]; omega)
          simp only [List.length_singleton] at hr
          rw [hr]
          clear hr
          have hbl2 : Below (w.heap.size + 1) (w.alloc (.cells Z25 25)) w' := (hbl.alloc hzr _).trans hbl'
          rw [List.append_assoc, ← unhide hC] at ho2
          go_wp2
          go_roundw
          case rel => exact ⟨J, by omega, by first | rfl | go_num, ho2, hbl2⟩
          case measure => simp [intOf]; try omega
        · obtain rfl : J = 0 := by omega
          rw [show 8 - 0 = 8 from rfl, List.take_of_length_le (by rw [unhide HCl]; omega), unhide HDe] at ho
          go_wp2_with fail
          refine (k_any _).mono ?_
          rintro e w5 ⟨rfl, hb5⟩
          have hz5 : wr.heap.size + 1 ≤ w5.heap.size := by have := hb5.size; simpa using this
          have hr5 : rowOf w5 wr.heap.size = E32 Sha.start.list := by rw [below_rowOf hb5 (by simp)]; simp [go_sem]; rfl
          have hf5 : fits w5 wr.heap.size 8 = true := by rw [below_fits hb5 (by simp)]; simp [go_sem]
          have hb5' : Below wr.heap.size wr w5 := ((Below.refl _ _).alloc (Nat.le_refl _) _).trans (hb5.mono (by simp))
          clear hb5
          obtain ⟨St, hSt⟩ : ∃ St : Nat → Sha.St, St = Sha.blocks Sha.start M := ⟨_, rfl⟩
          have HS0 : Hid (Sha.start = St 0) := by rw [hSt]; exact rfl
          have HSn : Hid (∀ j, St (j + 1) = Sha.block (St j) ((M.drop (64 * j)).take 64)) := fun j => by rw [hSt]; exact rfl
          have HSok : Hid (∀ j, (St j).ok) := fun j => by rw [hSt]; exact Sha.blocks_ok Sha.start_ok M j
          have HSe : Hid (Sha.out (St Q) = R) := by rw [hSt]; exact unhide HSum
          rw [unhide HS0] at hr5
          have hMl := unhide HPl
          have hzr : w.heap.size + 1 ≤ wr.heap.size := by have := hbl.size; simpa using this
          have hvM := hide ho.bytesAt
          obtain ⟨g3, R3', rfl, hg3, hh3⟩ := ho
          rw [hMl] at hvM ⊢
          have hC3 : 64 * Q ≤ (M ++ R3').length := by simp; omega
          generalize (M ++ R3').length = C3 at *
          have hg3z : g3 < wr.heap.size := (Array.getElem?_eq_some_iff.1 hh3).1
          have HMc : Hid (∀ i, i < 64 * Q → wr.cell? ⟨g3, i, none⟩ = some (.int .u8 ((Sha.nth M i : Nat) : Int))) := fun i hi => by
            rw [cell_of_row wr g3 i _ 5 _ hh3, E8_get _ _ (by simp; omega), Sha.nth_append_left (by omega)]
          have hQb := unhide HQb
          clear hSt hh3 HSum HPl hvM hMl HDl HDs HDe HD0 HG HCt hm hm' hm''
          generalize wr = W4 at *
          go_wp2_with fail
          go_loopw [8] (fun q wr' => ∃ j : Nat, j ≤ Q ∧ q = .int .i64 ((64 * j : Nat) : Int) ∧ Below W4.heap.size W4 wr' ∧ rowOf wr' W4.heap.size = E32 (St j).list ∧ fits wr' W4.heap.size 8 = true ∧ rowOf wr' w5.heap.size = E32 Sha.K ∧ w5.heap.size < wr'.heap.size) (fun q _ => 64 * Q - (intOf q).toNat)
          case atStart => exact ⟨0, by omega, rfl, hb5'.alloc (by omega) _, by rw [rowOf_alloc_past _ _ _ (by omega)]; exact hr5, by rw [fits_alloc_past _ _ _ _ (by omega)]; exact hf5, rowOf_alloc_at _ _ _ _ rfl, by simp⟩
          case round =>
            clear hb5' hr5 hf5
            obtain ⟨j, hj, rfl, hbr, hrow, hfit, hkr, hkz⟩ := hrel
            have hrs : (rowOf wr W4.heap.size).size = 8 := by rw [hrow]; simp
            have hok := hide (unhide HSok j)
            have hSn := hide (unhide HSn j)
            have hMb : Hid (Sha.Bytes ((M.drop (64 * j)).take 64)) := ((unhide HPb).drop _).take _
            by_cases hlt : j < Q
            · have hcells : Hid (∀ (w' : World), Below W4.heap.size W4 w' → ∀ i, i < 64 → w'.cell? ⟨g3, 64 * j + i, none⟩ = some (.int .u8 ((Sha.nth ((M.drop (64 * j)).take 64) i : Nat) : Int))) := fun w' hw' i hi => by
                rw [hw'.cell (p := ⟨g3, 64 * j + i, none⟩) hg3z, unhide HMc _ (by omega), Sha.nth_take hi, Sha.nth_drop]
              have hblk := fun (w' : World) (hw' : Below W4.heap.size W4 w') (h1 : rowOf w' w5.heap.size = E32 Sha.K) (h2 : w5.heap.size < w'.heap.size) => block_any (St j) g3 (64 * j) (C3 - 64 * j) w5.heap.size _ w' (unhide hok) (unhide hMb) (by omega) (Nat.lt_of_lt_of_le hg3z hw'.size) h2 h1 (unhide hcells w' hw')
              rw [← unhide hSn] at hblk
              have HBLK := hide hblk
              have hdz : ¬ (C3 = 64 * j) := by omega
              have hjq : 64 * j < 64 * Q := by omega
              have hjq2 : 64 * j + 64 ≤ 64 * Q := by omega
              have hz4 : W4.heap.size < w5.heap.size := by omega
              have hKR := hide hkr
              have hROW := hide hrow
              clear hblk hok hSn hMb hcells HSn HSok HMc hkr
              have hj1 : (64 * j : Nat) ≤ 990000 := by omega
              generalize hJJ : 64 * j = jj at *
              generalize hQQ : 64 * Q = qq at *
              have hz8 := list_eight (St j)
              have hj64 : jj + 64 ≤ C3 := by omega
              have hs1 : 0 ≤ (jj : Int) + 64 := by omega
              have hs2 : (jj : Int) + 64 ≤ (C3 : Int) := by omega
              have hs3 : ((jj : Int) + 64).toNat = jj + 64 := by omega
              have hs4 : jj + 64 - jj = 64 := by omega
              have hs5 : IntKind.i64.wrap ((jj : Int) + 64) = (jj : Int) + 64 := IntWalk.i64_in _ (by omega)
              clear HPb HSe HRl HCl HQb HS0 hQb hj hlt hX hgl hk hDl hQ hJ hJ0 hmax hbl
              generalize hKK : E32 Sha.K = KK at *
              clear hKK
              have hS8 := list_eight (St (j + 1))
              go_wp2_with fail
              refine wp_region_noPanic ?_
              refine wp_region_held_drew (S := fun _ => True) (by kernel_rfl) trivial (fun hHeld => ?_)
              refine wpAnyH_take (i := 1) (v := .slice (some ⟨g3, 0, none⟩) qq C3) rfl (by kernel_rfl) (by kernel_rfl) (by kernel_rfl) (fun _ _ _ h => h) (Or.inl ⟨by rfl, ?_⟩) hHeld ?_
              · intro w' _; go_simp
              try simp only [Act.put, List.getElem_toArray, List.getElem_cons_zero, List.getElem_cons_succ, List.setIfInBounds_toArray, List.set_cons_zero, List.set_cons_succ]
              refine wpAnyH_take (i := 2) (v := .int .i64 (jj : Int)) rfl (by kernel_rfl) (by kernel_rfl) (by kernel_rfl) (fun _ _ _ h => h) (Or.inl ⟨by rfl, ?_⟩) hHeld ?_
              · intro w' _; go_simp
              try simp only [Act.put, List.getElem_toArray, List.getElem_cons_zero, List.getElem_cons_succ, List.setIfInBounds_toArray, List.set_cons_zero, List.set_cons_succ]
              refine wpAnyH_take (i := 3) (v := .int .i64 (jj : Int)) rfl (by kernel_rfl) (by kernel_rfl) (by kernel_rfl) (fun _ _ _ h => h) (Or.inl ⟨by rfl, ?_⟩) hHeld ?_
              · intro w' _; go_simp
              try simp only [Act.put, List.getElem_toArray, List.getElem_cons_zero, List.getElem_cons_succ, List.setIfInBounds_toArray, List.set_cons_zero, List.set_cons_succ]
              refine wpAnyH_take (i := 4) (v := .int .i64 ((jj : Int) + 64)) rfl (by kernel_rfl) (by kernel_rfl) (by kernel_rfl) (fun _ _ _ h => h) (Or.inl ⟨by rfl, ?_⟩) hHeld ?_
              · intro w' _; go_simp
              try simp only [Act.put, List.getElem_toArray, List.getElem_cons_zero, List.getElem_cons_succ, List.setIfInBounds_toArray, List.set_cons_zero, List.set_cons_succ]
              refine wpAnyH_take (i := 5) (v := .slice (some ⟨g3, jj, none⟩) 64 (C3 - jj)) rfl (by kernel_rfl) (by kernel_rfl) (by kernel_rfl) (fun _ _ _ h => h) (Or.inl ⟨by rfl, ?_⟩) hHeld ?_
              · intro w' _; go_simp
              try simp only [Act.put, List.getElem_toArray, List.getElem_cons_zero, List.getElem_cons_succ, List.setIfInBounds_toArray, List.set_cons_zero, List.set_cons_succ]
              refine wpAnyH_ready (rs := [0]) (by kernel_rfl) (by simp) (AllReadyH.cons rfl (fun K hK => ?_) AllReadyH.nil)
              simp only [List.getElem_toArray, List.getElem_cons_zero, List.getElem_cons_succ]
              go_simp
              refine hK.out _ _ trivial (fun hHeld => ?_)
              clear hK K
              try simp only [Act.put, List.getElem_toArray, List.getElem_cons_zero, List.getElem_cons_succ, List.setIfInBounds_toArray, List.set_cons_zero, List.set_cons_succ]
              refine wpAnyH_ready (rs := [6]) (by kernel_rfl) (by simp) (AllReadyH.cons rfl (fun K hK => ?_) AllReadyH.nil)
              simp only [List.getElem_toArray, List.getElem_cons_zero, List.getElem_cons_succ]
              go_simp
              refine (unhide HBLK _ hbr.drew (by rw [rowOf_drew]; exact unhide hKR) (by simpa using hkz)).mono ?_
              rintro e w6 ⟨rfl, hb6⟩
              have hz6 : wr.heap.size ≤ w6.heap.size := by have := hb6.size; simpa using this
              have hz7 := hbr.size
              have hfit6 : fits w6 W4.heap.size 8 = true := by rw [below_fits hb6 (by simp; omega), fits_drew]; exact hfit
              have hkr6 : Hid (rowOf w6 w5.heap.size = KK) := by show _ = _; rw [below_rowOf hb6 (by simpa using hkz), rowOf_drew]; exact unhide hKR
              have hbr6 : Below W4.heap.size W4 w6 := hbr.drew.trans (hb6.mono (by simp; omega))
              clear hb6
              refine hK.out _ _ trivial (fun hHeld => ?_)
              clear hK K
              try simp only [Act.put, List.getElem_toArray, List.getElem_cons_zero, List.getElem_cons_succ, List.setIfInBounds_toArray, List.set_cons_zero, List.set_cons_succ]
              refine wpAnyH_ready (rs := [7]) (by kernel_rfl) (by simp) (AllReadyH.cons rfl (fun K hK => ?_) AllReadyH.nil)
              simp only [List.getElem_toArray, List.getElem_cons_zero, List.getElem_cons_succ]
              go_simp
              refine hK.out _ _ trivial (fun hHeld => ?_)
              clear hK K
              refine wpAnyH_done (by kernel_rfl) ?_ _
              refine NoPanic.normal ?_
              clear hHeld
              go_wp2
              go_roundw
              case rel => exact ⟨j + 1, by omega, by go_num, below_setRow hbr6 (Nat.le_refl _) _, by rw [rowOf_setRow_at _ _ 8 _ hfit6], fits_setRow_at _ _ _ _ hfit6 (by simp), by rw [rowOf_of (setRow_other _ _ _ _ (by omega))]; exact unhide hkr6, by simp; omega⟩
              case measure => simp [intOf]; omega
            · obtain rfl : j = Q := by omega
              obtain ⟨F, hF⟩ : ∃ F : Nat → List Nat, F = fun k => padTo 32 (Sha.outTo (St j).list k) := ⟨_, rfl⟩
              have HF0 : Hid (Z25 = E8 (F 0)) := by rw [hF]; exact rfl
              have HFl : Hid (∀ k, k ≤ 32 → (F k).length = 32) := fun k hk => by rw [hF]; exact padTo_length _ _ (by rw [Sha.outTo_length]; omega)
              have HFs : Hid (∀ k, k < 32 → (F k).set k (Sha.outAt (St j).list k) = F (k + 1)) := fun k hk => by rw [hF]; exact padTo_set 32 _ _ _ (Sha.outTo_length _ _) hk
              have HFe : Hid (F 32 = R) := by rw [← unhide HSe, hF]; exact padTo_full _ _ (Sha.outTo_length _ _)
              have hz8 := list_eight (St j)
              have HC8 : Hid (∀ i, i < 8 → wr.cell? ⟨W4.heap.size, i, none⟩ = some (.int .u32 ((Sha.nth (St j).list i : Nat) : Int))) := fun i hi => row_cell32 _ _ _ hrow i (by omega)
              have hz7 := hbr.size
              have hfr : fits wr w.heap.size 32 = true := by
                rw [below_fits hbr (by omega), below_fits hbl (by omega)]; simp [go_sem]
              have hbw : Below w.heap.size w wr := hbA.trans ((hbl.mono (by omega)).trans (hbr.mono (by omega)))
              have hwz : W4.heap.size < wr.heap.size := by omega
              have hwz2 : w.heap.size < wr.heap.size := by omega
              have hRl := hide (unhide HRl)
              generalize wr = W7 at *
              clear hF HPb HSe HRl HCl HQb HS0 hX hgl hk hDl hQ hJ hJ0 hmax hbl hj hlt hok hSn hMb HSn HSok HMc hkr hrs hrow hfit hbr
              generalize 64 * j = jj at *
              generalize hKK : E32 Sha.K = KK at *
              clear hKK
              go_wp2_with fail
              go_loopw [10] (fun c wr => ∃ k n : Nat, k ≤ 32 ∧ c = .int .i64 (k : Int) ∧ wr = (W7.alloc (.cells (E8 (F k)) 25)).drewN n) (fun c _ => 32 - (intOf c).toNat)
              case atStart => exact ⟨0, 0, by omega, rfl, by rw [← unhide HF0]; rfl⟩
              case round =>
                obtain ⟨k, n, hk, rfl, rfl⟩ := hrel
                have hpl := unhide HFl k hk
                by_cases hlt : k < 32
                · have hq : k / 4 < 8 := by omega
                  have hck := unhide HC8 (k / 4) hq
                  go_wp2
                  go_roundw
                  case rel => exact ⟨k + 1, n, by omega, by go_num, by rw [← unhide HFs k hlt, outAt_cast, E8_set]⟩
                  case measure => simp [intOf]; omega
                · obtain rfl : k = 32 := by omega
                  rw [unhide HFe] at hpl ⊢
                  go_wp2
                  refine bodyPost_ret (v := .agg (E8 R)) (res25 Tryz.results22 rfl ?_ (by simp [hpl])) rfl ⟨rfl, ?_⟩
                  · rw [rowOf_drewN, rowOf_alloc_past _ _ _ (by simp; omega), rowOf_setRow_at _ _ 32 _ hfr]
                  · exact below_drews ((below_setRow hbw (Nat.le_refl _) _).alloc (by simp; omega) _) _
    · have hm : ¬ (b.length + 1 + k) % 64 = 56 := fun h => hlt ((unhide HG k hk).1 h)
      have hm'' : (((b.length + 1 + k : Nat) : Int) % 64 != 56) = true := by rw [bne_iff_ne]; omega
      rw [hDl]
      generalize hX : b.length + 1 + k = X at *
      have ho' : OwnB wr (w.heap.size + 1) (.slice (some ⟨g, 0, none⟩) X (D k ++ Rs).length) (D k) := by rw [← hDl]; exact unhide HO
      generalize (D k ++ Rs).length = Cp at *
      go_wp2_with fail
      obtain ⟨v', w', hr, ho2, hbl', hz'⟩ := app_own (wr.alloc (.cells #[.int .u8 0] 5)) (w.heap.size + 1) _ (D k) (some ⟨wr.heap.size, 0, none⟩) [0] 1 (ho'.alloc _) (one_at wr 0) (by simp) (by simp; omega)
      simp only [List.length_singleton] at hr
      rw [hr]
      clear hr
      have hbl2 : Below (w.heap.size + 1) (w.alloc (.cells Z25 25)) w' := (hbl.alloc hzr _).trans hbl'
      rw [unhide HDs] at ho2
      have hl2 := ho2.len
      rw [unhide HDl] at hl2
      go_wp2
      go_roundw
      case rel => exact ⟨k + 1, by omega, ho2, hbl2⟩
      case measure => rw [hl2]; show _ < b.length + 100 - X; omega
end Go.Proofs.YtlbfcneboaihnaaGreatDoor.Dg
/- The Hasher's leaves: its size, how many bytes it holds, its length. -/
namespace Go.Proofs.YtlbfcneboaihnaaGreatDoor.Dg
open Go.RowKit Go.Great
attribute [local go_sem] f_8 f_1024 f_hi4 f_lo4
set_option maxRecDepth 20000 in
set_option maxHeartbeats 400000 in
theorem load_any (b o : Nat) (x : Int) (w : World) (hc : w.cell? ⟨b, o, none⟩ = some (.int .i64 x)) :
    Calls Tryz.prog 40 #[.pointer (some ⟨b, o, none⟩)] w fun e w' => e = .returned (.int .i64 x) ∧ w' = w := by
  have hl := run_call_load (P := Tryz.prog) Tryz.func65 (by kernel_rfl) (by kernel_rfl) (by kernel_rfl) .i64 (by kernel_rfl) hc
  go_enter Tryz.func40, Tryz.ntmps40
  go_wp2
  go_ret
  exact ⟨rfl, rfl⟩
set_option maxRecDepth 20000 in
set_option maxHeartbeats 400000 in
theorem add_any (b o : Nat) (x y s : Int) (w : World) (hc : w.cell? ⟨b, o, none⟩ = some (.int .i64 x)) (hz : w.frozen? ⟨b, o, none⟩ = false) (hs : s = x + y) (h1 : 0 ≤ s) (h2 : s ≤ 4611686018427387904) :
    Calls Tryz.prog 33 #[.pointer (some ⟨b, o, none⟩), .int .i64 y] w fun e w' => e = .returned (.int .i64 s) ∧ w' = w.setCell ⟨b, o, none⟩ (.int .i64 s) := by
  subst hs
  have hl := run_call_add (P := Tryz.prog) Tryz.func57 (by kernel_rfl) (by kernel_rfl) (by kernel_rfl) .i64 (by kernel_rfl) (y := y) (s := x + y) hc hz (by
    have e : IntKind.i64.wrap (x + y) = x + y := IntWalk.i64_in _ (by omega)
    simp [Op.intArith, go_sem, e])
  go_enter Tryz.func33, Tryz.ntmps33
  go_wp2
  go_ret
  exact ⟨rfl, rfl⟩
set_option maxRecDepth 20000 in
set_option maxHeartbeats 400000 in
theorem held_any (g : Nat) (N : Nat) (w : World) (hN : N ≤ 4611686018427387904) (hc : w.cell? ⟨g, 72, none⟩ = some (.int .i64 (N : Int))) :
    Calls Tryz.prog 32 #[.pointer (some ⟨g, 0, none⟩)] w fun e w' => e = .returned (.int .i64 ((N % 64 : Nat) : Int)) ∧ w' = w := by
  have HL := hide (load_any g 72 N w hc)
  go_enter Tryz.func32, Tryz.ntmps32
  go_wp2_with (go_at_call 40; refine (unhide HL).mono ?_; rintro e w' ⟨rfl, hw'⟩; rw [hw']; clear hw' w')
  go_ret
  exact ⟨ret_int (by omega), rfl⟩
/-- The Once's word, and its lock. -/
structure DL where
  w : Int
  lk : Int
def dz : DL := ⟨0, 0⟩
/-- The cells of a Hasher: the state, what no full block holds yet, how many bytes, the Once's word and lock, whether it is told, the digest. -/
def hcells (st rest : List Nat) (N : Int) (done : DL) (told : Bool) (sum : List Nat) : Array Value :=
  E32 st ++ E8 rest ++ #[.int .i64 N, .int .u32 done.w, .int .i32 done.lk, .int .u32 0, .bool told] ++ E8 sum
def H0 : Array Value := hcells (zs 8) (zs 64) 0 dz false (zs 32)
theorem H0_info : ((Tryz.prog.info? 85).map (fun i => (i.zero, i.size))) = some (some (.agg H0), 109) := by kernel_rfl
end Go.Proofs.YtlbfcneboaihnaaGreatDoor.Dg
/- A new Hasher. -/
namespace Go.Proofs.YtlbfcneboaihnaaGreatDoor.Dg
open Go.RowKit Go.Great
attribute [local go_sem] f_8 f_1024 f_hi4 f_lo4
@[go_sem ↓] theorem zero78 (w : World) : (zeroValue 85).run Tryz.prog w = .ok (.agg H0) w := (zero_of_info H0_info).1 w
@[simp] theorem H0_size : H0.size = 109 := by simp [H0, hcells]
theorem H0_ones : ones H0 = true := by
  simp [ones, H0, hcells, E32, E8, W32, B8, Value.oneCell', zs]
set_option maxRecDepth 20000 in
set_option maxHeartbeats 400000 in
theorem new_any (w : World) : Calls Tryz.prog 13 #[] w fun e w' => e = .returned (.pointer (some ⟨w.heap.size, 0, none⟩)) ∧ w' = w.alloc (.cells H0 85) := by
  go_enter Tryz.func13, Tryz.ntmps13
  go_wp2
  go_ret
  exact ⟨rfl, rfl⟩
end Go.Proofs.YtlbfcneboaihnaaGreatDoor.Dg
/- Parts of a Hasher's block, loaded and stored. -/
namespace Go.Proofs.YtlbfcneboaihnaaGreatDoor.Dg
open Go.RowKit Go.Great
attribute [local go_sem] f_8 f_1024 f_hi4 f_lo4
theorem store_part (w : World) (g o : Nat) (A B C B' : List Value) (h : w.heap[g]? = some (.cells (A ++ B ++ C).toArray 85 (0, 0))) (hA : A.length = o) (hB : B'.length = B.length) (h1 : ∀ v ∈ B', v.oneCell' = true) :
    (storeCells ⟨g, o, none⟩ B').run Tryz.prog w = .ok () (w.setRow g (A ++ B' ++ C).toArray) := by
  have := run_storeCells_at (P := Tryz.prog) g o 85 B' 0 (A ++ B ++ C).toArray w h (by simp; omega) h1
  rw [this]
  have e1 : (A ++ B ++ C).toArray.toList.take (o + 0) = A := by rw [List.toList_toArray, List.append_assoc, Nat.add_zero, List.take_left' hA]
  have e2 : (A ++ B ++ C).toArray.toList.drop (o + 0 + B'.length) = C := by rw [List.toList_toArray, List.drop_left' (by simp; omega)]
  rw [e1, e2]
theorem load_part (w : World) (g o n : Nat) (A B C : List Value) (h : w.heap[g]? = some (.cells (A ++ B ++ C).toArray 85 (0, 0))) (hA : A.length = o) (hB : B.length = n) :
    (loadCells ⟨g, o, none⟩ n).run Tryz.prog w = .ok B.toArray w := by
  subst hB
  refine run_loadCells_list (P := Tryz.prog) (w := w) ⟨g, o, none⟩ B (fun j v hj => ?_)
  rw [Addr.add_mid, cell_of_row w g (o + j) _ 85 _ h]
  have hj' := (List.getElem?_eq_some_iff.1 hj).1
  rw [List.getElem?_toArray, List.append_assoc, List.getElem?_append_right (by omega), hA, Nat.add_sub_cancel_left, List.getElem?_append_left hj']
  exact hj
/-- A Hasher in a block of its own. -/
def HasH (w : World) (g : Nat) (st rest : List Nat) (N : Int) (done : DL) (told : Bool) (sum : List Nat) : Prop :=
  w.heap[g]? = some (.cells (hcells st rest N done told sum) 85 (0, 0)) ∧ st.length = 8 ∧ rest.length = 64 ∧ sum.length = 32
def mids (N : Int) (done : DL) (told : Bool) : List Value := [.int .i64 N, .int .u32 done.w, .int .i32 done.lk, .int .u32 0, .bool told]
theorem hcells_list (st rest : List Nat) (N : Int) (done : DL) (told : Bool) (sum : List Nat) :
    hcells st rest N done told sum = (st.map W32 ++ rest.map B8 ++ mids N done told ++ sum.map B8).toArray := by
  unfold hcells E32 E8 mids; simp
theorem w32_one (l : List Nat) : ∀ v ∈ l.map W32, v.oneCell' = true := fun v hv => by obtain ⟨x, -, rfl⟩ := List.mem_map.1 hv; rfl
theorem b8_one (l : List Nat) : ∀ v ∈ l.map B8, v.oneCell' = true := fun v hv => by obtain ⟨x, -, rfl⟩ := List.mem_map.1 hv; rfl
theorem loadVar_of (w : World) (ty n : Nat) (a : Addr) (c : Array Value) (d : TypeDesc) (hu : Tryz.prog.underlying ty = some d) (hd : (match d with | .struct _ | .array _ _ => true | _ => false) = true)
    (hi : (Tryz.prog.info? ty).map (·.size) = some n) (hl : (loadCells a n).run Tryz.prog w = .ok c w) : (loadVar ty a).run Tryz.prog w = .ok (.agg c) w := by
  cases hq : Tryz.prog.info? ty with
  | none => simp [hq] at hi
  | some i =>
    have hs : i.size = n := by simpa [hq] using hi
    have hagg : (isAgg ty).run Tryz.prog w = .ok true w := by
      cases d <;> simp_all [isAgg, run_underlying hu]
    simp [loadVar, hagg, sizeOf, typeInfo, hq, hs, hl]
theorem storeVar_of (w w' : World) (ty n : Nat) (a : Addr) (c : Array Value) (hi : (Tryz.prog.info? ty).map (·.size) = some n) (hc : c.size = n) (hl : (storeCells a c.toList).run Tryz.prog w = .ok () w') : (storeVar ty a (.agg c)).run Tryz.prog w = .ok () w' := by
  cases hq : Tryz.prog.info? ty with
  | none => simp [hq] at hi
  | some i =>
    have hs : i.size = n := by simpa [hq] using hi
    simp [storeVar, sizeOf, typeInfo, hq, hs, hl, Value.cells, hc]
theorem HasH.ld68 {w : World} {g : Nat} {st rest sum : List Nat} {N : Int} {done : DL} {told : Bool} (h : HasH w g st rest N done told sum) : (ld68 (.pointer (some ⟨g, 0, none⟩))).run Tryz.prog w = .ok (.agg (E32 st)) w := by
  obtain ⟨hh, h8, h64, h32⟩ := h
  rw [hcells_list] at hh
  have := load_part w g 0 8 [] (st.map W32) (rest.map B8 ++ mids N done told ++ sum.map B8) (by simpa [List.append_assoc] using hh) rfl (by simp [h8])
  unfold YtlbfcneboaihnaaGreatDoor.Dg.ld68
  simp only [Instr.loadAt, Instr.sureAddr, Sem.run_bind, Sem.run_pure, Result.andThen]
  exact loadVar_of w 68 8 _ _ _ Tryz.underlying68 rfl (zero_of_info Z68_info).2 this
theorem HasH.st68 {w : World} {g : Nat} {st rest sum : List Nat} {N : Int} {done : DL} {told : Bool} (h : HasH w g st rest N done told sum) (st' : List Nat) (h' : st'.length = 8) :
    (st68 (.pointer (some ⟨g, 0, none⟩)) (.agg (E32 st'))).run Tryz.prog w = .ok () (w.setRow g (hcells st' rest N done told sum)) := by
  obtain ⟨hh, h8, h64, h32⟩ := h
  rw [hcells_list] at hh ⊢
  have := store_part w g 0 [] (st.map W32) (rest.map B8 ++ mids N done told ++ sum.map B8) (st'.map W32) (by simpa [List.append_assoc] using hh) rfl (by simp [h8, h']) (w32_one _)
  unfold YtlbfcneboaihnaaGreatDoor.Dg.st68
  simp only [Instr.storeAt, Instr.sureAddr, Sem.run_bind, Sem.run_pure, Result.andThen]
  exact storeVar_of w _ 68 8 _ (E32 st') (zero_of_info Z68_info).2 (by simp [h']) (by simpa [E32, List.append_assoc] using this)
theorem HasH.setSt {w : World} {g : Nat} {st rest sum : List Nat} {N : Int} {done : DL} {told : Bool} (h : HasH w g st rest N done told sum) (st' : List Nat) (h' : st'.length = 8) :
    HasH (w.setRow g (hcells st' rest N done told sum)) g st' rest N done told sum := by
  obtain ⟨hh, h8, h64, h32⟩ := h
  exact ⟨setRow_heap w g _ _ 85 _ hh, h', h64, h32⟩
theorem HasH.size {w : World} {g : Nat} {st rest sum : List Nat} {N : Int} {done : DL} {told : Bool} (h : HasH w g st rest N done told sum) : w.cell? ⟨g, 72, none⟩ = some (.int .i64 N) := by
  obtain ⟨hh, h8, h64, h32⟩ := h
  rw [hcells_list] at hh
  rw [cell_of_row w g 72 _ 85 _ hh, List.getElem?_toArray, List.append_assoc, List.getElem?_append_right (by simp; omega)]
  have e : 72 - (st.map W32 ++ rest.map B8).length = 0 := by simp; omega
  rw [e]; rfl
end Go.Proofs.YtlbfcneboaihnaaGreatDoor.Dg
