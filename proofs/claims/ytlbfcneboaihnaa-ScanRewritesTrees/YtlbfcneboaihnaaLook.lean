/- look: its state, and what a step does to it. -/
import Derived.Test.YtlbfcneboaihnaaKey
namespace Go.Proofs.Ytlbfcneboaihnaa
open Go.RowKit Go.Great Go.ChangeMaps Go.MapKept
set_option linter.unusedSimpArgs false
/-- All blocks but one stay. -/
structure Solo (b : Nat) (w w' : World) : Prop where
  os : w'.os = w.os
  tape : w'.tape = w.tape
  output : w'.output = w.output
  size : w.heap.size ≤ w'.heap.size
  block : ∀ k, k < w.heap.size → k ≠ b → w'.heap[k]? = w.heap[k]?
theorem Solo.refl (b : Nat) (w : World) : Solo b w w := ⟨rfl, rfl, rfl, Nat.le_refl _, fun _ _ _ => rfl⟩
/-- The state of the look. -/
structure LookI (g mb n : Nat) (D : DataW Unit) (a : Option Addr) (m c : Nat) (B : List Nat) (w wr : World) (i r : Nat) (D' : DataW Unit) : Prop where
  solo : Solo mb w wr
  own : wr.ownsMap Try.prog 82 unitElem mb n D'
  has : ∀ d, d.length = 32 → Sha.Bytes d → (∀ j, j < 32 → digB (d.getD j 0) = true) → (Maps.has D' (rowKey d) = true ↔ Maps.has D (rowKey d) = true ∧ ¬ StandsBy B d i)
  run : RunAt digB B i r
  cell : wr.cell? ⟨g, 1, none⟩ = some (.map (some mb))
  bytes : BytesAt wr (.slice a m c) B
theorem bytes_at {w : World} {a : Option Addr} {m c : Nat} {B : List Nat} (h : BytesAt w (.slice a m c) B) (hm : B.length = m) (i : Nat) (hi : i < m) : ∃ g o, a = some ⟨g, o, none⟩ ∧ w.cell? ⟨g, o + i, none⟩ = some (.int .u8 ((Sha.nth B i : Nat) : Int)) := by
  obtain ⟨a', cap, e, _, h⟩ := h
  injection e with e1 e2 e3
  subst e1
  obtain ⟨b, o, ea, _, hc⟩ := h (by omega)
  exact ⟨b, o, ea, hc i (by omega)⟩
theorem nth_getD (B : List Nat) (i : Nat) : Sha.nth B i = B.getD i 0 := by rw [List.getD_eq_getElem?_getD]; rfl
theorem LookI.no {g mb n : Nat} {D : DataW Unit} {a : Option Addr} {m c : Nat} {B : List Nat} {w wr : World} {i r : Nat} {D' : DataW Unit} (h : LookI g mb n D a m c B w wr i r D') (hd : digB (B.getD i 0) = false) (hi : i < B.length) : LookI g mb n D a m c B w wr (i + 1) 0 D' :=
  ⟨h.solo, h.own, fun d hl hb hD => by
    rw [h.has d hl hb hD, standsBy_step (d := d) (RunAt.stop hd) (by rw [hl]; exact hD) hi, hl]
    simp, RunAt.stop hd, h.cell, h.bytes⟩
theorem LookI.short {g mb n : Nat} {D : DataW Unit} {a : Option Addr} {m c : Nat} {B : List Nat} {w wr : World} {i r : Nat} {D' : DataW Unit} (h : LookI g mb n D a m c B w wr i r D') (hd : digB (B.getD i 0) = true) (hi : i < B.length) (hr : r + 1 < 32) : LookI g mb n D a m c B w wr (i + 1) (r + 1) D' :=
  ⟨h.solo, h.own, fun d hl hb hD => by
    rw [h.has d hl hb hD, standsBy_step (d := d) (h.run.more hd) (by rw [hl]; exact hD) hi, hl]
    simp [show ¬ 32 ≤ r + 1 by omega], h.run.more hd, h.cell, h.bytes⟩
theorem LookI.drop {g mb n : Nat} {D : DataW Unit} {a : Option Addr} {m c : Nat} {B : List Nat} {w wr wr' : World} {i r : Nat} {D' : DataW Unit} (h : LookI g mb n D a m c B w wr i r D') (hd : digB (B.getD i 0) = true) (hi : i < B.length) (hr : 32 ≤ r + 1) (hB : Sha.Bytes B)
    (ho : wr'.ownsMap Try.prog 82 unitElem mb n (D'.del (rowKey ((B.drop (i + 1 - 32)).take 32)))) (hs : Solo mb w wr') (hc : wr'.cell? ⟨g, 1, none⟩ = some (.map (some mb))) (hb : BytesAt wr' (.slice a m c) B) : LookI g mb n D a m c B w wr' (i + 1) (r + 1) (D'.del (rowKey ((B.drop (i + 1 - 32)).take 32))) :=
  ⟨hs, ho, fun d hl hbd hD => by
    have hle := h.run.le
    have hl0 : ((B.drop (i + 1 - 32)).take 32).length = 32 := by rw [List.length_take, List.length_drop]; omega
    have hb0 : Sha.Bytes ((B.drop (i + 1 - 32)).take 32) := fun x hx => hB x (List.mem_of_mem_drop (List.mem_of_mem_take hx))
    rw [standsBy_step (d := d) (h.run.more hd) (by rw [hl]; exact hD) hi, hl]
    by_cases he : d = (B.drop (i + 1 - 32)).take 32
    · rw [← he, Maps.has_del_same]
      simp [hr]
    · rw [Maps.has_del_other (fun k => he (rowKey_inj hl hbd hl0 hb0 k)), h.has d hl hbd hD]
      rw [or_iff_left (fun k => he k.2.symm)], h.run.more hd, hc, hb⟩
theorem size_zero {w : World} {mb n : Nat} {D : DataW Unit} (h : w.ownsMap Try.prog 82 unitElem mb n D) (hz : Maps.size D = 0) (k : Lit) : Maps.has D k = false := by
  obtain ⟨es, clock, _, _, _, rfl⟩ := h
  rw [Maps.size_eq] at hz
  rw [List.eq_nil_of_length_eq_zero hz]
  rfl
/-- At the end of the look: what is left does not stand. -/
theorem LookI.done {g mb n : Nat} {D : DataW Unit} {a : Option Addr} {m c : Nat} {B : List Nat} {w wr : World} {i r : Nat} {D' : DataW Unit} (h : LookI g mb n D a m c B w wr i r D') (hm : B.length = m) (he : i = m ∨ Maps.size D' = 0) (d : List Nat) (hl : d.length = 32) (hb : Sha.Bytes d) (hD : ∀ j, j < 32 → digB (d.getD j 0) = true) :
    Maps.has D' (rowKey d) = true ↔ Maps.has D (rowKey d) = true ∧ ¬ Stands B d := by
  rcases he with rfl | hz
  · rw [h.has d hl hb hD, ← standsBy_all, hm]
  · have h1 := h.has d hl hb hD
    rw [size_zero h.own hz] at h1 ⊢
    constructor
    · intro k; cases k
    · rintro ⟨h2, h3⟩
      exact h1.2 ⟨h2, fun k => h3 (standsBy_stands k)⟩
end Go.Proofs.Ytlbfcneboaihnaa
