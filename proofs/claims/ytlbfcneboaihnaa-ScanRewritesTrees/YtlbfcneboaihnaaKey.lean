/- A row of digits as a map's key. -/
import Derived.Test.YtlbfcneboaihnaaK6
import Derived.Maps.OwnSet
import Derived.DeepKeys4
namespace Go.Proofs.Ytlbfcneboaihnaa
open Go.RowKit Go.Great Go.ChangeMaps Go.MapKept
open Go.Maps (Keyed)
theorem laidOut : laidOutB Try.prog = true := by kernel_rfl
theorem keyed50 : Keyed Try.prog 82 := Maps.Keyed.of_law (deep_law_laid laidOut (m := 5) (by omega) (of_decide_eq_true (by kernel_rfl)) (by kernel_rfl) (by kernel_rfl))
theorem mapM_all {α β : Type} (f : α → Option β) (g : α → β) : ∀ l : List α, (∀ i ∈ l, f i = some (g i)) → l.mapM f = some (l.map g)
  | [], _ => rfl
  | a :: l, h => by
    rw [List.mapM_cons, h a (by simp), mapM_all f g l (fun i hi => h i (by simp [hi]))]
    rfl
theorem keyType50 : Try.prog.keyType 82 = true := by kernel_rfl
theorem cells50 : Try.prog.cellsOf 82 = 32 := by kernel_rfl
theorem cellsU8 : Try.prog.cellsOf 5 = 1 := by kernel_rfl
theorem sizeT : ∃ n, Try.prog.types.size = n + 1 := ⟨Try.prog.types.size - 1, by have : 0 < Try.prog.types.size := of_decide_eq_true (by kernel_rfl); omega⟩
theorem key50 (d : List Nat) (hl : d.length = 32) (hb : Sha.Bytes d) : ∃ kl, keyOf Try.prog 82 (.agg (E8 d)) = some kl := by
  have hu : ∃ n, Try.prog.underlying 82 = some (.array n 5) ∧ n = 32 := ⟨32, Try.underlying82, rfl⟩
  obtain ⟨n, hu, hn⟩ := hu
  obtain ⟨t, ht⟩ := sizeT
  have hsz : (E8 d).size = 32 := by simp [hl]
  unfold keyOf
  rw [hu]
  simp only [keyType50, Value.formed, hu, hsz, cells50, Bool.true_and, beq_self_eq_true, if_true]
  unfold Program.keyLits
  simp only [hu, Value.cells, cells50, cellsU8]
  rw [if_pos (by rw [Array.length_toList]; exact hsz)]
  rw [mapM_all _ (fun i => [Lit.int .u8 ((Sha.nth d i : Nat) : Int)]) _ (fun i hi => ?_)]
  · exact ⟨_, rfl⟩
  · have hi' : i < 32 := by have := List.mem_range.1 hi; omega
    have hc : ((E8 d).toList.drop (i * 1)).take 1 = [.int .u8 ((Sha.nth d i : Nat) : Int)] := by
      rw [Nat.mul_one, List.drop_eq_getElem_cons (by rw [Array.length_toList]; omega)]
      simp
    rw [hc, ht]
    unfold Program.keyLits
    have hw : (Lit.int .u8 ((Sha.nth d i : Nat) : Int)).wf = true := by
      have := Sha.Bytes.at hb i
      simp [Lit.wf, show IntKind.u8.min = 0 from rfl, show IntKind.u8.max = 255 from rfl]
      omega
    simp [Try.underlying5, hw]
/-- The key of a row. -/
noncomputable def rowKey (d : List Nat) : Lit := (keyOf Try.prog 82 (.agg (E8 d))).getD (.bool false)
theorem rowKey_eq {d : List Nat} (hl : d.length = 32) (hb : Sha.Bytes d) : keyOf Try.prog 82 (.agg (E8 d)) = some (rowKey d) := by
  obtain ⟨kl, h⟩ := key50 d hl hb
  unfold rowKey
  rw [h]; rfl
theorem E8_inj {d e : List Nat} (h : E8 d = E8 e) : d = e := by
  have hs : d.length = e.length := by have := congrArg Array.size h; simpa using this
  apply List.ext_getElem? 
  intro i
  rcases Nat.lt_or_ge i d.length with hi | hi
  · have h1 : (E8 d)[i]? = (E8 e)[i]? := by rw [h]
    rw [Array.getElem?_eq_getElem (by simpa using hi), Array.getElem?_eq_getElem (by simpa [← hs] using hi), E8_getElem, E8_getElem] at h1
    simp [Sha.nth] at h1
    rw [List.getElem?_eq_getElem hi, List.getElem?_eq_getElem (by omega)] at h1 ⊢
    have h2 : ((d[i] : Nat) : Int) = ((e[i] : Nat) : Int) := by simpa using h1
    exact congrArg some (Int.ofNat.inj h2)
  · rw [List.getElem?_eq_none hi, List.getElem?_eq_none (by omega)]
set_option maxRecDepth 20000 in
theorem rowKey_inj {d e : List Nat} (hl : d.length = 32) (hb : Sha.Bytes d) (hl' : e.length = 32) (hb' : Sha.Bytes e) (h : rowKey d = rowKey e) : d = e := by
  have h1 := rowKey_eq hl hb
  have h2 := rowKey_eq hl' hb'
  rw [h] at h1
  have := keyed50.inj h1 h2
  injection this with h3
  exact E8_inj h3
/-- A block holds a set of rows: at most n of them. -/
def RowSet (w : World) (b n : Nat) (S : List Nat → Prop) : Prop :=
  ∃ D : DataW Unit, w.ownsMap Try.prog 82 unitElem b n D ∧ (∀ d, d.length = 32 → Sha.Bytes d → (Maps.has D (rowKey d) = true ↔ S d))
theorem rowSet_made (w : World) : RowSet (w.alloc (.map #[] 0)) w.heap.size 0 (fun _ => False) :=
  ⟨_, World.ownsMap_made w Try.prog 82 unitElem, fun d _ _ => by simp [Maps.has_eq]⟩
set_option maxRecDepth 20000 in
theorem RowSet.drop {w : World} {b n : Nat} {S : List Nat → Prop} (h : RowSet w b n S) (hu : Try.prog.underlying 75 = some (.map 82 80)) {d : List Nat} (hl : d.length = 32) (hb : Sha.Bytes d) (ty : TypeId) :
    ∃ w', (Builtin.delete_ #[75, 82] ty #[.map (some b), .agg (E8 d)]).run Try.prog w = .ok (.tuple #[]) w' ∧ RowSet w' b n (fun e => S e ∧ e ≠ d) ∧ w.mapTurned w' b := by
  obtain ⟨D, ho, hS⟩ := h
  obtain ⟨w', hr, ho', ht⟩ := ho.drop keyed50 hu (rowKey_eq hl hb) ty
  refine ⟨w', hr, ⟨_, ho', fun e hl' hb' => ?_⟩, ht⟩
  by_cases he : e = d
  · subst he
    rw [Maps.has_del_same]; simp
  · rw [Maps.has_del_other (fun h => he (rowKey_inj hl' hb' hl hb h)), hS e hl' hb']
    simp [he]
set_option maxRecDepth 20000 in
theorem RowSet.store {w : World} {b n : Nat} {S : List Nat → Prop} (h : RowSet w b n S) (hu : Try.prog.underlying 75 = some (.map 82 80)) (hn : n < maxLen) {d : List Nat} (hl : d.length = 32) (hb : Sha.Bytes d) :
    ∃ w', (Instr.mapUpdate 75 (.map (some b)) (.agg (E8 d)) (.agg #[])).run Try.prog w = .ok () w' ∧ RowSet w' b (n + 1) (fun e => S e ∨ e = d) ∧ w.mapTurned w' b := by
  obtain ⟨D, ho, hS⟩ := h
  obtain ⟨w', hr, ho', ht⟩ := ho.store keyed50 hu hn (rowKey_eq hl hb) unitElem_mk
  refine ⟨w', hr, ⟨_, ho', fun e hl' hb' => ?_⟩, ht⟩
  by_cases he : e = d
  · subst he
    rw [Maps.has_put_same ho.isMap (keyed50.key (rowKey_eq hl hb))]; simp
  · rw [Maps.has_put_other (fun h => he (rowKey_inj hl' hb' hl hb h)), hS e hl' hb']
    simp [he]
end Go.Proofs.Ytlbfcneboaihnaa
