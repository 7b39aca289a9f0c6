/- A set of locks, as a map keyed by pointers. -/
import Derived.Test.YtnlfmmempomcaaaMe
import Derived.LaidEqlPtr
namespace Go.Proofs.Ytnlfmmempomcaaa
open Go.RowKit Go.Maps
set_option linter.unusedSimpArgs false
/-- The keys of a map are these locks. -/
def PSet (w : World) (b : Nat) (sn : List Nat) : Prop := ∃ es clock, w.heap[b]? = some (.map es clock) ∧ (es.toList.map (fun e => e.key) = sn.map fun g => ptr (some g)) ∧ ∀ e ∈ es.toList, e.val = .agg #[]
/-- A block of cells. -/
def Lives (w : World) (g : Nat) : Prop := ∃ ca ta, w.heap[g]? = some (.cells ca ta (0, 0))
theorem info80 : ∃ j, Try.prog.info? 80 = some j ∧ j.size ≠ 0 := by
  have h : (Try.prog.info? 80).map (fun i => i.size) = some 4 := by kernel_rfl
  cases hq : Try.prog.info? 80 with
  | none => simp [hq] at h
  | some i =>
    simp [hq] at h
    exact ⟨i, rfl, by omega⟩
theorem info85 : ∃ j, Try.prog.info? 85 = some j ∧ j.size ≠ 0 := by
  have h : (Try.prog.info? 85).map (fun i => i.size) = some 4 := by kernel_rfl
  cases hq : Try.prog.info? 85 with
  | none => simp [hq] at h
  | some i =>
    simp [hq] at h
    exact ⟨i, rfl, by omega⟩
theorem equal76 (w : World) (g h : Nat) (hg : Lives w g) (hh : Lives w h) : (Op.equal 76 (.pointer (some ⟨g, 0, none⟩)) (.pointer (some ⟨h, 0, none⟩))).run Try.prog w = .ok (decide (g = h)) w := by
  obtain ⟨j, hj, hs⟩ := info80
  obtain ⟨ca, ta, ha⟩ := hg
  obtain ⟨cb, tb, hb⟩ := hh
  by_cases e : g = h
  · subst e
    have h1 : ∀ d : Nat, (Op.equalIn (d + 1) 76 (.pointer (some ⟨g, 0, none⟩)) (.pointer (some ⟨g, 0, none⟩))).run Try.prog w = .ok true w := fun d => by
      simp [Op.equalIn, run_underlying Try.underlying76, sizeOf, typeInfo, hj, run_sameAddr_same]
    rw [decide_eq_true rfl]
    exact h1 9999
  · have hne : (⟨g, 0, none⟩ : Addr) ≠ ⟨h, 0, none⟩ := fun x => e (by injection x)
    have h1 : ∀ d : Nat, (Op.equalIn (d + 1) 76 (.pointer (some ⟨g, 0, none⟩)) (.pointer (some ⟨h, 0, none⟩))).run Try.prog w = .ok false w := fun d => by
      simp [Op.equalIn, run_underlying Try.underlying76, sizeOf, typeInfo, hj, hs, run_sameAddr_other w hne ha hb]
    rw [decide_eq_false e]
    exact h1 9999
theorem equal76_nil (w : World) (h : Nat) : (Op.equal 76 (.pointer none) (.pointer (some ⟨h, 0, none⟩))).run Try.prog w = .ok false w := by
  have h1 : ∀ d : Nat, (Op.equalIn (d + 1) 76 (.pointer none) (.pointer (some ⟨h, 0, none⟩))).run Try.prog w = .ok false w := fun d => by
    simp [Op.equalIn, run_underlying Try.underlying76]
  exact h1 9999
/-- Is a lock in a set? -/
def inSet (o : Option Nat) (sn : List Nat) : Bool := match o with
  | none => false
  | some g => decide (g ∈ sn)
theorem ask76 (w : World) (o : Option Nat) (ho : ∀ g, o = some g → Lives w g) : ∀ (l : List MapEntry) (i : Nat) (sn : List Nat), l.map (fun e => e.key) = sn.map (fun g => ptr (some g)) → (∀ g ∈ sn, Lives w g) → (∀ e ∈ l, e.val = .agg #[]) →
    (inSet o sn = false ∧ (Instr.findAsking 76 (ptr o) l i).run Try.prog w = .ok none w) ∨ (inSet o sn = true ∧ ∃ j, (Instr.findAsking 76 (ptr o) l i).run Try.prog w = .ok (some (j, .agg #[])) w)
  | [], i, sn, h, _, _ => by
    obtain rfl : sn = [] := by cases sn with | nil => rfl | cons _ _ => cases h
    exact .inl ⟨by cases o <;> simp [inSet], rfl⟩
  | e :: es, i, sn, h, hl, hv => by
    cases sn with
    | nil => cases h
    | cons g sn =>
      simp only [List.map_cons, List.cons.injEq] at h
      obtain ⟨h1, h2⟩ := h
      have hr := ask76 w o ho es (i + 1) sn h2 (fun x hx => hl x (List.mem_cons_of_mem _ hx)) (fun x hx => hv x (List.mem_cons_of_mem _ hx))
      have hev := hv e (List.mem_cons_self ..)
      cases o with
      | none =>
        have e1 : (Op.equal 76 (ptr none) e.key).run Try.prog w = .ok false w := by rw [h1]; exact equal76_nil w g
        rcases hr with ⟨a, b⟩ | ⟨a, b⟩
        · exact .inl ⟨rfl, by simp [Instr.findAsking, e1, Result.andThen, b]⟩
        · cases a
      | some q =>
        have e1 : (Op.equal 76 (ptr (some q)) e.key).run Try.prog w = .ok (decide (q = g)) w := by rw [h1]; exact equal76 w q g (ho q rfl) (hl g (List.mem_cons_self ..))
        by_cases hq : q = g
        · subst hq
          simp only [decide_true] at e1
          exact .inr ⟨by simp [inSet], i, by simp [Instr.findAsking, e1, Result.andThen, hev]⟩
        · simp only [hq, decide_false] at e1
          rcases hr with ⟨a, b⟩ | ⟨a, j, b⟩
          · exact .inl ⟨by simp [inSet] at a ⊢; exact ⟨hq, a⟩, by simp [Instr.findAsking, e1, Result.andThen, b]⟩
          · exact .inr ⟨by simp [inSet] at a ⊢; exact .inr a, j, by simp [Instr.findAsking, e1, Result.andThen, b]⟩
theorem find76 (w : World) (o : Option Nat) (ho : ∀ g, o = some g → Lives w g) (l : List MapEntry) (sn : List Nat) (h : l.map (fun e => e.key) = sn.map (fun g => ptr (some g))) (hl : ∀ g ∈ sn, Lives w g) (hv : ∀ e ∈ l, e.val = .agg #[]) :
    (inSet o sn = false ∧ (Instr.findKey 76 (ptr o) l).run Try.prog w = .ok none w) ∨ (inSet o sn = true ∧ ∃ j, (Instr.findKey 76 (ptr o) l).run Try.prog w = .ok (some (j, .agg #[])) w) := by
  have hu := run_underlying (w := w) Try.underlying76
  cases l with
  | nil =>
    obtain rfl : sn = [] := by cases sn with | nil => rfl | cons _ _ => cases h
    exact .inl ⟨by cases o <;> simp [inSet], by simp [Instr.findKey, hu, Result.andThen, Instr.findNow]⟩
  | cons e es =>
    have hn : ∀ d, Instr.findNow (.pointer d) (ptr o) (e :: es) 0 = none := fun d => by
      simp [Instr.findNow, Instr.sameNow]
    rcases ask76 w o ho (e :: es) 0 sn h hl hv with ⟨a, b⟩ | ⟨a, j, b⟩
    · exact .inl ⟨a, by simp [Instr.findKey, hu, Result.andThen, hn, b]⟩
    · exact .inr ⟨a, j, by simp [Instr.findKey, hu, Result.andThen, hn, b]⟩
theorem check76 (w : World) (em : Bool) (o : Option Nat) : (Instr.checkKey em 10000 76 (ptr o)).run Try.prog w = .ok () w := by
  have hu := run_underlying (w := w) Try.underlying76
  have h1 : ∀ d : Nat, (Instr.checkKey em (d + 1) 76 (ptr o)).run Try.prog w = .ok () w := fun d => by
    unfold Instr.checkKey
    simp only [Sem.run_bind, hu, Result.andThen]
    cases o <;> rfl
  exact h1 9999
theorem P_look (w : World) (b : Nat) (sn : List Nat) (h : PSet w b sn) (hl : ∀ g ∈ sn, Lives w g) (o : Option Nat) (ho : ∀ g, o = some g → Lives w g) :
    (Instr.lookup 129 (.map (some b)) (ptr o) true).run Try.prog w = .ok (.tuple #[.agg #[], .bool (inSet o sn)]) w := by
  obtain ⟨es, clock, hb, hk, hv⟩ := h
  have hm := run_underlying (w := w) Try.underlying129
  have hz := Try.zeroValue106 w
  rcases find76 w o ho es.toList sn hk hl hv with ⟨a, c⟩ | ⟨a, j, c⟩
  · simp [Instr.lookup, hm, MapKept.run_getObj_map hb, check76, c, Result.andThen, hz, a]
  · simp [Instr.lookup, hm, MapKept.run_getObj_map hb, check76, c, Result.andThen, a]
theorem P_store (w : World) (b : Nat) (sn : List Nat) (h : PSet w b sn) (hl : ∀ g ∈ sn, Lives w g) (q : Nat) (hq : Lives w q) (hn : q ∉ sn) :
    ∃ w', (Instr.mapUpdate 129 (.map (some b)) (.pointer (some ⟨q, 0, none⟩)) (.agg #[])).run Try.prog w = .ok () w' ∧ PSet w' b (sn ++ [q]) ∧ w.mapTurned w' b := by
  obtain ⟨es, clock, hb, hk, hv⟩ := h
  have hm := run_underlying (w := w) Try.underlying129
  have hck := check76 w false (some q)
  rcases find76 w (some q) (fun g e => by injection e with e; exact e ▸ hq) es.toList sn hk hl hv with ⟨a, c⟩ | ⟨a, j, c⟩
  · unfold ptr at c hck
    refine ⟨Go.ChangeMaps.setBlock w b (.map (es.push { key := .pointer (some ⟨q, 0, none⟩), val := .agg #[], born := clock }) (clock + 1)), ?_, ⟨_, _, (MapKept.heap_set hb).1, ?_, fun e he => ?_⟩, es, clock, _, _, hb, rfl⟩
    · simp [Instr.mapUpdate, hm, MapKept.run_getObj_map hb, hck, c, Result.andThen, MapKept.run_setObj_map _ hb, Go.ChangeMaps.setBlock]
    · simp [hk, ptr]
    · simp only [Array.toList_push, List.mem_append, List.mem_singleton] at he
      rcases he with he | he
      · exact hv e he
      · rw [he]
  · exact absurd (by simpa [inSet] using a) hn
theorem P_new (w : World) : PSet (w.alloc (.map #[] 0)) w.heap.size [] := ⟨#[], 0, (MapKept.heap_alloc w _).1, rfl, fun e he => by cases he⟩
theorem PSet.same {w w' : World} {b : Nat} {sn : List Nat} (h : PSet w b sn) (hs : w'.heap[b]? = w.heap[b]?) : PSet w' b sn := by
  obtain ⟨es, c, h1, h2⟩ := h
  exact ⟨es, c, hs.trans h1, h2⟩
/-- How many keys a map has. -/
def mapLen (w : World) (b : Nat) : Nat := match w.heap[b]? with
  | some (.map es _) => es.size
  | _ => 0
theorem PSet.len {w : World} {b : Nat} {sn : List Nat} (h : PSet w b sn) : mapLen w b = sn.length := by
  obtain ⟨es, c, h1, h2, _⟩ := h
  unfold mapLen
  rw [h1]
  have := congrArg List.length h2
  simpa using this
theorem eql74 (w : World) (g h : Nat) (hg : Lives w g) (hh : Lives w h) : (binOp .eql 74 (.pointer (some ⟨g, 0, none⟩)) (.pointer (some ⟨h, 0, none⟩))).run Try.prog w = .ok (.bool (decide (g = h))) w := by
  obtain ⟨j, hj, hs⟩ := info85
  obtain ⟨ca, ta, ha⟩ := hg
  obtain ⟨cb, tb, hb⟩ := hh
  by_cases e : g = h
  · subst e
    rw [run_eql_ptr_same w _ Try.underlying74 hj]
    simp
  · have hne : (⟨g, 0, none⟩ : Addr) ≠ ⟨h, 0, none⟩ := fun x => e (by injection x)
    rw [run_eql_ptr_other w Try.underlying74 hj hs hne ha hb]
    simp [e]
theorem nodup_le : ∀ (A : Nat) (l : List Nat), l.Nodup → (∀ x ∈ l, x < A) → l.length ≤ A
  | 0, l, _, h => by
    cases l with
    | nil => exact Nat.le_refl _
    | cons a l => exact absurd (h a (List.mem_cons_self ..)) (Nat.not_lt_zero _)
  | A + 1, l, hn, h => by
    have h1 := nodup_le A (l.erase A) (hn.erase A) fun x hx => by
      have := (hn.mem_erase_iff).1 hx
      have := h x this.2
      omega
    have h2 := List.length_erase (a := A) (l := l)
    split at h2 <;> omega
end Go.Proofs.Ytnlfmmempomcaaa
