/- LocksRun: the Run, the document's Run and what is left, held against each other. -/
import Derived.Test.YtnlfmmempomcaaaQe
namespace Go.Proofs.Ytnlfmmempomcaaa
open Go.RowKit Go.Maps
set_option linter.unusedSimpArgs false
/-- A job's function, and the variables it holds. -/
def JobFn (O : Ghost) (lb : Nat) (j : Jb) : Prop := ∃ nb bb bad, j.fn = .func (.func 26) #[] #[.pointer (some ⟨lb, 0, none⟩), .pointer (some ⟨nb, 0, none⟩), .pointer (some ⟨bb, 0, none⟩)] ∧ O nb = some ⟨8, nb, .raw [.int .i64 j.no] 3⟩ ∧ O bb = some ⟨8, bb, .raw [.bool bad] 4⟩
structure RD (O : Ghost) (lb : Nat) (R : Rn) (D : DR) (L : Nat → Int) : Prop where
  idle : R.busy = false
  nx : R.next = D.n
  st : R.steps = D.s
  map : R.js.map (fun j => (j.no, j.bl)) = (opn D.E D.n).map fun i => (i, D.B i)
  fn : ∀ j ∈ R.js, JobFn O lb j
  lk : ∀ j ∈ R.js, j.lk = 0
  pos : ∀ i, i < D.n → D.E i = false → 0 ≤ L i ∧ L i ≤ 9223372036854775807
theorem JobFn.keep {O O' : Ghost} {lb : Nat} {j : Jb} (h : JobFn O lb j) (hk : ∀ q o, O q = some o → o.cl = 8 → O' q = some o) : JobFn O' lb j := by
  obtain ⟨nb, bb, bad, h1, h2, h3⟩ := h
  exact ⟨nb, bb, bad, h1, hk _ _ h2 rfl, hk _ _ h3 rfl⟩
theorem RD.keep {O O' : Ghost} {lb : Nat} {R : Rn} {D : DR} {L : Nat → Int} (h : RD O lb R D L) (hk : ∀ q o, O q = some o → o.cl = 8 → O' q = some o) : RD O' lb R D L :=
  ⟨h.idle, h.nx, h.st, h.map, fun j hj => (h.fn j hj).keep hk, h.lk, h.pos⟩
section
variable {O : Ghost} {lb : Nat} {R : Rn} {D : DR} {L : Nat → Int}
theorem RD.nos (h : RD O lb R D L) : R.js.map Jb.no = opn D.E D.n := by
  have := congrArg (List.map Prod.fst) h.map
  simpa [List.map_map, Function.comp_def] using this
theorem RD.len (h : RD O lb R D L) : R.js.length = (opn D.E D.n).length := by rw [← h.nos, List.length_map]
theorem RD.has (h : RD O lb R D L) (z : Int) : R.has z = (decide (0 ≤ z ∧ z < D.n) && !D.E z.toNat) := by
  rw [Bool.eq_iff_iff]
  unfold Rn.has
  rw [List.any_eq_true]
  simp only [decide_eq_true_eq, Bool.and_eq_true, Bool.not_eq_true']
  constructor
  · rintro ⟨j, hj, e⟩
    have : j.no ∈ opn D.E D.n := by rw [← h.nos]; exact List.mem_map_of_mem hj
    simp [opn, List.mem_filter] at this
    obtain ⟨a, b⟩ := this
    have e2 : z.toNat = j.no := by omega
    rw [e2]
    exact ⟨by omega, b⟩
  · rintro ⟨⟨z1, z2⟩, z3⟩
    have : z.toNat ∈ R.js.map Jb.no := by
      rw [h.nos]
      simp [opn, List.mem_filter]
      exact ⟨by omega, z3⟩
    obtain ⟨j, hj, e⟩ := List.mem_map.1 this
    exact ⟨j, hj, by omega⟩
theorem RD.mark (h : RD O lb R D L) (z : Int) (b : Bool) : RD O lb (R.mark z b) (D.mark z b) L := by
  have hfn : ∀ j ∈ (R.mark z b).js, ∃ j0 ∈ R.js, j.no = j0.no ∧ j.fn = j0.fn ∧ j.lk = j0.lk := fun j hj => by
    simp only [Rn.mark, List.mem_map] at hj
    obtain ⟨j0, h0, e⟩ := hj
    refine ⟨j0, h0, ?_⟩
    split at e <;> (subst e; exact ⟨rfl, rfl, rfl⟩)
  have hfn2 : ∀ j ∈ (R.mark z b).js, JobFn O lb j := fun j hj => by
    obtain ⟨j0, h0, e1, e2, _⟩ := hfn j hj
    obtain ⟨nb, bb, bad, g1, g2, g3⟩ := h.fn j0 h0
    exact ⟨nb, bb, bad, by rw [e2]; exact g1, by rw [e1]; exact g2, g3⟩
  have hlk : ∀ j ∈ (R.mark z b).js, j.lk = 0 := fun j hj => by
    obtain ⟨j0, h0, _, _, e3⟩ := hfn j hj
    rw [e3]; exact h.lk j0 h0
  by_cases hc : (decide (0 ≤ z ∧ z < D.n) && !D.E z.toNat) = true
  · have hD : D.mark z b = ⟨D.E, updB D.B z.toNat b, D.n, D.s⟩ := if_pos hc
    rw [hD]
    refine ⟨h.idle, h.nx, h.st, ?_, hfn2, hlk, h.pos⟩
    simp only [Bool.and_eq_true, decide_eq_true_eq] at hc
    have hz : ∀ m : Nat, ((m : Int) = z) = (m = z.toNat) := fun m => propext ⟨fun e => by omega, fun e => by omega⟩
    show (R.js.map _).map _ = _
    have e2 : ∀ j : Jb, ((fun j : Jb => (j.no, j.bl)) ∘ fun j : Jb => if (j.no : Int) = z then (⟨j.no, j.fn, b, j.at_, j.lk⟩ : Jb) else j) j = (fun p : Nat × Bool => (p.1, if p.1 = z.toNat then b else p.2)) ((fun j : Jb => (j.no, j.bl)) j) := fun j => by
      simp only [Function.comp_def, hz]
      split <;> rfl
    rw [List.map_map, List.map_congr_left (fun j _ => e2 j)]
    have := congrArg (List.map fun p : Nat × Bool => (p.1, if p.1 = z.toNat then b else p.2)) h.map
    rw [List.map_map, List.map_map] at this
    simpa [Function.comp_def, updB] using this
  · have hD : D.mark z b = D := if_neg hc
    have hno : R.has z = false := by rw [h.has]; simpa using hc
    rw [hD, Rn.mark_no hno]
    exact h
theorem RD.ready (h : RD O lb R D L) : R.ready.map Jb.no = pkl D.E D.B D.n := by
  have e : (R.js.map fun j => (j.no, j.bl)).filter (fun p => !p.2) = ((opn D.E D.n).map fun i => (i, D.B i)).filter (fun p => !p.2) := by rw [h.map]
  rw [List.filter_map, List.filter_map] at e
  have e2 := congrArg (List.map Prod.fst) e
  rw [List.map_map, List.map_map] at e2
  have e3 : (opn D.E D.n).filter (fun i => !D.B i) = pkl D.E D.B D.n := by
    unfold opn pkl
    rw [List.filter_filter]
    exact List.filter_congr fun i _ => Bool.and_comm _ _
  rw [← e3]
  simpa [Function.comp_def, Rn.ready] using e2
/-- A task more. -/
theorem RD.more (h : RD O lb R D L) {a nb bb : Nat} {bad : Bool} {x : Int} (hx : 0 ≤ x ∧ x ≤ 9223372036854775807) (h1 : O nb = some ⟨8, nb, .raw [.int .i64 D.n] 3⟩) (h2 : O bb = some ⟨8, bb, .raw [.bool bad] 4⟩) :
    RD O lb ⟨R.js ++ [⟨R.next, .func (.func 26) #[] #[.pointer (some ⟨lb, 0, none⟩), .pointer (some ⟨nb, 0, none⟩), .pointer (some ⟨bb, 0, none⟩)], false, a, 0⟩], R.next + 1, R.busy, R.steps⟩ D.more (updI L D.n x) := by
  have hopn : ∀ n, n ≤ D.n → opn (updB D.E D.n false) n = opn D.E n := fun n hn => by
    unfold opn
    refine List.filter_congr fun i hi => ?_
    have := List.mem_range.1 hi
    simp [updB, show i ≠ D.n by omega]
  refine ⟨h.idle, by show R.next + 1 = D.n + 1; rw [h.nx], h.st, ?_, fun j hj => ?_, fun j hj => ?_, fun i hi hE => ?_⟩
  · show (R.js ++ [_]).map _ = (opn (updB D.E D.n false) (D.n + 1)).map fun i => (i, updB D.B D.n false i)
    rw [opn_succ, hopn _ (Nat.le_refl _), if_neg (by simp [updB]), List.map_append, List.map_append, h.map]
    congr 1
    · refine List.map_congr_left fun i hi => ?_
      have : i < D.n := by
        have := (List.mem_filter.1 hi).1
        exact List.mem_range.1 this
      simp [updB, show i ≠ D.n by omega]
    · simp [updB, h.nx]
  · rcases List.mem_append.1 hj with hj | hj
    · exact h.fn j hj
    · simp at hj
      subst hj
      exact ⟨nb, bb, bad, rfl, by rw [h.nx]; exact h1, h2⟩
  · rcases List.mem_append.1 hj with hj | hj
    · exact h.lk j hj
    · simp at hj
      rw [hj]
  · have hi' : i < D.n + 1 := hi
    by_cases e : i = D.n
    · subst e
      simp [updI]; exact hx
    · have e2 : (updI L D.n x) i = L i := if_neg e
      have hE' : updB D.E D.n false i = false := hE
      rw [show updB D.E D.n false i = D.E i from if_neg e] at hE'
      rw [e2]
      exact h.pos i (by omega) hE'
end
end Go.Proofs.Ytnlfmmempomcaaa
