/- LocksAlone: its arms. -/
import Derived.Test.YtnlfmmempomcaaaSd
import Derived.Test.YtnlfmmempomcaaaMf
import Derived.Deep.Draws
namespace Go.Proofs.Ytnlfmmempomcaaa
open Go.RowKit Go.Maps
set_option linter.unusedSimpArgs false
/-- The tasks of the first steps. -/
def tasks (X : Nat → Sp) (i : Nat) : List Int := (List.range i).map fun j => (X j).T
theorem tasks_len (X : Nat → Sp) (i : Nat) : (tasks X i).length = i := by simp [tasks]
theorem tasks_mono (X : Nat → Sp) {i j : Nat} (h : i ≤ j) : ∀ n ∈ tasks X i, n ∈ tasks X j := fun n hn => by
  obtain ⟨q, hq, rfl⟩ := List.mem_map.1 hn
  exact List.mem_map.2 ⟨q, List.mem_range.2 (by have := List.mem_range.1 hq; omega), rfl⟩
theorem tasks_last (X : Nat → Sp) (i : Nat) : (X i).T ∈ tasks X (i + 1) := List.mem_map.2 ⟨i, List.mem_range.2 (by omega), rfl⟩
/-- A round's own step, if there is one. -/
def XI (O : Ghost) : Option (Nat × Sp) → Prop
  | none => True
  | some (b, s) => O b = some ⟨10, b, .raw [.int .i64 s.K, .int .i64 s.T, .string s.N, .bool s.D] 32⟩
theorem XI.keep {O O' : Ghost} {x : Option (Nat × Sp)} (h : XI O x) (hk : ∀ q o, O q = some o → o.cl ≠ 0 → O' q = some o) : XI O' x := by
  cases x with
  | none => trivial
  | some p => exact hk _ _ h (by show (10 : Nat) ≠ 0; decide)
/-- Its cells. -/
def XC (w : World) : Option (Nat × Sp) → Prop
  | none => True
  | some (b, s) => w.cell? ⟨b, 0, none⟩ = some (.int .i64 s.K) ∧ w.cell? ⟨b, 1, none⟩ = some (.int .i64 s.T) ∧ w.cell? ⟨b, 2, none⟩ = some (.string s.N) ∧ w.cell? ⟨b, 3, none⟩ = some (.bool s.D)
theorem XI.cells {k : Nat} {O : Ghost} {x : Option (Nat × Sp)} {w : World} (h : XI O x) (hM : Mem k O w) : XC w x := by
  cases x with
  | none => trivial
  | some p => exact ⟨hM.cell h (i := 0) rfl, hM.cell h (i := 1) rfl, hM.cell h (i := 2) rfl, hM.cell h (i := 3) rfl⟩
/-- What stands between steps. -/
structure AlS (tb mb i : Nat) (X : Nat → Sp) (x : Option (Nat × Sp)) (w : World) (O : Ghost) (S : St) (L : Int → ByteArray → Option Int) (k : Nat) (wr : World) : Prop where
  tab : TbIs O tb S
  mem : Mem k O wr
  bel : Below w.heap.size w wr
  out : ∀ q, q < w.heap.size → O q = none
  map : KMap i wr mb L
  mbo : O mb = none
  mbb : w.heap.size ≤ mb
  md : Md S L
  few : Few S (tasks X i)
  small : k ≤ 1000 * i
  xis : XI O x
theorem TbIs.inv {O : Ghost} {tb : Nat} {S : St} (h : TbIs O tb S) : Inv S := by obtain ⟨_, _, _, _, _, hI, _⟩ := h; exact hI
section
variable {tb mb i : Nat} {X : Nat → Sp} {x : Option (Nat × Sp)} {w : World} {O : Ghost} {S : St} {L : Int → ByteArray → Option Int} {k : Nat} {wr : World}
theorem AlS.step (h : AlS tb mb i X x w O S L k wr) {w' : World} {O' : Ghost} {S' : St} {k' : Nat} (h1 : TbIs O' tb S') (h2 : Mem k' O' w') (h3 : Stp 0 wr.heap.size O O' wr w') (h4 : Md S' L) (h5 : Few S' (tasks X (i + 1))) (h6 : k' ≤ 1000 * (i + 1)) : AlS tb mb (i + 1) X x w O' S' L k' w' :=
  ⟨h1, h2, ⟨h3.os.trans h.bel.os, h3.tape.trans h.bel.tape, h3.output.trans h.bel.output, Nat.le_trans h.bel.size h3.size, fun q hq => (h3.rest q (Nat.lt_of_lt_of_le hq h.bel.size) (h.out q hq)).trans (h.bel.block q hq)⟩,
   fun q hq => h3.dom q (Nat.lt_of_lt_of_le hq h.bel.size) (h.out q hq), by
    obtain ⟨n, D, e1, e2⟩ := h.map.same (h3.rest mb h.map.lt h.mbo)
    exact ⟨n, D, by omega, e2⟩, h3.dom mb h.map.lt h.mbo, h.mbb, h4, h5, h6, h.xis.keep h3.keep⟩
/-- Give. -/
theorem give_arm (h : AlS tb mb i X x w O S L k wr) (hi : i < 200) (hn : IOk (X i).T) (hs : (X i).N.size ≤ 4000) :
    Calls Try.prog 14 #[.pointer (some ⟨tb, 0, none⟩), .int .i64 (X i).T, .string (X i).N] wr fun e w' => (∃ v z, e = .returned (.tuple #[v, .int .i64 z])) ∧ ∃ O' S' k', AlS tb mb (i + 1) X x w O' S' L k' w' := by
  have hrow := h.few.rowlen h.tab.inv (X i).N
  rw [tasks_len] at hrow
  refine (give_all O tb S wr h.mem h.tab (X i).T (X i).N hn (by unfold SOk maxLen; omega) (by have := h.small; omega)).mono ?_
  rintro e w' ⟨v, rfl, O', p1, p2, p3, p4⟩
  refine ⟨⟨v, _, rfl⟩, O', _, _, h.step p1 p2 p3 ?_ ?_ (by have := h.small; omega)⟩
  · unfold St.gives
    split
    · exact h.md.give _ _
    · exact h.md
  · refine Few.mono ?_ (tasks_mono X (Nat.le_succ i))
    unfold St.gives
    split
    · exact h.few.give _ _
    · exact h.few
/-- Leave. -/
theorem leave_arm (h : AlS tb mb i X x w O S L k wr) (hi : i < 200) (hn : IOk (X i).T) :
    Calls Try.prog 17 #[.pointer (some ⟨tb, 0, none⟩), .int .i64 (X i).T] wr fun e w' => (∃ v, e = .returned v) ∧ ∃ O' S' k', AlS tb mb (i + 1) X x w O' S' L k' w' := by
  have hI := h.tab.inv
  have hq : S.queue (X i).T ≤ i := by
    unfold St.queue
    cases e : S.wt (X i).T with
    | none => exact Nat.zero_le _
    | some x =>
      have := h.few.rowlen hI x.1
      rw [tasks_len] at this
      exact this
  have hsum : ∀ ks, Names (fun t => (X i).T ∈ S.hs t) ks → sumRw (S.stop (X i).T).1 ks ≤ i := fun ks hN => by
    have := sumRw_le (h.few.stop (X i).T) (stop_inv hI (X i).T) ks hN.nd
    rw [tasks_len] at this
    exact this
  have hk := h.small
  refine (leave_all (C := k + 4 * i) O tb S wr h.mem h.tab (X i).T hn (by omega) (by omega) fun ks hN => by have := hsum ks hN; omega).mono ?_
  rintro e w' ⟨v, rfl, ks, hN, O', p1, p2, p3, p4⟩
  exact ⟨⟨v, rfl⟩, O', _, _, h.step p1 p2 p3 ((h.md.stop _).leaves _ ks) (((h.few.stop _).leaves _ ks).mono (tasks_mono X (Nat.le_succ i))) (by omega)⟩
/-- Take. -/
theorem take_arm (h : AlS tb mb i X x w O S L k wr) (hi : i < 200) (hn : IOk (X i).T) (hs : (X i).N.size ≤ 4000) :
    Calls Try.prog 12 #[.pointer (some ⟨tb, 0, none⟩), .int .i64 (X i).T, .string (X i).N, .bool (X i).D] wr fun e w1 =>
      (∃ b, e = .returned (.tuple #[.bool b, .int .i64 0]) ∧ XC w1 x ∧ ∃ w2, (Instr.mapUpdate 48 (.map (some mb)) (mk32 (X i).T (X i).N) (.int .i64 (md (X i).D))).run Try.prog w1 = .ok () w2 ∧ Hid (Calls Try.prog 21 #[.pointer (some ⟨tb, 0, none⟩), .int .i64 (X i).T, .string (X i).N] w2 fun e w' => e = .returned (.bool b) ∧ w' = w2) ∧ Hid (∃ O' S' L' k', AlS tb mb (i + 1) X x w O' S' L' k' w2)) ∨
      (∃ z, e = .returned (.tuple #[.bool false, .int .i64 z]) ∧ ¬ z = 0 ∧ XC w1 x ∧ Hid (Calls Try.prog 21 #[.pointer (some ⟨tb, 0, none⟩), .int .i64 (X i).T, .string (X i).N] w1 fun e w' => (∃ b, e = .returned (.bool b)) ∧ w' = w1) ∧ Hid (∃ O' S' L' k', AlS tb mb (i + 1) X x w O' S' L' k' w1)) := by
  have hI := h.tab.inv
  have hk := h.small
  have hrow := h.few.rowlen hI (X i).N
  rw [tasks_len] at hrow
  have hso : SOk (X i).N := by unfold SOk maxLen; omega
  refine (take_all O tb S wr h.mem h.tab (X i).T (X i).N (X i).D hn (by omega) (by omega) (by omega)).mono ?_
  rintro e w1 ⟨rfl, O1, p1, p2, p3⟩
  have hfew := (h.few.mono (tasks_mono X (Nat.le_succ i))).take (X i).T (X i).N (X i).D (tasks_last X i)
  have hmb := p3.rest mb h.map.lt h.mbo
  have hmo := p3.dom mb h.map.lt h.mbo
  have hbel : Below w.heap.size w w1 := ⟨p3.os.trans h.bel.os, p3.tape.trans h.bel.tape, p3.output.trans h.bel.output, Nat.le_trans h.bel.size p3.size, fun q hq => (p3.rest q (Nat.lt_of_lt_of_le hq h.bel.size) (h.out q hq)).trans (h.bel.block q hq)⟩
  have hout : ∀ q, q < w.heap.size → O1 q = none := fun q hq => p3.dom q (Nat.lt_of_lt_of_le hq h.bel.size) (h.out q hq)
  by_cases h0 : (S.take (X i).T (X i).N (X i).D).2.2 = 0
  · refine .inl ⟨_, by rw [h0], (h.xis.keep p3.keep).cells p2, ?_⟩
    have hbmb := h.mbb
    obtain ⟨w2, hr, hM2, ht2⟩ := K_store (h.map.same hmb) hn hso (by simp only [maxLen]; omega) (md (X i).D) (by unfold md IOk; split <;> decide)
    have hg := ht2.grown
    have hmem2 : Mem (k + 4) O1 w2 := p2.grown hg fun g e => (Option.some.inj e) ▸ hmo
    have hb2 : Below w.heap.size w w2 := hbel.grown hg hbel.size fun j hj => by injection hj with hj; rw [← hj]; exact hbmb
    have hmd := h.md.take hI h0
    have hk4 : k + 4 ≤ 1000 * (i + 1) := by omega
    have hA : ∃ O' S' L' k', AlS tb mb (i + 1) X x w O' S' L' k' w2 := ⟨O1, _, _, k + 4, ⟨p1, hmem2, hb2, hout, hM2, hmo, h.mbb, hmd, hfew, hk4, h.xis.keep p3.keep⟩⟩
    refine ⟨w2, hr, ?_, hide hA⟩
    rw [take_held h0]
    exact holds_tb O1 tb _ w2 hmem2 p1 _ _ hn hso
  · obtain ⟨e1, e2⟩ := take_no h0
    have hA : ∃ O' S' L' k', AlS tb mb (i + 1) X x w O' S' L' k' w1 := ⟨O1, _, L, k + 4, p1, p2, hbel, hout, by
      obtain ⟨n, D, e3, e4⟩ := h.map.same hmb
      exact ⟨n, D, by omega, e4⟩, hmo, h.mbb, by rw [e1]; exact h.md, hfew, by omega, h.xis.keep p3.keep⟩
    refine .inr ⟨_, by rw [e2], h0, (h.xis.keep p3.keep).cells p2, ?_, hide hA⟩
    · refine (holds_tb O1 tb _ w1 p2 p1 _ _ hn hso).mono ?_
      rintro e w' ⟨rfl, rfl⟩
      exact ⟨⟨_, rfl⟩, rfl⟩
end
section
variable {tb mb i : Nat} {X : Nat → Sp} {x : Option (Nat × Sp)} {w : World} {O : Ghost} {S : St} {L : Int → ByteArray → Option Int} {k : Nat} {wr : World}
theorem AlS.alloc (h : AlS tb mb i X x w O S L k wr) (s : Sp) : AlS tb mb i X (some (wr.heap.size, s)) w (put O wr.heap.size ⟨10, wr.heap.size, .raw [.int .i64 s.K, .int .i64 s.T, .string s.N, .bool s.D] 32⟩) S L k (wr.alloc (.cells #[.int .i64 s.K, .int .i64 s.T, .string s.N, .bool s.D] 32)) := by
  have hM := h.mem.alloc 10 wr.heap.size [.int .i64 s.K, .int .i64 s.T, .string s.N, .bool s.D] 32
  have hs : Stp 10 wr.heap.size O _ wr _ := Stp.alloc h.mem (Nat.le_refl _) ⟨10, wr.heap.size, .raw [.int .i64 s.K, .int .i64 s.T, .string s.N, .bool s.D] 32⟩ (.cells #[.int .i64 s.K, .int .i64 s.T, .string s.N, .bool s.D] 32)
  exact ⟨h.tab.keep fun q o e hq => hs.keep q o e (by omega), hM, h.bel.alloc h.bel.size _, fun q hq => hs.dom q (Nat.lt_of_lt_of_le hq h.bel.size) (h.out q hq), h.map.same (hs.rest mb h.map.lt h.mbo), hs.dom mb h.map.lt h.mbo, h.mbb, h.md, h.few, h.small, put_same _ _ _⟩
theorem AlS.forget (h : AlS tb mb i X x w O S L k wr) : AlS tb mb i X none w O S L k wr := ⟨h.tab, h.mem, h.bel, h.out, h.map, h.mbo, h.mbb, h.md, h.few, h.small, trivial⟩
theorem AlS.xcell {b : Nat} {s : Sp} (h : AlS tb mb i X (some (b, s)) w O S L k wr) : wr.cell? ⟨b, 0, none⟩ = some (.int .i64 s.K) ∧ wr.cell? ⟨b, 1, none⟩ = some (.int .i64 s.T) ∧ wr.cell? ⟨b, 2, none⟩ = some (.string s.N) ∧ wr.cell? ⟨b, 3, none⟩ = some (.bool s.D) :=
  ⟨h.mem.cell h.xis (i := 0) rfl, h.mem.cell h.xis (i := 1) rfl, h.mem.cell h.xis (i := 2) rfl, h.mem.cell h.xis (i := 3) rfl⟩
/-- Blocks that are new and nobody's. -/
theorem AlS.below (h : AlS tb mb i X x w O S L k wr) {w' : World} (hb : Below wr.heap.size wr w') : AlS tb mb i X x w O S L k w' :=
  ⟨h.tab, Rp.below h.mem hb, h.bel.trans (hb.mono h.bel.size), h.out, h.map.same (hb.block mb h.map.lt), h.mbo, h.mbb, h.md, h.few, h.small, h.xis⟩
theorem al_start {w1 w2 : World} {X : Nat → Sp} (hb : Below w.heap.size w w1) (h : Left 0 w1.heap.size tb St.zero (fun _ => none) w1 w2) : ∃ O, AlS tb w2.heap.size 0 X none w O St.zero (fun _ _ => none) 0 (w2.alloc (.map #[] 0)) := by
  obtain ⟨O1, h1, h2, h3⟩ := h
  have hb2 : Below w.heap.size w w2 := ⟨h3.os.trans hb.os, h3.tape.trans hb.tape, h3.output.trans hb.output, Nat.le_trans hb.size h3.size, fun q hq => (h3.rest q (Nat.lt_of_lt_of_le hq hb.size) rfl).trans (hb.block q hq)⟩
  exact ⟨O1, h1, h2.loose _, hb2.alloc hb2.size _, fun q hq => h3.dom q (Nat.lt_of_lt_of_le hq hb.size) rfl, K_new 0 w2, h2.out, hb2.size, Md.zero, ⟨fun s n x hx => (by cases hx), fun s n hn => (by cases hn)⟩, Nat.zero_le _, trivial⟩
end
/-- Behind a step: the locks, and the step's own cells. -/
def Bhd (tb mb i : Nat) (X : Nat → Sp) (b : Nat) (w wr : World) : Prop := ∃ O S L k, AlS tb mb (i + 1) X (some (b, X i)) w O S L k wr
theorem Bhd.cells {tb mb i : Nat} {X : Nat → Sp} {b : Nat} {w wr : World} (h : Bhd tb mb i X b w wr) : wr.cell? ⟨b, 0, none⟩ = some (.int .i64 (X i).K) ∧ wr.cell? ⟨b, 1, none⟩ = some (.int .i64 (X i).T) ∧ wr.cell? ⟨b, 2, none⟩ = some (.string (X i).N) ∧ wr.cell? ⟨b, 3, none⟩ = some (.bool (X i).D) := by
  obtain ⟨O, S, L, k, h⟩ := h
  exact h.xcell
/-- What stands while the holders are counted. -/
def ChR (tb mb i : Nat) (X : Nat → Sp) (b : Nat) (w : World) (vh va vs vk : Value) (wr : World) : Prop :=
  ∃ (O : Ghost) (S : St) (L : Int → ByteArray → Option Int) (k : Nat) (sn : List Int) (A j : Nat), vh = .int .i64 (sn.length : Int) ∧ va = .int .i64 (A : Int) ∧ vk = .int .i64 (j : Int) ∧ j ≤ i + 1 ∧ sn.Nodup ∧ (∀ m ∈ sn, m ∈ S.hs (X i).N) ∧ A ≤ sn.length ∧ (0 < A → S.sh (X i).N = false) ∧ sn.length ≤ j ∧ Nums w.heap.size O wr vs sn ∧ AlS tb mb (i + 1) X (some (b, X i)) w O S L k wr
/-- What is read of the script and of the round's step while the holders are counted. -/
theorem AlS.reads {tb mb i1 i : Nat} {X : Nat → Sp} {b : Nat} {w : World} {O : Ghost} {S : St} {L : Int → ByteArray → Option Int} {k : Nat} {wr : World} (h : AlS tb mb i1 X (some (b, X i)) w O S L k wr) {g o len j : Nat} (ha : Script w (some ⟨g, o, none⟩) len X) (hj : j < len) :
    wr.cell? ⟨g, o + j * 4 + 1, none⟩ = some (.int .i64 (X j).T) ∧ wr.cell? ⟨g, o + j * 4 + 2, none⟩ = some (.string (X j).N) ∧ wr.cell? ⟨b, 2, none⟩ = some (.string (X i).N) ∧ IOk (X j).T := by
  obtain ⟨g', o', e1, e2, _, e4, e5, _, e7, _⟩ := ha j hj
  obtain ⟨rfl, rfl⟩ : g = g' ∧ o = o' := by injection e1 with e1; injection e1 with e1 e8; exact ⟨e1, e8⟩
  exact ⟨(h.bel.cell (p := ⟨g, o + j * 4 + 1, none⟩) e2).trans e4, (h.bel.cell (p := ⟨g, o + j * 4 + 2, none⟩) e2).trans e5, h.xcell.2.2.1, e7⟩
theorem below_drewN (w : World) (q : Nat) : Below w.heap.size w (w.drewN q) := ⟨rfl, rfl, rfl, Nat.le_refl _, fun _ _ => rfl⟩
/-- One who holds the lock and was not counted yet. -/
theorem ch_new {tb mb i : Nat} {X : Nat → Sp} {b : Nat} {w : World} {O : Ghost} {S : St} {L : Int → ByteArray → Option Int} {k : Nat} {wr : World} (h : AlS tb mb (i + 1) X (some (b, X i)) w O S L k wr) {vs : Value} {sn : List Int} (hn : Nums w.heap.size O wr vs sn) (hl : sn.length ≤ 2000000) (hNs : (X i).N.size ≤ 4000) {m : Int} (hm : IOk m) (hh : m ∈ S.hs (X i).N) :
    ∃ v' w6, (∀ ty, (app38 ty #[vs, .slice (some ⟨wr.heap.size, 0, none⟩) 1 1]).run Try.prog (wr.alloc (.cells #[.int .i64 m] 3)) = .ok v' w6) ∧ Nums w.heap.size O w6 v' (sn ++ [m]) ∧ AlS tb mb (i + 1) X (some (b, X i)) w O S L k w6 ∧
      (∀ q, (Instr.lookup 48 (.map (some mb)) (.agg #[.int .i64 0, .int .i64 m, .string (X i).N, .bool false]) false).run Try.prog (w6.drewN q) = .ok (.int .i64 (md (S.sh (X i).N))) (w6.drewN q)) ∧
      Hid (∀ q, Calls Try.prog 19 #[.pointer (some ⟨tb, 0, none⟩), .int .i64 m] (w6.drewN q) fun e w7 => (e = .returned (.tuple #[.string ⟨#[]⟩, .bool false]) ∨ ∃ t, e = .returned (.tuple #[.string t, .bool true]) ∧ t ≠ (X i).N) ∧ Below w6.heap.size w6 w7) := by
  obtain ⟨v', w6, a1, a2, a3, a4⟩ := hn.grow h.mem h.bel.size hl m
  have hso : SOk (X i).N := by unfold SOk maxLen; omega
  have hmb : w6.heap[mb]? = wr.heap[mb]? := a3.block mb h.map.lt fun e => by
    obtain ⟨_, hh2⟩ := hn.1
    rcases hh2 with ⟨hv, _⟩ | ⟨g', cap, cur', hv, hg', hh', _⟩
    · rw [hv] at e; cases e
    · rw [hv] at e
      have e' : mb = g' := Option.some.inj e
      obtain ⟨_, _, _, ⟨es, clock, hes, _⟩, _⟩ := h.map
      rw [← e', hes] at hh'
      cases hh'
  have h6 : AlS tb mb (i + 1) X (some (b, X i)) w O S L k w6 := ⟨h.tab, a4, h.bel.grown a3 h.bel.size fun q e => (hn.lt e).2, h.out, h.map.same hmb, h.mbo, h.mbb, h.md, h.few, h.small, h.xis⟩
  refine ⟨v', w6, a1, a2, h6, fun q => ?_, fun q => ?_⟩
  · have := K_look (h6.below (below_drewN w6 q)).map hm hso
    rw [h.md.held _ _ hh] at this
    exact this
  · refine (waits_tb O tb S (w6.drewN q) (h6.below (below_drewN w6 q)).mem h.tab m hm).mono ?_
    rintro e w7 ⟨rfl, hb⟩
    refine ⟨?_, (below_drewN w6 q).trans hb⟩
    unfold St.waits
    cases e : S.wt m with
    | none => exact .inl rfl
    | some x => exact .inr ⟨x.1, rfl, fun e2 => (h.tab.inv).apart (X i).N m x.2 (((h.tab.inv).wait m (X i).N x.2).1 (by rw [e, ← e2])) hh⟩
theorem Bhd.start {tb mb i : Nat} {X : Nat → Sp} {b : Nat} {w wr : World} (h : Bhd tb mb i X b w wr) : ChR tb mb i X b w (.int .i64 0) (.int .i64 0) (.slice none 0 0) (.int .i64 0) wr := by
  obtain ⟨O, S, L, k, h⟩ := h
  exact ⟨O, S, L, k, [], 0, 0, rfl, rfl, rfl, Nat.zero_le _, .nil, fun m hm => (by cases hm), Nat.le_refl _, fun h => absurd h (Nat.lt_irrefl _), Nat.le_refl _, Nums.nil _ _ _, h⟩
end Go.Proofs.Ytnlfmmempomcaaa
