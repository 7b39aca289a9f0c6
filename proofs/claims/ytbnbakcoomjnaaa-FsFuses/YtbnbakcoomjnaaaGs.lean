/- A FS in memory. -/
import Derived.Test.YtbnbakcoomjnaaaGa
namespace Go.Proofs.Ytbnbakcoomjnaaa
open Go.RowKit Go.Maps
set_option linter.unusedSimpArgs false
/-- A thing. -/
inductive Th where
  | write (s : ByteArray) (d : List UInt8) (i : Nat)
  | fill (s : ByteArray) (d : List UInt8)
  | lay (s old : ByteArray)
  | move (old s : ByteArray)
  | drop (s : ByteArray)
/-- What it does to a table whose stamps are below z. -/
def Th.ap : Th → Tb × Nat → Option (Tb × Nat)
  | .write s d i, (T, z) => if z ≤ i then some (T.write s d i, i + 1) else none
  | .fill s d, (T, z) => (T.N s).map fun i => (T.put i d, z)
  | .lay s old, (T, z) => (T.N old).map fun i => (T.lay s i, z)
  | .move old s, (T, z) => (T.N old).map fun _ => (T.move old s, z)
  | .drop s, (T, z) => some (T.drop s, z)
def runs : List Th → Tb × Nat → Option (Tb × Nat)
  | [], x => some x
  | t :: l, x => (t.ap x).bind (runs l)
theorem runs_snoc (l : List Th) (t : Th) : ∀ x, runs (l ++ [t]) x = (runs l x).bind t.ap := by
  induction l with
  | nil => intro x; simp [runs]
  | cons a l ih =>
    intro x
    simp only [List.cons_append, runs]
    cases a.ap x with
    | none => rfl
    | some y => simp [ih]
/-- A FS: its room, its two tables, what is pending, and how much the fuse bears. -/
structure Fs where
  room : Nat
  now : Tb
  las : Tb
  pend : List Th
  fuse : Option Nat
/-- A thing in memory. -/
def ThIs (w : World) (K : Nat → Option (List UInt8)) (O : Nat → Prop) (v : Value) : Th → Prop
  | .write s d _ => ∃ pn pd hv, v = .func (.func 34) #[] #[.pointer (some ⟨pn, 0, none⟩), .pointer (some ⟨pd, 0, none⟩)] ∧ O pn ∧ O pd ∧ w.heap[pn]? = some (.cells #[.string s] 9 (0, 0)) ∧ w.heap[pd]? = some (.cells #[hv] 22 (0, 0)) ∧ DataIs K hv d ∧ s.size ≤ 300 ∧ d.length ≤ 1048576
  | .fill s d => ∃ pn pd hv, v = .func (.func 58) #[] #[.pointer (some ⟨pn, 0, none⟩), .pointer (some ⟨pd, 0, none⟩)] ∧ O pn ∧ O pd ∧ w.heap[pn]? = some (.cells #[.string s] 9 (0, 0)) ∧ w.heap[pd]? = some (.cells #[hv] 22 (0, 0)) ∧ DataIs K hv d ∧ s.size ≤ 300 ∧ d.length ≤ 1048576
  | .lay s old => ∃ pn po, v = .func (.func 61) #[] #[.pointer (some ⟨pn, 0, none⟩), .pointer (some ⟨po, 0, none⟩)] ∧ O pn ∧ O po ∧ w.heap[pn]? = some (.cells #[.string s] 9 (0, 0)) ∧ w.heap[po]? = some (.cells #[.string old] 9 (0, 0)) ∧ s.size ≤ 300 ∧ old.size ≤ 300
  | .move old s => ∃ pn po, v = .func (.func 64) #[] #[.pointer (some ⟨po, 0, none⟩), .pointer (some ⟨pn, 0, none⟩)] ∧ O pn ∧ O po ∧ w.heap[pn]? = some (.cells #[.string s] 9 (0, 0)) ∧ w.heap[po]? = some (.cells #[.string old] 9 (0, 0)) ∧ s.size ≤ 300 ∧ old.size ≤ 300
  | .drop s => ∃ pn, v = .func (.func 67) #[] #[.pointer (some ⟨pn, 0, none⟩)] ∧ O pn ∧ w.heap[pn]? = some (.cells #[.string s] 9 (0, 0)) ∧ s.size ≤ 300
/-- What is known grows. -/
def Kle (K K' : Nat → Option (List UInt8)) : Prop := ∀ g l, K g = some l → ∃ l', K' g = some l' ∧ l <+: l'
theorem Kle.refl (K : Nat → Option (List UInt8)) : Kle K K := fun _ l h => ⟨l, h, List.prefix_refl l⟩
theorem DataIs.mono {K K' : Nat → Option (List UInt8)} {v : Value} {d : List UInt8} (h : DataIs K v d) (hK : Kle K K') : DataIs K' v d := by
  obtain ⟨a, c, e, h1, h2, h3⟩ := h
  refine ⟨a, c, e, h1, h2, h3.imp id ?_⟩
  rintro ⟨g, l, ea, hg, hd⟩
  obtain ⟨l', hl, hp⟩ := hK g l hg
  exact ⟨g, l', ea, hl, hd.trans hp⟩
theorem ThIs.mono {w w' : World} {K K' : Nat → Option (List UInt8)} {O O' : Nat → Prop} {v : Value} {t : Th} (h : ThIs w K O v t) (hK : Kle K K') (hO : ∀ q, O q → O' q) (hw : ∀ q x ty, O q → w.heap[q]? = some (.cells #[x] ty (0, 0)) → ty = 9 ∨ ty = 22 → w'.heap[q]? = w.heap[q]?) : ThIs w' K' O' v t := by
  cases t with
  | write s d i => obtain ⟨pn, pd, hv, e, o1, o2, h1, h2, hd, hs, hl⟩ := h; exact ⟨pn, pd, hv, e, hO _ o1, hO _ o2, (hw _ _ _ o1 h1 (.inl rfl)).trans h1, (hw _ _ _ o2 h2 (.inr rfl)).trans h2, hd.mono hK, hs, hl⟩
  | fill s d => obtain ⟨pn, pd, hv, e, o1, o2, h1, h2, hd, hs, hl⟩ := h; exact ⟨pn, pd, hv, e, hO _ o1, hO _ o2, (hw _ _ _ o1 h1 (.inl rfl)).trans h1, (hw _ _ _ o2 h2 (.inr rfl)).trans h2, hd.mono hK, hs, hl⟩
  | lay s old => obtain ⟨pn, po, e, o1, o2, h1, h2, hs⟩ := h; exact ⟨pn, po, e, hO _ o1, hO _ o2, (hw _ _ _ o1 h1 (.inl rfl)).trans h1, (hw _ _ _ o2 h2 (.inl rfl)).trans h2, hs⟩
  | move old s => obtain ⟨pn, po, e, o1, o2, h1, h2, hs⟩ := h; exact ⟨pn, po, e, hO _ o1, hO _ o2, (hw _ _ _ o1 h1 (.inl rfl)).trans h1, (hw _ _ _ o2 h2 (.inl rfl)).trans h2, hs⟩
  | drop s => obtain ⟨pn, e, o1, h1, hs⟩ := h; exact ⟨pn, e, hO _ o1, (hw _ _ _ o1 h1 (.inl rfl)).trans h1, hs⟩
/-- The data blocks hold what is known. -/
def KOK (w : World) (K : Nat → Option (List UInt8)) : Prop := ∀ g l, K g = some l → ∃ cur, w.heap[g]? = some (.cells cur 5 (0, 0)) ∧ byteVals l <+: cur.toList
/-- The room behind a slice is nobody's. -/
def Rm (w : World) (K : Nat → Option (List UInt8)) (v : Value) : Prop := ∀ g n c, v = .slice (some ⟨g, 0, none⟩) n c → n < c → ∃ l cur, K g = some l ∧ l.length = n ∧ w.heap[g]? = some (.cells cur 5 (0, 0)) ∧ cur.size = c
def Apart (v v' : Value) : Prop := ∀ g n c n' c', v = .slice (some ⟨g, 0, none⟩) n c → v' = .slice (some ⟨g, 0, none⟩) n' c' → n < c → n' < c' → False
/-- How a table lies. -/
structure Lie where
  m : Option Nat
  n : Nat
  F : Nat → Prop
  b : Nat → Nat
  h : Nat → Value
  k : Nat
  z : Nat
  e : Nat → Prop
/-- A table that lies so, in blocks of O. -/
structure TabL (w : World) (K : Nat → Option (List UInt8)) (O : Nat → Prop) (T : Tb) (l : Lie) : Prop where
  tab : TabM w K l.m l.n T l.F l.b l.h
  ok : T.Ok l.k
  nk : l.n ≤ l.k
  om : ∀ q, l.m = some q → O q
  ob : ∀ i, l.F i → O (l.b i)
  st : ∀ i, l.F i → i < l.z
/-- The FS's own block. -/
def fsBlk (lk : Int) (S : Fs) (mn ml : Option Nat) (pv : Value) : Obj :=
  .cells #[.int .i32 lk, .int .u32 0, .int .i64 (S.room : Int), .map mn, .int .i64 S.now.u, .map ml, .int .i64 S.las.u, pv, .bool S.fuse.isSome, .int .i64 ((S.fuse.getD 0 : Nat) : Int)] 67 (0, 0)
/-- A FS in memory, whose table now is made out of lasting by X. -/
structure FsM (w : World) (f : Nat) (lk : Int) (S : Fs) (X : List Th) (O : Nat → Prop) (K : Nat → Option (List UInt8)) (n l : Lie) (pv : Value) (ps : List Value) : Prop where
  blk : w.heap[f]? = some (fsBlk lk S n.m l.m pv)
  now : TabL w K O S.now n
  las : TabL w K O S.las l
  dis : ∀ i j, n.F i → l.F j → n.b i ≠ l.b j
  mdis : ∀ q, n.m = some q → l.m ≠ some q
  kok : KOK w K
  rm : ∀ i, n.F i → ¬ n.e i → Rm w K (n.h i)
  ap : ∀ i j, n.F i → n.F j → ¬ n.e i → ¬ n.e j → i ≠ j → Apart (n.h i) (n.h j)
  row : w.ownsRow 0 70 1 pv S.pend.length ps
  ths : ∀ (j : Nat) (v : Value) (t : Th), ps[j]? = some v → S.pend[j]? = some t → ThIs w K O v t
  run : runs X (S.las, l.z) = some (S.now, n.z)
  kb : l.k + 3 * X.length ≤ n.k
  nb : l.n + X.length ≤ n.k
  pl : S.pend.length ≤ 16383
  room : S.room ≤ 1073741824
  fz : S.fuse.getD 0 ≤ 9223372036854775807
  of : O f
  oK : ∀ g x, K g = some x → O g
  op : ∀ q, pv.ownBlock = some q → O q
  lt : ∀ q, O q → q < w.heap.size
/-- A FS in memory. -/
def FsIs (w : World) (f : Nat) (lk : Int) (S : Fs) (O : Nat → Prop) (k : Nat) : Prop := ∃ K n l pv ps, FsM w f lk S S.pend O K n l pv ps ∧ n.k ≤ k ∧ ∀ i, ¬ n.e i
/-- What a call of a FS leaves to others. -/
structure FFr (O O' : Nat → Prop) (w w' : World) : Prop where
  os : w'.os = w.os
  tape : w'.tape = w.tape
  output : w'.output = w.output
  size : w.heap.size ≤ w'.heap.size
  rest : ∀ q, q < w.heap.size → ¬ O q → w'.heap[q]? = w.heap[q]?
  new : ∀ q, O' q → O q ∨ w.heap.size ≤ q
theorem FFr.refl (O : Nat → Prop) (w : World) : FFr O O w w := ⟨rfl, rfl, rfl, Nat.le_refl _, fun _ _ _ => rfl, fun _ h => .inl h⟩
theorem FFr.trans {O O1 O2 : Nat → Prop} {w w1 w2 : World} (h : FFr O O1 w w1) (k : FFr O1 O2 w1 w2) : FFr O O2 w w2 :=
  ⟨k.os.trans h.os, k.tape.trans h.tape, k.output.trans h.output, Nat.le_trans h.size k.size, fun q h1 h2 => by
    rw [k.rest q (Nat.lt_of_lt_of_le h1 h.size) (fun h3 => (h.new q h3).elim h2 (fun h4 => by omega)), h.rest q h1 h2], fun q hq => by
    rcases k.new q hq with h3 | h3
    · exact h.new q h3
    · exact .inr (Nat.le_trans h.size h3)⟩
/-- It stands where its blocks stand. -/
theorem FsM.kept {w w' : World} {f : Nat} {lk : Int} {S : Fs} {X : List Th} {O : Nat → Prop} {K : Nat → Option (List UInt8)} {n l : Lie} {pv : Value} {ps : List Value} (h : FsM w f lk S X O K n l pv ps) (hs : w.heap.size ≤ w'.heap.size) (hw : ∀ q, O q → w'.heap[q]? = w.heap[q]?) : FsM w' f lk S X O K n l pv ps := by
  have hTL : ∀ {T : Tb} {l : Lie}, TabL w K O T l → TabL w' K O T l := fun hT => ⟨hT.tab.kept (fun q e => hw q (hT.om q e)) (fun i hi => hw _ (hT.ob i hi)), hT.ok, hT.nk, hT.om, hT.ob, hT.st⟩
  refine ⟨(hw f h.of).trans h.blk, hTL h.now, hTL h.las, h.dis, h.mdis, fun g x hg => ?_, fun i hi hx g n c e hlt => ?_, h.ap, ⟨h.row.1, h.row.2.imp id ?_⟩, fun j v t h1 h2 => (h.ths j v t h1 h2).mono (Kle.refl _) (fun _ h => h) (fun q x ty o _ _ => hw q o), h.run, h.kb, h.nb, h.pl, h.room, h.fz, h.of, h.oK, h.op, fun q o => Nat.lt_of_lt_of_le (h.lt q o) hs⟩
  · rw [hw g (h.oK g x hg)]; exact h.kok g x hg
  · obtain ⟨l, cur, h1, h2, h3, h4⟩ := h.rm i hi hx g n c e hlt
    exact ⟨l, cur, h1, h2, by rw [hw g (h.oK g l h1)]; exact h3, h4⟩
  · rintro ⟨g, cap, cur, e, h1, h2, h3⟩
    exact ⟨g, cap, cur, e, h1, by rw [hw g (h.op g (by rw [e]; rfl))]; exact h2, h3⟩
theorem FsIs.kept {w w' : World} {f : Nat} {lk : Int} {S : Fs} {O : Nat → Prop} {k : Nat} (h : FsIs w f lk S O k) (hs : w.heap.size ≤ w'.heap.size) (hw : ∀ q, O q → w'.heap[q]? = w.heap[q]?) : FsIs w' f lk S O k := by
  obtain ⟨K, n, l, pv, ps, hM, hk⟩ := h
  exact ⟨K, n, l, pv, ps, hM.kept hs hw, hk⟩
theorem FsM.below {w w' : World} {f : Nat} {lk : Int} {S : Fs} {X : List Th} {O : Nat → Prop} {K : Nat → Option (List UInt8)} {n l : Lie} {pv : Value} {ps : List Value} (h : FsM w f lk S X O K n l pv ps) (hb : Below w.heap.size w w') : FsM w' f lk S X O K n l pv ps := h.kept hb.size (fun q o => hb.block q (h.lt q o))
theorem tag_ne {w : World} {p q : Nat} {x y : Array Value} {s t : TypeId} {fx fy : Nat × Nat} (hp : w.heap[p]? = some (.cells x s fx)) (hq : w.heap[q]? = some (.cells y t fy)) (hne : s ≠ t) : p ≠ q := fun e => by
  rw [e, hq] at hp
  injection hp with hp
  injection hp with _ hp
  exact hne hp.symm
theorem map_ne {w : World} {p q : Nat} {n : Nat} {L : ByteArray → Option Nat} {y : Array Value} {t : TypeId} {fy : Nat × Nat} (hp : TabIs w (some p) n L) (hq : w.heap[q]? = some (.cells y t fy)) : p ≠ q := fun e => by
  obtain ⟨es, cl, hb⟩ := hp.block
  rw [e, hq] at hb
  cases hb
theorem FsM.mne {w : World} {f : Nat} {lk : Int} {S : Fs} {X : List Th} {O : Nat → Prop} {K : Nat → Option (List UInt8)} {n l : Lie} {pv : Value} {ps : List Value} (h : FsM w f lk S X O K n l pv ps) {T : Tb} {a : Lie} (hT : TabL w K O T a) : ∀ q, a.m = some q → q ≠ f := fun q e => by
  have := hT.tab.tab
  rw [e] at this
  exact map_ne this h.blk
theorem FsM.bne {w : World} {f : Nat} {lk : Int} {S : Fs} {X : List Th} {O : Nat → Prop} {K : Nat → Option (List UInt8)} {n l : Lie} {pv : Value} {ps : List Value} (h : FsM w f lk S X O K n l pv ps) {T : Tb} {a : Lie} (hT : TabL w K O T a) : ∀ i, a.F i → a.b i ≠ f := fun i hi => tag_ne (hT.tab.file i hi) h.blk (by decide)
/-- The FS's own block is another one, all else stands. -/
theorem FsM.reset {w w' : World} {f : Nat} {lk lk' : Int} {S S' : Fs} {X : List Th} {O : Nat → Prop} {K : Nat → Option (List UInt8)} {n l : Lie} {pv : Value} {ps : List Value} (h : FsM w f lk S X O K n l pv ps) (h1 : S'.now = S.now) (h2 : S'.las = S.las) (h3 : S'.pend = S.pend) (h4 : S'.room = S.room) (h5 : S'.fuse.getD 0 ≤ 9223372036854775807)
    (hs : w.heap.size ≤ w'.heap.size) (hb : w'.heap[f]? = some (fsBlk lk' S' n.m l.m pv)) (hw : ∀ q, O q → q ≠ f → w'.heap[q]? = w.heap[q]?) : FsM w' f lk' S' X O K n l pv ps := by
  have hTL : ∀ {T : Tb} {l : Lie}, TabL w K O T l → TabL w' K O T l := fun hT => ⟨hT.tab.kept (fun q e => hw q (hT.om q e) (h.mne hT q e)) (fun i hi => hw _ (hT.ob i hi) (h.bne hT i hi)), hT.ok, hT.nk, hT.om, hT.ob, hT.st⟩
  have hrow : w'.ownsRow 0 70 1 pv S.pend.length ps := by
    refine ⟨h.row.1, h.row.2.imp id ?_⟩
    rintro ⟨g, cap, cur, e, h1, h2, h3⟩
    exact ⟨g, cap, cur, e, h1, by rw [hw g (h.op g (by rw [e]; rfl)) (tag_ne h2 h.blk (by decide))]; exact h2, h3⟩
  refine ⟨hb, by rw [h1]; exact hTL h.now, by rw [h2]; exact hTL h.las, h.dis, h.mdis, fun g x hg => ?_, fun i hi hx g n c e hlt => ?_, h.ap, by rw [h3]; exact hrow, fun j v t e1 e2 => (h.ths j v t e1 (by rw [← h3]; exact e2)).mono (Kle.refl _) (fun _ h => h) (fun q x ty o hq ht => hw q o (tag_ne hq h.blk (by rcases ht with rfl | rfl <;> decide))), by rw [h1, h2]; exact h.run, h.kb, h.nb, by rw [h3]; exact h.pl, by rw [h4]; exact h.room, h5, h.of, h.oK, h.op, fun q o => Nat.lt_of_lt_of_le (h.lt q o) hs⟩
  · obtain ⟨cur, hc, hp⟩ := h.kok g x hg
    exact ⟨cur, by rw [hw g (h.oK g x hg) (tag_ne hc h.blk (by decide))]; exact hc, hp⟩
  · obtain ⟨l, cur, h1, h2, h3, h4⟩ := h.rm i hi hx g n c e hlt
    exact ⟨l, cur, h1, h2, by rw [hw g (h.oK g l h1) (tag_ne h3 h.blk (by decide))]; exact h3, h4⟩
theorem FsM.lock {w : World} {f : Nat} {lk : Int} {S : Fs} {X : List Th} {O : Nat → Prop} {K : Nat → Option (List UInt8)} {n l : Lie} {pv : Value} {ps : List Value} (h : FsM w f lk S X O K n l pv ps) (lk' : Int) : FsM (w.setCell ⟨f, 0, none⟩ (.int .i32 lk')) f lk' S X O K n l pv ps :=
  h.reset rfl rfl rfl rfl h.fz (by rw [size_set]; exact Nat.le_refl _) (by simp [World.setCell, Array.getElem?_modify, h.blk, fsBlk]) (fun q _ hne => set_other _ _ _ _ _ hne)
theorem FsM.cells {w : World} {f : Nat} {lk : Int} {S : Fs} {X : List Th} {O : Nat → Prop} {K : Nat → Option (List UInt8)} {n l : Lie} {pv : Value} {ps : List Value} (h : FsM w f lk S X O K n l pv ps) :
    w.cell? ⟨f, 0, none⟩ = some (.int .i32 lk) ∧ w.cell? ⟨f, 2, none⟩ = some (.int .i64 (S.room : Int)) ∧ w.cell? ⟨f, 3, none⟩ = some (.map n.m) ∧ w.cell? ⟨f, 4, none⟩ = some (.int .i64 S.now.u) ∧ w.cell? ⟨f, 5, none⟩ = some (.map l.m) ∧ w.cell? ⟨f, 6, none⟩ = some (.int .i64 S.las.u) ∧ w.cell? ⟨f, 7, none⟩ = some pv ∧ w.cell? ⟨f, 8, none⟩ = some (.bool S.fuse.isSome) ∧ w.cell? ⟨f, 9, none⟩ = some (.int .i64 ((S.fuse.getD 0 : Nat) : Int)) ∧ ∀ j, w.frozen? ⟨f, j, none⟩ = false := by
  have hb := h.blk
  unfold fsBlk at hb
  refine ⟨?_, ?_, ?_, ?_, ?_, ?_, ?_, ?_, ?_, fun j => ?_⟩
  all_goals first | (simp [World.cell?, hb]; done) | (simp [World.frozen?, hb]; done)
end Go.Proofs.Ytbnbakcoomjnaaa
