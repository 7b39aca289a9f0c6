/- A table of a FS, as mathematics and in memory; a name that is dropped. -/
import Derived.Test.YtbnbakcoomjnaaaFcl
namespace Go.Proofs.Ytbnbakcoomjnaaa
open Go.RowKit Go.Maps
set_option linter.unusedSimpArgs false
/-- A table: names with the stamps of files; files' bytes, how many names each has, how many bytes are counted. -/
structure Tb where
  N : ByteArray → Option Nat
  D : Nat → List UInt8
  c : Nat → Int
  u : Int
def updN {A : Type} (g : Nat → A) (i : Nat) (v : A) : Nat → A := fun j => if j = i then v else g j
theorem updN_same {A : Type} (g : Nat → A) (i : Nat) (v : A) : updN g i v i = v := by simp [updN]
theorem updN_ne {A : Type} (g : Nat → A) {i j : Nat} (v : A) (h : j ≠ i) : updN g i v j = g j := by simp [updN, h]
def Tb.drop (T : Tb) (s : ByteArray) : Tb :=
  match T.N s with
  | none => T
  | some i => ⟨upd T.N s none, T.D, updN T.c i (T.c i + -1), if T.c i + -1 = 0 then T.u - ((T.D i).length : Int) else T.u⟩
def Tb.set (T : Tb) (s : ByteArray) (i : Nat) : Tb := ⟨upd T.N s (some i), T.D, updN T.c i (T.c i + 1), T.u⟩
def Tb.lay (T : Tb) (s : ByteArray) (i : Nat) : Tb := (T.drop s).set s i
def Tb.add (T : Tb) (d : List UInt8) (i : Nat) : Tb := ⟨T.N, updN T.D i d, updN T.c i 0, T.u + (d.length : Int)⟩
def Tb.write (T : Tb) (s : ByteArray) (d : List UInt8) (i : Nat) : Tb := (T.add d i).lay s i
def Tb.put (T : Tb) (i : Nat) (d : List UInt8) : Tb := ⟨T.N, updN T.D i d, T.c, T.u + ((d.length : Int) - ((T.D i).length : Int))⟩
def Tb.fill (T : Tb) (s : ByteArray) (d : List UInt8) : Tb :=
  match T.N s with
  | none => T
  | some i => T.put i d
def Tb.move (T : Tb) (old s : ByteArray) : Tb :=
  if old = s then T else
  match T.N old with
  | none => T
  | some i => (T.lay s i).drop old
/-- A slice's bytes, where the bytes of each data block are known. -/
def DataIs (K : Nat → Option (List UInt8)) (v : Value) (d : List UInt8) : Prop :=
  ∃ a c, v = .slice a d.length c ∧ d.length ≤ c ∧ c ≤ maxLen ∧ ((a = none ∧ c = 0) ∨ ∃ g l, a = some ⟨g, 0, none⟩ ∧ K g = some l ∧ d <+: l)
/-- A table in memory. -/
structure TabM (w : World) (K : Nat → Option (List UInt8)) (m : Option Nat) (n : Nat) (T : Tb) (F : Nat → Prop) (b : Nat → Nat) (h : Nat → Value) : Prop where
  tab : TabIs w m n (fun s => (T.N s).map b)
  nil : m = none → n = 0
  live : ∀ s i, T.N s = some i → F i
  file : ∀ i, F i → w.heap[b i]? = some (.cells #[h i, .int .i32 (T.c i)] 94 (0, 0))
  inj : ∀ i j, F i → F j → b i = b j → i = j
  data : ∀ i, F i → DataIs K (h i) (T.D i)
/-- Bounds of its numbers. -/
structure Tb.Ok (T : Tb) (n : Nat) : Prop where
  cnt : ∀ i, -(n : Int) ≤ T.c i ∧ T.c i ≤ n
  ub : -((n : Int) * 1048576) ≤ T.u ∧ T.u ≤ (n : Int) * 1048576
  dl : ∀ i, (T.D i).length ≤ 1048576
/-- What a thing that is done to a table leaves as it was. -/
structure TFr (f : Nat) (m : Option Nat) (F : Nat → Prop) (b : Nat → Nat) (w w' : World) : Prop where
  os : w'.os = w.os
  tape : w'.tape = w.tape
  output : w'.output = w.output
  size : w.heap.size ≤ w'.heap.size
  rest : ∀ q, q < w.heap.size → q ≠ f → m ≠ some q → (∀ i, F i → q ≠ b i) → w'.heap[q]? = w.heap[q]?
theorem TFr.refl (f : Nat) (m : Option Nat) (F : Nat → Prop) (b : Nat → Nat) (w : World) : TFr f m F b w w := ⟨rfl, rfl, rfl, Nat.le_refl _, fun _ _ _ _ _ => rfl⟩
theorem TFr.trans {f : Nat} {m m' : Option Nat} {F F' : Nat → Prop} {b b' : Nat → Nat} {w w1 w2 : World} (h : TFr f m F b w w1) (k : TFr f m' F' b' w1 w2) (hm : ∀ q, m' = some q → m = some q ∨ w.heap.size ≤ q) (hF : ∀ i, F' i → (F i ∧ b' i = b i) ∨ w.heap.size ≤ b' i) : TFr f m F b w w2 :=
  ⟨k.os.trans h.os, k.tape.trans h.tape, k.output.trans h.output, Nat.le_trans h.size k.size, fun q h1 h2 h3 h4 => by
    rw [k.rest q (Nat.lt_of_lt_of_le h1 h.size) h2 (fun e => ?_) (fun i hi e => ?_), h.rest q h1 h2 h3 h4]
    · rcases hm q e with e2 | e2
      · exact h3 e2
      · omega
    · rcases hF i hi with ⟨hf, e2⟩ | e2
      · exact h4 i hf (e.trans e2)
      · omega⟩
theorem TFr.same {f : Nat} {m : Option Nat} {F : Nat → Prop} {b : Nat → Nat} {w w1 w2 : World} (h : TFr f m F b w w1) (k : TFr f m F b w1 w2) : TFr f m F b w w2 := h.trans k (fun _ e => .inl e) (fun _ hi => .inl ⟨hi, rfl⟩)
theorem updN_all {A : Type} {p : A → Prop} {g : Nat → A} {i : Nat} {v : A} (hv : p v) (hg : ∀ j, p (g j)) (j : Nat) : p (updN g i v j) := by
  unfold updN
  split
  · exact hv
  · exact hg j
def InB (n : Nat) (x : Int) : Prop := -(n : Int) ≤ x ∧ x ≤ n
def InU (n : Nat) (x : Int) : Prop := -((n : Int) * 1048576) ≤ x ∧ x ≤ (n : Int) * 1048576
theorem InB.mono {n n' : Nat} {x : Int} (h : InB n x) (hn : n ≤ n') : InB n' x := ⟨by have := h.1; omega, by have := h.2; omega⟩
theorem InU.mono {n n' : Nat} {x : Int} (h : InU n x) (hn : n ≤ n') : InU n' x := ⟨by have := h.1; omega, by have := h.2; omega⟩
theorem InB.add {n : Nat} {x y : Int} (h : InB n x) (hy : -1 ≤ y ∧ y ≤ 1) : InB (n + 1) (x + y) := ⟨by have := h.1; omega, by have := h.2; omega⟩
theorem InU.add {n : Nat} {x y : Int} (h : InU n x) (hy : -1048576 ≤ y ∧ y ≤ 1048576) : InU (n + 1) (x + y) := ⟨by have := h.1; omega, by have := h.2; omega⟩
theorem InU.sub {n : Nat} {x y : Int} (h : InU n x) (hy : -1048576 ≤ y ∧ y ≤ 1048576) : InU (n + 1) (x - y) := ⟨by have := h.1; omega, by have := h.2; omega⟩
theorem Tb.Ok.mono {T : Tb} {n n' : Nat} (h : T.Ok n) (hn : n ≤ n') : T.Ok n' := ⟨fun i => InB.mono (h.cnt i) hn, InU.mono h.ub hn, h.dl⟩
theorem Tb.Ok.drop {T : Tb} {n : Nat} (h : T.Ok n) (s : ByteArray) : (T.drop s).Ok (n + 1) := by
  unfold Tb.drop
  split
  · exact h.mono (by omega)
  · rename_i i _
    refine ⟨updN_all (p := InB (n + 1)) (InB.add (h.cnt i) (by omega)) (fun j => InB.mono (h.cnt j) (by omega)), ?_, h.dl⟩
    have h2 := h.dl i
    by_cases h0 : T.c i + -1 = 0
    · simp only [if_pos h0]
      exact InU.sub h.ub (by omega)
    · simp only [if_neg h0]
      exact InU.mono h.ub (by omega)
theorem Tb.Ok.set {T : Tb} {n : Nat} (h : T.Ok n) (s : ByteArray) (i : Nat) : (T.set s i).Ok (n + 1) :=
  ⟨updN_all (p := InB (n + 1)) (InB.add (h.cnt i) (by omega)) (fun j => InB.mono (h.cnt j) (by omega)), InU.mono h.ub (by omega), h.dl⟩
theorem Tb.Ok.lay {T : Tb} {n : Nat} (h : T.Ok n) (s : ByteArray) (i : Nat) : (T.lay s i).Ok (n + 2) := (h.drop s).set s i
theorem Tb.Ok.add {T : Tb} {n : Nat} (h : T.Ok n) (d : List UInt8) (i : Nat) (hd : d.length ≤ 1048576) : (T.add d i).Ok (n + 1) :=
  ⟨updN_all (p := InB (n + 1)) ⟨by omega, by omega⟩ (fun j => InB.mono (h.cnt j) (by omega)), InU.add h.ub (by omega), updN_all (p := fun d : List UInt8 => d.length ≤ 1048576) hd h.dl⟩
theorem Tb.Ok.write {T : Tb} {n : Nat} (h : T.Ok n) (s : ByteArray) (d : List UInt8) (i : Nat) (hd : d.length ≤ 1048576) : (T.write s d i).Ok (n + 3) := (h.add d i hd).lay s i
theorem Tb.Ok.put {T : Tb} {n : Nat} (h : T.Ok n) (i : Nat) (d : List UInt8) (hd : d.length ≤ 1048576) : (T.put i d).Ok (n + 1) :=
  ⟨fun j => InB.mono (h.cnt j) (by omega), InU.add h.ub (by have := h.dl i; omega), updN_all (p := fun d : List UInt8 => d.length ≤ 1048576) hd h.dl⟩
theorem Tb.Ok.fill {T : Tb} {n : Nat} (h : T.Ok n) (s : ByteArray) (d : List UInt8) (hd : d.length ≤ 1048576) : (T.fill s d).Ok (n + 1) := by
  unfold Tb.fill
  split
  · exact h.mono (by omega)
  · exact h.put _ d hd
theorem Tb.Ok.move {T : Tb} {n : Nat} (h : T.Ok n) (old s : ByteArray) : (T.move old s).Ok (n + 3) := by
  unfold Tb.move
  split
  · exact h.mono (by omega)
  · split
    · exact h.mono (by omega)
    · exact (h.lay s _).drop old
theorem set_file {w : World} {g : Nat} {x y v : Value} {t : TypeId} {fz : Nat × Nat} (h : w.heap[g]? = some (.cells #[x, y] t fz)) : (w.setCell ⟨g, 1, none⟩ v).heap[g]? = some (.cells #[x, v] t fz) := by
  simp [World.setCell, Array.getElem?_modify, h]
theorem set_file0 {w : World} {g : Nat} {x y v : Value} {t : TypeId} {fz : Nat × Nat} (h : w.heap[g]? = some (.cells #[x, y] t fz)) : (w.setCell ⟨g, 0, none⟩ v).heap[g]? = some (.cells #[v, y] t fz) := by
  simp [World.setCell, Array.getElem?_modify, h]
theorem size_set (w : World) (a : Addr) (v : Value) : (w.setCell a v).heap.size = w.heap.size := by simp [World.setCell]
theorem upd_map {N : ByteArray → Option Nat} {b : Nat → Nat} (s : ByteArray) (o : Option Nat) : (fun t => (upd N s o t).map b) = upd (fun t => (N t).map b) s (o.map b) := by
  funext t
  unfold upd
  split <;> rfl
theorem TabIs.mono {w : World} {m : Option Nat} {n n' : Nat} {L : ByteArray → Option Nat} (h : TabIs w m n L) (hn : n ≤ n') : TabIs w m n' L := by
  cases m with
  | none => exact h
  | some mb => obtain ⟨D, ho, hD⟩ := h; exact ⟨D, ho.mono hn, hD⟩
theorem TabIs.block {w : World} {mb n : Nat} {L : ByteArray → Option Nat} (h : TabIs w (some mb) n L) : ∃ es cl, w.heap[mb]? = some (.map es cl) := by
  obtain ⟨D, ⟨es, cl, hb, _⟩, _⟩ := h
  exact ⟨es, cl, hb⟩
theorem TabM.ne {w : World} {K : Nat → Option (List UInt8)} {m : Option Nat} {n : Nat} {T : Tb} {F : Nat → Prop} {b : Nat → Nat} {h : Nat → Value} (hT : TabM w K m n T F b h) {i : Nat} (hi : F i) : m ≠ some (b i) := by
  rintro rfl
  obtain ⟨es, cl, hb⟩ := hT.tab.block
  rw [hT.file i hi] at hb
  cases hb
theorem TabM.mono {w : World} {K : Nat → Option (List UInt8)} {m : Option Nat} {n n' : Nat} {T : Tb} {F : Nat → Prop} {b : Nat → Nat} {h : Nat → Value} (hT : TabM w K m n T F b h) (hn : n ≤ n') (hm : m = none → n' = 0) : TabM w K m n' T F b h :=
  ⟨hT.tab.mono hn, hm, hT.live, hT.file, hT.inj, hT.data⟩
/-- It stands where its blocks stand. -/
theorem TabM.kept {w w' : World} {K : Nat → Option (List UInt8)} {m : Option Nat} {n : Nat} {T : Tb} {F : Nat → Prop} {b : Nat → Nat} {h : Nat → Value} (hT : TabM w K m n T F b h) (hm : ∀ q, m = some q → w'.heap[q]? = w.heap[q]?) (hf : ∀ i, F i → w'.heap[b i]? = w.heap[b i]?) : TabM w' K m n T F b h :=
  ⟨hT.tab.same hm, hT.nil, hT.live, fun i hi => (hf i hi).trans (hT.file i hi), hT.inj, hT.data⟩
end Go.Proofs.Ytbnbakcoomjnaaa
