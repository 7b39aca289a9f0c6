/- The law FsRoom: its names, what stands between its rounds, and rows that came in. -/
import Derived.Test.YtbnbakcoomjnaaaIb
import Derived.Test.YtbnbakcoomjnaaaHf
namespace Go.Proofs.Ytbnbakcoomjnaaa
open Go.RowKit Go.Maps
set_option linter.unusedSimpArgs false
theorem Row.wider {hi hj : Nat} {w : World} {v : Value} {d : List UInt8} (h : Row hi w v d) (hh : hi ≤ hj) : Row hj w v d := by
  obtain ⟨a, c, e, hc', hr⟩ := h
  refine ⟨a, c, e, hc', fun h0 => ?_⟩
  obtain ⟨g, p, ea, hg, hcell⟩ := hr h0
  exact ⟨g, p, ea, Nat.lt_of_lt_of_le hg hh, hcell⟩
/-- A row that is there stays. -/
theorem Row.stays {w w' : World} {v : Value} {d : List UInt8} (h : Row w.heap.size w v d) (hb : Below w.heap.size w w') : Row w'.heap.size w' v d := (h.below hb).wider hb.size
/-- What stands while a law goes on. -/
structure Stand (w W : World) (S : Fs) (O : Nat → Prop) (k : Nat) : Prop where
  fs : FsIs W w.heap.size 0 S O k
  below : Below w.heap.size w W
  own : ∀ q, O q → w.heap.size ≤ q
theorem Stand.step {w W V : World} {S S' : Fs} {O O' : Nat → Prop} {k k' : Nat} (h : Stand w W S O k) (hF : FFr O O' W V) (hS : FsIs V w.heap.size 0 S' O' k') : Stand w V S' O' k' := by
  obtain ⟨b1, b2⟩ := FFr.toBelow h.below hF h.own h.below.size
  exact ⟨hS, b1, b2⟩
theorem Stand.low {w W V : World} {S : Fs} {O : Nat → Prop} {k : Nat} (h : Stand w W S O k) (hb : Below W.heap.size W V) : Stand w V S O k := ⟨h.fs.below hb, h.below.trans (hb.mono h.below.size), h.own⟩
def cv229 (v : Value) : Sem Value := convert 22 9 v
@[go_sem ↓] theorem convert_cv229 (v : Value) : convert 22 9 v = cv229 v := rfl
theorem push_fold (l : List UInt8) : ∀ r : ByteArray, (l.map (fun b => (b.toNat : Int))).foldl (fun r n => r.push (UInt8.ofNat n.toNat)) r = ⟨r.data ++ l.toArray⟩ := by
  induction l with
  | nil => intro r; simp
  | cons x l ih =>
    intro r
    rw [List.map_cons, List.foldl_cons, ih]
    simp [ByteArray.push]
/-- Bytes as a text. -/
theorem run_cv229 {w : World} {g c : Nat} {d : List UInt8} (hcell : ∀ j u, (byteVals d)[j]? = some u → w.cell? ((⟨g, 0, none⟩ : Addr).add j) = some u) : (cv229 (.slice (some ⟨g, 0, none⟩) d.length c)).run Try.prog w = .ok (.string ⟨d.toArray⟩) w := by
  unfold cv229
  rw [run_convert_bytes_string w 22 9 5 _ _ _ Try.underlying22 Try.underlying5 Try.underlying9]
  have hload : (loadCells ⟨g, 0, none⟩ d.length).run Try.prog w = .ok ((d.map (fun b => (b.toNat : Int))).map (Value.int .u8)).toArray w := by
    have := run_loadCells_list (P := Try.prog) w ⟨g, 0, none⟩ ((d.map (fun b => (b.toNat : Int))).map (Value.int .u8)) (fun j v hv => hcell j v (by rw [List.map_map] at hv; exact hv))
    simpa using this
  rw [run_bytesToString w _ d.length c _ hload, push_fold]
  simp [ByteArray.empty, ByteArray.emptyWithCapacity]
  rfl
/-- A name of two bytes. -/
def fn (j : Nat) : ByteArray := ⟨[(102 : UInt8), UInt8.ofNat j].toArray⟩
theorem fn_inj {i j : Nat} (hi : i < 256) (hj : j < 256) (h : fn i = fn j) : i = j := by
  simp [fn] at h
  have := congrArg UInt8.toNat h
  simp at this
  omega
theorem fn_size (j : Nat) : (fn j).size = 2 := rfl
/-- What stands between the rounds. -/
structure RI (S : Fs) (R k : Nat) : Prop where
  room : S.room = R
  fuse : S.fuse = none
  pend : S.pend.length ≤ k
  one : ∀ s i, S.now.N s = some i → S.now.c i = 1
  inj : ∀ s t i, S.now.N s = some i → S.now.N t = some i → s = t
  sum : S.now.u = ((S.now.alone (fn 0) + S.now.alone (fn 1) + S.now.alone (fn 2) : Nat) : Int)
  le : S.now.u ≤ (R : Int)
theorem RI.new (R : Nat) : RI (Fs.new R) R 0 := ⟨rfl, rfl, Nat.le_refl _, fun _ _ h => (by cases h), fun _ _ _ h => (by cases h), rfl, by show (0 : Int) ≤ R; omega⟩
theorem alone_some {T : Tb} {s : ByteArray} {i : Nat} (h : T.N s = some i) (hc : T.c i = 1) : T.alone s = (T.D i).length := by unfold Tb.alone; rw [h]; simp [hc]
theorem alone_nil {T : Tb} {s : ByteArray} (h : T.N s = none) : T.alone s = 0 := by unfold Tb.alone; rw [h]
theorem RI.write {S : Fs} {R k : Nat} (h : RI S R k) {j z : Nat} (hj : j < 3) {d : List UInt8} (hz : ∀ s i, S.now.N s = some i → i < z) (hfit : S.now.u - (S.now.alone (fn j) : Int) + (d.length : Int) ≤ (R : Int)) : RI (S.done (S.now.write (fn j) d z) (.write (fn j) d z)) R (k + 1) := by
  obtain ⟨w1, w2, w3, w4, w5⟩ := write_is S.now (fn j) d z (fun i hi => ⟨Nat.ne_of_lt (hz _ i hi), h.one _ i hi⟩)
  have hN : ∀ s i, (S.now.write (fn j) d z).N s = some i → (s = fn j ∧ i = z) ∨ (s ≠ fn j ∧ S.now.N s = some i ∧ i ≠ z) := fun s i e => by
    rw [w1] at e
    unfold upd at e
    split at e
    · rename_i es
      injection e with e
      exact .inl ⟨es, e.symm⟩
    · rename_i es
      exact .inr ⟨es, e, Nat.ne_of_lt (hz s i e)⟩
  have hc : ∀ s i, (S.now.write (fn j) d z).N s = some i → (S.now.write (fn j) d z).c i = 1 := fun s i e => by
    rcases hN s i e with ⟨_, rfl⟩ | ⟨hs, e1, hi⟩
    · exact w4
    · rw [w5 i hi (fun e2 => hs (h.inj _ _ _ e1 e2))]
      exact h.one s i e1
  have hal : (S.now.write (fn j) d z).alone (fn j) = d.length := by
    have e : (S.now.write (fn j) d z).N (fn j) = some z := by rw [w1]; simp [upd]
    rw [alone_some e w4, w2, updN_same]
  have hal2 : ∀ t, t ≠ fn j → (S.now.write (fn j) d z).alone t = S.now.alone t := fun t ht => by
    have e : (S.now.write (fn j) d z).N t = S.now.N t := by rw [w1]; simp [upd, ht]
    cases hs : S.now.N t with
    | none => rw [alone_nil (e.trans hs), alone_nil hs]
    | some i => rw [alone_some (e.trans hs) (hc t i (e.trans hs)), alone_some hs (h.one t i hs), w2, updN_ne _ _ (Nat.ne_of_lt (hz t i hs))]
  refine ⟨h.room, by show S.fuse.map _ = _; rw [h.fuse]; rfl, by have := h.pend; simp [Fs.done]; exact this, hc, fun s t i e1 e2 => ?_, ?_, ?_⟩
  · rcases hN s i e1 with ⟨es, ei⟩ | ⟨hs, e3, hi⟩
    · rcases hN t i e2 with ⟨et, _⟩ | ⟨_, _, hi2⟩
      · rw [es, et]
      · exact absurd ei hi2
    · rcases hN t i e2 with ⟨_, ei⟩ | ⟨_, e4, _⟩
      · exact absurd ei hi
      · exact h.inj _ _ _ e3 e4
  · show (S.now.write (fn j) d z).u = _
    have hs := h.sum
    have f01 : fn 0 ≠ fn 1 := fun e => by have := fn_inj (by omega) (by omega) e; omega
    have f02 : fn 0 ≠ fn 2 := fun e => by have := fn_inj (by omega) (by omega) e; omega
    have f12 : fn 1 ≠ fn 2 := fun e => by have := fn_inj (by omega) (by omega) e; omega
    show _ = (((S.now.write (fn j) d z).alone (fn 0) + (S.now.write (fn j) d z).alone (fn 1) + (S.now.write (fn j) d z).alone (fn 2) : Nat) : Int)
    have h3 : j = 0 ∨ j = 1 ∨ j = 2 := by omega
    rcases h3 with rfl | rfl | rfl
    · rw [hal, hal2 _ (Ne.symm f01), hal2 _ (Ne.symm f02), w3, hs]; omega
    · rw [hal, hal2 _ f01, hal2 _ (Ne.symm f12), w3, hs]; omega
    · rw [hal, hal2 _ f02, hal2 _ f12, w3, hs]; omega
  · show (S.now.write (fn j) d z).u ≤ _
    rw [w3]; omega
/-- What a name names. -/
def cont (S : Fs) (s : ByteArray) : List UInt8 :=
  match S.now.N s with
  | none => []
  | some i => S.now.D i
theorem cont_len {S : Fs} {R k : Nat} (h : RI S R k) (s : ByteArray) : (cont S s).length = S.now.alone s := by
  unfold cont
  cases hN : S.now.N s with
  | none => rw [alone_nil hN]; rfl
  | some i => rw [alone_some hN (h.one s i hN)]
theorem cont_write {S : Fs} {R k : Nat} (h : RI S R k) {s : ByteArray} {d : List UInt8} {z : Nat} (hz : ∀ s i, S.now.N s = some i → i < z) : cont (S.done (S.now.write s d z) (.write s d z)) s = d := by
  obtain ⟨w1, w2, _⟩ := write_is S.now s d z (fun i hi => ⟨Nat.ne_of_lt (hz _ i hi), h.one _ i hi⟩)
  have e : (S.done (S.now.write s d z) (.write s d z)).now.N s = some z := by
    show (S.now.write s d z).N s = _
    rw [w1]; simp [upd]
  unfold cont
  rw [e]
  show (S.now.write s d z).D z = d
  rw [w2, updN_same]
theorem read_any (f : Nat) (S : Fs) (O : Nat → Prop) (k : Nat) (s : ByteArray) (w : World) (h : FsIs w f 0 S O k) (hs : s.size ≤ maxLen) :
    Calls Try.prog 15 #[.pointer (some ⟨f, 0, none⟩), .string s] w fun e w' => ∃ a c er, e = .returned (.tuple #[.slice a (cont S s).length c, .int .i64 er]) ∧ Row w'.heap.size w' (.slice a (cont S s).length c) (cont S s) ∧ FsIs w' f 0 S O k ∧ Below w.heap.size w w' := by
  cases hN : S.now.N s with
  | none =>
    have e : cont S s = [] := by unfold cont; rw [hN]
    rw [e]
    refine (read_none f S O k s w h hs hN).mono ?_
    rintro e w' ⟨rfl, h1, h2⟩
    exact ⟨none, 0, 7, rfl, ⟨none, 0, rfl, Nat.le_refl _, fun h => by simp at h⟩, h1, h2⟩
  | some i =>
    have e : cont S s = S.now.D i := by unfold cont; rw [hN]
    rw [e]
    refine (read_ok f S O k s i w h hs hN).mono ?_
    rintro e w' ⟨a, c, L, rfl, h1, h2, h3, h4⟩
    exact ⟨a, c, 0, rfl, h1.row h2, h3, h4⟩
/-- A row of rows that came in. -/
def RowAt (W : World) (hi g o : Nat) (B : Nat → List UInt8) (i : Nat) : Prop := ∃ x y, W.cell? ⟨g, o + i, none⟩ = some (.slice x (B i).length y) ∧ Row hi W (.slice x (B i).length y) (B i)
/-- How many bytes the law counts. -/
def tot (B : Nat → List UInt8) : Nat → Nat
  | 0 => 0
  | k + 1 => tot B k + 1 + (B k).length
theorem tot_le (B : Nat → List UInt8) {i n : Nat} (h : i < n) : (B i).length ≤ tot B n := by
  induction n with
  | zero => omega
  | succ n ih =>
    simp only [tot]
    by_cases e : i = n
    · subst e; omega
    · have := ih (by omega); omega
end Go.Proofs.Ytbnbakcoomjnaaa
