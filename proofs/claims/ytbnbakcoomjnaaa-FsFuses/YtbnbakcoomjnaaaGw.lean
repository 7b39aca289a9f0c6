/- write, fill, and the things that Write, Append and Link do, to any table. -/
import Derived.Test.YtbnbakcoomjnaaaGl
import Derived.Deep.RegionLaw
namespace Go.Proofs.Ytbnbakcoomjnaaa
open Go.RowKit Go.Maps
set_option linter.unusedSimpArgs false
/-- One stamp more. -/
def addF (F : Nat → Prop) (i : Nat) : Nat → Prop := fun j => j = i ∨ F j
theorem DataIs.len {K : Nat → Option (List UInt8)} {v : Value} {d : List UInt8} (h : DataIs K v d) : ∃ a c, v = .slice a d.length c := by
  obtain ⟨a, c, e, _⟩ := h
  exact ⟨a, c, e⟩
theorem TabM.addFile {w : World} {K : Nat → Option (List UInt8)} {m : Option Nat} {n : Nat} {T : Tb} {F : Nat → Prop} {b : Nat → Nat} {h : Nat → Value} (hT : TabM w K m n T F b h) {i : Nat} (hi : ¬ F i) {d : List UInt8} {v : Value} (hv : DataIs K v d) {w1 : World}
    (h1 : ∀ q, q < w.heap.size → (m = some q ∨ ∃ j, F j ∧ q = b j) → w1.heap[q]? = w.heap[q]?) (h2 : w1.heap[w.heap.size]? = some (.cells #[v, .int .i32 0] 94 (0, 0))) :
    TabM w1 K m n (T.add d i) (addF F i) (updN b i w.heap.size) (updN h i v) := by
  have hlt : ∀ j, F j → b j < w.heap.size := fun j hj => (Array.getElem?_eq_some_iff.1 (hT.file j hj)).1
  have hni : ∀ j, F j → j ≠ i := fun j hj e => hi (e ▸ hj)
  refine ⟨?_, hT.nil, fun s j hj => .inr (hT.live s j hj), fun j hj => ?_, fun j k hj hk e => ?_, fun j hj => ?_⟩
  · have e : (fun s => ((T.add d i).N s).map (updN b i w.heap.size)) = fun s => (T.N s).map b := by
      funext s
      show (T.N s).map _ = _
      cases hs : T.N s with
      | none => rfl
      | some j => simp only [Option.map_some]; rw [updN_ne _ _ (hni j (hT.live s j hs))]
    rw [e]
    refine hT.tab.same fun q e => h1 q ?_ (.inl e)
    subst e
    obtain ⟨es, cl, hb⟩ := hT.tab.block
    exact (Array.getElem?_eq_some_iff.1 hb).1
  · show w1.heap[updN b i w.heap.size j]? = some (Obj.cells #[updN h i v j, .int .i32 (updN T.c i 0 j)] 94 (0, 0))
    by_cases e : j = i
    · subst e
      rw [updN_same, updN_same, updN_same, h2]
    · have hj' : F j := hj.resolve_left e
      rw [updN_ne _ _ e, updN_ne _ _ e, updN_ne _ _ e, h1 _ (hlt j hj') (.inr ⟨j, hj', rfl⟩), hT.file j hj']
  · by_cases ej : j = i
    · by_cases ek : k = i
      · rw [ej, ek]
      · rw [ej, updN_same, updN_ne _ _ ek] at e
        have := hlt k (hk.resolve_left ek)
        omega
    · by_cases ek : k = i
      · rw [ek, updN_same, updN_ne _ _ ej] at e
        have := hlt j (hj.resolve_left ej)
        omega
      · rw [updN_ne _ _ ej, updN_ne _ _ ek] at e
        exact hT.inj j k (hj.resolve_left ej) (hk.resolve_left ek) e
  · show DataIs K (updN h i v j) (updN T.D i d j)
    by_cases e : j = i
    · subst e; rw [updN_same, updN_same]; exact hv
    · rw [updN_ne _ _ e, updN_ne _ _ e]; exact hT.data j (hj.resolve_left e)
/-- What is left where a thing lays a name. -/
structure Done (f o : Nat) (m : Option Nat) (F : Nat → Prop) (b : Nat → Nat) (u : Int) (mb : Nat) (w w' : World) : Prop where
  fr : TFr f m F b w w'
  new : m = some mb ∨ (m = none ∧ w.heap.size ≤ mb)
  blk : w'.heap[f]? = ((w.setCell ⟨f, o + 1, none⟩ (.int .i64 u)).setCell ⟨f, o, none⟩ (.map (some mb))).heap[f]?
theorem two_sets {w w1 : World} {f o : Nat} {u0 u1 x : Value} (h : w1.heap[f]? = (w.setCell ⟨f, o + 1, none⟩ u0).heap[f]?) : ((w1.setCell ⟨f, o + 1, none⟩ u1).setCell ⟨f, o, none⟩ x).heap[f]? = ((w.setCell ⟨f, o + 1, none⟩ u1).setCell ⟨f, o, none⟩ x).heap[f]? := by
  simp only [World.setCell, Array.getElem?_modify] at h ⊢
  simp only [if_true] at h ⊢
  rw [h]
  cases w.heap[f]? with
  | none => rfl
  | some x => cases x <;> simp
set_option maxRecDepth 20000 in
set_option maxHeartbeats 1000000 in
theorem write_any (f o : Nat) (K : Nat → Option (List UInt8)) (m : Option Nat) (n k : Nat) (T : Tb) (F : Nat → Prop) (b : Nat → Nat) (h : Nat → Value) (s : ByteArray) (d : List UInt8) (v : Value) (i : Nat) (w : World) (hc : w.cell? ⟨f, o, none⟩ = some (.map m)) (hu : w.cell? ⟨f, o + 1, none⟩ = some (.int .i64 T.u)) (hfz : ∀ j, w.frozen? ⟨f, j, none⟩ = false)
    (hT : TabM w K m n T F b h) (hok : T.Ok k) (hk : k < 100000) (hs : s.size ≤ maxLen) (hn : n < maxLen) (hbf : ∀ i, F i → b i ≠ f) (hi : ¬ F i) (hv : DataIs K v d) (hd : d.length ≤ 1048576) :
    Calls Try.prog 35 #[.pointer (some ⟨f, o, none⟩), .string s, v] w fun e w' => e = .returned (.tuple #[]) ∧ ∃ mb, TabM w' K (some mb) (n + 1) (T.write s d i) (addF F i) (updN b i w.heap.size) (updN h i v) ∧ Done f o m F b (T.write s d i).u mb w w' := by
  obtain ⟨a, c, ev⟩ := hv.len
  have r1 := hfz (o + 1)
  have hfl : f < w.heap.size := cellLt hc
  have hub := hok.ub
  obtain ⟨w1, hw1⟩ : ∃ w1, w1 = (w.setCell ⟨f, o + 1, none⟩ (.int .i64 (T.u + (d.length : Int)))).alloc (.cells #[v, .int .i32 0] 94) := ⟨_, rfl⟩
  have hs1 : w1.heap.size = w.heap.size + 1 := by rw [hw1]; simp [World.setCell]
  have hold : ∀ q, q < w.heap.size → q ≠ f → w1.heap[q]? = w.heap[q]? := fun q h1 h2 => by rw [hw1, Below.heap_alloc _ _ _ (by simp [World.setCell]; exact h1), set_other _ _ _ _ _ h2]
  have hnew : w1.heap[w.heap.size]? = some (.cells #[v, .int .i32 0] 94 (0, 0)) := by
    rw [hw1]
    show ((w.setCell ⟨f, o + 1, none⟩ (.int .i64 (T.u + (d.length : Int)))).heap.push _)[w.heap.size]? = _
    rw [Array.getElem?_push, if_pos (by simp [World.setCell])]
  have hbw : w1.heap[f]? = (w.setCell ⟨f, o + 1, none⟩ (.int .i64 (T.u + (d.length : Int)))).heap[f]? := by rw [hw1, Below.heap_alloc _ _ _ (by simp [World.setCell]; exact hfl)]
  have hmf : m ≠ some f := fun e => by
    subst e
    obtain ⟨es, cl, hb⟩ := hT.tab.block
    simp [World.cell?, hb] at hc
  have hT1 := hT.addFile hi hv (w1 := w1) (fun q h1 h2 => hold q h1 (by
    rcases h2 with e | ⟨j, hj, e⟩
    · exact fun e2 => hmf (by rw [e, e2])
    · rw [e]; exact hbf j hj)) hnew
  have hlt : ∀ j, F j → b j < w.heap.size := fun j hj => (Array.getElem?_eq_some_iff.1 (hT.file j hj)).1
  have hni : ∀ j, F j → j ≠ i := fun j hj e => hi (e ▸ hj)
  have HL := hide (lay_any f o K m n (k + 1) (T.add d i) (addF F i) (updN b i w.heap.size) (updN h i v) s i w1
    (by rw [World.cell?_of_block (w := w.setCell ⟨f, o + 1, none⟩ (.int .i64 (T.u + (d.length : Int)))) (a := ⟨f, o, none⟩) hbw, World.cell?_setCell_other _ ⟨f, o + 1, none⟩ ⟨f, o, none⟩ _ (by simp)]; exact hc)
    (by rw [World.cell?_of_block (w := w.setCell ⟨f, o + 1, none⟩ (.int .i64 (T.u + (d.length : Int)))) (a := ⟨f, o + 1, none⟩) hbw]; exact World.cell?_setCell_same w ⟨f, o + 1, none⟩ _ hu)
    (fun j => by rw [World.frozen?_of_block (w := w.setCell ⟨f, o + 1, none⟩ (.int .i64 (T.u + (d.length : Int)))) (a := ⟨f, j, none⟩) hbw, World.frozen?_setCell]; exact hfz j)
    hT1 (hok.add d i hd) (by omega) hs hn (fun j hj => by
      by_cases e : j = i
      · rw [e, updN_same]; omega
      · rw [updN_ne _ _ e]; exact hbf j (hj.resolve_left e)) (.inl rfl))
  rw [updN_same] at HL
  have HE : Hid (∀ w' mb, TabM w' K (some mb) (n + 1) (T.write s d i) (addF F i) (updN b i w.heap.size) (updN h i v) → TFr f m (addF F i) (updN b i w.heap.size) w1 w' → (m = some mb ∨ (m = none ∧ w1.heap.size ≤ mb)) →
      w'.heap[f]? = ((w1.setCell ⟨f, o + 1, none⟩ (.int .i64 (T.write s d i).u)).setCell ⟨f, o, none⟩ (.map (some mb))).heap[f]? → Done f o m F b (T.write s d i).u mb w w') := by
    intro w' mb _ hF hm hb
    refine ⟨?_, hm.imp id (fun e => ⟨e.1, by omega⟩), hb.trans (two_sets hbw)⟩
    have h0 : TFr f m F b w w1 := ⟨by rw [hw1]; rfl, by rw [hw1]; rfl, by rw [hw1]; rfl, by omega, fun q h1 h2 _ _ => hold q h1 h2⟩
    refine h0.trans hF (fun q e => .inl e) (fun j hj => ?_)
    by_cases e : j = i
    · rw [e, updN_same]; exact .inr (Nat.le_refl _)
    · rw [updN_ne _ _ e]; exact .inl ⟨hj.resolve_left e, rfl⟩
  have hwr : IntKind.i64.wrap (T.u + (d.length : Int)) = T.u + (d.length : Int) := wrap64 (by omega)
  rw [hw1] at HL HE
  clear hT hT1 hold hnew hbw hw1 hs1 hlt hni hub hv hbf hok
  subst ev
  generalize d.length = D at *
  go_enter Try.func35, Try.ntmps35
  go_wp2_with fail
  refine (unhide HL).mono ?_
  rintro e w2 ⟨rfl, mb, hM, hF, hm, hb⟩
  have HR := hide (And.intro hM (unhide HE w2 mb hM hF hm hb))
  clear hM hF hm hb HE HL
  go_wp2_with fail
  go_end0
  exact ⟨rfl, mb, unhide HR⟩
set_option maxRecDepth 20000 in
set_option maxHeartbeats 1000000 in
theorem do_write_any (f o pn pd : Nat) (K : Nat → Option (List UInt8)) (m : Option Nat) (n k : Nat) (T : Tb) (F : Nat → Prop) (b : Nat → Nat) (h : Nat → Value) (s : ByteArray) (d : List UInt8) (v : Value) (i : Nat) (w : World) (hc : w.cell? ⟨f, o, none⟩ = some (.map m)) (hu : w.cell? ⟨f, o + 1, none⟩ = some (.int .i64 T.u)) (hfz : ∀ j, w.frozen? ⟨f, j, none⟩ = false)
    (hT : TabM w K m n T F b h) (hok : T.Ok k) (hk : k < 100000) (hs : s.size ≤ maxLen) (hn : n < maxLen) (hbf : ∀ i, F i → b i ≠ f) (hi : ¬ F i) (hv : DataIs K v d) (hd : d.length ≤ 1048576) (h1 : w.cell? ⟨pn, 0, none⟩ = some (.string s)) (h2 : w.cell? ⟨pd, 0, none⟩ = some v) :
    Calls Try.prog 34 #[.pointer (some ⟨f, o, none⟩), .pointer (some ⟨pn, 0, none⟩), .pointer (some ⟨pd, 0, none⟩)] w fun e w' => e = .returned (.tuple #[]) ∧ ∃ mb, TabM w' K (some mb) (n + 1) (T.write s d i) (addF F i) (updN b i w.heap.size) (updN h i v) ∧ Done f o m F b (T.write s d i).u mb w w' := by
  have HW := hide (write_any f o K m n k T F b h s d v i w hc hu hfz hT hok hk hs hn hbf hi hv hd)
  obtain ⟨a, c, ev⟩ := hv.len
  clear hT hfz hok hbf hv
  subst ev
  generalize d.length = D at *
  go_enter Try.func34, Try.ntmps34
  go_wp2_with fail
  refine (unhide HW).mono ?_
  rintro e w2 ⟨rfl, hE⟩
  have HE := hide hE
  clear hE
  go_wp2_with fail
  go_end0
  exact ⟨rfl, unhide HE⟩
end Go.Proofs.Ytbnbakcoomjnaaa
