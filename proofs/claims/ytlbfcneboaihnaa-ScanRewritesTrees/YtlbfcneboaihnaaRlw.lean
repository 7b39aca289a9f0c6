/- A loop over the places of digits: what stands while it goes, and its law. -/
import Derived.Test.YtlbfcneboaihnaaPls
import Derived.Lib.BufferWrite
namespace Go.Proofs.Ytlbfcneboaihnaa
open Go.RowKit Go.Shelf Go.Great
attribute [local go_sem] Oper.semAt_some
set_option linter.unusedSimpArgs false
theorem places_any (a : Option Addr) (n c : Nat) (s : ByteArray) (w : World) : Calls Try.prog 51 #[.slice a n c, .string s] w fun e w' => e = .returned (.func (.func 65) #[] #[.pointer (some ⟨w.heap.size + 1, 0, none⟩), .pointer (some ⟨w.heap.size, 0, none⟩)]) ∧ w' = (w.alloc (.cells #[.slice a n c] 22)).alloc (.cells #[.string s] 9) := by
  go_enter Try.func51, Try.ntmps51
  go_wp2
  go_ret
  exact ⟨rfl, rfl⟩
theorem cells_take (cur : List Value) (O T : List Nat) (p : Nat) (hc : cur.take O.length = O.map B8) (hl : O.length ≤ cur.length) (hp : p + T.length ≤ O.length) :
    (cur.take p ++ T.map B8 ++ cur.drop (p + T.length)).take O.length = (layAt T O p).map B8 := by
  have h1 : cur.take p = (O.take p).map B8 := by
    have : (cur.take O.length).take p = (O.map B8).take p := by rw [hc]
    rwa [List.take_take, Nat.min_eq_left (by omega), ← List.map_take] at this
  have h2 : (cur.drop (p + T.length)).take (O.length - (p + T.length)) = (O.drop (p + T.length)).map B8 := by
    rw [← List.drop_take, hc, ← List.map_drop]
  have hlen : (cur.take p ++ T.map B8).length = p + T.length := by rw [List.length_append, List.length_take, List.length_map]; omega
  rw [List.take_append, hlen, List.take_of_length_le (by rw [hlen]; exact hp), h1, h2]
  unfold layAt
  rw [List.map_append, List.map_append]
theorem byteCells_str (T : List Nat) (hT : Sha.Bytes T) : Lib.byteCells (strOf T).data.toList = T.map B8 := by
  have h := bytesOf_strOf T hT
  unfold bytesOf at h
  unfold Lib.byteCells
  conv => rhs; rw [← h]
  rw [List.map_map]; rfl
def cpS (ty : TypeId) (args : Array Value) : Sem Value := Builtin.copy_ #[22, 9] ty args
@[go_sem ↓] theorem copy_cpS (ty : TypeId) (args : Array Value) : Builtin.copy_ #[22, 9] ty args = cpS ty args := rfl
/-- A text's bytes laid into a row of the call's own. -/
theorem copyR (w : World) (base : Nat) (g n c : Nat) (O T : List Nat) (p : Nat) (ty : TypeId) (ho : OwnR w base (.slice (some ⟨g, 0, none⟩) n c) O) (hT : Sha.Bytes T) (hn : O.length = n) (hp : p + T.length ≤ n) :
    ∃ w', (cpS ty #[.slice (some ⟨g, p, none⟩) (n - p) (c - p), .string (strOf T)]).run Try.prog w = .ok (.int .i64 (T.length : Int)) w' ∧ OwnR w' base (.slice (some ⟨g, 0, none⟩) n c) (layAt T O p) ∧ w'.heap.size = w.heap.size ∧ w'.os = w.os ∧ w'.tape = w.tape ∧ w'.output = w.output ∧ ∀ k, k ≠ g → w'.heap[k]? = w.heap[k]? := by
  subst hn
  rcases ho.2 with ⟨h, _⟩ | ⟨g', cap, cur, e, hb, hh, hl, hmx, hs, ht⟩
  · cases h
  · injection e with e1 _ e3
    injection e1 with e1; injection e1 with e1 _ _
    subst e1 e3
    rw [Nat.mul_one] at hs ht
    have hr := Lib.run_copy_row_string (P := Try.prog) w 22 9 ty 5 g p (O.length - p) (c - p) (strOf T) cur 5 Try.underlying22 size5 hh (by rw [strOf_size]; omega) (by rw [strOf_size, hs]; omega)
    rw [strOf_size, byteCells_str T hT] at hr
    refine ⟨w.setRow g (cur.toList.take p ++ T.map B8 ++ cur.toList.drop (p + T.length)).toArray, hr, ?_, by simp [World.setRow], rfl, rfl, rfl, fun k hk => setRow_other w g k _ hk⟩
    have hlay := layAt_length (T := T) (O := O) (p := p) hp
    refine ⟨by rw [List.length_map, Nat.mul_one], .inr ⟨g, c, _, by rw [hlay], hb, setRow_heap w g cur _ 5 _ hh, by rw [hlay]; exact hl, hmx, ?_, ?_⟩⟩
    · simp only [List.size_toArray, List.length_append, List.length_take, List.length_drop, List.length_map, Array.length_toList]
      omega
    · rw [hlay, Nat.mul_one]
      exact cells_take cur.toList O T p ht (by have := Array.length_toList (xs := cur); omega) hp
/-- All blocks that were there but one stay. -/
structure SoleG (g : Nat) (w w' : World) : Prop where
  os : w'.os = w.os
  tape : w'.tape = w.tape
  output : w'.output = w.output
  size : w.heap.size ≤ w'.heap.size
  block : ∀ k, k < w.heap.size → k ≠ g → w'.heap[k]? = w.heap[k]?
theorem SoleG.up {g : Nat} {w w' w'' : World} (h : SoleG g w w') (k : Below w'.heap.size w' w'') : SoleG g w w'' :=
  ⟨k.os.trans h.os, k.tape.trans h.tape, k.output.trans h.output, Nat.le_trans h.size k.size, fun j h1 h2 => (k.block j (Nat.lt_of_lt_of_le h1 h.size)).trans (h.block j h1 h2)⟩
theorem heap_set_other (W : World) (b : Nat) (v : Value) (o k : Nat) (h : k ≠ b) : (W.setCell ⟨b, o, none⟩ v).heap[k]? = W.heap[k]? := Below.heap_setCell _ _ _ _ h
theorem cellP {W : World} {b : Nat} {v : Value} {t : TypeId} (h : W.heap[b]? = some (.cells #[v] t)) : W.cell? ⟨b, 0, none⟩ = some v := by simp [World.cell?, h]
/-- What stands while the places are gone through: s is at gs, its box at w's end, the box of what comes out at Ko, the iterator's own behind it. -/
structure Pj (w : World) (gs Ko : Nat) (F T : List Nat) (t : Int) (a : Option Addr) (n c : Nat) (B : List Nat) (vo : Value) (r : Loop) (pre : List Nat) (W : World) : Prop where
  old : SoleG gs w W
  str : W.heap[gs]? = some (.cells #[.string (strOf F), .string (strOf T), .int .i64 (t + (pre.length : Int))] 68)
  sbx : W.heap[w.heap.size]? = some (.cells #[.pointer (some ⟨gs, 0, none⟩)] 64)
  own : OwnR W (w.heap.size + 1) vo (layAll T B pre)
  obx : W.heap[Ko]? = some (.cells #[vo] 22)
  bbx : W.heap[Ko + 1]? = some (.cells #[.slice a n c] 22)
  dbx : W.heap[Ko + 1 + 1]? = some (.cells #[.string (strOf F)] 9)
  dfr : W.heap[Ko + 1 + 1 + 1]? = some (.deferred (some []))
  rcd : W.heap[Ko + 1 + 1 + 1 + 1]? = some (.loop r)
  row : BytesAt W (.slice a n c) B
  mxl : ∃ m, W.cell? ⟨0, 0, none⟩ = some (.int .i64 m)
/-- Where the boxes lie. -/
structure Where (w : World) (gs Ko : Nat) (vo : Value) (a : Option Addr) (n : Nat) : Prop where
  hgs : gs < w.heap.size
  hko : w.heap.size < Ko
  hvo : ∀ k, vo.ownBlock = some k → w.heap.size < k ∧ k < Ko
  har : 0 < n → ∀ x, a = some x → x.block ≠ gs ∧ x.block < w.heap.size
  hz : 0 ≠ gs ∧ 0 < w.heap.size
section
variable {w : World} {gs Ko : Nat} {F T : List Nat} {t : Int} {a : Option Addr} {n c : Nat} {B : List Nat} {vo : Value} {r : Loop} {pre : List Nat} {W : World}
theorem Pj.lt (h : Pj w gs Ko F T t a n c B vo r pre W) : Ko + 1 + 1 + 1 + 1 < W.heap.size := (Array.getElem?_eq_some_iff.1 h.rcd).1
theorem Pj.up (h : Pj w gs Ko F T t a n c B vo r pre W) {W' : World} (hb : Below W.heap.size W W') : Pj w gs Ko F T t a n c B vo r pre W' := by
  have g1 : ∀ k o, W.heap[k]? = some o → W'.heap[k]? = some o := fun k o e => by rw [hb.block k (Array.getElem?_eq_some_iff.1 e).1]; exact e
  obtain ⟨m, hm⟩ := h.mxl
  exact ⟨h.old.up hb, g1 _ _ h.str, g1 _ _ h.sbx, ownR_keep h.own fun k _ hk => hb.block k hk, g1 _ _ h.obx, g1 _ _ h.bbx, g1 _ _ h.dbx, g1 _ _ h.dfr, g1 _ _ h.rcd, h.row.below hb, m, by rw [hb.cell (p := ⟨0, 0, none⟩) (cell_lt hm)]; exact hm⟩
theorem bytes_keep {W W' : World} {a : Option Addr} {n c : Nat} {B : List Nat} (h : BytesAt W (.slice a n c) B) (hs : W.heap.size ≤ W'.heap.size) (hk : 0 < n → ∀ x, a = some x → W'.heap[x.block]? = W.heap[x.block]?) : BytesAt W' (.slice a n c) B := by
  obtain ⟨a', c', e, hc, hx⟩ := h
  injection e with e1 e2 e3
  refine ⟨a', c', by rw [e1, e2, e3], hc, fun h0 => ?_⟩
  obtain ⟨b, o, ea, hlt, hcell⟩ := hx h0
  have hb := hk (by omega) _ (e1.trans ea)
  exact ⟨b, o, ea, Nat.lt_of_lt_of_le hlt hs, fun j hj => by rw [World.cell?_of_block (w := W) (a := ⟨b, o + j, none⟩) hb]; exact hcell j hj⟩
/-- A record put anew. -/
theorem Pj.put (h : Pj w gs Ko F T t a n c B vo r pre W) (hw : Where w gs Ko vo a n) (r' : Loop) : Pj w gs Ko F T t a n c B vo r' pre (W.putObj (Ko + 1 + 1 + 1 + 1) (.loop r')) := by
  have hlt := h.lt
  have hko := hw.hko
  have hgs := hw.hgs
  have g1 : ∀ k, k ≠ Ko + 1 + 1 + 1 + 1 → (W.putObj (Ko + 1 + 1 + 1 + 1) (.loop r')).heap[k]? = W.heap[k]? := fun k hk => World.putObj_heap_other hk
  have hsz : (W.putObj (Ko + 1 + 1 + 1 + 1) (.loop r')).heap.size = W.heap.size := by simp [World.putObj]
  obtain ⟨m, hm⟩ := h.mxl
  have hz := hw.hz
  refine ⟨⟨h.old.os, h.old.tape, h.old.output, by rw [hsz]; exact h.old.size, fun k h1 h2 => (g1 k (by omega)).trans (h.old.block k h1 h2)⟩, by rw [g1 _ (by omega)]; exact h.str, by rw [g1 _ (by omega)]; exact h.sbx, ?_, by rw [g1 _ (by omega)]; exact h.obx, by rw [g1 _ (by omega)]; exact h.bbx, by rw [g1 _ (by omega)]; exact h.dbx, by rw [g1 _ (by omega)]; exact h.dfr, World.putObj_heap_same hlt, ?_, m, ?_⟩
  · refine ⟨h.own.1, ?_⟩
    rcases h.own.2 with h2 | ⟨g, cap, cur, e, hb, hh, rr⟩
    · exact .inl h2
    · have := hw.hvo g (by rw [e]; rfl)
      exact .inr ⟨g, cap, cur, e, hb, by rw [g1 _ (by omega)]; exact hh, rr⟩
  · exact bytes_keep h.row (by rw [hsz]; exact Nat.le_refl _) (fun hn x hx => g1 _ (by have := hw.har hn x hx; omega))
  · rw [World.cell?_of_block (w := W) (a := ⟨0, 0, none⟩) (g1 0 (by omega))]; exact hm
/-- The bytes laid at one more place, and that counted. -/
theorem Pj.lay (h : Pj w gs Ko F T t a n c B vo r pre W) (hw : Where w gs Ko vo a n) (hn : B.length = n) (hT : Sha.Bytes T) (hTl : T.length = 32) (p : Nat) (hp : p + 32 ≤ n) (hpre : ∀ q ∈ pre, q + 32 ≤ n) (ty : TypeId) :
    ∃ g cc, vo = .slice (some ⟨g, 0, none⟩) n cc ∧ n ≤ cc ∧ ∃ W1, (cpS ty #[.slice (some ⟨g, p, none⟩) (n - p) (cc - p), .string (strOf T)]).run Try.prog W = .ok (.int .i64 32) W1 ∧
      W1.cell? ⟨w.heap.size, 0, none⟩ = some (.pointer (some ⟨gs, 0, none⟩)) ∧ W1.cell? ⟨gs, 2, none⟩ = some (.int .i64 (t + (pre.length : Int))) ∧ W1.frozen? ⟨gs, 2, none⟩ = false ∧
      Pj w gs Ko F T t a n c B vo r (pre ++ [p]) (W1.setCell ⟨gs, 2, none⟩ (.int .i64 (t + (pre.length : Int) + 1))) ∧ W1.heap.size = W.heap.size ∧ (∀ k, Ko < k → W1.heap[k]? = W.heap[k]?) := by
  have hO : (layAll T B pre).length = n := by rw [layAll_length _ _ (fun q hq => by rw [hTl, hn]; exact hpre q hq), hn]
  obtain ⟨g, cc, rfl, hcc⟩ : ∃ g cc, vo = .slice (some ⟨g, 0, none⟩) n cc ∧ n ≤ cc := by
    rcases h.own.2 with ⟨_, h0⟩ | ⟨g, cap, cur, e, _, _, hl, _⟩
    · omega
    · exact ⟨g, cap, by rw [← hO]; exact e, by rw [← hO]; exact hl⟩
  obtain ⟨W1, hr, ho, hsz, h1, h2, h3, hk⟩ := copyR W (w.heap.size + 1) g n cc (layAll T B pre) T p ty h.own hT hO (by rw [hTl]; exact hp)
  obtain ⟨hg1, hg2⟩ := hw.hvo g rfl
  have hgs := hw.hgs
  have hko := hw.hko
  have hlt := h.lt
  have hz := hw.hz
  have s1 : W1.heap[gs]? = some (.cells #[.string (strOf F), .string (strOf T), .int .i64 (t + (pre.length : Int))] 68) := by rw [hk gs (by omega)]; exact h.str
  refine ⟨g, cc, rfl, hcc, W1, by rw [hr, hTl]; rfl, ?_, ?_, ?_, ?_, hsz, fun k hk' => hk k (by omega)⟩
  · exact cellP (by rw [hk _ (by omega)]; exact h.sbx)
  · simp [World.cell?, s1]
  · simp [World.frozen?, s1]
  obtain ⟨m, hm⟩ := h.mxl
  have g1 : ∀ k, k ≠ gs → (W1.setCell ⟨gs, 2, none⟩ (.int .i64 (t + (pre.length : Int) + 1))).heap[k]? = W1.heap[k]? := fun k hk' => heap_set_other _ _ _ _ _ hk'
  have g2 : ∀ k, k ≠ gs → k ≠ g → (W1.setCell ⟨gs, 2, none⟩ (.int .i64 (t + (pre.length : Int) + 1))).heap[k]? = W.heap[k]? := fun k h1 h2 => (g1 k h1).trans (hk k h2)
  have hsz2 : (W1.setCell ⟨gs, 2, none⟩ (.int .i64 (t + (pre.length : Int) + 1))).heap.size = W.heap.size := by simp [hsz]
  refine ⟨⟨h1.trans h.old.os, h2.trans h.old.tape, h3.trans h.old.output, by rw [hsz2]; exact h.old.size, fun k e1 e2 => (g2 k e2 (by omega)).trans (h.old.block k e1 e2)⟩, ?_, by rw [g2 _ (by omega) (by omega)]; exact h.sbx, ?_, by rw [g2 _ (by omega) (by omega)]; exact h.obx, by rw [g2 _ (by omega) (by omega)]; exact h.bbx, by rw [g2 _ (by omega) (by omega)]; exact h.dbx, by rw [g2 _ (by omega) (by omega)]; exact h.dfr, by rw [g2 _ (by omega) (by omega)]; exact h.rcd, ?_, m, ?_⟩
  · have hl1 : gs < W1.heap.size := (Array.getElem?_eq_some_iff.1 s1).1
    have s2 := s1
    rw [Array.getElem?_eq_getElem hl1] at s2
    have s3 := Option.some.inj s2
    simp [World.setCell, Array.getElem?_modify, Array.getElem?_eq_getElem hl1, s3]
    omega
  · rw [layAll_snoc]
    exact ownR_keep ho fun k hk' _ => g1 k (by omega)
  · exact bytes_keep h.row (by rw [hsz2]; exact Nat.le_refl _) (fun hn x hx => g2 _ (hw.har hn x hx).1 (by have := (hw.har hn x hx).2; omega))
  · rw [World.cell?_of_block (w := W) (a := ⟨0, 0, none⟩) (g2 0 hz.1 (by omega))]; exact hm
end
set_option maxRecDepth 20000 in
/-- A loop over the places whose round lays the text there and counts it. -/
theorem range_law {assign body : Code} {Q : Exit → Act → World → Prop} {b : Act} {w W0 : World} {gs Ko : Nat} {F T : List Nat} {t : Int} {a : Option Addr} {n c : Nat} {B : List Nat} {vo : Value} {g : Operand} {p : Tmp} (a1 : Nat → Act)
    (hw : Where w gs Ko vo a n) (hn : B.length = n) (hmax : n ≤ 1000000) (hB : Sha.Bytes B) (hF : Sha.Bytes F) (hFl : F.length = 32)
    (hg : b.eval g = .func (.func 65) #[] #[.pointer (some ⟨Ko + 1 + 1, 0, none⟩), .pointer (some ⟨Ko + 1, 0, none⟩)])
    (hsz : W0.heap.size = Ko + 1 + 1 + 1) (h0 : SoleG gs w W0) (hstr : W0.heap[gs]? = some (.cells #[.string (strOf F), .string (strOf T), .int .i64 t] 68)) (hsbx : W0.heap[w.heap.size]? = some (.cells #[.pointer (some ⟨gs, 0, none⟩)] 64)) (hown : OwnR W0 (w.heap.size + 1) vo B)
    (hobx : W0.heap[Ko]? = some (.cells #[vo] 22)) (hbbx : W0.heap[Ko + 1]? = some (.cells #[.slice a n c] 22)) (hdbx : W0.heap[Ko + 1 + 1]? = some (.cells #[.string (strOf F)] 9)) (hrow : BytesAt W0 (.slice a n c) B) (hmxl : ∃ m, W0.cell? ⟨0, 0, none⟩ = some (.int .i64 m))
    (hassign : ∀ (l x : Nat) (W : World) (K : Act → World → Prop), K (a1 x) W → assign.wpIn (Fence.wide.inRound l) 1 Try.prog (Exit.then K (fun _ _ _ => False)) { tmps := (#[p].zip #[Value.int .i64 (x : Int)]).foldl (fun t (p, v) => t.setIfInBounds p v) b.tmps, defers := [] } W)
    (hbody : ∀ (l x : Nat) (r : Loop) (pre : List Nat) (W : World) (R : Exit → Act → World → Prop), x + 32 ≤ n → pre.length ≤ n → (∀ q ∈ pre, q + 32 ≤ n) → Pj w gs Ko F T t a n c B vo r pre W → (∀ a' W', Pj w gs Ko F T t a n c B vo r (pre ++ [x]) W' → W'.heap.size = W.heap.size → (∀ k, Ko < k → W'.heap[k]? = W.heap[k]?) → R .normal a' W') → body.wpIn (Fence.wide.inRound l) 1 Try.prog R (a1 x) W)
    (hdone : ∀ (r : Loop) (W : World), Pj w gs Ko F T t a n c B vo r (plcs B F 0) W → Q .normal { b with defers := { target := .collected W0.heap.size, args := #[] } :: b.defers } W) :
    (Code.rangeFunc g #[p] assign body).wpIn Fence.wide 3 Try.prog Q b W0 := by
  refine wpIn_rangeFunc ?_
  intro fn hfn
  obtain ⟨rc, hrc⟩ : ∃ rc : LoopState → Option Code → Loop, rc = fun st pe => { state := st, pending := pe, fn, tmps := b.tmps, params := #[p], assign, body, defers := W0.heap.size } := ⟨_, rfl⟩
  obtain ⟨W1, hW1⟩ : ∃ W1, (W0.alloc (.deferred (some []))).alloc (.loop (rc .ready none)) = W1 := ⟨_, rfl⟩
  have hb1 : Below W0.heap.size W0 W1 := by rw [← hW1]; exact ((Below.refl _ _).alloc (Nat.le_refl _) _).alloc (by simp) _
  have hsz1 : W1.heap.size = Ko + 1 + 1 + 1 + 1 + 1 := by rw [← hW1]; simp [hsz]
  have hP1 : Pj w gs Ko F T t a n c B vo (rc .ready none) [] W1 := by
    have g1 : ∀ k o, W0.heap[k]? = some o → W1.heap[k]? = some o := fun k o e => by rw [hb1.block k (Array.getElem?_eq_some_iff.1 e).1]; exact e
    obtain ⟨m, hm⟩ := hmxl
    refine ⟨h0.up hb1, g1 _ _ (by simpa using hstr), g1 _ _ hsbx, ownR_keep hown fun k _ hk => hb1.block k hk, g1 _ _ hobx, g1 _ _ hbbx, g1 _ _ hdbx, ?_, ?_, hrow.below hb1, m, by rw [hb1.cell (p := ⟨0, 0, none⟩) (cell_lt hm)]; exact hm⟩
    · rw [← hsz, ← hW1]; exact (Below.heap_alloc _ _ _ (by simp)).trans (World.alloc_heap_new W0 _)
    · rw [← hsz, ← hW1]; have := World.alloc_heap_new (W0.alloc (.deferred (some []))) (.loop (rc .ready none)); rwa [World.size_alloc] at this
  refine ⟨W0.heap.size + 1, [{ target := .collected W0.heap.size, args := #[] }], W1, { target := .fn (.func 65) #[.pointer (some ⟨Ko + 1 + 1, 0, none⟩), .pointer (some ⟨Ko + 1, 0, none⟩)], args := #[.func (.yield (W0.heap.size + 1)) #[] #[]] }, W1, 65, #[.func (.yield (W0.heap.size + 1)) #[] #[]] ++ #[.pointer (some ⟨Ko + 1 + 1, 0, none⟩), .pointer (some ⟨Ko + 1, 0, none⟩)], W1, ?_, ?_, fun _ _ => trivial, ?_, fun _ => by omega, ?_⟩
  · rw [← hW1, hrc]; exact run_enterLoop_outer _ _ _ _ _
  · simp only [resolve, hg]
    simp [go_sem]
  · simp [invoke, go_sem]
  have hl : W0.heap.size + 1 = Ko + 1 + 1 + 1 + 1 := by omega
  rw [hl]
  refine CallsIn.mono (places_in 2 (Ko + 1 + 1 + 1 + 1) (Ko + 1 + 1) (Ko + 1) B F a n c
    (fun pre W => (∀ q ∈ pre, q + 32 ≤ n) ∧ Pj w gs Ko F T t a n c B vo (rc .ready none) pre W) hn hmax hB hF hFl ?_ ?_ W1 ⟨fun q hq => (by cases hq), hP1⟩ ?_) ?_
  · rintro pre W ⟨_, h⟩
    exact ⟨cellP h.dbx, cellP h.bbx, h.row, h.mxl⟩
  · rintro pre W W' ⟨h1, h2⟩ hb
    exact ⟨h1, h2.up hb⟩
  · rintro pre x W hx hxl ⟨h1, h2⟩ hszW
    have hy := run_yield (P := Try.prog) (args := #[.int .i64 (x : Int)]) h2.rcd (by rw [hrc]; rfl)
    rw [hrc] at hy
    refine ⟨fn, _, assign, body, hy, roundIn_of_wpIn hfn (hassign _ x W _ ⟨_, run_beginRound h2.rcd (by rw [hrc]), ?_⟩)⟩
    have h3 := h2.put hw { rc .ready none with state := .busy }
    refine hbody _ x _ pre _ _ hx hxl h1 h3 (fun a' W' h4 hsz4 hk4 => ?_)
    have hput : ∀ r', (W.putObj (Ko + 1 + 1 + 1 + 1) (.loop r')).heap.size = W.heap.size := fun r' => by simp [World.putObj]
    have hput' : ∀ r', (W'.putObj (Ko + 1 + 1 + 1 + 1) (.loop r')).heap.size = W'.heap.size := fun r' => by simp [World.putObj]
    rw [hput] at hsz4
    have h5 := h4.put hw (rc .ready none)
    refine ⟨_, _, run_endRound none h4.rcd, rfl, ⟨?_, ?_⟩, ?_, ?_⟩
    · intro q hq
      rcases List.mem_append.1 hq with h | h
      · exact h1 q h
      · rw [List.mem_singleton.1 h]; exact hx
    · rw [hrc] at h5 ⊢; exact h5
    · rw [hput', hsz4]; exact Nat.le_refl _
    · intro k hk1 hk2
      rw [World.putObj_heap_other (by omega), hk4 k (by omega), World.putObj_heap_other (by omega)]
  · rintro e W2 ⟨⟨v, rfl⟩, h1, h2⟩
    exact ⟨none, _, by have := run_endLoop (P := Try.prog) h2.rcd (by rw [hrc]; simp); rw [hrc] at this; exact this, hdone _ _ (h2.put hw _)⟩
end Go.Proofs.Ytlbfcneboaihnaa
