/- Rows that grow by one; take. -/
import Derived.Test.YtebcmicmklpflaaGreatDoorRc
namespace Go.Proofs.YtebcmicmklpflaaGreatDoor
open Go.RowKit Go.Maps
set_option linter.unusedSimpArgs false
def appG (ty : TypeId) (args : Array Value) : Sem Value := Builtin.append_ #[97, 97] ty args
@[go_sem ↓] theorem append_appG (ty : TypeId) (args : Array Value) : Builtin.append_ #[97, 97] ty args = appG ty args := rfl
def appL (ty : TypeId) (args : Array Value) : Sem Value := Builtin.append_ #[34, 34] ty args
@[go_sem ↓] theorem append_appL (ty : TypeId) (args : Array Value) : Builtin.append_ #[34, 34] ty args = appL ty args := rfl
set_option maxRecDepth 20000 in
theorem info104 : ∃ i z, Tryz.prog.info? 104 = some i ∧ i.zero = some z ∧ i.size = 1 ∧ i.bytes = 8 ∧ z.cells.size = 1 := by
  have h : (Tryz.prog.info? 104).map (fun i => (i.zero.map (fun z => z.cells.size), i.size, i.bytes)) = some (some 1, 1, 8) := by kernel_rfl
  cases hq : Tryz.prog.info? 104 with
  | none => simp [hq] at h
  | some i =>
    simp [hq] at h
    obtain ⟨⟨z, hz, h1⟩, h2, h3⟩ := h
    exact ⟨i, z, rfl, hz, h2, h3, h1⟩
set_option maxRecDepth 20000 in
theorem info39 : ∃ i z, Tryz.prog.info? 39 = some i ∧ i.zero = some z ∧ i.size = 1 ∧ i.bytes = 24 ∧ z.cells.size = 1 := by
  have h : (Tryz.prog.info? 39).map (fun i => (i.zero.map (fun z => z.cells.size), i.size, i.bytes)) = some (some 1, 1, 24) := by kernel_rfl
  cases hq : Tryz.prog.info? 39 with
  | none => simp [hq] at h
  | some i =>
    simp [hq] at h
    obtain ⟨⟨z, hz, h1⟩, h2, h3⟩ := h
    exact ⟨i, z, rfl, hz, h2, h3, h1⟩
/-- What a row is that has grown by one. -/
structure Grew (w : World) (e : TypeId) (gv : Value) (n : Nat) (xs : List Value) (x : Value) (gv' : Value) (w3 : World) : Prop where
  row : w3.ownsRow 0 e 1 gv' (n + 1) (xs ++ [x])
  gr : w.grownBy w3 gv.ownBlock
  loc : gv'.ownBlock = gv.ownBlock ∨ ∃ q, gv'.ownBlock = some q ∧ w.heap.size ≤ q
  shp : ∃ a c, gv' = .slice a (n + 1) c
theorem Grew.of {w w3 : World} {e : TypeId} {gv gv' x : Value} {n : Nat} {xs : List Value} (h1 : w3.ownsRow 0 e 1 gv' (n + 1) (xs ++ [x])) (h2 : w.grownBy w3 gv.ownBlock) (h3 : gv'.ownBlock = gv.ownBlock ∨ gv'.ownBlock = some (w.heap.size + 1)) : Grew w e gv n xs x gv' w3 :=
  ⟨h1, h2, h3.imp id (fun e => ⟨_, e, by omega⟩), by
    rcases h1.2 with ⟨_, e0⟩ | ⟨g, cap, cur, e0, _⟩
    · omega
    · exact ⟨_, _, e0⟩⟩
theorem ptr_grow {w : World} {gv : Value} {n : Nat} {xs : List Value} (h : w.ownsRow 0 104 1 gv n xs) (hn : n ≤ 100000) (x : Value) (hx : x.oneCell' = true) :
    ∃ gv' w3, (∀ ty, (appG ty #[gv, .slice (some ⟨w.heap.size, 0, none⟩) 1 1]).run Tryz.prog (w.alloc (.cells #[x] 104)) = .ok gv' w3) ∧ Grew w 104 gv n xs x gv' w3 := by
  obtain ⟨i, z, hi, hz, hsz, hby, hzs⟩ := info104
  obtain ⟨gv', w3, hr, hown, hgr, hnil, hloc⟩ := run_append_own_at (P := Tryz.prog) (w.alloc (.cells #[x] 104)) 0 97 97 104 i z 1 8 Tryz.underlying97 hi hz hsz hby hzs (by omega) gv n xs (h.alloc _) ⟨w.heap.size, 0, none⟩ 1 1 [x] rfl (cell_one_new w x 104) (fun u hu => by simp at hu; subst hu; exact hx) (by simp only [maxLen]; omega) (by omega) (Nat.zero_le _)
  exact ⟨gv', w3, fun _ => hr, Grew.of hown ((World.grownBy_alloc w _ _).trans hgr) (by rwa [World.size_alloc] at hloc)⟩
theorem rec_grow {w : World} {gv : Value} {n : Nat} {xs : List Value} (h : w.ownsRow 0 39 1 gv n xs) (hn : n ≤ 100000) (x : Value) (hx : x.oneCell' = true) :
    ∃ gv' w3, (∀ ty, (appL ty #[gv, .slice (some ⟨w.heap.size, 0, none⟩) 1 1]).run Tryz.prog (w.alloc (.cells #[x] 39)) = .ok gv' w3) ∧ Grew w 39 gv n xs x gv' w3 := by
  obtain ⟨i, z, hi, hz, hsz, hby, hzs⟩ := info39
  obtain ⟨gv', w3, hr, hown, hgr, hnil, hloc⟩ := run_append_own_at (P := Tryz.prog) (w.alloc (.cells #[x] 39)) 0 34 34 39 i z 1 24 Tryz.underlying34 hi hz hsz hby hzs (by omega) gv n xs (h.alloc _) ⟨w.heap.size, 0, none⟩ 1 1 [x] rfl (cell_one_new w x 39) (fun u hu => by simp at hu; subst hu; exact hx) (by simp only [maxLen]; omega) (by omega) (Nat.zero_le _)
  exact ⟨gv', w3, fun _ => hr, Grew.of hown ((World.grownBy_alloc w _ _).trans hgr) (by rwa [World.size_alloc] at hloc)⟩
/-- What holds groups and records stands. -/
def Tg (O : Nat → Prop) (w w' : World) : Prop := ∀ q x t, O q → w.heap[q]? = some (.cells x t (0, 0)) → (t = 5 ∨ t = 39 ∨ t = 115) → w'.heap[q]? = w.heap[q]?
theorem Rec.keptT {w w' : World} {O O' : Nat → Prop} {v : Value} {d : List UInt8} (h : Rec w O v d) (hO : ∀ q, O q → O' q) (hw : Tg O w w') : Rec w' O' v d := by
  obtain ⟨a, c, e, h1, h2, h3⟩ := h
  refine ⟨a, c, e, h1, h2, fun h0 => ?_⟩
  obtain ⟨g, cur, ea, ho, hg, hp⟩ := h3 h0
  exact ⟨g, cur, ea, hO g ho, (hw g _ _ ho hg (.inl rfl)).trans hg, hp⟩
theorem Recs.keptT {w w' : World} {O O' : Nat → Prop} {v : Value} {ds : List (List UInt8)} (h : Recs w O v ds) (hO : ∀ q, O q → O' q) (hw : Tg O w w') : Recs w' O' v ds := by
  obtain ⟨vals, h1, h2, h3⟩ := h
  refine ⟨vals, ⟨h1.1, h1.2.imp id ?_⟩, fun q e => hO q (h2 q e), fun j x d e1 e2 => (h3 j x d e1 e2).keptT hO hw⟩
  rintro ⟨g, cap, cur, e, h4, h5, h6⟩
  exact ⟨g, cap, cur, e, h4, (hw g _ _ (h2 g (by rw [e]; rfl)) h5 (.inr (.inl rfl))).trans h5, h6⟩
theorem Grp.keptT {w w' : World} {O O' : Nat → Prop} {q : Nat} {ah : Option Nat} {ds : List (List UInt8)} {prev : List UInt8} (h : Grp w O q ah ds prev) (hO : ∀ q, O q → O' q) (hw : Tg O w w') : Grp w' O' q ah ds prev := by
  obtain ⟨h1, rv, h2, h3⟩ := h
  exact ⟨hO q h1, rv, (hw q _ _ h1 h2 (.inr (.inr rfl))).trans h2, h3.keptT hO hw⟩
theorem Chain.keptT {w w' : World} {O O' : Nat → Prop} (hO : ∀ q, O q → O' q) (hw : Tg O w w') : ∀ {qs : List Nat} {gs : List (List (List UInt8))} {ah : Option Nat} {prev : List UInt8}, Chain w O ah prev qs gs → Chain w' O' ah prev qs gs := by
  intro qs
  induction qs with
  | nil => intro gs ah prev h; cases gs with
    | nil => trivial
    | cons => exact h.elim
  | cons q qs ih => intro gs ah prev h; cases gs with
    | nil => exact h.elim
    | cons g gs => exact ⟨h.1.keptT hO hw, ih h.2⟩
/-- The groups of a journal in memory: its own block j, all else in blocks of O. -/
structure GM (w : World) (j f : Nat) (nm : ByteArray) (J : Jn) (O : Nat → Prop) (gv lv : Value) (qs : List Nat) : Prop where
  blk : w.heap[j]? = some (jnBlk f nm J gv lv)
  nj : ¬ O j
  row : w.ownsRow 0 104 1 gv J.G.length (qs.map ptrV)
  rown : ∀ q, gv.ownBlock = some q → O q
  ch : Chain w O none z32 qs J.G
  lt : ∀ q, O q → q < w.heap.size
/-- Its own block is another one; the groups stand. -/
theorem GM.re {w w' : World} {j f : Nat} {nm : ByteArray} {J J' : Jn} {O : Nat → Prop} {gv lv lv' : Value} {qs : List Nat} (h : GM w j f nm J O gv lv qs) (hs : w.heap.size ≤ w'.heap.size) (hj : w'.heap[j]? = some (jnBlk f nm J' gv lv')) (hG : J'.G = J.G) (hw : ∀ q, O q → w'.heap[q]? = w.heap[q]?) : GM w' j f nm J' O gv lv' qs :=
  ⟨hj, h.nj, by rw [hG]; exact ownsRow_kept h.row (fun q e => hw q (h.rown q e)), h.rown, by rw [hG]; exact h.ch.kept (fun _ o => o) hw, fun q o => Nat.lt_of_lt_of_le (h.lt q o) hs⟩
theorem GM.kept {w w' : World} {j f : Nat} {nm : ByteArray} {J : Jn} {O : Nat → Prop} {gv lv : Value} {qs : List Nat} (h : GM w j f nm J O gv lv qs) (hs : w.heap.size ≤ w'.heap.size) (hj : w'.heap[j]? = w.heap[j]?) (hw : ∀ q, O q → w'.heap[q]? = w.heap[q]?) : GM w' j f nm J O gv lv qs := h.re hs (hj.trans h.blk) rfl hw
theorem GM.jlt {w : World} {j f : Nat} {nm : ByteArray} {J : Jn} {O : Nat → Prop} {gv lv : Value} {qs : List Nat} (h : GM w j f nm J O gv lv qs) : j < w.heap.size := (Array.getElem?_eq_some_iff.1 h.blk).1
theorem GM.below {w w' : World} {j f : Nat} {nm : ByteArray} {J : Jn} {O : Nat → Prop} {gv lv : Value} {qs : List Nat} (h : GM w j f nm J O gv lv qs) (hb : Below w.heap.size w w') : GM w' j f nm J O gv lv qs :=
  h.kept hb.size (hb.block j h.jlt) (fun q o => hb.block q (h.lt q o))
theorem jn_cells {w : World} {j f : Nat} {nm : ByteArray} {J : Jn} {gv lv : Value} (h : w.heap[j]? = some (jnBlk f nm J gv lv)) :
    w.cell? ⟨j, 0, none⟩ = some (.pointer (some ⟨f, 0, none⟩)) ∧ w.cell? ⟨j, 1, none⟩ = some (.string nm) ∧ w.cell? ⟨j, 2, none⟩ = some (.int .i64 (J.parts : Int)) ∧ w.cell? ⟨j, 6, none⟩ = some gv ∧ w.cell? ⟨j, 7, none⟩ = some (.int .i64 (wts J.G : Int)) ∧ w.cell? ⟨j, 8, none⟩ = some lv ∧ w.cell? ⟨j, 9, none⟩ = some (.int .i64 (wt J.D : Int)) ∧ w.cell? ⟨j, 10, none⟩ = some (.int .u32 (if J.dead then 1 else 0)) ∧ ∀ i, w.frozen? ⟨j, i, none⟩ = false := by
  unfold jnBlk at h
  refine ⟨?_, ?_, ?_, ?_, ?_, ?_, ?_, ?_, fun i => ?_⟩
  all_goals first | (simp [World.cell?, h]; done) | (simp [World.frozen?, h]; done)
theorem GM.shapes {w : World} {j f : Nat} {nm : ByteArray} {J : Jn} {O : Nat → Prop} {gv lv : Value} {qs : List Nat} (h : GM w j f nm J O gv lv qs) : ∃ ga gc, gv = .slice ga J.G.length gc := by
  rcases h.row.2 with ⟨e, e2⟩ | ⟨g, cap, cur, e, _⟩
  · exact ⟨none, 0, by rw [e, e2]⟩
  · exact ⟨_, _, e⟩
/-- Blocks of O, and all new ones. -/
def more (O : Nat → Prop) (w w' : World) : Nat → Prop := fun q => O q ∨ (w.heap.size ≤ q ∧ q < w'.heap.size)
theorem row_tag {w : World} {e : TypeId} {v : Value} {n : Nat} {xs : List Value} (h : w.ownsRow 0 e 1 v n xs) : ∀ b, v.ownBlock = some b → ∃ cur, w.heap[b]? = some (.cells cur e (0, 0)) := fun b eb => by
  rcases h.2 with ⟨e2, _⟩ | ⟨g, cap, cur, e2, _, hg, _⟩
  · rw [e2] at eb; simp [Value.ownBlock] at eb
  · rw [e2] at eb; simp [Value.ownBlock] at eb; subst eb; exact ⟨cur, hg⟩
theorem row_shape {w : World} {e : TypeId} {v : Value} {n : Nat} {xs : List Value} (h : w.ownsRow 0 e 1 v n xs) : ∃ a c, v = .slice a n c := by
  rcases h.2 with ⟨e1, e2⟩ | ⟨g, cap, cur, e1, _⟩
  · exact ⟨none, 0, by rw [e1, e2]⟩
  · exact ⟨_, _, e1⟩
/-- A group joins: what is left of the world. -/
theorem GM.took {w w3 : World} {j f : Nat} {nm : ByteArray} {J : Jn} {O OX : Nat → Prop} {gv gv' lv : Value} {qs : List Nat} {q : Nat} {ds : List (List UInt8)} (h : GM w j f nm J O gv lv qs) (hG : Grp w OX q (lastq qs) ds (digs z32 J.G)) (hXj : ¬ OX j) (hXl : ∀ b, OX b → b < w.heap.size) (hgw : Grew w 104 gv J.G.length (qs.map ptrV) (ptrV q) gv' w3) :
    w3.heap[j]? = some (jnBlk f nm J gv lv) ∧ GM ((w3.setCell ⟨j, 6, none⟩ gv').setCell ⟨j, 7, none⟩ (.int .i64 ((wts J.G + wt ds : Nat) : Int))) j f nm { J with G := J.G ++ [ds] } (more (fun b => O b ∨ OX b) w w3) gv' lv (qs ++ [q]) ∧
      (w.heap.size ≤ w3.heap.size) ∧ (∀ b, b < w.heap.size → ¬ O b → b ≠ j → ((w3.setCell ⟨j, 6, none⟩ gv').setCell ⟨j, 7, none⟩ (.int .i64 ((wts J.G + wt ds : Nat) : Int))).heap[b]? = w.heap[b]?) := by
  have hjl := h.jlt
  have hrowj : ∀ b, gv.ownBlock = some b → b ≠ j := fun b e e2 => h.nj (e2 ▸ h.rown b e)
  have hblk : ∀ b, b < w.heap.size → gv.ownBlock ≠ some b → w3.heap[b]? = w.heap[b]? := fun b h1 h2 => hgw.gr.block b h1 (fun e => h2 e.symm)
  have hj3 : w3.heap[j]? = some (jnBlk f nm J gv lv) := by rw [hblk j hjl (fun e => hrowj j e rfl)]; exact h.blk
  have hset : ∀ b, b ≠ j → ((w3.setCell ⟨j, 6, none⟩ gv').setCell ⟨j, 7, none⟩ (.int .i64 ((wts J.G + wt ds : Nat) : Int))).heap[b]? = w3.heap[b]? := fun b hb => by rw [set_other _ _ _ _ _ hb, set_other _ _ _ _ _ hb]
  have htag := row_tag h.row
  have hold : ∀ b, b < w.heap.size → gv.ownBlock ≠ some b → b ≠ j → ((w3.setCell ⟨j, 6, none⟩ gv').setCell ⟨j, 7, none⟩ (.int .i64 ((wts J.G + wt ds : Nat) : Int))).heap[b]? = w.heap[b]? := fun b h1 h2 h3 => by rw [hset b h3, hblk b h1 h2]
  have hTg : ∀ P : Nat → Prop, (∀ b, P b → b < w.heap.size ∧ b ≠ j) → Tg P w ((w3.setCell ⟨j, 6, none⟩ gv').setCell ⟨j, 7, none⟩ (.int .i64 ((wts J.G + wt ds : Nat) : Int))) := fun P hP b x t hb hx ht => by
    refine hold b (hP b hb).1 (fun e => ?_) (hP b hb).2
    obtain ⟨cur, hc⟩ := htag b e
    rw [hx] at hc
    injection hc with hc
    injection hc with _ hc
    rcases ht with rfl | rfl | rfl <;> exact absurd hc (by decide)
  refine ⟨hj3, ⟨?_, ?_, ?_, ?_, ?_, ?_⟩, hgw.gr.size, fun b h1 h2 h3 => hold b h1 (fun e => h2 (h.rown b e)) h3⟩
  · unfold jnBlk at hj3 ⊢
    simp only [wts_append]
    simp [World.setCell, Array.getElem?_modify, hj3, wts]
  · rintro ((o | o) | o)
    · exact h.nj o
    · exact hXj o
    · omega
  · have e1 : (J.G ++ [ds]).length = J.G.length + 1 := by simp
    have e2 : (qs ++ [q]).map ptrV = qs.map ptrV ++ [ptrV q] := by simp
    show World.ownsRow _ 0 104 1 gv' (J.G ++ [ds]).length _
    rw [e1, e2]
    refine ownsRow_kept hgw.row (fun b e => hset b (fun e2 => ?_))
    rcases hgw.loc with e3 | ⟨b', e3, h3⟩
    · rw [e3] at e; exact hrowj b e e2
    · rw [e3] at e; injection e with e; omega
  · intro b e
    rcases hgw.loc with e3 | ⟨b', e3, h3⟩
    · rw [e3] at e; exact .inl (.inl (h.rown b e))
    · rw [e3] at e; injection e with e
      subst e
      obtain ⟨cur, hc⟩ := row_tag hgw.row b' e3
      exact .inr ⟨h3, (Array.getElem?_eq_some_iff.1 hc).1⟩
  · refine Chain.snoc (h.ch.keptT (fun _ o => .inl (.inl o)) (hTg O (fun b o => ⟨h.lt b o, fun e => h.nj (e ▸ o)⟩))) ?_
    have hGk := hG.keptT (O' := more (fun b => O b ∨ OX b) w w3) (fun _ o => .inl (.inr o)) (hTg OX (fun b o => ⟨hXl b o, fun e => hXj (e ▸ o)⟩))
    by_cases hq : qs = []
    · rw [if_pos hq]
      rw [hq] at hGk
      exact hGk
    · rw [if_neg hq]; exact hGk
  · rintro b ((o | o) | o)
    · have := h.lt b o; have := hgw.gr.size; rw [size_set, size_set]; omega
    · have := hXl b o; have := hgw.gr.size; rw [size_set, size_set]; omega
    · rw [size_set, size_set]; exact o.2
set_option maxRecDepth 20000 in
set_option maxHeartbeats 1000000 in
theorem take_ok (j f : Nat) (nm : ByteArray) (J : Jn) (O OX : Nat → Prop) (gv lv : Value) (qs : List Nat) (q : Nat) (ds : List (List UInt8)) (w : World) (h : GM w j f nm J O gv lv qs) (hG : Grp w OX q (lastq qs) ds (digs z32 J.G)) (hXj : ¬ OX j) (hXO : ∀ b, OX b → ¬ O b) (hXl : ∀ b, OX b → b < w.heap.size) (hn : J.G.length ≤ 10000) (hl : ds.length ≤ 100000) (hwt : wt ds ≤ 10000000) (hws : wts J.G ≤ 10000000) :
    Calls Tryz.prog 50 #[.pointer (some ⟨j, 0, none⟩), .pointer (some ⟨q, 0, none⟩)] w fun e w' => e = .returned (.tuple #[]) ∧ ∃ gv', GM w' j f nm { J with G := J.G ++ [ds] } (more (fun b => O b ∨ OX b) w w') gv' lv (qs ++ [q]) ∧ w.heap.size ≤ w'.heap.size ∧ (∀ b, b < w.heap.size → ¬ O b → b ≠ j → w'.heap[b]? = w.heap[b]?) ∧ w'.os = w.os ∧ w'.tape = w.tape ∧ w'.output = w.output := by
  obtain ⟨gv', w3, hr, hgw⟩ := ptr_grow h.row (by omega) (ptrV q) rfl
  obtain ⟨hj3, hM, hz, hold⟩ := h.took hG hXj hXl hgw
  obtain ⟨_, _, _, c6, c7, _, _, _, cz⟩ := jn_cells h.blk
  obtain ⟨_, _, _, d6, d7, _, _, _, dz⟩ := jn_cells hj3
  have z6 := dz 6
  have z7 := dz 7
  obtain ⟨ga, gc, eg⟩ := h.shapes
  obtain ⟨ga', gc', eg'⟩ := hgw.shp
  obtain ⟨hoq, rv, hqb, hRv⟩ := hG
  have hqj : q ≠ j := fun e => hXj (e ▸ hoq)
  have hql := hXl q hoq
  have hqr : gv.ownBlock ≠ some q := fun e => hXO q hoq (h.rown q e)
  have hb4 : ∀ b, b < w.heap.size → gv.ownBlock ≠ some b → b ≠ j → (w3.setCell ⟨j, 6, none⟩ gv').heap[b]? = w.heap[b]? := fun b h1 h2 h3 => by rw [set_other _ _ _ _ _ h3]; exact hgw.gr.block b h1 (fun e => h2 e.symm)
  have HWe : Hid (∀ p, Calls Tryz.prog 100 #[.pointer (some ⟨q, 0, none⟩)] ((w3.setCell ⟨j, 6, none⟩ gv').drewN p) fun e w' => e = .returned (.int .i64 (wt ds : Int)) ∧ w' = (w3.setCell ⟨j, 6, none⟩ gv').drewN p) := fun p => by
    have hq4 : (w3.setCell ⟨j, 6, none⟩ gv').heap[q]? = some (grpBlk (lastq qs) rv 1 0 (nats (dig (digs z32 J.G) ds))) := by rw [hb4 q hql hqr hqj]; exact hqb
    exact weight_ok q OX rv ds _ (grp_cells (w := (w3.setCell ⟨j, 6, none⟩ gv').drewN p) hq4).2.1 (hRv.kept (fun _ o => o) (fun b hb => hb4 b (hXl b hb) (fun e => hXO b hb (h.rown b e)) (fun e => hXj (e ▸ hb)))) hl (by omega)
  have HE : Hid (∀ p, ∃ gv'', GM (((w3.setCell ⟨j, 6, none⟩ gv').drewN p).setCell ⟨j, 7, none⟩ (.int .i64 ((wts J.G + wt ds : Nat) : Int))) j f nm { J with G := J.G ++ [ds] } (more (fun b => O b ∨ OX b) w (((w3.setCell ⟨j, 6, none⟩ gv').drewN p).setCell ⟨j, 7, none⟩ (.int .i64 ((wts J.G + wt ds : Nat) : Int)))) gv'' lv (qs ++ [q]) ∧ w.heap.size ≤ (((w3.setCell ⟨j, 6, none⟩ gv').drewN p).setCell ⟨j, 7, none⟩ (.int .i64 ((wts J.G + wt ds : Nat) : Int))).heap.size ∧ (∀ b, b < w.heap.size → ¬ O b → b ≠ j → (((w3.setCell ⟨j, 6, none⟩ gv').drewN p).setCell ⟨j, 7, none⟩ (.int .i64 ((wts J.G + wt ds : Nat) : Int))).heap[b]? = w.heap[b]?) ∧ (((w3.setCell ⟨j, 6, none⟩ gv').drewN p).setCell ⟨j, 7, none⟩ (.int .i64 ((wts J.G + wt ds : Nat) : Int))).os = w.os ∧ (((w3.setCell ⟨j, 6, none⟩ gv').drewN p).setCell ⟨j, 7, none⟩ (.int .i64 ((wts J.G + wt ds : Nat) : Int))).tape = w.tape ∧ (((w3.setCell ⟨j, 6, none⟩ gv').drewN p).setCell ⟨j, 7, none⟩ (.int .i64 ((wts J.G + wt ds : Nat) : Int))).output = w.output) := fun p => by
    refine ⟨gv', ?_, ?_, hold, hgw.gr.os, hgw.gr.tape, hgw.gr.output⟩
    · have hmo : more (fun b => O b ∨ OX b) w (((w3.setCell ⟨j, 6, none⟩ gv').drewN p).setCell ⟨j, 7, none⟩ (.int .i64 ((wts J.G + wt ds : Nat) : Int))) = more (fun b => O b ∨ OX b) w w3 := by
        unfold more
        rw [size_set]
        show (fun q => _ ∨ (_ ∧ q < (w3.setCell ⟨j, 6, none⟩ gv').heap.size)) = _
        rw [size_set]
      rw [hmo]
      exact hM.kept (by simp only [size_set]; show w3.heap.size ≤ (w3.setCell ⟨j, 6, none⟩ gv').heap.size; rw [size_set]; exact Nat.le_refl _) rfl (fun _ _ => rfl)
    · rw [size_set]
      show _ ≤ (w3.setCell ⟨j, 6, none⟩ gv').heap.size
      rw [size_set]; exact hz
  have hD : IntKind.i64.wrap ((wts J.G : Int) + (wt ds : Int)) = (wts J.G : Int) + (wt ds : Int) := IntWalk.i64_in _ (by omega)
  have hc7 : (w3.setCell ⟨j, 6, none⟩ gv').cell? ⟨j, 7, none⟩ = some (.int .i64 (wts J.G : Int)) := by rw [World.cell?_setCell_other _ ⟨j, 6, none⟩ ⟨j, 7, none⟩ _ (by simp)]; exact d7
  have HP : Hid (((wts J.G + wt ds : Nat) : Int) = (wts J.G : Int) + (wt ds : Int)) := Int.natCast_add _ _
  subst eg eg'
  unfold ptrV at hr
  clear h hM hgw hqb hRv hold hb4 hj3 dz cz hws hwt hl hn hqr hXO hXl hXj hoq
  generalize hA : wts J.G = A at *
  generalize hB : wt ds = B at *
  generalize hNG : J.G.length = NG at *
  clear hA hB
  have hz7 : (w3.setCell ⟨j, 6, none⟩ (.slice ga' (NG + 1) gc')).frozen? ⟨j, 7, none⟩ = false := by rw [World.frozen?_setCell]; exact z7
  obtain ⟨W4, hW4⟩ : ∃ W4, W4 = w3.setCell ⟨j, 6, none⟩ (.slice ga' (NG + 1) gc') := ⟨_, rfl⟩
  rw [← hW4] at HWe HE hc7 hz7
  have hc7d : W4.drew.cell? ⟨j, 7, none⟩ = some (.int .i64 (A : Int)) := hc7
  have hz7d : W4.drew.frozen? ⟨j, 7, none⟩ = false := hz7
  have HW4 := hide hW4
  clear hW4
  go_enter Tryz.func50, Tryz.ntmps50
  go_wp2_with fail
  rw [← unhide HW4]
  refine wp_region_noPanic ?_
  go_region_with ((go_at_call 100; refine Calls.mono (unhide HWe 1) ?_; rintro e w5 ⟨rfl, rfl⟩))
  all_goals
    refine NoPanic.normal ?_
    go_wp2_with fail
    go_end0
    have := unhide HE 1
    rw [unhide HP] at this
    exact ⟨rfl, this⟩
end Go.Proofs.YtebcmicmklpflaaGreatDoor
