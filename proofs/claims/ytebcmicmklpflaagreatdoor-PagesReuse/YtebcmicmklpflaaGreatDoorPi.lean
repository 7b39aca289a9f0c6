/- Pages: a Pager's block; a page that is changed, in plain cells. -/
import Derived.Test.YtebcmicmklpflaaGreatDoorK13
namespace Go.Proofs.YtebcmicmklpflaaGreatDoor
open Go.RowKit Go.Maps
set_option linter.unusedSimpArgs false
/-- A Pager's block, cell by cell. -/
def PB (w : World) (p : Nat) (c : Nat → Value) : Prop := ∃ cs : Array Value, w.heap[p]? = some (.cells cs 142 (0, 0)) ∧ cs.size = 777 ∧ ∀ i, i < 777 → cs[i]? = some (c i)
def updC (c : Nat → Value) (i : Nat) (v : Value) : Nat → Value := fun j => if j = i then v else c j
theorem PB.cell {w : World} {p : Nat} {c : Nat → Value} (h : PB w p c) {i : Nat} (hi : i < 777) : w.cell? ⟨p, i, none⟩ = some (c i) := by
  obtain ⟨cs, h1, h2, h3⟩ := h
  simp only [World.cell?, h1]
  exact h3 i hi
theorem PB.frozen {w : World} {p : Nat} {c : Nat → Value} (h : PB w p c) (i : Nat) : w.frozen? ⟨p, i, none⟩ = false := by
  obtain ⟨cs, h1, h2, h3⟩ := h
  simp [World.frozen?, h1]
theorem PB.lt {w : World} {p : Nat} {c : Nat → Value} (h : PB w p c) : p < w.heap.size := by
  obtain ⟨cs, h1, h2, h3⟩ := h
  exact (Array.getElem?_eq_some_iff.1 h1).1
theorem PB.kept {w w' : World} {p : Nat} {c : Nat → Value} (h : PB w p c) (hb : w'.heap[p]? = w.heap[p]?) : PB w' p c := by
  obtain ⟨cs, h1, h2, h3⟩ := h
  exact ⟨cs, hb.trans h1, h2, h3⟩
theorem PB.congr {w : World} {p : Nat} {c c' : Nat → Value} (h : PB w p c) (he : ∀ i, i < 777 → c i = c' i) : PB w p c' := by
  obtain ⟨cs, h1, h2, h3⟩ := h
  exact ⟨cs, h1, h2, fun i hi => by rw [h3 i hi, he i hi]⟩
theorem setCell_block {w : World} {b : Nat} {cs : Array Value} {t : TypeId} {z : Nat × Nat} (i : Nat) (v : Value) (h : w.heap[b]? = some (.cells cs t z)) : (w.setCell ⟨b, i, none⟩ v).heap[b]? = some (.cells (cs.setIfInBounds i v) t z) := by
  obtain ⟨hlt, he⟩ := Array.getElem?_eq_some_iff.1 h
  show (w.heap.modify b _)[b]? = _
  rw [Array.getElem?_eq_getElem (by rw [Array.size_modify]; exact hlt), Array.getElem_modify_self, he]
  rfl
theorem PB.set {w : World} {p : Nat} {c : Nat → Value} (h : PB w p c) {i : Nat} (hi : i < 777) (v : Value) : PB (w.setCell ⟨p, i, none⟩ v) p (updC c i v) := by
  obtain ⟨cs, h1, h2, h3⟩ := h
  refine ⟨_, setCell_block i v h1, by simp [h2], fun j hj => ?_⟩
  unfold updC
  by_cases e : j = i
  · subst e
    rw [if_pos rfl, Array.getElem?_setIfInBounds_self_of_lt (by omega)]
  · rw [if_neg e, Array.getElem?_setIfInBounds_ne (Ne.symm e)]
    exact h3 j hj
/-- What the files' part of a Pager holds. -/
structure Fl where
  f : Nat
  j : Nat
  nm : ByteArray
  lg : Int
  st : Nat → Bool
  fv : Value
  sl : Bool
/-- The cells of a Pager. -/
def pcell (F : Fl) (lv nv : Value) (fr di : Nat → Bool) (dd : Bool) : Nat → Value := fun i =>
  if i = 0 then .pointer (some ⟨F.f, 0, none⟩) else if i = 1 then .string F.nm else if i = 2 then .pointer (some ⟨F.j, 0, none⟩) else if i = 3 then .int .i64 F.lg
  else if i < 260 then .bool (F.st (i - 4)) else if i = 260 then F.fv else if i = 261 then .bool F.sl else if i = 262 then lv else if i = 263 then nv
  else if i < 520 then .int .u64 ((word fr (i - 264) : Nat) : Int) else if i < 776 then .int .u64 ((word di (i - 520) : Nat) : Int) else .bool dd
theorem pcell_free (F : Fl) (lv nv : Value) (fr di : Nat → Bool) (dd : Bool) (k : Nat) (hk : k < 256) : pcell F lv nv fr di dd (264 + k) = .int .u64 ((word fr k : Nat) : Int) := by
  unfold pcell
  rw [if_neg (by omega), if_neg (by omega), if_neg (by omega), if_neg (by omega), if_neg (by omega), if_neg (by omega), if_neg (by omega), if_neg (by omega), if_neg (by omega), if_pos (by omega), show 264 + k - 264 = k by omega]
theorem pcell_dirty (F : Fl) (lv nv : Value) (fr di : Nat → Bool) (dd : Bool) (k : Nat) (hk : k < 256) : pcell F lv nv fr di dd (520 + k) = .int .u64 ((word di k : Nat) : Int) := by
  unfold pcell
  rw [if_neg (by omega), if_neg (by omega), if_neg (by omega), if_neg (by omega), if_neg (by omega), if_neg (by omega), if_neg (by omega), if_neg (by omega), if_neg (by omega), if_neg (by omega), if_pos (by omega), show 520 + k - 520 = k by omega]
theorem pcell_stale (F : Fl) (lv nv : Value) (fr di : Nat → Bool) (dd : Bool) (k : Nat) (hk : k < 256) : pcell F lv nv fr di dd (4 + k) = .bool (F.st k) := by
  unfold pcell
  rw [if_neg (by omega), if_neg (by omega), if_neg (by omega), if_neg (by omega), if_pos (by omega), show 4 + k - 4 = k by omega]
theorem PB.words_free {w : World} {p : Nat} {F : Fl} {lv nv : Value} {fr di : Nat → Bool} {dd : Bool} (h : PB w p (pcell F lv nv fr di dd)) : WordsAt p 264 fr w := fun k hk => by rw [h.cell (by omega), pcell_free _ _ _ _ _ _ k hk]
theorem PB.words_dirty {w : World} {p : Nat} {F : Fl} {lv nv : Value} {fr di : Nat → Bool} {dd : Bool} (h : PB w p (pcell F lv nv fr di dd)) : WordsAt p 520 di w := fun k hk => by rw [h.cell (by omega), pcell_dirty _ _ _ _ _ _ k hk]
theorem PB.setFree {w : World} {p : Nat} {F : Fl} {lv nv : Value} {fr di : Nat → Bool} {dd : Bool} (h : PB w p (pcell F lv nv fr di dd)) (n : Nat) (hn : n < 16384) (b : Bool) : PB (w.setCell ⟨p, 264 + n / 64, none⟩ (.int .u64 ((word (mset fr n b) (n / 64) : Nat) : Int))) p (pcell F lv nv (mset fr n b) di dd) := by
  refine (h.set (by omega) _).congr fun i hi => ?_
  unfold updC
  split
  · rename_i e; rw [e, pcell_free _ _ _ _ _ _ _ (by omega)]
  · rename_i e
    by_cases hr : 264 ≤ i ∧ i < 520
    · obtain ⟨k, rfl⟩ : ∃ k, i = 264 + k := ⟨i - 264, by omega⟩
      rw [pcell_free _ _ _ _ _ _ _ (by omega), pcell_free _ _ _ _ _ _ _ (by omega), word_else _ _ _ _ (by omega)]
    · unfold pcell
      by_cases h5 : i < 520
      · by_cases h6 : i < 260
        · simp [h6]
        · rcases (show i = 260 ∨ i = 261 ∨ i = 262 ∨ i = 263 by omega) with rfl | rfl | rfl | rfl <;> rfl
      · simp [h5]
theorem PB.setDirty {w : World} {p : Nat} {F : Fl} {lv nv : Value} {fr di : Nat → Bool} {dd : Bool} (h : PB w p (pcell F lv nv fr di dd)) (n : Nat) (hn : n < 16384) (b : Bool) : PB (w.setCell ⟨p, 520 + n / 64, none⟩ (.int .u64 ((word (mset di n b) (n / 64) : Nat) : Int))) p (pcell F lv nv fr (mset di n b) dd) := by
  refine (h.set (by omega) _).congr fun i hi => ?_
  unfold updC
  split
  · rename_i e; rw [e, pcell_dirty _ _ _ _ _ _ _ (by omega)]
  · rename_i e
    by_cases hr : 520 ≤ i ∧ i < 776
    · obtain ⟨k, rfl⟩ : ∃ k, i = 520 + k := ⟨i - 520, by omega⟩
      rw [pcell_dirty _ _ _ _ _ _ _ (by omega), pcell_dirty _ _ _ _ _ _ _ (by omega), word_else _ _ _ _ (by omega)]
    · unfold pcell
      by_cases h5 : i < 520
      · simp [h5]
      · have h7 : ¬ i < 776 := by omega
        simp [h5, h7]
theorem PB.setNow {w : World} {p : Nat} {F : Fl} {lv nv : Value} {fr di : Nat → Bool} {dd : Bool} (h : PB w p (pcell F lv nv fr di dd)) (v : Value) : PB (w.setCell ⟨p, 263, none⟩ v) p (pcell F lv v fr di dd) := by
  refine (h.set (by omega) _).congr fun i hi => ?_
  unfold updC
  by_cases e : i = 263
  · subst e; rfl
  · rw [if_neg e]; unfold pcell; simp [e]
theorem PB.setLast {w : World} {p : Nat} {F : Fl} {lv nv : Value} {fr di : Nat → Bool} {dd : Bool} (h : PB w p (pcell F lv nv fr di dd)) (v : Value) : PB (w.setCell ⟨p, 262, none⟩ v) p (pcell F v nv fr di dd) := by
  refine (h.set (by omega) _).congr fun i hi => ?_
  unfold updC
  by_cases e : i = 262
  · subst e; rfl
  · rw [if_neg e]; unfold pcell; simp [e]
theorem PB.setDead {w : World} {p : Nat} {F : Fl} {lv nv : Value} {fr di : Nat → Bool} {dd : Bool} (h : PB w p (pcell F lv nv fr di dd)) (v : Bool) : PB (w.setCell ⟨p, 776, none⟩ (.bool v)) p (pcell F lv nv fr di v) := by
  refine (h.set (by omega) _).congr fun i hi => ?_
  unfold updC
  by_cases e : i = 776
  · subst e; rfl
  · rw [if_neg e]; unfold pcell
    have h7 : i < 776 := by omega
    simp [h7]
/-- A mark is put, whatever it was. -/
theorem mput_free {w : World} {p : Nat} {F : Fl} {lv nv : Value} {fr di : Nat → Bool} {dd : Bool} (h : PB w p (pcell F lv nv fr di dd)) (n : Nat) (hn : n < 16384) (b : Bool) :
    Calls Tryz.prog 93 #[.pointer (some ⟨p, 264, none⟩), .int .i64 (n : Int), .bool b] w fun e w' => e = .returned (.tuple #[]) ∧ w' = w.setCell ⟨p, 264 + n / 64, none⟩ (.int .u64 ((word (mset fr n b) (n / 64) : Nat) : Int)) := by
  have hc := h.words_free (n / 64) (by omega)
  cases b with
  | true => rw [word_on]; exact mput_on p 264 n _ w hn (word_lt _ _) hc (h.frozen _)
  | false => rw [word_off]; exact mput_off p 264 n _ w hn (word_lt _ _) hc (h.frozen _)
theorem mput_dirty {w : World} {p : Nat} {F : Fl} {lv nv : Value} {fr di : Nat → Bool} {dd : Bool} (h : PB w p (pcell F lv nv fr di dd)) (n : Nat) (hn : n < 16384) (b : Bool) :
    Calls Tryz.prog 93 #[.pointer (some ⟨p, 520, none⟩), .int .i64 (n : Int), .bool b] w fun e w' => e = .returned (.tuple #[]) ∧ w' = w.setCell ⟨p, 520 + n / 64, none⟩ (.int .u64 ((word (mset di n b) (n / 64) : Nat) : Int)) := by
  have hc := h.words_dirty (n / 64) (by omega)
  cases b with
  | true => rw [word_on]; exact mput_on p 520 n _ w hn (word_lt _ _) hc (h.frozen _)
  | false => rw [word_off]; exact mput_off p 520 n _ w hn (word_lt _ _) hc (h.frozen _)
/-- The world behind a change: the row's two cells, a box, two words. -/
def chgW1 (w : World) (b n : Nat) (t : Bool) (sv : Value) : World := (((w.setCell ⟨b, n * 2, none⟩ (.bool t)).setCell ⟨b, n * 2 + 1, none⟩ sv).alloc (.cells #[.bool t, sv] 145)).drew
def chgW2 (w : World) (p b n : Nat) (t : Bool) (sv : Value) (fr : Nat → Bool) : World := (chgW1 w b n t sv).drew.setCell ⟨p, 264 + n / 64, none⟩ (.int .u64 ((word (mset fr n (!t)) (n / 64) : Nat) : Int))
def chgW (w : World) (p b n : Nat) (t : Bool) (sv : Value) (fr di : Nat → Bool) : World := (chgW2 w p b n t sv fr).setCell ⟨p, 520 + n / 64, none⟩ (.int .u64 ((word (mset di n true) (n / 64) : Nat) : Int))
theorem chg1_pb {w : World} {p b n : Nat} {t : Bool} {sv : Value} {c : Nat → Value} (h : PB w p c) (hpb : b ≠ p) : PB (chgW1 w b n t sv) p c := by
  refine h.kept ?_
  unfold chgW1
  show ((((w.setCell ⟨b, n * 2, none⟩ (.bool t)).setCell ⟨b, n * 2 + 1, none⟩ sv).alloc (.cells #[.bool t, sv] 145))).heap[p]? = _
  rw [Below.heap_alloc _ _ _ (by simp; exact h.lt), Below.heap_setCell _ _ _ _ (fun e => hpb e.symm), Below.heap_setCell _ _ _ _ (fun e => hpb e.symm)]
set_option maxRecDepth 20000 in
set_option maxHeartbeats 2000000 in
theorem change_raw (p b n N c : Nat) (t : Bool) (sv x0 x1 : Value) (w : World) (F : Fl) (lv : Value) (fr di : Nat → Bool) (dd : Bool)
    (h : PB w p (pcell F lv (.slice (some ⟨b, 0, none⟩) N c) fr di dd)) (hpb : b ≠ p) (hn : n < N) (hN : N ≤ 16384) (h0 : w.cell? ⟨b, n * 2, none⟩ = some x0) (h1 : w.cell? ⟨b, n * 2 + 1, none⟩ = some x1) (hz : ∀ i, w.frozen? ⟨b, i, none⟩ = false) (hsv : ∃ a l c', sv = .slice a l c') :
    Calls Tryz.prog 76 #[.pointer (some ⟨p, 0, none⟩), .int .i64 (n : Int), .agg #[.bool t, sv]] w fun e w' => e = .returned (.tuple #[]) ∧ w' = chgW w p b n t sv fr di := by
  obtain ⟨a', l', c', rfl⟩ := hsv
  have c263 : w.cell? ⟨p, 263, none⟩ = some (.slice (some ⟨b, 0, none⟩) N c) := h.cell (by omega)
  have hni : (n : Int) < (N : Int) := by omega
  have hP1 := chg1_pb (n := n) (t := t) (sv := .slice a' l' c') h hpb
  have hP1d := hP1.kept (w' := (chgW1 w b n t (.slice a' l' c')).drew) rfl
  have HB1 := hide (mput_free hP1d n (by omega) (!t))
  have HB2 := hide (mput_dirty (hP1d.setFree n (by omega) (!t)) n (by omega) true)
  have hblt : b < w.heap.size := cellLt h0
  have hplt := h.lt
  have hz0 := hz (n * 2)
  have hz1 := hz (n * 2 + 1)
  have cX : (chgW1 w b n t (.slice a' l' c')).drew.cell? ⟨w.heap.size, 0, none⟩ = some (.bool t) := by
    have hnew := World.alloc_heap_new ((w.setCell ⟨b, n * 2, none⟩ (.bool t)).setCell ⟨b, n * 2 + 1, none⟩ (.slice a' l' c')) (.cells #[.bool t, .slice a' l' c'] 145)
    rw [World.size_setCell, World.size_setCell] at hnew
    have hn2 : (chgW1 w b n t (.slice a' l' c')).drew.heap[w.heap.size]? = some (.cells #[.bool t, .slice a' l' c'] 145) := hnew
    simp [World.cell?, hn2]
  clear h hP1 hP1d hz
  go_enter Tryz.func76, Tryz.ntmps76
  go_wp2_with fail
  go_region_with fail
  all_goals
    go_wp2_with fail
    change Code.wp _ _ _ _ (chgW1 w b n t (.slice a' l' c'))
    clear c263 h0 h1 hz0 hz1
    go_region_with (refine (unhide HB1).mono ?_; rintro e w' ⟨rfl, rfl⟩)
    all_goals
      go_wp2_with fail
      refine (unhide HB2).mono ?_
      rintro e w' ⟨rfl, rfl⟩
      go_wp2_with fail
      go_end0
      exact ⟨rfl, rfl⟩
end Go.Proofs.YtebcmicmklpflaaGreatDoor
