import Derived.Test.YtikamklgelcnhabK5
import Derived.Deep.RegionLaw
/- clone, in the code: a tree in memory of its own. -/
namespace Go.Proofs.Ytikamklgelcnhab
open Go.RowKit
/-- Onto nothing. -/
theorem onto22 (w : World) (lo hi : Nat) (a : Option Addr) (m c : Nat) (ys : List Value) (hr : Row lo hi w (.slice a m c) m ys) (hl : ys.length = m) (h1 : ∀ u ∈ ys, u.oneCell' = true) (hmax : m ≤ 100000000) :
    ∃ a1 c1 w1, (∀ ty, (app22 ty #[.slice none 0 0, .slice a m c]).run Try.prog w = .ok (.slice a1 m c1) w1) ∧ Below w.heap.size w w1 ∧ w1.ownsRow w.heap.size 5 1 (.slice a1 m c1) m ys := by
  obtain ⟨v1, w1, happ, ho, hg, _⟩ := app22_own w w.heap.size lo hi (.slice none 0 0) 0 [] a m c ys ⟨by simp, .inl ⟨rfl, rfl⟩⟩ hr hl h1 (by omega) (Nat.le_refl _)
  rw [Nat.zero_add, List.nil_append] at ho
  obtain ⟨a1, c1, rfl, _⟩ := owns_slice ho
  exact ⟨a1, c1, w1, happ, (Below.refl _ _).grown hg (Nat.le_refl _) (fun k hk => by simp [Value.ownBlock] at hk), ho⟩
/-- As many names as kids, everywhere. -/
inductive Ev : Tr → Prop
  | mk (k : Int) (x : Bool) (d : ByteArray) (ns : List ByteArray) (ks : List Tr) (h : ns.length = ks.length) (hk : ∀ t ∈ ks, Ev t) : Ev (.mk k x d ns ks)
theorem below_drew' {B : Nat} {w w1 : World} (h : Below B w.drew w1) : Below B w w1 := ⟨h.os, h.tape, h.output, h.size, h.block⟩
/-- What stands in a clone under way. -/
structure ClW (w wr : World) (Z : Nat) (k : Int) (x : Bool) (d : ByteArray) (ns : List ByteArray) (ks : List Tr) (t1 t2 t3 v1 vn vk : Value) (p q : Nat) : Prop where
  old : Below w.heap.size w wr
  bt : Bx wr w.heap.size (.int .i64 k) (.bool x) t1 t2 t3
  br : Bx wr (w.heap.size + 1) (.int .i64 0) (.bool false) (.slice none 0 0) (.slice none 0 0) (.slice none 0 0)
  bc : Bx wr (w.heap.size + 1 + 1) (.int .i64 k) (.bool x) v1 vn vk
  dat : wr.ownsRow (w.heap.size + 3) 5 1 v1 d.size (byteVals d)
  datZ : ∀ g, v1.ownBlock = some g → g < Z
  cl : Cl Z wr vn vk ns ks p q
  z1 : w.heap.size + 3 ≤ Z
  z2 : Z ≤ wr.heap.size
theorem ClW.name {w wr w2 : World} {Z : Nat} {k : Int} {x : Bool} {d : ByteArray} {ns : List ByteArray} {ks : List Tr} {t1 t2 t3 v1 vn vk vn' : Value} {p p' q : Nat} (h : ClW w wr Z k x d ns ks t1 t2 t3 v1 vn vk p q) (hb : Below Z wr w2) (hc : Cl Z w2 vn' vk ns ks p' q) :
    ClW w (w2.setCell ⟨w.heap.size + 1 + 1, 3, none⟩ vn') Z k x d ns ks t1 t2 t3 v1 vn' vk p' q := by
  obtain ⟨h1, h2, h3, h4, h5, h6, h7, h8, h9⟩ := h
  have hz := hb.size
  refine ⟨(h1.trans (hb.mono (by omega))).setCell (by simp; omega) _, (h2.kept hb (by omega)).of (set_other _ _ _ _ _ (by omega)), (h3.kept hb (by omega)).of (set_other _ _ _ _ _ (by omega)), (h4.kept hb (by omega)).set3 _, ?_, h6, hc.same (fun k hk _ => set_other _ _ _ _ _ (by omega)) (by simp), h8, by simp; omega⟩
  exact owns_same h5 (fun g hg => by rw [set_other _ _ _ _ _ (by have := (owns_lt h5 g hg).1; omega), hb.block g (h6 g hg)]) (fun _ _ h => h)
theorem ClW.kid {w wr w2 : World} {Z : Nat} {k : Int} {x : Bool} {d : ByteArray} {ns : List ByteArray} {ks : List Tr} {t1 t2 t3 v1 vn vk vk' : Value} {p q q' : Nat} (h : ClW w wr Z k x d ns ks t1 t2 t3 v1 vn vk p q) (hb : Below Z wr w2) (hc : Cl Z w2 vn vk' ns ks p q') :
    ClW w (w2.setCell ⟨w.heap.size + 1 + 1, 4, none⟩ vk') Z k x d ns ks t1 t2 t3 v1 vn vk' p q' := by
  obtain ⟨h1, h2, h3, h4, h5, h6, h7, h8, h9⟩ := h
  have hz := hb.size
  refine ⟨(h1.trans (hb.mono (by omega))).setCell (by simp; omega) _, (h2.kept hb (by omega)).of (set_other _ _ _ _ _ (by omega)), (h3.kept hb (by omega)).of (set_other _ _ _ _ _ (by omega)), (h4.kept hb (by omega)).set4 _, ?_, h6, hc.same (fun k hk _ => set_other _ _ _ _ _ (by omega)) (by simp), h8, by simp; omega⟩
  exact owns_same h5 (fun g hg => by rw [set_other _ _ _ _ _ (by have := (owns_lt h5 g hg).1; omega), hb.block g (h6 g hg)]) (fun _ _ h => h)
theorem ClW.drew {w wr : World} {Z : Nat} {k : Int} {x : Bool} {d : ByteArray} {ns : List ByteArray} {ks : List Tr} {t1 t2 t3 v1 vn vk : Value} {p q : Nat} (h : ClW w wr Z k x d ns ks t1 t2 t3 v1 vn vk p q) : ClW w wr.drew Z k x d ns ks t1 t2 t3 v1 vn vk p q := by
  obtain ⟨h1, h2, h3, h4, h5, h6, h7, h8, h9⟩ := h
  exact ⟨h1.drew, h2, h3, h4, h5, h6, h7.same (fun _ _ _ => rfl) (Nat.le_refl _), h8, h9⟩
end Go.Proofs.Ytikamklgelcnhab
/- A tree laid at a place: the plain mathematics. No Go text is named here. -/
namespace Go.Proofs.Ytikamklgelcnhab
open Go.RowKit
/-- Names that rise, and as many kids, everywhere. -/
inductive Nice : Tr → Prop
  | mk (k : Int) (x : Bool) (d : ByteArray) (ns : List ByteArray) (ks : List Tr) (hr : Rise ns) (hl : ns.length = ks.length) (hk : ∀ t ∈ ks, Nice t) : Nice (.mk k x d ns ks)
def emptyDir : Tr := .mk 2 false ⟨#[]⟩ [] []
theorem nice_empty : Nice emptyDir := .mk _ _ _ _ _ (fun i j _ h => by simp at h) rfl (fun t ht => by simp at ht)
theorem Nice.ev {T : Tr} (h : Nice T) : Ev T := by
  induction h with
  | mk k x d ns ks hr hl hk ih => exact .mk k x d ns ks hl ih
/-- Where a name stands, or would. -/
def pos (ns : List ByteArray) (x : ByteArray) : Nat := (ns.takeWhile fun s => decide (s.toList < x.toList)).length
def has (ns : List ByteArray) (x : ByteArray) : Bool := decide (ns[pos ns x]? = some x)
theorem takeWhile_len {α : Type} (p : α → Bool) (l : List α) (i : Nat) (hi : i ≤ l.length) (h1 : ∀ j, (h : j < l.length) → j < i → p l[j] = true) (h2 : ∀ h : i < l.length, p l[i] = false) : (l.takeWhile p).length = i := by
  induction l generalizing i with
  | nil => simp at hi; simp [hi]
  | cons a r ih =>
    cases i with
    | zero =>
      have := h2 (by simp)
      simp at this
      simp [this]
    | succ i =>
      have ha := h1 0 (by simp) (by omega)
      simp at ha
      rw [List.takeWhile_cons, if_pos ha, List.length_cons, ih i (by simpa using hi) (fun j h hj => by have := h1 (j + 1) (by simpa using h) (by omega); simpa using this) (fun h => by have := h2 (by simpa using h); simpa using this)]
theorem found_pos {ns : List ByteArray} {x : ByteArray} {e : Ending} (h : Found ns x e) : e = .returned (.tuple #[.int .i64 ((pos ns x : Nat) : Int), .bool (has ns x)]) ∧ pos ns x ≤ ns.length := by
  obtain ⟨i, b, rfl, h1, h2, h3, h4⟩ := h
  have hp : pos ns x = i := by
    refine takeWhile_len _ ns i h1 (fun j hj hji => ?_) (fun hi => ?_)
    · have := h2 j hji
      rw [List.getD_eq_getElem?_getD, List.getElem?_eq_getElem hj] at this
      simpa using this
    · have := h3 i (Nat.le_refl _) hi
      rw [List.getD_eq_getElem?_getD, List.getElem?_eq_getElem hi] at this
      simpa using this
  have hb : has ns x = b := by
    unfold has
    rw [hp]
    cases b with
    | true =>
      obtain ⟨h5, h6⟩ := h4.1 rfl
      rw [List.getD_eq_getElem?_getD, List.getElem?_eq_getElem h5] at h6
      exact decide_eq_true (by rw [List.getElem?_eq_getElem h5]; exact congrArg some h6)
    | false =>
      refine decide_eq_false fun h => ?_
      obtain ⟨h5, h6⟩ := List.getElem?_eq_some_iff.1 h
      have : false = true := h4.2 ⟨h5, by rw [List.getD_eq_getElem?_getD, h]; rfl⟩
      cases this
  exact ⟨by rw [hp, hb], by rw [hp]; exact h1⟩
theorem has_lt {ns : List ByteArray} {x : ByteArray} (h : has ns x = true) : pos ns x < ns.length := by
  unfold has at h
  exact (List.getElem?_eq_some_iff.1 (of_decide_eq_true h)).1
/-- The kid that is gone on with. -/
def kidAt (ns : List ByteArray) (ks : List Tr) (x : ByteArray) : Tr := if has ns x then ks.getD (pos ns x) emptyDir else emptyDir
def nextAt (ns : List ByteArray) (x : ByteArray) : Nat := if has ns x then pos ns x + 1 else pos ns x
/-- A tree laid at a place, or why not: so deep. -/
def laidS : Tr → List ByteArray → Tr → Nat → Except Nat Tr
  | _, [], X, deep => if 64 < deep then .error 5 else .ok X
  | .mk k _ _ ns ks, n :: r, X, deep => if 64 < deep then .error 5 else if k = 2 then
      (match laidS (kidAt ns ks n) r X (deep + 1) with
      | .error e => .error e
      | .ok t => .ok (.mk 2 false ⟨#[]⟩ (ns.take (pos ns n) ++ [n] ++ ns.drop (nextAt ns n)) (ks.take (pos ns n) ++ [t] ++ ks.drop (nextAt ns n)))) else .error 8
theorem kidAt_nice {ns : List ByteArray} {ks : List Tr} {x : ByteArray} (h : ∀ t ∈ ks, Nice t) : Nice (kidAt ns ks x) := by
  unfold kidAt
  split
  · rw [List.getD_eq_getElem?_getD]
    cases hq : ks[pos ns x]? with
    | none => exact nice_empty
    | some t => exact h t (List.mem_of_getElem? hq)
  · exact nice_empty
theorem kidAt_wt {ns : List ByteArray} {ks : List Tr} {x : ByteArray} (h : ∀ t ∈ ks, wt t ≤ 100000) : wt (kidAt ns ks x) ≤ 100000 := by
  have he : wt emptyDir ≤ 100000 := by unfold emptyDir; rw [wt]; simp only [tenths, wts, List.length_nil]; have : (⟨#[]⟩ : ByteArray).size = 0 := rfl; omega
  unfold kidAt
  split
  · rw [List.getD_eq_getElem?_getD]
    cases hq : ks[pos ns x]? with
    | none => exact he
    | some t => exact h t (List.mem_of_getElem? hq)
  · exact he
end Go.Proofs.Ytikamklgelcnhab
/- Put: the plain mathematics. No Go text is named here. -/
namespace Go.Proofs.Ytikamklgelcnhab
open Go.RowKit
theorem chks_ok {ks : List Tr} {deep : Nat} : ∀ {n : Nat}, (chks ks deep n).1 = 0 → ∀ t ∈ ks, ∃ n', (chk t deep n').1 = 0 := by
  induction ks with
  | nil => intro n _ t ht; simp at ht
  | cons a r ih =>
    intro n h t ht
    rw [chks] at h
    by_cases h0 : (chk a deep n).1 = 0
    · rw [if_pos h0] at h
      rcases List.mem_cons.1 ht with rfl | ht
      · exact ⟨n, h0⟩
      · exact ih h t ht
    · rw [if_neg h0] at h; exact absurd h h0
theorem chk_kids {k : Int} {x : Bool} {d : ByteArray} {ns : List ByteArray} {ks : List Tr} {deep n : Nat} (h : (chk (.mk k x d ns ks) deep n).1 = 0) : locErr k x d.size ns ks.length = 0 ∧ deep ≤ 64 ∧ ∀ t ∈ ks, ∃ n', (chk t (deep + 1) n').1 = 0 := by
  rw [chk] at h
  split at h
  · cases h
  split at h
  · rename_i h1 h2
    exact ⟨h2, by omega, chks_ok h⟩
  · rename_i h1 h2
    exact absurd h h2
theorem loc0 {k : Int} {x : Bool} {d nk : Nat} {ns : List ByteArray} (h : locErr k x d ns nk = 0) : (k = 1 ∧ ns.length = 0 ∧ nk = 0) ∨ (k = 3 ∧ x = false ∧ ns.length = 0 ∧ nk = 0) ∨ (k = 2 ∧ x = false ∧ d = 0 ∧ ns.length = nk ∧ okNames ns) := by
  unfold locErr at h
  split at h
  · split at h
    · cases h
    · left; rename_i h1 h2; exact ⟨h1, by omega, by omega⟩
  split at h
  · split at h
    · cases h
    · right; left; rename_i h1 h2; exact ⟨h1, by cases x <;> simp_all, by omega, by omega⟩
  split at h
  · split at h
    · cases h
    · split at h
      · right; right; rename_i h1 h2 h3; exact ⟨h1, by cases x <;> simp_all, by omega, by omega, h3⟩
      · cases h
  · cases h
theorem okNames_rise {ns : List ByteArray} (h : okNames ns) : Rise ns := by
  intro i j hij hj
  induction j with
  | zero => omega
  | succ j ih =>
    have h1 := h (j + 1) hj
    rw [okName_next hj, Bool.and_eq_true] at h1
    have h2 := of_decide_eq_true h1.2
    have e : ns[j + 1] = ns.getD (j + 1) ⟨#[]⟩ := by rw [List.getD_eq_getElem?_getD, List.getElem?_eq_getElem hj]; rfl
    rw [e] at h2
    rcases Nat.lt_or_ge i j with hi | hi
    · exact Ord.trans (ih hi (by omega)) h2
    · obtain rfl : i = j := by omega
      exact h2
theorem chk_nice (T : Tr) : ∀ {deep n : Nat}, (chk T deep n).1 = 0 → Nice T := by
  induction T using Tr.ind with
  | h k x d ns ks ih =>
    intro deep n h
    obtain ⟨h1, h2, h3⟩ := chk_kids h
    have hk : ∀ t ∈ ks, Nice t := fun t ht => by obtain ⟨n', hn'⟩ := h3 t ht; exact ih t ht hn'
    rcases loc0 h1 with ⟨_, h4, h5⟩ | ⟨_, _, h4, h5⟩ | ⟨_, _, _, h4, h5⟩
    · exact .mk _ _ _ _ _ (okNames_rise (okNames_nil h4)) (by omega) hk
    · exact .mk _ _ _ _ _ (okNames_rise (okNames_nil h4)) (by omega) hk
    · exact .mk _ _ _ _ _ (okNames_rise h5) h4 hk
/-- A place's names. -/
def placeL (s : ByteArray) : List ByteArray := if s.size = 0 then [] else partsB s
def isPl (s : ByteArray) : Bool := (placeL s).all entB
theorem size_zero {s : ByteArray} (h : s.size = 0) : s = ⟨#[]⟩ := by
  apply ByteArray.ext
  have : s.data.size = 0 := h
  exact Array.eq_empty_of_size_eq_zero this
theorem placeL_join (s : ByteArray) : joinB (placeL s) = s := by
  unfold placeL
  split
  · rename_i h; rw [size_zero h]; rfl
  · exact join_parts s
theorem isPl_yes {s : ByteArray} (h : ∃ l, IsPl s l) : isPl s = true := by
  obtain ⟨l, hl⟩ := h
  unfold isPl placeL
  split
  · rfl
  · rename_i h0
    rw [← isPl_parts hl h0]
    exact List.all_eq_true.2 hl.1
theorem isPl_no {s : ByteArray} (h : ∀ l, ¬ IsPl s l) : isPl s = false := by
  cases hp : isPl s with
  | false => rfl
  | true => exact absurd ⟨List.all_eq_true.1 hp, (placeL_join s).symm⟩ (h (placeL s))
theorem isPl_ent {s : ByteArray} (h : isPl s = true) : ∀ n ∈ placeL s, entB n = true := List.all_eq_true.1 h
theorem entB_le {s : ByteArray} (h : entB s = true) : s.size ≤ 100 := by
  unfold entB at h; exact (of_decide_eq_true h).2.1
theorem tenths_append (a b : List ByteArray) : tenths (a ++ b) = tenths a + tenths b := by
  induction a with
  | nil => simp [tenths]
  | cons x r ih => simp only [List.cons_append, tenths, ih]; omega
theorem wts_split (ks : List Tr) (i : Nat) : wts (ks.take i) + wts (ks.drop i) = wts ks := by rw [← wts_append, List.take_append_drop]
theorem tenths_split (ns : List ByteArray) (i : Nat) : tenths (ns.take i) + tenths (ns.drop i) = tenths ns := by rw [← tenths_append, List.take_append_drop]
theorem wt_empty : wt emptyDir = 1 := by unfold emptyDir; rw [wt]; simp only [tenths, wts, List.length_nil]; rfl
/-- What is laid is little more than both. -/
theorem laid_wt (l : List ByteArray) : ∀ {T X T' : Tr} {deep : Nat}, laidS T l X deep = .ok T' → (∀ n ∈ l, entB n = true) → Nice T → wt T' ≤ wt T + wt X + 12 * l.length ∧ deep + l.length ≤ 64 := by
  induction l with
  | nil =>
    intro T X T' deep h _ _
    cases T
    rw [laidS] at h
    split at h
    · cases h
    · cases h; simp only [List.length_nil]; omega
  | cons a r ih =>
    intro T X T' deep h hent hN
    cases hN with
    | mk k x d ns ks hr hl hk =>
    rw [laidS] at h
    split at h
    · cases h
    split at h
    · cases hq : laidS (kidAt ns ks a) r X (deep + 1) with
      | error e => rw [hq] at h; cases h
      | ok t =>
        rw [hq] at h
        cases h
        obtain ⟨h1, h2⟩ := ih hq (fun n hn => hent n (by simp [hn])) (kidAt_nice hk)
        have ha := entB_le (hent a (by simp))
        rw [wt, wt]
        simp only [tenths_append, wts_append, List.length_append, List.length_cons, List.length_nil, tenths, wts, List.length_take, List.length_drop]
        have hz : (⟨#[]⟩ : ByteArray).size = 0 := rfl
        rw [hz]
        have e1 := tenths_split ns (pos ns a)
        have e2 := wts_split ks (pos ns a)
        cases hh : has ns a with
        | false =>
          have en : nextAt ns a = pos ns a := by unfold nextAt; rw [hh]; rfl
          have ek : kidAt ns ks a = emptyDir := by unfold kidAt; rw [hh]; rfl
          rw [ek, wt_empty] at h1
          rw [en]
          omega
        | true =>
          have en : nextAt ns a = pos ns a + 1 := by unfold nextAt; rw [hh]; rfl
          have hlt := has_lt hh
          have hlk : pos ns a < ks.length := by omega
          have ek : kidAt ns ks a = ks[pos ns a] := by unfold kidAt; rw [hh, if_pos rfl, List.getD_eq_getElem?_getD, List.getElem?_eq_getElem hlk]; rfl
          rw [ek] at h1
          rw [en]
          have e3 := wts_take ks (pos ns a) hlk
          have e4 := wts_split ks (pos ns a + 1)
          have e5 := tenths_take ns (pos ns a) hlt
          have e6 := tenths_split ns (pos ns a + 1)
          omega
    · cases h
/-- Put, or why not. -/
noncomputable def putS (T : Tr) (s : ByteArray) (X : Tr) : Except Nat Tr :=
  if (chk T 1 0).1 ≠ 0 then .error (chk T 1 0).1 else if (chk X 1 0).1 ≠ 0 then .error (chk X 1 0).1 else if isPl s = false then .error 9 else
    match laidS T (placeL s) X 1 with
    | .error e => .error e
    | .ok W => if (chk W 1 0).1 ≠ 0 then .error (chk W 1 0).1 else .ok W
end Go.Proofs.Ytikamklgelcnhab
/- writeNode and writeEntries: a tree handed to the sink. -/
namespace Go.Proofs.Ytikamklgelcnhab
open Go.RowKit
set_option linter.unusedSimpArgs false
theorem entsB_nil (ks : List Tr) : entsB [] ks = [] := by rw [entsB]; intro n ns t ks h; cases h
theorem entsB_snoc (ns : List ByteArray) : ∀ (ks : List Tr) (n : ByteArray) (t : Tr), ns.length = ks.length → entsB (ns ++ [n]) (ks ++ [t]) = entsB ns ks ++ (txs [wEntry, wOpen, wName, sB n, wNode] ++ nodeB t ++ txs [wClose]) := by
  induction ns with
  | nil =>
    intro ks n t h
    have : ks = [] := List.eq_nil_of_length_eq_zero (by simpa using h.symm)
    subst this
    rw [List.nil_append, List.nil_append, entsB, entsB_nil, List.append_nil, List.nil_append]
  | cons a r ih =>
    intro ks n t h
    cases ks with
    | nil => simp at h
    | cons b q =>
      rw [List.cons_append, List.cons_append, entsB, entsB, ih q n t (by simpa using h)]
      simp only [List.append_assoc]
theorem entsB_take {ns : List ByteArray} {ks : List Tr} {i : Nat} (h1 : i < ns.length) (h2 : i < ks.length) : entsB (ns.take (i + 1)) (ks.take (i + 1)) = entsB (ns.take i) (ks.take i) ++ (txs [wEntry, wOpen, wName, sB (ns.getD i ⟨#[]⟩), wNode] ++ nodeB ks[i] ++ txs [wClose]) := by
  rw [List.take_add_one, List.take_add_one, List.getElem?_eq_getElem h1, List.getElem?_eq_getElem h2, List.getD_eq_getElem?_getD, List.getElem?_eq_getElem h1]
  exact entsB_snoc _ _ _ _ (by rw [List.length_take, List.length_take]; omega)
theorem entsB_le (ns : List ByteArray) : ∀ (ks : List Tr) (i : Nat), (entsB (ns.take i) (ks.take i)).length ≤ (entsB ns ks).length := by
  induction ns with
  | nil => intro ks i; rw [List.take_nil, entsB_nil]; simp
  | cons a r ih =>
    intro ks i
    cases i with
    | zero => rw [List.take_zero, entsB_nil]; simp
    | succ i =>
      cases ks with
      | nil => rw [List.take_nil, entsB]; · simp
               · intro n ns t ks _ h; cases h
      | cons b q =>
        rw [List.take_succ_cons, List.take_succ_cons, entsB, entsB, List.length_append, List.length_append (bs := entsB r q)]
        have := ih q i
        omega
/-- The node's box. -/
structure BoxN (w W : World) (t0 t1 t2 t3 t4 : Value) : Prop where
  s : w.heap.size + 1 ≤ W.heap.size
  t : Bx W w.heap.size t0 t1 t2 t3 t4
theorem BoxN.gt {c : Nat} {w W W' : World} {v v' : Value} {t0 t1 t2 t3 t4 : Value} (h : BoxN w W t0 t1 t2 t3 t4) (hg : Gt c W W' v v') (hc : c < w.heap.size) (hv : ∀ g, v.ownBlock = some g → g ≠ w.heap.size) : BoxN w W' t0 t1 t2 t3 t4 :=
  ⟨Nat.le_trans h.s hg.size, h.t.of (hg.keep _ h.t.lt (by omega) (fun e => hv _ e rfl))⟩
theorem Lies.gt {c : Nat} {w w' : World} {v v' : Value} (hg : Gt c w w' v v') {lo hi : Nat} {T : Tr} {cs : List Value} (h : Lies lo hi w T cs) (hhi : hi ≤ c) (hc : c < w.heap.size) (hv : ∀ g, v.ownBlock = some g → c < g) : Lies lo hi w' T cs :=
  h.same (fun k _ h2 => hg.keep k (by omega) (by omega) (fun e => by have := hv k e; omega))
/-- Where the sink is, seen from a call that began at w. -/
structure At (c : Nat) (w W : World) (v0 v : Value) (xs : List UInt8) : Prop where
  g : Gt c w W v0 v
  h : Has c W v xs
theorem At.step {c : Nat} {w W W' : World} {v0 v : Value} {xs ys : List UInt8} (h : At c w W v0 v xs) (k : SkA c W v ys W') : ∃ v', At c w W' v0 v' ys ∧ Gt c W W' v v' := by
  obtain ⟨v', h1, h2⟩ := k
  exact ⟨v', ⟨h.g.trans h1, h2⟩, h1⟩
theorem At.pos {c : Nat} {w W : World} {v0 v : Value} {xs : List UInt8} (h : At c w W v0 v xs) : ∀ g, v.ownBlock = some g → c < g := fun g hg => by have := (owns_lt h.h.row g hg).1; omega
theorem At.ne {c B : Nat} {W0 W : World} {v0 v : Value} {xs : List UInt8} (h : At c W0 W v0 v xs) (h0 : ∀ g, v0.ownBlock = some g → g < B) (hB : B < W0.heap.size) : ∀ g, v.ownBlock = some g → g ≠ B := fun g hg => by
  rcases h.g.own g hg with h1 | h1
  · have := h0 g h1; omega
  · omega
theorem At.box {c B : Nat} {W0 W W' : World} {v0 v v' : Value} {xs : List UInt8} {t0 t1 t2 t3 t4 : Value} (h : At c W0 W v0 v xs) (hg : Gt c W W' v v') (h0 : ∀ g, v0.ownBlock = some g → g < B) (hB : B < W0.heap.size) (hc : c ≠ B) (hb : Bx W B t0 t1 t2 t3 t4) : Bx W' B t0 t1 t2 t3 t4 :=
  hb.of (hg.keep B hb.lt (fun e => hc e.symm) (fun e => h.ne h0 hB B e rfl))
/-- A literal list of texts. -/
theorem lit_row (w : World) (ts : List ByteArray) : Row w.heap.size (w.heap.size + 1) (w.alloc (.cells (ts.map Value.string).toArray 9)) (.slice (some ⟨w.heap.size, 0, none⟩) ts.length ts.length) ts.length (ts.map .string) := by
  refine ⟨_, ts.length, rfl, Nat.le_refl _, fun _ => ⟨w.heap.size, 0, rfl, Nat.le_refl _, by omega, fun j u hj => ?_⟩⟩
  rw [cell_of_row (w.alloc (.cells (ts.map Value.string).toArray 9)) w.heap.size (0 + j) _ 9 (0, 0) (by show (w.heap.push _)[w.heap.size]? = _; rw [Array.getElem?_push, if_pos rfl]), Nat.zero_add]
  simpa using hj
/-- Texts that are written out, handed to the sink. -/
theorem lits_any (c : Nat) (ts : List ByteArray) (W0 W : World) (v0 v : Value) (xs : List UInt8) (h : At c W0 W v0 v xs) (hn : ts.length ≤ 1000) (hmax : xs.length + (txs (ts.map sB)).length ≤ 10000000) (hmt : (txs (ts.map sB)).length ≤ 960000) :
    Calls Try.prog 21 #[.func (Fn.func 12) #[] #[.pointer (some ⟨c, 0, none⟩)], .slice (some ⟨W.heap.size, 0, none⟩) ts.length ts.length] (W.alloc (.cells (ts.map Value.string).toArray 9)) fun e w' => e = .returned (.tuple #[]) ∧ ∃ v', At c W0 w' v0 v' (xs ++ txs (ts.map sB)) ∧ Gt c W w' v v' := by
  have hb : Below W.heap.size W (W.alloc (.cells (ts.map Value.string).toArray 9)) := (Below.refl _ _).alloc (Nat.le_refl _) _
  have hA : At c W0 (W.alloc (.cells (ts.map Value.string).toArray 9)) v0 v xs := ⟨h.g.trans (Gt.of_below v hb), h.h.kept hb⟩
  refine (writeTexts_any c v xs ts W.heap.size (W.heap.size + 1) _ ts.length ts.length _ hA.h (lit_row W ts) rfl (by simp) hn hmax hmt).mono ?_
  rintro e w' ⟨rfl, hk⟩
  obtain ⟨v', h1, h2⟩ := hA.step hk
  exact ⟨rfl, v', h1, (Gt.of_below v hb).trans h2⟩
end Go.Proofs.Ytikamklgelcnhab
/- writeEntries and writeNode: the walks. -/
namespace Go.Proofs.Ytikamklgelcnhab
open Go.RowKit
set_option linter.unusedSimpArgs false
/-- What writeNode does. -/
def NodeC (c : Nat) (T : Tr) : Prop := ∀ (lo hi : Nat) (cs : List Value) (w : World) (v : Value) (xs : List UInt8), Lies lo hi w T cs → hi ≤ c → Has c w v xs → xs.length + (nodeB T).length ≤ 10000000 → (nodeB T).length ≤ 960000 →
  Calls Try.prog 22 #[.agg cs.toArray, .func (Fn.func 12) #[] #[.pointer (some ⟨c, 0, none⟩)]] w fun e w' => e = .returned (.tuple #[]) ∧ SkA c w v (xs ++ nodeB T) w'
set_option maxRecDepth 20000 in
set_option maxHeartbeats 4000000 in
theorem writeEntries_any (c : Nat) (k : Int) (x : Bool) (d : ByteArray) (ns : List ByteArray) (ks : List Tr) (ih : ∀ t ∈ ks, NodeC c t) (lo hi : Nat) (cs : List Value) (w : World) (v : Value) (xs : List UInt8) (hL : Lies lo hi w (.mk k x d ns ks) cs) (hhi : hi ≤ c) (hS : Has c w v xs) (hle : ns.length = ks.length) (hNm : ns.length ≤ 100000) (hmax : xs.length + (entsB ns ks).length ≤ 10000000) (hm2 : (entsB ns ks).length ≤ 960000) :
    Calls Try.prog 37 #[.agg cs.toArray, .func (Fn.func 12) #[] #[.pointer (some ⟨c, 0, none⟩)]] w fun e w' => e = .returned (.tuple #[]) ∧ SkA c w v (xs ++ entsB ns ks) w' := by
  have hcl := hS.ctr.lt
  have hown : ∀ g, v.ownBlock = some g → c + 1 ≤ g ∧ g < w.heap.size := fun g hg => owns_lt hS.row g hg
  cases hL with
  | mk _ _ _ _ _ vd vn vk Ks hl hd hn hk hK =>
  obtain ⟨ad, cd, rfl, hcd⟩ := hd.slice
  obtain ⟨an, cn, rfl, hcn⟩ := hn.slice
  obtain ⟨ak, ck, rfl, hck⟩ := hk.slice
  obtain ⟨N, hN⟩ : ∃ N, ns.length = N := ⟨_, rfl⟩
  have hNk : ks.length = N := by omega
  rw [hN] at hn hcn hNm ⊢
  rw [hNk] at hk hck ⊢
  obtain ⟨W0, hW0⟩ : ∃ W0, W0 = w.alloc (.cells #[.int .i64 k, .bool x, .slice ad d.size cd, .slice an N cn, .slice ak N ck] 26) := ⟨_, rfl⟩
  have hb0 : Below w.heap.size w W0 := by rw [hW0]; exact (Below.refl _ _).alloc (Nat.le_refl _) _
  have hs0 : W0.heap.size = w.heap.size + 1 := by rw [hW0]; simp
  have hx0 : Bx W0 w.heap.size (.int .i64 k) (.bool x) (.slice ad d.size cd) (.slice an N cn) (.slice ak N ck) := by rw [hW0]; exact bx_new _ _ _ _ _ _
  have hA0 : At c W0 W0 v v xs := ⟨Gt.of_below v (Below.refl _ _), hS.kept hb0⟩
  have HW0 := hide hW0
  have HG0 : Hid (Gt c w W0 v v) := Gt.of_below v hb0
  have HA0 := hide (And.intro hA0 hx0)
  have HT := hide (And.intro (hn.below hb0 (by omega)) (And.intro (hk.below hb0 (by omega)) (And.intro hl (fun i t c h1 h2 => (hK i t c h1 h2).kept hb0 (by omega)))))
  have HM := hide (And.intro hmax (And.intro hm2 (And.intro hN hNk)))
  have HIH := hide ih
  have HO := hide hown
  clear hW0 hb0 hx0 hA0 hS hd hn hk hl hK hmax hm2 ih hown hN hNk hle
  go_enter Try.func37, Try.ntmps37
  go_wp2_with fail
  rw [← unhide HW0]
  go_loopw [9] (fun vi wr => ∃ (i : Nat) (v' : Value), i ≤ N ∧ vi = .int .i64 (i : Int) ∧ Hid (At c W0 wr v v' (xs ++ entsB (ns.take i) (ks.take i))) ∧ Bx wr w.heap.size (.int .i64 k) (.bool x) (.slice ad d.size cd) (.slice an N cn) (.slice ak N ck)) (fun vi _ => N - (intOf vi).toNat)
  case atStart => exact ⟨0, v, by omega, rfl, by show At _ _ _ _ _ _; rw [List.take_zero, entsB_nil, List.append_nil]; exact (unhide HA0).1, (unhide HA0).2⟩
  case round =>
    obtain ⟨i, v', hiN, rfl, hA, hB⟩ := hrel
    obtain ⟨hmax, hm2, hN, hNk⟩ := unhide HM
    have hsr := (unhide hA).g.size
    by_cases hlt : i < N
    · have hi1 : i < ns.length := by omega
      have hi2 : i < ks.length := by omega
      have htk := entsB_take hi1 hi2
      have hle1 := entsB_le ns ks (i + 1)
      rw [htk] at hle1
      simp only [List.length_append] at hle1
      have hvo : ∀ g, v.ownBlock = some g → g < lo ∨ hi ≤ g := fun g hg => by have := (unhide HO g hg).1; omega
      have hnr := (unhide hA).g.row (unhide HT).1 (by omega) (.inr hhi) hvo
      obtain ⟨g, o, rfl, hcx⟩ := row_strX hnr hN i hlt
      have hgl : g < wr.heap.size := cell_lt hcx
      have hL1 := hide (lits_any c [⟨#[101, 110, 116, 114, 121]⟩, ⟨#[40]⟩, ⟨#[110, 97, 109, 101]⟩, ns.getD i ⟨#[]⟩, ⟨#[110, 111, 100, 101]⟩] W0 wr v v' _ (unhide hA) (by simp) (by
        show _ + (txs [wEntry, wOpen, wName, sB (ns.getD i ⟨#[]⟩), wNode]).length ≤ _
        rw [List.length_append]; omega) (by
        show (txs [wEntry, wOpen, wName, sB (ns.getD i ⟨#[]⟩), wNode]).length ≤ _
        omega))
      obtain ⟨y0, y1, y2, y3, y4⟩ := hB.cells
      have hlB : w.heap.size < wr.heap.size := by omega
      have HTK := hide htk
      have HLE := hide hle1
      have HB := hide hB
      generalize hsi : ns.getD i ⟨#[]⟩ = s at *
      clear htk hle1 hnr hB hsi
      go_wp2_with fail
      refine (unhide hL1).mono ?_
      rintro e w1 ⟨rfl, v1, hA1, hg1⟩
      have hB1 := (unhide hA).box hg1 (fun g hg => (unhide HO g hg).2) (by omega) (by omega) (unhide HB)
      have hs1 := hg1.size
      have hkr := hA1.g.row (unhide HT).2.1 (by omega) (.inr hhi) hvo
      obtain ⟨gk, ok, eak, hgk1, hgk2, hcell⟩ := hkr.at (by omega)
      have hKr : ∀ (i : Nat) (t : Tr) (c' : List Value), ks[i]? = some t → Ks[i]? = some c' → Lies lo hi w1 t c' := fun i t c' h1 h2 => Lies.gt hA1.g ((unhide HT).2.2.2 i t c' h1 h2) hhi (by omega) (fun g hg => by have := (unhide HO g hg).1; omega)
      obtain ⟨k1, x1, b1, b2, b3, b4, b5, b6, b7, b8, b9, hLi, z0, z1, z2, z3, z4⟩ := kid_sl (unhide HT).2.2.1 hcell hKr i hi2
      have hlen0 : (xs ++ entsB (ns.take i) (ks.take i)).length = xs.length + (entsB (ns.take i) (ks.take i)).length := List.length_append
      have HI := hide (unhide HIH ks[i] (List.getElem_mem hi2) lo hi _ w1 v1 _ hLi hhi hA1.h (by
        have := unhide HLE
        rw [List.length_append, hlen0]
        show _ + (txs [wEntry, wOpen, wName, sB s, wNode]).length + _ ≤ _
        omega) (by have := unhide HLE; omega))
      obtain ⟨t0, t1, t2, t3, t4⟩ := hB1.cells
      have HA1 := hide hA1
      have HB1 := hide hB1
      subst eak
      have hgkl : gk < w1.heap.size := by omega
      clear hL1 hg1 hA1 hkr hcell hKr hLi hB1 y0 y1 y2 y3 y4 hcx hA HB
      generalize ks[i] = t at *
      go_wp2_with fail
      refine (unhide HI).mono ?_
      rintro e w2 ⟨rfl, hk2⟩
      obtain ⟨v2, hA2, hg2⟩ := (unhide HA1).step hk2
      have hB2 := (unhide HA1).box hg2 (fun g hg => (unhide HO g hg).2) (by omega) (by omega) (unhide HB1)
      have hL3 := hide (lits_any c [⟨#[41]⟩] W0 w2 v v2 _ hA2 (by simp) (by
        have := unhide HLE
        rw [List.length_append, List.length_append, hlen0]
        show _ + (txs [wEntry, wOpen, wName, sB s, wNode]).length + _ + (txs [wClose]).length ≤ _
        omega) (by show (txs [wClose]).length ≤ _; decide))
      have HA2 := hide (And.intro hA2 hB2)
      clear HI hk2 hA2 hg2 hB2 z0 z1 z2 z3 z4 t0 t1 t2 t3 t4 HB1
      go_wp2_with fail
      refine (unhide hL3).mono ?_
      rintro e w3 ⟨rfl, v3, hA3, hg3⟩
      have hB3 := (unhide HA2).1.box hg3 (fun g hg => (unhide HO g hg).2) (by omega) (by omega) (unhide HA2).2
      have HA3 : Hid (At c W0 w3 v v3 (xs ++ entsB (ns.take (i + 1)) (ks.take (i + 1)))) := by
        show At _ _ _ _ _ _
        rw [unhide HTK]
        have hA3' : At c W0 w3 v v3 (xs ++ entsB (ns.take i) (ks.take i) ++ txs [wEntry, wOpen, wName, sB s, wNode] ++ nodeB t ++ txs [wClose]) := hA3
        simpa only [List.append_assoc] using hA3'
      have HB3 := hide hB3
      clear hL3 hA3 hg3 hB3 HA2 HA1
      go_wp2_with fail
      go_roundw
      case rel => exact ⟨i + 1, v3, by omega, by go_num, unhide HA3, unhide HB3⟩
      case measure => simp [intOf]; try omega
    · obtain rfl : N = i := by omega
      have e1 : ns.take N = ns := List.take_of_length_le (by omega)
      have e2 : ks.take N = ks := List.take_of_length_le (by omega)
      rw [e1, e2] at hA
      have HE : Hid (SkA c w v (xs ++ entsB ns ks) wr) := SkA.trans (unhide HG0) ⟨v', (unhide hA).g, (unhide hA).h⟩
      clear hA e1 e2 hmax hm2
      go_wp2_with fail
      exact bodyPost_end (v := .tuple #[]) (by simp [results, Try.results37, go_sem]) rfl ⟨rfl, unhide HE⟩
set_option maxRecDepth 20000 in
set_option maxHeartbeats 8000000 in
theorem writeNode_any (c : Nat) (T : Tr) : Nice T → wt T ≤ 100000 → NodeC c T := by
  induction T using Tr.ind with
  | h K x d ns ks ih =>
  intro hN hW lo hi cs w v xs hL hhi hS hmax hm2
  have hSm := small_of hW
  have hcl := hS.ctr.lt
  have hown : ∀ g, v.ownBlock = some g → c + 1 ≤ g ∧ g < w.heap.size := fun g hg => owns_lt hS.row g hg
  have HL := hide hL
  obtain ⟨hnk, hkn⟩ : ns.length = ks.length ∧ ∀ t ∈ ks, Nice t := by cases hN with | mk _ _ _ _ _ h1 h2 h3 => exact ⟨h2, h3⟩
  cases hL with
  | mk _ _ _ _ _ vd vn vk Ks hl hd hn hk hK =>
  obtain ⟨ad, cd, rfl, hcd⟩ := hd.slice
  obtain ⟨an, cn, rfl, hcn⟩ := hn.slice
  obtain ⟨ak, ck, rfl, hck⟩ := hk.slice
  obtain ⟨W0, hW0⟩ : ∃ W0, W0 = w.alloc (.cells #[.int .i64 K, .bool x, .slice ad d.size cd, .slice an ns.length cn, .slice ak ks.length ck] 26) := ⟨_, rfl⟩
  have hb0 : Below w.heap.size w W0 := by rw [hW0]; exact (Below.refl _ _).alloc (Nat.le_refl _) _
  have hs0 : W0.heap.size = w.heap.size + 1 := by rw [hW0]; simp
  have hx0 : Bx W0 w.heap.size (.int .i64 K) (.bool x) (.slice ad d.size cd) (.slice an ns.length cn) (.slice ak ks.length ck) := by rw [hW0]; exact bx_new _ _ _ _ _ _
  have hA0 : At c W0 W0 v v xs := ⟨Gt.of_below v (Below.refl _ _), hS.kept hb0⟩
  have HW0 := hide hW0
  have HG0 : Hid (Gt c w W0 v v) := Gt.of_below v hb0
  have HA0 := hide (And.intro hA0 hx0)
  have HD := hide (hd.below hb0 (by omega))
  have HE := hide (fun (W : World) (v' : Value) (ys : List UInt8) (g : Gt c W0 W v v') (h : Has c W v' ys) => writeEntries_any c K x d ns ks (fun t ht => ih t ht (hkn t ht) (hSm.t t ht)) lo hi _ W v' ys (Lies.gt g ((unhide HL).kept hb0 (by omega)) hhi (by omega) (fun g hg => by have := (hown g hg).1; omega)) hhi h hnk (by have := hSm.n; omega))
  have HO := hide hown
  have hvo : ∀ g, v.ownBlock = some g → g < lo ∨ hi ≤ g := fun g hg => by have := (hown g hg).1; omega
  have l1 : (txs [wOpen, wType]).length = 32 := by decide
  have l2 : (txs [wClose]).length = 16 := by decide
  have hWA : (W0.alloc (.cells #[.string ⟨#[40]⟩, .string ⟨#[116, 121, 112, 101]⟩] 9)) = (w.alloc (.cells #[.int .i64 K, .bool x, .slice ad d.size cd, .slice an ns.length cn, .slice ak ks.length ck] 26)).alloc (.cells #[.string ⟨#[40]⟩, .string ⟨#[116, 121, 112, 101]⟩] 9) := by rw [hW0]
  have HL1 := hide (lits_any c [⟨#[40]⟩, ⟨#[116, 121, 112, 101]⟩] W0 W0 v v _ hA0 (by simp) (by
    show _ + (txs [wOpen, wType]).length ≤ _
    rw [nodeB] at hmax
    simp only [List.length_append] at hmax
    omega) (by show (txs [wOpen, wType]).length ≤ _; omega))
  have HM := hide (And.intro hmax hm2)
  clear hN hW hSm hnk hkn hd hn hk hl hK hb0 hx0 hA0 hown ih hS hmax hm2
  rw [show W0.heap.size = w.heap.size + 1 from hs0] at HL1
  go_enter Try.func22, Try.ntmps22
  go_wp2_with fail
  rw [← unhide HW0]
  refine (unhide HL1).mono ?_
  rintro e w1 ⟨rfl, v1, hA, hg⟩
  have HA1 : Hid (At c W0 w1 v v1 (xs ++ txs [wOpen, wType]) ∧ Bx w1 w.heap.size (.int .i64 K) (.bool x) (.slice ad d.size cd) (.slice an ns.length cn) (.slice ak ks.length ck)) := ⟨hA, (unhide HA0).1.box hg (fun g hg => (unhide HO g hg).2) (by omega) (by omega) (unhide HA0).2⟩
  have hs1 := hg.size
  clear HL1 hA hg hW0 hWA HW0
  by_cases hk1 : K = 1
  case pos =>
    subst hk1
    have l3 : (txs [wReg]).length = 16 := by decide
    have l4 : (txs [wCont]).length = 16 := by decide
    have l5 : (txs [wExec, []]).length = 32 := by decide
    cases x
    case true =>
      have hnb : nodeB (.mk 1 true d ns ks) = txs [wOpen, wType] ++ (txs [wReg] ++ txs [wExec, []] ++ txs [wCont] ++ tx (sB d)) ++ txs [wClose] := by rw [nodeB, if_pos rfl]; rfl
      obtain ⟨hmax, hm2⟩ := unhide HM
      rw [hnb] at hmax hm2
      simp only [List.length_append, List.length_nil] at hmax hm2
      have HNB := hide hnb
      clear hnb HM
      obtain ⟨y0, y1, y2, y3, y4⟩ := (unhide HA1).2.cells
      have HX := hide (lits_any c [⟨#[114, 101, 103, 117, 108, 97, 114]⟩] W0 w1 v v1 _ (unhide HA1).1 (by simp) (by
        show _ + (txs [wReg]).length ≤ _
        simp only [List.length_append]
        omega) (by show (txs [wReg]).length ≤ _; omega))
      go_wp2_with fail
      refine (unhide HX).mono ?_
      rintro e w2 ⟨rfl, v2, hA, hg⟩
      have HA2 : Hid (At c W0 w2 v v2 (xs ++ txs [wOpen, wType] ++ txs [wReg]) ∧ Bx w2 w.heap.size (.int .i64 1) (.bool true) (.slice ad d.size cd) (.slice an ns.length cn) (.slice ak ks.length ck)) := ⟨hA, (unhide HA1).1.box hg (fun g hg => (unhide HO g hg).2) (by omega) (by omega) (unhide HA1).2⟩
      have hs2 := hg.size
      clear HX hA hg HA1 y0 y1 y2 y3 y4
      obtain ⟨y0, y1, y2, y3, y4⟩ := (unhide HA2).2.cells
      have HX := hide (lits_any c [⟨#[101, 120, 101, 99, 117, 116, 97, 98, 108, 101]⟩, ⟨#[]⟩] W0 w2 v v2 _ (unhide HA2).1 (by simp) (by
        show _ + (txs [wExec, []]).length ≤ _
        simp only [List.length_append]
        omega) (by show (txs [wExec, []]).length ≤ _; omega))
      go_wp2_with fail
      refine (unhide HX).mono ?_
      rintro e w3 ⟨rfl, v3, hA, hg⟩
      have HA3 : Hid (At c W0 w3 v v3 (xs ++ txs [wOpen, wType] ++ txs [wReg] ++ txs [wExec, []]) ∧ Bx w3 w.heap.size (.int .i64 1) (.bool true) (.slice ad d.size cd) (.slice an ns.length cn) (.slice ak ks.length ck)) := ⟨hA, (unhide HA2).1.box hg (fun g hg => (unhide HO g hg).2) (by omega) (by omega) (unhide HA2).2⟩
      have hs3 := hg.size
      clear HX hA hg HA2 y0 y1 y2 y3 y4
      obtain ⟨y0, y1, y2, y3, y4⟩ := (unhide HA3).2.cells
      have HX := hide (lits_any c [⟨#[99, 111, 110, 116, 101, 110, 116, 115]⟩] W0 w3 v v3 _ (unhide HA3).1 (by simp) (by
        show _ + (txs [wCont]).length ≤ _
        simp only [List.length_append]
        omega) (by show (txs [wCont]).length ≤ _; omega))
      go_wp2_with fail
      refine (unhide HX).mono ?_
      rintro e w4 ⟨rfl, v4, hA, hg⟩
      have HA4 : Hid (At c W0 w4 v v4 (xs ++ txs [wOpen, wType] ++ txs [wReg] ++ txs [wExec, []] ++ txs [wCont]) ∧ Bx w4 w.heap.size (.int .i64 1) (.bool true) (.slice ad d.size cd) (.slice an ns.length cn) (.slice ak ks.length ck)) := ⟨hA, (unhide HA3).1.box hg (fun g hg => (unhide HO g hg).2) (by omega) (by omega) (unhide HA3).2⟩
      have hs4 := hg.size
      clear HX hA hg HA3 y0 y1 y2 y3 y4
      obtain ⟨y0, y1, y2, y3, y4⟩ := (unhide HA4).2.cells
      have HX := hide (writeData_any c v4 _ (sB d) lo hi ad d.size cd w4 (unhide HA4).1.h ((unhide HA4).1.g.row (unhide HD) (by omega) (.inr hhi) hvo) rfl hhi (by simp only [List.length_append]; omega))
      go_wp2_with fail
      refine (unhide HX).mono ?_
      rintro e w5 ⟨rfl, hk⟩
      obtain ⟨v5, hA, hg⟩ := (unhide HA4).1.step hk
      clear hk
      have HA5 : Hid (At c W0 w5 v v5 (xs ++ txs [wOpen, wType] ++ txs [wReg] ++ txs [wExec, []] ++ txs [wCont] ++ tx (sB d)) ∧ Bx w5 w.heap.size (.int .i64 1) (.bool true) (.slice ad d.size cd) (.slice an ns.length cn) (.slice ak ks.length ck)) := ⟨hA, (unhide HA4).1.box hg (fun g hg => (unhide HO g hg).2) (by omega) (by omega) (unhide HA4).2⟩
      have hs5 := hg.size
      clear HX hA hg HA4 y0 y1 y2 y3 y4
      obtain ⟨y0, y1, y2, y3, y4⟩ := (unhide HA5).2.cells
      have HX := hide (lits_any c [⟨#[41]⟩] W0 w5 v v5 _ (unhide HA5).1 (by simp) (by
        show _ + (txs [wClose]).length ≤ _
        simp only [List.length_append]
        omega) (by show (txs [wClose]).length ≤ _; omega))
      go_wp2_with fail
      refine (unhide HX).mono ?_
      rintro e w6 ⟨rfl, v6, hA, hg⟩
      have HA6 : Hid (At c W0 w6 v v6 (xs ++ txs [wOpen, wType] ++ txs [wReg] ++ txs [wExec, []] ++ txs [wCont] ++ tx (sB d) ++ txs [wClose]) ∧ Bx w6 w.heap.size (.int .i64 1) (.bool true) (.slice ad d.size cd) (.slice an ns.length cn) (.slice ak ks.length ck)) := ⟨hA, (unhide HA5).1.box hg (fun g hg => (unhide HO g hg).2) (by omega) (by omega) (unhide HA5).2⟩
      have hs6 := hg.size
      clear HX hA hg HA5 y0 y1 y2 y3 y4
      have HZ : Hid (SkA c w v (xs ++ nodeB (.mk 1 true d ns ks)) w6) := by
        have h := SkA.trans (unhide HG0) ⟨v6, (unhide HA6).1.g, (unhide HA6).1.h⟩
        show SkA _ _ _ _ _
        rw [unhide HNB]
        simpa only [List.append_assoc, List.nil_append, List.append_nil] using h
      clear HA6
      go_wp2_with fail
      exact bodyPost_end (v := .tuple #[]) (by simp [results, Try.results22, go_sem]) rfl ⟨rfl, unhide HZ⟩
    case false =>
      have hnb : nodeB (.mk 1 false d ns ks) = txs [wOpen, wType] ++ (txs [wReg] ++ [] ++ txs [wCont] ++ tx (sB d)) ++ txs [wClose] := by rw [nodeB, if_pos rfl]; rfl
      obtain ⟨hmax, hm2⟩ := unhide HM
      rw [hnb] at hmax hm2
      simp only [List.length_append, List.length_nil] at hmax hm2
      have HNB := hide hnb
      clear hnb HM
      obtain ⟨y0, y1, y2, y3, y4⟩ := (unhide HA1).2.cells
      have HX := hide (lits_any c [⟨#[114, 101, 103, 117, 108, 97, 114]⟩] W0 w1 v v1 _ (unhide HA1).1 (by simp) (by
        show _ + (txs [wReg]).length ≤ _
        simp only [List.length_append]
        omega) (by show (txs [wReg]).length ≤ _; omega))
      go_wp2_with fail
      refine (unhide HX).mono ?_
      rintro e w2 ⟨rfl, v2, hA, hg⟩
      have HA2 : Hid (At c W0 w2 v v2 (xs ++ txs [wOpen, wType] ++ txs [wReg]) ∧ Bx w2 w.heap.size (.int .i64 1) (.bool false) (.slice ad d.size cd) (.slice an ns.length cn) (.slice ak ks.length ck)) := ⟨hA, (unhide HA1).1.box hg (fun g hg => (unhide HO g hg).2) (by omega) (by omega) (unhide HA1).2⟩
      have hs2 := hg.size
      clear HX hA hg HA1 y0 y1 y2 y3 y4
      obtain ⟨y0, y1, y2, y3, y4⟩ := (unhide HA2).2.cells
      have HX := hide (lits_any c [⟨#[99, 111, 110, 116, 101, 110, 116, 115]⟩] W0 w2 v v2 _ (unhide HA2).1 (by simp) (by
        show _ + (txs [wCont]).length ≤ _
        simp only [List.length_append]
        omega) (by show (txs [wCont]).length ≤ _; omega))
      go_wp2_with fail
      refine (unhide HX).mono ?_
      rintro e w3 ⟨rfl, v3, hA, hg⟩
      have HA3 : Hid (At c W0 w3 v v3 (xs ++ txs [wOpen, wType] ++ txs [wReg] ++ txs [wCont]) ∧ Bx w3 w.heap.size (.int .i64 1) (.bool false) (.slice ad d.size cd) (.slice an ns.length cn) (.slice ak ks.length ck)) := ⟨hA, (unhide HA2).1.box hg (fun g hg => (unhide HO g hg).2) (by omega) (by omega) (unhide HA2).2⟩
      have hs3 := hg.size
      clear HX hA hg HA2 y0 y1 y2 y3 y4
      obtain ⟨y0, y1, y2, y3, y4⟩ := (unhide HA3).2.cells
      have HX := hide (writeData_any c v3 _ (sB d) lo hi ad d.size cd w3 (unhide HA3).1.h ((unhide HA3).1.g.row (unhide HD) (by omega) (.inr hhi) hvo) rfl hhi (by simp only [List.length_append]; omega))
      go_wp2_with fail
      refine (unhide HX).mono ?_
      rintro e w4 ⟨rfl, hk⟩
      obtain ⟨v4, hA, hg⟩ := (unhide HA3).1.step hk
      clear hk
      have HA4 : Hid (At c W0 w4 v v4 (xs ++ txs [wOpen, wType] ++ txs [wReg] ++ txs [wCont] ++ tx (sB d)) ∧ Bx w4 w.heap.size (.int .i64 1) (.bool false) (.slice ad d.size cd) (.slice an ns.length cn) (.slice ak ks.length ck)) := ⟨hA, (unhide HA3).1.box hg (fun g hg => (unhide HO g hg).2) (by omega) (by omega) (unhide HA3).2⟩
      have hs4 := hg.size
      clear HX hA hg HA3 y0 y1 y2 y3 y4
      obtain ⟨y0, y1, y2, y3, y4⟩ := (unhide HA4).2.cells
      have HX := hide (lits_any c [⟨#[41]⟩] W0 w4 v v4 _ (unhide HA4).1 (by simp) (by
        show _ + (txs [wClose]).length ≤ _
        simp only [List.length_append]
        omega) (by show (txs [wClose]).length ≤ _; omega))
      go_wp2_with fail
      refine (unhide HX).mono ?_
      rintro e w5 ⟨rfl, v5, hA, hg⟩
      have HA5 : Hid (At c W0 w5 v v5 (xs ++ txs [wOpen, wType] ++ txs [wReg] ++ txs [wCont] ++ tx (sB d) ++ txs [wClose]) ∧ Bx w5 w.heap.size (.int .i64 1) (.bool false) (.slice ad d.size cd) (.slice an ns.length cn) (.slice ak ks.length ck)) := ⟨hA, (unhide HA4).1.box hg (fun g hg => (unhide HO g hg).2) (by omega) (by omega) (unhide HA4).2⟩
      have hs5 := hg.size
      clear HX hA hg HA4 y0 y1 y2 y3 y4
      have HZ : Hid (SkA c w v (xs ++ nodeB (.mk 1 false d ns ks)) w5) := by
        have h := SkA.trans (unhide HG0) ⟨v5, (unhide HA5).1.g, (unhide HA5).1.h⟩
        show SkA _ _ _ _ _
        rw [unhide HNB]
        simpa only [List.append_assoc, List.nil_append, List.append_nil] using h
      clear HA5
      go_wp2_with fail
      exact bodyPost_end (v := .tuple #[]) (by simp [results, Try.results22, go_sem]) rfl ⟨rfl, unhide HZ⟩
  have e1 : (K == 1) = false := by simpa using hk1
  by_cases hk3 : K = 3
  case pos =>
    subst hk3
    have l3 : (txs [wSym, wTarg]).length = 32 := by decide
    have hnb : nodeB (.mk 3 x d ns ks) = txs [wOpen, wType] ++ (txs [wSym, wTarg] ++ tx (sB d)) ++ txs [wClose] := by rw [nodeB, if_neg (by decide), if_pos rfl]
    obtain ⟨hmax, hm2⟩ := unhide HM
    rw [hnb] at hmax hm2
    simp only [List.length_append, List.length_nil] at hmax hm2
    have HNB := hide hnb
    clear hnb HM
    obtain ⟨y0, y1, y2, y3, y4⟩ := (unhide HA1).2.cells
    have HX := hide (lits_any c [⟨#[115, 121, 109, 108, 105, 110, 107]⟩, ⟨#[116, 97, 114, 103, 101, 116]⟩] W0 w1 v v1 _ (unhide HA1).1 (by simp) (by
      show _ + (txs [wSym, wTarg]).length ≤ _
      simp only [List.length_append]
      omega) (by show (txs [wSym, wTarg]).length ≤ _; omega))
    go_wp2_with fail
    refine (unhide HX).mono ?_
    rintro e w2 ⟨rfl, v2, hA, hg⟩
    have HA2 : Hid (At c W0 w2 v v2 (xs ++ txs [wOpen, wType] ++ txs [wSym, wTarg]) ∧ Bx w2 w.heap.size (.int .i64 3) (.bool x) (.slice ad d.size cd) (.slice an ns.length cn) (.slice ak ks.length ck)) := ⟨hA, (unhide HA1).1.box hg (fun g hg => (unhide HO g hg).2) (by omega) (by omega) (unhide HA1).2⟩
    have hs2 := hg.size
    clear HX hA hg HA1 y0 y1 y2 y3 y4
    obtain ⟨y0, y1, y2, y3, y4⟩ := (unhide HA2).2.cells
    have HX := hide (writeData_any c v2 _ (sB d) lo hi ad d.size cd w2 (unhide HA2).1.h ((unhide HA2).1.g.row (unhide HD) (by omega) (.inr hhi) hvo) rfl hhi (by simp only [List.length_append]; omega))
    go_wp2_with fail
    refine (unhide HX).mono ?_
    rintro e w3 ⟨rfl, hk⟩
    obtain ⟨v3, hA, hg⟩ := (unhide HA2).1.step hk
    clear hk
    have HA3 : Hid (At c W0 w3 v v3 (xs ++ txs [wOpen, wType] ++ txs [wSym, wTarg] ++ tx (sB d)) ∧ Bx w3 w.heap.size (.int .i64 3) (.bool x) (.slice ad d.size cd) (.slice an ns.length cn) (.slice ak ks.length ck)) := ⟨hA, (unhide HA2).1.box hg (fun g hg => (unhide HO g hg).2) (by omega) (by omega) (unhide HA2).2⟩
    have hs3 := hg.size
    clear HX hA hg HA2 y0 y1 y2 y3 y4
    obtain ⟨y0, y1, y2, y3, y4⟩ := (unhide HA3).2.cells
    have HX := hide (lits_any c [⟨#[41]⟩] W0 w3 v v3 _ (unhide HA3).1 (by simp) (by
      show _ + (txs [wClose]).length ≤ _
      simp only [List.length_append]
      omega) (by show (txs [wClose]).length ≤ _; omega))
    go_wp2_with fail
    refine (unhide HX).mono ?_
    rintro e w4 ⟨rfl, v4, hA, hg⟩
    have HA4 : Hid (At c W0 w4 v v4 (xs ++ txs [wOpen, wType] ++ txs [wSym, wTarg] ++ tx (sB d) ++ txs [wClose]) ∧ Bx w4 w.heap.size (.int .i64 3) (.bool x) (.slice ad d.size cd) (.slice an ns.length cn) (.slice ak ks.length ck)) := ⟨hA, (unhide HA3).1.box hg (fun g hg => (unhide HO g hg).2) (by omega) (by omega) (unhide HA3).2⟩
    have hs4 := hg.size
    clear HX hA hg HA3 y0 y1 y2 y3 y4
    have HZ : Hid (SkA c w v (xs ++ nodeB (.mk 3 x d ns ks)) w4) := by
      have h := SkA.trans (unhide HG0) ⟨v4, (unhide HA4).1.g, (unhide HA4).1.h⟩
      show SkA _ _ _ _ _
      rw [unhide HNB]
      simpa only [List.append_assoc, List.nil_append, List.append_nil] using h
    clear HA4
    go_wp2_with fail
    exact bodyPost_end (v := .tuple #[]) (by simp [results, Try.results22, go_sem]) rfl ⟨rfl, unhide HZ⟩
  have e3 : (K == 3) = false := by simpa using hk3
  by_cases hk2 : K = 2
  case pos =>
    subst hk2
    have l3 : (txs [wDir]).length = 24 := by decide
    have hnb : nodeB (.mk 2 x d ns ks) = txs [wOpen, wType] ++ (txs [wDir] ++ entsB ns ks) ++ txs [wClose] := by rw [nodeB, if_neg (by decide), if_neg (by decide), if_pos rfl]
    obtain ⟨hmax, hm2⟩ := unhide HM
    rw [hnb] at hmax hm2
    simp only [List.length_append, List.length_nil] at hmax hm2
    have HNB := hide hnb
    clear hnb HM
    obtain ⟨y0, y1, y2, y3, y4⟩ := (unhide HA1).2.cells
    have HX := hide (lits_any c [⟨#[100, 105, 114, 101, 99, 116, 111, 114, 121]⟩] W0 w1 v v1 _ (unhide HA1).1 (by simp) (by
      show _ + (txs [wDir]).length ≤ _
      simp only [List.length_append]
      omega) (by show (txs [wDir]).length ≤ _; omega))
    go_wp2_with fail
    refine (unhide HX).mono ?_
    rintro e w2 ⟨rfl, v2, hA, hg⟩
    have HA2 : Hid (At c W0 w2 v v2 (xs ++ txs [wOpen, wType] ++ txs [wDir]) ∧ Bx w2 w.heap.size (.int .i64 2) (.bool x) (.slice ad d.size cd) (.slice an ns.length cn) (.slice ak ks.length ck)) := ⟨hA, (unhide HA1).1.box hg (fun g hg => (unhide HO g hg).2) (by omega) (by omega) (unhide HA1).2⟩
    have hs2 := hg.size
    clear HX hA hg HA1 y0 y1 y2 y3 y4
    obtain ⟨y0, y1, y2, y3, y4⟩ := (unhide HA2).2.cells
    have HX := hide (unhide HE w2 v2 _ (unhide HA2).1.g (unhide HA2).1.h (by simp only [List.length_append]; omega) (by omega))
    go_wp2_with fail
    refine (unhide HX).mono ?_
    rintro e w3 ⟨rfl, hk⟩
    obtain ⟨v3, hA, hg⟩ := (unhide HA2).1.step hk
    clear hk
    have HA3 : Hid (At c W0 w3 v v3 (xs ++ txs [wOpen, wType] ++ txs [wDir] ++ entsB ns ks) ∧ Bx w3 w.heap.size (.int .i64 2) (.bool x) (.slice ad d.size cd) (.slice an ns.length cn) (.slice ak ks.length ck)) := ⟨hA, (unhide HA2).1.box hg (fun g hg => (unhide HO g hg).2) (by omega) (by omega) (unhide HA2).2⟩
    have hs3 := hg.size
    clear HX hA hg HA2 y0 y1 y2 y3 y4
    obtain ⟨y0, y1, y2, y3, y4⟩ := (unhide HA3).2.cells
    have HX := hide (lits_any c [⟨#[41]⟩] W0 w3 v v3 _ (unhide HA3).1 (by simp) (by
      show _ + (txs [wClose]).length ≤ _
      simp only [List.length_append]
      omega) (by show (txs [wClose]).length ≤ _; omega))
    go_wp2_with fail
    refine (unhide HX).mono ?_
    rintro e w4 ⟨rfl, v4, hA, hg⟩
    have HA4 : Hid (At c W0 w4 v v4 (xs ++ txs [wOpen, wType] ++ txs [wDir] ++ entsB ns ks ++ txs [wClose]) ∧ Bx w4 w.heap.size (.int .i64 2) (.bool x) (.slice ad d.size cd) (.slice an ns.length cn) (.slice ak ks.length ck)) := ⟨hA, (unhide HA3).1.box hg (fun g hg => (unhide HO g hg).2) (by omega) (by omega) (unhide HA3).2⟩
    have hs4 := hg.size
    clear HX hA hg HA3 y0 y1 y2 y3 y4
    have HZ : Hid (SkA c w v (xs ++ nodeB (.mk 2 x d ns ks)) w4) := by
      have h := SkA.trans (unhide HG0) ⟨v4, (unhide HA4).1.g, (unhide HA4).1.h⟩
      show SkA _ _ _ _ _
      rw [unhide HNB]
      simpa only [List.append_assoc, List.nil_append, List.append_nil] using h
    clear HA4
    go_wp2_with fail
    exact bodyPost_end (v := .tuple #[]) (by simp [results, Try.results22, go_sem]) rfl ⟨rfl, unhide HZ⟩
  have e2 : (K == 2) = false := by simpa using hk2
  have hnb : nodeB (.mk K x d ns ks) = txs [wOpen, wType] ++ [] ++ txs [wClose] := by rw [nodeB, if_neg hk1, if_neg hk3, if_neg hk2]
  obtain ⟨hmax, hm2⟩ := unhide HM
  rw [hnb] at hmax hm2
  simp only [List.length_append, List.length_nil] at hmax hm2
  have HNB := hide hnb
  clear hnb HM
  clear hk1 hk2 hk3
  obtain ⟨y0, y1, y2, y3, y4⟩ := (unhide HA1).2.cells
  have HX := hide (lits_any c [⟨#[41]⟩] W0 w1 v v1 _ (unhide HA1).1 (by simp) (by
    show _ + (txs [wClose]).length ≤ _
    simp only [List.length_append]
    omega) (by show (txs [wClose]).length ≤ _; omega))
  go_wp2_with fail
  refine (unhide HX).mono ?_
  rintro e w2 ⟨rfl, v2, hA, hg⟩
  have HA2 : Hid (At c W0 w2 v v2 (xs ++ txs [wOpen, wType] ++ txs [wClose]) ∧ Bx w2 w.heap.size (.int .i64 K) (.bool x) (.slice ad d.size cd) (.slice an ns.length cn) (.slice ak ks.length ck)) := ⟨hA, (unhide HA1).1.box hg (fun g hg => (unhide HO g hg).2) (by omega) (by omega) (unhide HA1).2⟩
  have hs2 := hg.size
  clear HX hA hg HA1 y0 y1 y2 y3 y4
  have HZ : Hid (SkA c w v (xs ++ nodeB (.mk K x d ns ks)) w2) := by
    have h := SkA.trans (unhide HG0) ⟨v2, (unhide HA2).1.g, (unhide HA2).1.h⟩
    show SkA _ _ _ _ _
    rw [unhide HNB]
    simpa only [List.append_assoc, List.nil_append, List.append_nil] using h
  clear HA2
  go_wp2_with fail
  exact bodyPost_end (v := .tuple #[]) (by simp [results, Try.results22, go_sem]) rfl ⟨rfl, unhide HZ⟩
end Go.Proofs.Ytikamklgelcnhab
/- Encode. -/
namespace Go.Proofs.Ytikamklgelcnhab
open Go.RowKit
set_option linter.unusedSimpArgs false
theorem ne0 {n : Nat} (h : ¬ n = 0) : (((n : Nat) : Int) == 0) = false := by rw [beq_eq_false_iff_ne]; omega
theorem padN_lt (n : Nat) : padN n ≤ 7 := by unfold padN; omega
theorem sB_len (d : ByteArray) : (sB d).length = d.size := rfl
theorem nodeB_len (T : Tr) : (nodeB T).length ≤ 300 * wt T := by
  induction T using Tr.ind with
  | h k x d ns ks ih =>
  have hs : ∀ (ns : List ByteArray) (ks' : List Tr), (∀ t ∈ ks', t ∈ ks) → (entsB ns ks').length ≤ 300 * (ns.length + tenths ns + wts ks') := by
    intro ns
    induction ns with
    | nil => intro ks' _; rw [entsB_nil]; simp
    | cons n ns ihn =>
      intro ks' hk
      cases ks' with
      | nil => rw [entsB]; · simp
               · intro n ns t ks _ h; cases h
      | cons t ks' =>
        rw [entsB]
        have h1 := ihn ks' (fun t ht => hk t (by simp [ht]))
        have h2 := ih t (hk t (by simp))
        have l1 : (txs [wClose]).length = 16 := by decide
        have l2 : (txs [wEntry, wOpen, wName, sB n, wNode]).length = 72 + n.size + padN n.size := by
          simp only [txs, List.length_append, tx_len, sB_len, List.length_nil]
          have a1 : wEntry.length = 5 := rfl
          have a2 : wOpen.length = 1 := rfl
          have a3 : wName.length = 4 := rfl
          have a4 : wNode.length = 4 := rfl
          rw [a1, a2, a3, a4]
          have b1 : padN 5 = 3 := rfl
          have b2 : padN 1 = 7 := rfl
          have b3 : padN 4 = 4 := rfl
          rw [b1, b2, b3]
          omega
        have hp := padN_lt n.size
        simp only [List.length_append, List.length_cons, tenths, wts, l1, l2]
        omega
  have hp := padN_lt d.size
  have l1 : (txs [wOpen, wType]).length = 32 := by decide
  have l2 : (txs [wClose]).length = 16 := by decide
  have l3 : (txs [wReg]).length = 16 := by decide
  have l4 : (txs [wCont]).length = 16 := by decide
  have l5 : (txs [wExec, []]).length = 32 := by decide
  have l6 : (txs [wSym, wTarg]).length = 32 := by decide
  have l7 : (txs [wDir]).length = 24 := by decide
  have he := hs ns ks (fun t ht => ht)
  rw [nodeB, wt]
  split
  · split <;> simp only [List.length_append, List.length_nil, tx_len, sB_len, l1, l2, l3, l4, l5] <;> omega
  · split
    · simp only [List.length_append, tx_len, sB_len, l1, l2, l6]; omega
    · split
      · simp only [List.length_append, l1, l2, l7]; omega
      · simp only [List.length_append, List.length_nil, l1, l2]; omega
set_option maxRecDepth 20000 in
set_option maxHeartbeats 2000000 in
theorem writeTree_any (c : Nat) (T : Tr) (lo hi : Nat) (cs : List Value) (w : World) (v : Value) (xs : List UInt8) (hL : Lies lo hi w T cs) (hhi : hi ≤ c) (hS : Has c w v xs) (hN : Nice T) (hW : wt T ≤ 3000) (hx : xs.length ≤ 1000000) :
    Calls Try.prog 11 #[.agg cs.toArray, .func (Fn.func 12) #[] #[.pointer (some ⟨c, 0, none⟩)]] w fun e w' => e = .returned (.tuple #[]) ∧ SkA c w v (xs ++ narB T) w' := by
  have hcl := hS.ctr.lt
  have hown : ∀ g, v.ownBlock = some g → c + 1 ≤ g ∧ g < w.heap.size := fun g hg => owns_lt hS.row g hg
  obtain ⟨kt, xt, at0, nt, ct, bt, mt, dt, et, pt, qt, rfl⟩ := hL.form
  obtain ⟨W0, hW0⟩ : ∃ W0, W0 = w.alloc (.cells #[.int .i64 kt, .bool xt, .slice at0 nt ct, .slice bt mt dt, .slice et pt qt] 26) := ⟨_, rfl⟩
  have hb0 : Below w.heap.size w W0 := by rw [hW0]; exact (Below.refl _ _).alloc (Nat.le_refl _) _
  have hs0 : W0.heap.size = w.heap.size + 1 := by rw [hW0]; simp
  have hx0 : Bx W0 w.heap.size (.int .i64 kt) (.bool xt) (.slice at0 nt ct) (.slice bt mt dt) (.slice et pt qt) := by rw [hW0]; exact bx_new _ _ _ _ _ _
  have hA0 : At c W0 W0 v v xs := ⟨Gt.of_below v (Below.refl _ _), hS.kept hb0⟩
  have HL0 := hide (hL.kept hb0 (by omega))
  have HW0 := hide hW0
  have HG0 : Hid (Gt c w W0 v v) := Gt.of_below v hb0
  have HA0 := hide (And.intro hA0 hx0)
  have HO := hide hown
  have hlen := nodeB_len T
  have l1 : (txs [wMagic]).length = 24 := by decide
  have HL1 := hide (lits_any c [⟨#[110, 105, 120, 45, 97, 114, 99, 104, 105, 118, 101, 45, 49]⟩] W0 W0 v v _ hA0 (by simp) (by show _ + (txs [wMagic]).length ≤ _; omega) (by show (txs [wMagic]).length ≤ _; omega))
  have HN := hide (writeNode_any c T hN (by omega))
  clear hL hS hb0 hx0 hA0 hown hW0 hN
  rw [hs0] at HL1
  go_enter Try.func11, Try.ntmps11
  go_wp2_with fail
  rw [← unhide HW0]
  refine (unhide HL1).mono ?_
  rintro e w1 ⟨rfl, v1, hA, hg⟩
  have hB1 := (unhide HA0).1.box hg (fun g hg => (unhide HO g hg).2) (by omega) (by omega) (unhide HA0).2
  have hL1 := Lies.gt hg (unhide HL0) hhi (by omega) (fun g hg => by have := (unhide HO g hg).1; omega)
  have hA' : At c W0 w1 v v1 (xs ++ txs [wMagic]) := hA
  have HX := hide (unhide HN lo hi _ w1 v1 _ hL1 hhi hA'.h (by rw [List.length_append]; omega) (by omega))
  have HA1 := hide hA'
  obtain ⟨y0, y1, y2, y3, y4⟩ := hB1.cells
  clear HL1 hA hg hA' hL1 hB1 HW0
  go_wp2_with fail
  refine (unhide HX).mono ?_
  rintro e w2 ⟨rfl, hk⟩
  obtain ⟨v2, hA2, _⟩ := (unhide HA1).step hk
  have HZ : Hid (SkA c w v (xs ++ narB T) w2) := by
    have h := SkA.trans (unhide HG0) ⟨v2, hA2.g, hA2.h⟩
    show SkA _ _ _ _ _
    unfold narB
    simpa only [List.append_assoc] using h
  clear HX hk hA2 HA1
  go_wp2_with fail
  exact bodyPost_end (v := .tuple #[]) (by simp [results, Try.results11, go_sem]) rfl ⟨rfl, unhide HZ⟩
/-- What Encode answers. -/
noncomputable def encS (T : Tr) : List UInt8 := if (chk T 1 0).1 = 0 then narB T else []
def EncA (B : Nat) (T : Tr) (e : Ending) (w' : World) : Prop := ∃ a c, e = .returned (.tuple #[.slice a (encS T).length c, .int .i64 (((chk T 1 0).1 : Nat) : Int)]) ∧ Row B w'.heap.size w' (.slice a (encS T).length c) (encS T).length (bv (encS T))
set_option maxRecDepth 20000 in
set_option maxHeartbeats 2000000 in
theorem encode_any (T : Tr) (lo hi : Nat) (cs : List Value) (w : World) (hL : Lies lo hi w T cs) (hW : wt T ≤ 3000) (hhi : hi ≤ w.heap.size) :
    Calls Try.prog 5 #[.agg cs.toArray] w fun e w' => Below w.heap.size w w' ∧ EncA w.heap.size T e w' := by
  obtain ⟨kt, xt, at0, nt, ct, bt, mt, dt, et, pt, qt, rfl⟩ := hL.form
  have HC1 := hide (fun W (h : Below w.heap.size w W) => check_any T lo hi _ W (hL.kept h hhi) (by omega) (by have := h.size; omega))
  have HL := hide hL
  obtain ⟨wA, hwA⟩ : ∃ wA, wA = w.alloc (.cells #[.int .i64 kt, .bool xt, .slice at0 nt ct, .slice bt mt dt, .slice et pt qt] 26) := ⟨_, rfl⟩
  have hbA : Below w.heap.size w wA := by rw [hwA]; exact (Below.refl _ _).alloc (Nat.le_refl _) _
  have hsA : wA.heap.size = w.heap.size + 1 := by rw [hwA]; simp
  have hbx : Bx wA w.heap.size (.int .i64 kt) (.bool xt) (.slice at0 nt ct) (.slice bt mt dt) (.slice et pt qt) := by rw [hwA]; exact bx_new _ _ _ _ _ _
  have HA := hide (And.intro hbA (And.intro hsA hbx))
  have HwA := hide hwA
  have HF : Hid (encS T = if (chk T 1 0).1 = 0 then narB T else []) := rfl
  clear hL hwA hbA hsA hbx
  go_enter Try.func5, Try.ntmps5
  go_wp2_with fail
  rw [← unhide HwA]
  refine (unhide HC1 wA (unhide HA).1).mono ?_
  rintro e w1 ⟨rfl, hb1⟩
  have hs1 := hb1.size
  have HA1 := hide (And.intro ((unhide HA).1.trans (hb1.mono (by have := (unhide HA).2.1; omega))) ((unhide HA).2.2.kept hb1 (by have := (unhide HA).2.1; omega)))
  have hs0 := (unhide HA).2.1
  clear HC1 HwA hb1 HA
  by_cases hc1 : (chk T 1 0).1 = 0
  case neg =>
    have hn1 := ne0 hc1
    rw [if_neg hc1] at HF
    have HZ : Hid (EncA w.heap.size T (.returned (.tuple #[.slice none 0 0, .int .i64 (((chk T 1 0).1 : Nat) : Int)])) w1) := by
      refine ⟨none, 0, ?_, ?_⟩
      · rw [unhide HF]; rfl
      · rw [unhide HF]; exact ⟨none, 0, rfl, Nat.le_refl _, fun h => absurd h (Nat.lt_irrefl _)⟩
    clear hc1
    generalize (chk T 1 0).1 = c1 at *
    go_wp2_with fail
    refine bodyPost_ret (v := .tuple #[.slice none 0 0, .int .i64 (c1 : Int)]) (by simp [results, Try.results5, go_sem]) rfl ⟨(unhide HA1).1, unhide HZ⟩
  case pos =>
  have HN := hide (chk_nice T hc1)
  rw [if_pos hc1] at HF
  have Hc := hide hc1
  rw [hc1]
  clear hc1
  obtain ⟨y0, y1, y2, y3, y4⟩ := (unhide HA1).2.cells
  have hlt1 : w.heap.size < w1.heap.size := by omega
  obtain ⟨wB, hwB⟩ : ∃ wB, wB = w1.alloc (.cells #[.slice none 0 0] 22) := ⟨_, rfl⟩
  have hbB : Below w1.heap.size w1 wB := by rw [hwB]; exact (Below.refl _ _).alloc (Nat.le_refl _) _
  have hsB : wB.heap.size = w1.heap.size + 1 := by rw [hwB]; simp
  have hcB : wB.heap[w1.heap.size]? = some (.cells #[.slice none 0 0] 22) := by
    rw [hwB]
    show (w1.heap.push _)[w1.heap.size]? = _
    rw [Array.getElem?_push, if_pos rfl]
  have hHas : Has w1.heap.size wB (.slice none 0 0) [] := ⟨⟨by rw [cell_of_row _ _ _ _ _ _ hcB]; rfl, by unfold World.frozen?; rw [hcB]; simp⟩, by simpa [bv] using World.ownsRow_nil _ _ _ _⟩
  have HG := hide (writeTree_any w1.heap.size T lo hi _ wB (.slice none 0 0) [] ((unhide HL).kept ((unhide HA1).1.trans (hbB.mono (by omega))) hhi) (by omega) hHas (unhide HN) hW (by simp))
  have HwB := hide hwB
  have HbB := hide ((unhide HA1).1.trans (hbB.mono (by omega)))
  clear hwB hcB hHas hbB
  go_wp2_with fail
  rw [← unhide HwB]
  refine (unhide HG).mono ?_
  rintro e w2 ⟨rfl, v2, hg2, hH2⟩
  rw [List.nil_append] at hH2
  obtain ⟨a2, c2, rfl⟩ := hH2.slice
  have hcc := hH2.ctr.cell
  have hs2 := hg2.size
  have HB2 : Hid (Below w.heap.size w w2) := (unhide HbB).trans ⟨hg2.os, hg2.tape, hg2.output, hg2.size, fun k hk => hg2.keep k (by omega) (by omega) (fun e => by simp [Value.ownBlock] at e)⟩
  have HZ : Hid (EncA w.heap.size T (.returned (.tuple #[.slice a2 (narB T).length c2, .int .i64 0])) w2) := by
    refine ⟨a2, c2, ?_, ?_⟩
    · rw [unhide HF, unhide Hc]; rfl
    · rw [unhide HF]
      exact (owns_row hH2.row (owns_lt hH2.row)).mono (by omega) (Nat.le_refl _)
  clear HG hg2 hH2 y0 y1 y2 y3 y4
  generalize (narB T).length = NB at *
  go_wp2_with fail
  refine bodyPost_ret (v := .tuple #[.slice a2 NB c2, .int .i64 0]) (by simp [results, Try.results5, go_sem]) rfl ⟨unhide HB2, unhide HZ⟩
end Go.Proofs.Ytikamklgelcnhab
/- A sink that keeps what it was handed in one block. -/
namespace Go.Proofs.Ytikamklgelcnhab
open Go.RowKit
set_option linter.unusedSimpArgs false
structure LtD (w : World) (c : Nat) : Prop where
  lt : c < w.heap.size
/-- What a sink is. -/
structure SinkD (pc : Nat) (HK : World → Nat → List UInt8 → Prop) : Prop where
  same : ∀ (w w' : World) (c : Nat) (xs : List UInt8), HK w c xs → Below w.heap.size w w' → HK w' c xs
  put : ∀ (c : Nat) (xs ys : List UInt8) (lo hi : Nat) (b : Option Addr) (m d : Nat) (w : World), HK w c xs → c < w.heap.size → Row lo hi w (.slice b m d) m (bv ys) → (c < lo ∨ hi ≤ c) → ys.length = m → xs.length + m ≤ 10000000 →
    Calls Try.prog 14 #[.slice b m d, .pointer (some ⟨pc, 0, none⟩)] w fun e w' => e = .returned (.tuple #[]) ∧ Sole c w w' ∧ HK w' c (xs ++ ys)
structure HasD (HK : World → Nat → List UInt8 → Prop) (c : Nat) (w : World) (v : Value) (xs : List UInt8) : Prop where
  ctr : LtD w c
  nil : v = .slice none 0 0
  row : w.ownsRow (c + 1) 5 1 v 0 []
  held : HK w c xs
theorem hasD_of {HK : World → Nat → List UInt8 → Prop} {c : Nat} {w : World} {xs : List UInt8} (h : c < w.heap.size) (k : HK w c xs) : HasD HK c w (.slice none 0 0) xs := ⟨⟨h⟩, rfl, World.ownsRow_nil _ _ _ _, k⟩
theorem HasD.kept' {HK : World → Nat → List UInt8 → Prop} {pc : Nat} (hK : SinkD pc HK) {c : Nat} {w w' : World} {v : Value} {xs : List UInt8} (h : HasD HK c w v xs) (hb : Below w.heap.size w w') : HasD HK c w' v xs := by
  obtain ⟨⟨h1⟩, rfl, h3, h4⟩ := h
  exact hasD_of (Nat.lt_of_lt_of_le h1 hb.size) (hK.same w w' c xs h4 hb)
def SkD (HK : World → Nat → List UInt8 → Prop) (c : Nat) (w : World) (v : Value) (xs : List UInt8) (w' : World) : Prop := ∃ v', Gt c w w' v v' ∧ HasD HK c w' v' xs
theorem SkD.trans {HK : World → Nat → List UInt8 → Prop} {c : Nat} {w w1 w2 : World} {v v1 : Value} {xs : List UInt8} (h : Gt c w w1 v v1) (k : SkD HK c w1 v1 xs w2) : SkD HK c w v xs w2 := by
  obtain ⟨v2, h2, h3⟩ := k
  exact ⟨v2, h.trans h2, h3⟩
theorem dsink_any {HK : World → Nat → List UInt8 → Prop} {pc : Nat} (hK : SinkD pc HK) (c : Nat) (v : Value) (xs ys : List UInt8) (lo hi : Nat) (b : Option Addr) (m d : Nat) (w : World) (hS : HasD HK c w v xs) (hr : Row lo hi w (.slice b m d) m (bv ys)) (hd : c < lo ∨ hi ≤ c) (hm : ys.length = m) (hmax : xs.length + m ≤ 10000000) :
    Calls Try.prog 14 #[.slice b m d, .pointer (some ⟨pc, 0, none⟩)] w fun e w' => e = .returned (.tuple #[]) ∧ SkD HK c w v (xs ++ ys) w' := by
  obtain ⟨⟨h1⟩, rfl, h3, h4⟩ := hS
  refine (hK.put c xs ys lo hi b m d w h4 h1 hr hd hm hmax).mono ?_
  rintro e w' ⟨rfl, hs, hk⟩
  exact ⟨rfl, _, ⟨hs.os, hs.tape, hs.output, hs.size, fun k hk hkc _ => hs.block k hk hkc, fun g hg => .inl hg⟩, hasD_of (Nat.lt_of_lt_of_le h1 hs.size) hk⟩

end Go.Proofs.Ytikamklgelcnhab
/- The same for a sink in one block. -/
namespace Go.Proofs.Ytikamklgelcnhab
open Go.RowKit
set_option linter.unusedSimpArgs false
set_option maxRecDepth 20000 in
set_option maxHeartbeats 2000000 in
theorem dwriteTexts_any {HK : World → Nat → List UInt8 → Prop} {pc : Nat} (hSK : SinkD pc HK) (c : Nat) (v : Value) (xs : List UInt8) (ts : List ByteArray) (lo hi : Nat) (a : Option Addr) (n ct : Nat) (w : World) (hS : HasD HK c w v xs) (hr : Row lo hi w (.slice a n ct) n (ts.map .string)) (hn : ts.length = n) (hhi : hi ≤ w.heap.size) (hn1 : n ≤ 1000) (hmax : xs.length + (txs (ts.map sB)).length ≤ 10000000) (hmt : (txs (ts.map sB)).length ≤ 960000) :
    Calls Try.prog 21 #[.func (Fn.func 14) #[] #[.pointer (some ⟨pc, 0, none⟩)], .slice a n ct] w fun e w' => e = .returned (.tuple #[]) ∧ SkD HK c w v (xs ++ txs (ts.map sB)) w' := by
  have HR := hide (And.intro hr hn)
  have HS := hide (And.intro hS (And.intro hmax hmt))
  clear hS hr hn hmax hmt
  go_enter Try.func21, Try.ntmps21
  go_wp2_with fail
  go_loopw [9, 4] (fun vi vp wr => ∃ (i : Nat) (a' : Option Addr) (c' L : Nat), i ≤ n ∧ vi = .int .i64 (i : Int) ∧ vp = .slice a' L c' ∧ Hid (L = (txs ((ts.take i).map sB)).length ∧ wr.ownsRow w.heap.size 5 1 (.slice a' L c') L (bv (txs ((ts.take i).map sB)))) ∧ Below w.heap.size w wr) (fun vi _ _ => n - (intOf vi).toNat)
  case atStart => exact ⟨0, none, 0, 0, by omega, rfl, rfl, ⟨by simp [txs], by simpa [txs, bv] using World.ownsRow_nil _ _ _ _⟩, Below.refl _ _⟩
  case round =>
    obtain ⟨i, a', c', L, hi1, rfl, rfl, hO, hb⟩ := hrel
    have hsb := hb.size
    by_cases hlt : i < n
    · obtain ⟨g, o, rfl, hcx⟩ := row_strX ((unhide HR).1.below hb hhi) (unhide HR).2 i hlt
      have hit : i < ts.length := by rw [(unhide HR).2]; exact hlt
      have htk := txs_take hit
      have hLe := (unhide hO).1
      have hle1 : (txs ((ts.take (i + 1)).map sB)).length ≤ 960000 := by
        rw [List.map_take]; exact Nat.le_trans (txs_le _ _) (unhide HS).2.2
      rw [htk, List.length_append, ← hLe, tx_len] at hle1
      have hsz : (sB (ts.getD i ⟨#[]⟩)).length = (ts.getD i ⟨#[]⟩).size := by unfold sB; rfl
      rw [hsz] at hle1
      generalize hsi : ts.getD i ⟨#[]⟩ = s at *
      have H1 := hide (lenapp_any w.heap.size a' c' L s.size (txs ((ts.take i).map sB)) wr (unhide hO).2 (by omega) (by omega))
      have HTK : Hid (txs ((ts.take (i + 1)).map sB) = txs ((ts.take i).map sB) ++ tx (sB s)) := htk
      clear htk hsi hsz hLe
      generalize txs ((ts.take i).map sB) = T0 at *
      go_wp2_with fail
      refine (unhide H1).mono ?_
      rintro e w2 ⟨a2, c2, rfl, ho2, hb2, hs2⟩
      obtain ⟨a3, c3, w3, happ, ho3, hb3, hs3⟩ := str_app w2 w.heap.size (.slice a2 (L + 8) c2) (L + 8) _ s ho2 (by omega) (by omega)
      have H4 := hide (padapp_any w.heap.size a3 c3 (L + 8 + s.size) s.size _ w3 ho3 (by omega) (by omega) (by omega))
      have Hb3 := hide (hb.trans (hb2.trans hb3))
      clear H1 ho2 hb2 ho3 hb3 hb hcx
      go_wp2_with fail
      refine (unhide H4).mono ?_
      rintro e w4 ⟨a4, c4, rfl, ho4, hb4, hs4⟩
      have HN : Hid (L + 8 + s.size + padN s.size = (txs ((ts.take (i + 1)).map sB)).length ∧ w4.ownsRow w.heap.size 5 1 (.slice a4 (L + 8 + s.size + padN s.size) c4) (L + 8 + s.size + padN s.size) (bv (txs ((ts.take (i + 1)).map sB)))) := by
        show _ ∧ _
        rw [unhide HTK]
        have e1 : T0 ++ tx (sB s) = T0 ++ lenB 8 s.size ++ sB s ++ List.replicate (padN s.size) 0 := by
          unfold tx
          have : (sB s).length = s.size := by unfold sB; rfl
          rw [this]
          simp only [List.append_assoc]
        refine ⟨?_, by rw [e1]; exact ho4⟩
        rw [List.length_append, tx_len, ← (unhide hO).1]
        have : (sB s).length = s.size := by unfold sB; rfl
        rw [this]; omega
      have Hb4 := hide ((unhide Hb3).trans hb4)
      clear H4 ho4 hb4 happ hO
      go_wp2_with fail
      go_roundw
      case rel => exact ⟨i + 1, a4, c4, L + 8 + s.size + padN s.size, by omega, by go_num, rfl, unhide HN, unhide Hb4⟩
      case measure => simp [intOf]; try omega
    · obtain rfl : n = i := by omega
      have hful : ts.take n = ts := List.take_of_length_le (by rw [(unhide HR).2]; omega)
      rw [hful] at hO
      have hL := (unhide hO).1
      have HK := hide (dsink_any hSK c v xs (txs (ts.map sB)) w.heap.size wr.heap.size a' L c' wr ((unhide HS).1.kept' hSK hb) (owns_row (unhide hO).2 (owns_lt (unhide hO).2)) (.inl (unhide HS).1.ctr.lt) hL.symm (by have := (unhide HS).2.1; omega))
      have HG : Hid (Gt c w wr v v) := Gt.of_below v hb
      clear hO hL hful hb
      go_wp2_with fail
      refine (unhide HK).mono ?_
      rintro e w5 ⟨rfl, hA⟩
      have HA := hide (SkD.trans (unhide HG) hA)
      clear HK hA
      go_wp2_with fail
      exact bodyPost_end (v := .tuple #[]) (by simp [results, Try.results21, go_sem]) rfl ⟨rfl, unhide HA⟩
set_option maxRecDepth 20000 in
set_option maxHeartbeats 2000000 in
theorem dwriteData_any {HK : World → Nat → List UInt8 → Prop} {pc : Nat} (hSK : SinkD pc HK) (c : Nat) (v : Value) (xs ys : List UInt8) (lo hi : Nat) (a : Option Addr) (m d : Nat) (w : World) (hS : HasD HK c w v xs) (hr : Row lo hi w (.slice a m d) m (bv ys)) (hm : ys.length = m) (hhi : hi ≤ c) (hmax : xs.length + (tx ys).length ≤ 10000000) :
    Calls Try.prog 36 #[.func (Fn.func 14) #[] #[.pointer (some ⟨pc, 0, none⟩)], .slice a m d] w fun e w' => e = .returned (.tuple #[]) ∧ SkD HK c w v (xs ++ tx ys) w' := by
  have hcl := hS.ctr.lt
  rw [tx_len, hm] at hmax
  have H1 := hide (lenapp_any w.heap.size none 0 0 m [] w (by simpa [bv] using World.ownsRow_nil _ _ _ _) (by omega) (Nat.le_refl _))
  have HS := hide (And.intro hS (And.intro hr hm))
  clear hS hr hm
  go_enter Try.func36, Try.ntmps36
  go_wp2_with fail
  refine (unhide H1).mono ?_
  rintro e w1 ⟨a1, c1, rfl, ho1, hb1, hs1⟩
  rw [List.nil_append] at ho1
  have hS1 := (unhide HS).1.kept' hSK hb1
  have H2 := hide (dsink_any hSK c v xs (lenB 8 m) w.heap.size w1.heap.size a1 8 c1 w1 hS1 (owns_row ho1 (owns_lt ho1)) (.inl hcl) (lenB_length 8 m) (by omega))
  have HG1 : Hid (Gt c w w1 v v) := Gt.of_below v hb1
  have Hr1 := hide ((unhide HS).2.1.below hb1 (by omega))
  clear H1 ho1 hb1 hS1
  go_wp2_with fail
  refine (unhide H2).mono ?_
  rintro e w2 ⟨rfl, v2, hg2, hS2⟩
  have HG2 := hide ((unhide HG1).trans hg2)
  have hr2 := hg2.row (unhide Hr1) (by omega) (.inr hhi) (fun g hg => by
    have := (owns_lt (unhide HS).1.row g hg).1; omega)
  have hl8 := lenB_length 8 m
  have H3 := hide (dsink_any hSK c v2 _ ys lo hi a m d w2 hS2 hr2 (.inr hhi) (unhide HS).2.2 (by rw [List.length_append, hl8]; omega))
  clear H2 hg2 HG1 Hr1 hS2 hr2
  go_wp2_with fail
  refine (unhide H3).mono ?_
  rintro e w3 ⟨rfl, v3, hg3, hS3⟩
  have HG3 := hide ((unhide HG2).trans hg3)
  have H4 := hide (padapp_any w3.heap.size none 0 0 m [] w3 (by simpa [bv] using World.ownsRow_nil _ _ _ _) (by omega) (by omega) (Nat.le_refl _))
  have HS3 := hide hS3
  clear H3 hg3 HG2 hS3
  go_wp2_with fail
  refine (unhide H4).mono ?_
  rintro e w4 ⟨a4, c4, rfl, ho4, hb4, hs4⟩
  rw [List.nil_append, Nat.zero_add] at ho4
  have H5 := hide (dsink_any hSK c v3 _ (List.replicate (padN m) 0) w3.heap.size w4.heap.size a4 (padN m) c4 w4 ((unhide HS3).kept' hSK hb4) (owns_row ho4 (owns_lt ho4)) (.inl (unhide HS3).ctr.lt) (by simp) (by rw [List.length_append, List.length_append, hl8, (unhide HS).2.2]; omega))
  have HG4 : Hid (Gt c w w4 v v3) := (unhide HG3).trans (Gt.of_below v3 hb4)
  clear H4 ho4 hb4 HG3
  go_wp2_with fail
  refine (unhide H5).mono ?_
  rintro e w5 ⟨rfl, hA⟩
  have HA : Hid (SkD HK c w v (xs ++ tx ys) w5) := by
    have := SkD.trans (unhide HG4) hA
    show SkD HK _ _ _ _ _
    unfold tx
    rw [(unhide HS).2.2]
    simpa only [List.append_assoc] using this
  clear H5 hA
  go_wp2_with fail
  exact bodyPost_end (v := .tuple #[]) (by simp [results, Try.results36, go_sem]) rfl ⟨rfl, unhide HA⟩

end Go.Proofs.Ytikamklgelcnhab
/- The same for a sink in one block. -/
namespace Go.Proofs.Ytikamklgelcnhab
open Go.RowKit
set_option linter.unusedSimpArgs false
/-- Where the sink is, seen from a call that began at w. -/
structure Dt (HK : World → Nat → List UInt8 → Prop) (c : Nat) (w W : World) (v0 v : Value) (xs : List UInt8) : Prop where
  g : Gt c w W v0 v
  h : HasD HK c W v xs
theorem Dt.step {HK : World → Nat → List UInt8 → Prop} {c : Nat} {w W W' : World} {v0 v : Value} {xs ys : List UInt8} (h : Dt HK c w W v0 v xs) (k : SkD HK c W v ys W') : ∃ v', Dt HK c w W' v0 v' ys ∧ Gt c W W' v v' := by
  obtain ⟨v', h1, h2⟩ := k
  exact ⟨v', ⟨h.g.trans h1, h2⟩, h1⟩
theorem Dt.pos {HK : World → Nat → List UInt8 → Prop} {c : Nat} {w W : World} {v0 v : Value} {xs : List UInt8} (h : Dt HK c w W v0 v xs) : ∀ g, v.ownBlock = some g → c < g := fun g hg => by have := (owns_lt h.h.row g hg).1; omega
theorem Dt.ne {HK : World → Nat → List UInt8 → Prop} {c B : Nat} {W0 W : World} {v0 v : Value} {xs : List UInt8} (h : Dt HK c W0 W v0 v xs) (h0 : ∀ g, v0.ownBlock = some g → g < B) (hB : B < W0.heap.size) : ∀ g, v.ownBlock = some g → g ≠ B := fun g hg => by
  rcases h.g.own g hg with h1 | h1
  · have := h0 g h1; omega
  · omega
theorem Dt.box {HK : World → Nat → List UInt8 → Prop} {c B : Nat} {W0 W W' : World} {v0 v v' : Value} {xs : List UInt8} {t0 t1 t2 t3 t4 : Value} (h : Dt HK c W0 W v0 v xs) (hg : Gt c W W' v v') (h0 : ∀ g, v0.ownBlock = some g → g < B) (hB : B < W0.heap.size) (hc : c ≠ B) (hb : Bx W B t0 t1 t2 t3 t4) : Bx W' B t0 t1 t2 t3 t4 :=
  hb.of (hg.keep B hb.lt (fun e => hc e.symm) (fun e => h.ne h0 hB B e rfl))
/-- Texts that are written out, handed to the sink. -/
theorem dlits_any {HK : World → Nat → List UInt8 → Prop} {pc : Nat} (hSK : SinkD pc HK) (c : Nat) (ts : List ByteArray) (W0 W : World) (v0 v : Value) (xs : List UInt8) (h : Dt HK c W0 W v0 v xs) (hn : ts.length ≤ 1000) (hmax : xs.length + (txs (ts.map sB)).length ≤ 10000000) (hmt : (txs (ts.map sB)).length ≤ 960000) :
    Calls Try.prog 21 #[.func (Fn.func 14) #[] #[.pointer (some ⟨pc, 0, none⟩)], .slice (some ⟨W.heap.size, 0, none⟩) ts.length ts.length] (W.alloc (.cells (ts.map Value.string).toArray 9)) fun e w' => e = .returned (.tuple #[]) ∧ ∃ v', Dt HK c W0 w' v0 v' (xs ++ txs (ts.map sB)) ∧ Gt c W w' v v' := by
  have hb : Below W.heap.size W (W.alloc (.cells (ts.map Value.string).toArray 9)) := (Below.refl _ _).alloc (Nat.le_refl _) _
  have hA : Dt HK c W0 (W.alloc (.cells (ts.map Value.string).toArray 9)) v0 v xs := ⟨h.g.trans (Gt.of_below v hb), h.h.kept' hSK hb⟩
  refine (dwriteTexts_any hSK c v xs ts W.heap.size (W.heap.size + 1) _ ts.length ts.length _ hA.h (lit_row W ts) rfl (by simp) hn hmax hmt).mono ?_
  rintro e w' ⟨rfl, hk⟩
  obtain ⟨v', h1, h2⟩ := hA.step hk
  exact ⟨rfl, v', h1, (Gt.of_below v hb).trans h2⟩

end Go.Proofs.Ytikamklgelcnhab
