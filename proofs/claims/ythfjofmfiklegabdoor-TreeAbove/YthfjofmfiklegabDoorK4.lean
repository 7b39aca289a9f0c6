import Derived.Test.YthfjofmfiklegabDoorK3
import Derived.Test.YthfjofmfiklegabDoorK2
import Derived.Deep.RegionHeld3
/- Put: the plain mathematics. No Go text is named here. -/
namespace Go.Proofs.YthfjofmfiklegabDoor
open Go.RowKit
theorem chks_ok {ks : List Tr} {deep : Nat} : ∀ {n : Nat}, (chks ks deep n).1 = 0 → ∀ t ∈ ks, ∃ n', (chk t deep n').1 = 0 := by
  induction ks with
  | nil => intro n _ t ht; simp at ht
  | cons a r ih =>
    intro n h t ht
    rw [chks] at h
    by_cases h0 : (chk a deep n).1 = 0
    · rw [if_pos h0] at h
      rcases List.mem_cons.1 ht with rfl | ht
      · exact ⟨n, h0⟩
      · exact ih h t ht
    · rw [if_neg h0] at h; exact absurd h h0
theorem chk_kids {k : Int} {x : Bool} {d : ByteArray} {ns : List ByteArray} {ks : List Tr} {deep n : Nat} (h : (chk (.mk k x d ns ks) deep n).1 = 0) : locErr k x d.size ns ks.length = 0 ∧ deep ≤ 64 ∧ ∀ t ∈ ks, ∃ n', (chk t (deep + 1) n').1 = 0 := by
  rw [chk] at h
  split at h
  · cases h
  split at h
  · rename_i h1 h2
    exact ⟨h2, by omega, chks_ok h⟩
  · rename_i h1 h2
    exact absurd h h2
theorem loc0 {k : Int} {x : Bool} {d nk : Nat} {ns : List ByteArray} (h : locErr k x d ns nk = 0) : (k = 1 ∧ ns.length = 0 ∧ nk = 0) ∨ (k = 3 ∧ x = false ∧ ns.length = 0 ∧ nk = 0) ∨ (k = 2 ∧ x = false ∧ d = 0 ∧ ns.length = nk ∧ okNames ns) := by
  unfold locErr at h
  split at h
  · split at h
    · cases h
    · left; rename_i h1 h2; exact ⟨h1, by omega, by omega⟩
  split at h
  · split at h
    · cases h
    · right; left; rename_i h1 h2; exact ⟨h1, by cases x <;> simp_all, by omega, by omega⟩
  split at h
  · split at h
    · cases h
    · split at h
      · right; right; rename_i h1 h2 h3; exact ⟨h1, by cases x <;> simp_all, by omega, by omega, h3⟩
      · cases h
  · cases h
theorem okNames_rise {ns : List ByteArray} (h : okNames ns) : Rise ns := by
  intro i j hij hj
  induction j with
  | zero => omega
  | succ j ih =>
    have h1 := h (j + 1) hj
    rw [okName_next hj, Bool.and_eq_true] at h1
    have h2 := of_decide_eq_true h1.2
    have e : ns[j + 1] = ns.getD (j + 1) ⟨#[]⟩ := by rw [List.getD_eq_getElem?_getD, List.getElem?_eq_getElem hj]; rfl
    rw [e] at h2
    rcases Nat.lt_or_ge i j with hi | hi
    · exact Ord.trans (ih hi (by omega)) h2
    · obtain rfl : i = j := by omega
      exact h2
theorem chk_nice (T : Tr) : ∀ {deep n : Nat}, (chk T deep n).1 = 0 → Nice T := by
  induction T using Tr.ind with
  | h k x d ns ks ih =>
    intro deep n h
    obtain ⟨h1, h2, h3⟩ := chk_kids h
    have hk : ∀ t ∈ ks, Nice t := fun t ht => by obtain ⟨n', hn'⟩ := h3 t ht; exact ih t ht hn'
    rcases loc0 h1 with ⟨_, h4, h5⟩ | ⟨_, _, h4, h5⟩ | ⟨_, _, _, h4, h5⟩
    · exact .mk _ _ _ _ _ (okNames_rise (okNames_nil h4)) (by omega) hk
    · exact .mk _ _ _ _ _ (okNames_rise (okNames_nil h4)) (by omega) hk
    · exact .mk _ _ _ _ _ (okNames_rise h5) h4 hk
/-- A place's names. -/
def placeL (s : ByteArray) : List ByteArray := if s.size = 0 then [] else partsB s
def isPl (s : ByteArray) : Bool := (placeL s).all entB
theorem size_zero {s : ByteArray} (h : s.size = 0) : s = ⟨#[]⟩ := by
  apply ByteArray.ext
  have : s.data.size = 0 := h
  exact Array.eq_empty_of_size_eq_zero this
theorem placeL_join (s : ByteArray) : joinB (placeL s) = s := by
  unfold placeL
  split
  · rename_i h; rw [size_zero h]; rfl
  · exact join_parts s
theorem isPl_yes {s : ByteArray} (h : ∃ l, IsPl s l) : isPl s = true := by
  obtain ⟨l, hl⟩ := h
  unfold isPl placeL
  split
  · rfl
  · rename_i h0
    rw [← isPl_parts hl h0]
    exact List.all_eq_true.2 hl.1
theorem isPl_no {s : ByteArray} (h : ∀ l, ¬ IsPl s l) : isPl s = false := by
  cases hp : isPl s with
  | false => rfl
  | true => exact absurd ⟨List.all_eq_true.1 hp, (placeL_join s).symm⟩ (h (placeL s))
theorem isPl_ent {s : ByteArray} (h : isPl s = true) : ∀ n ∈ placeL s, entB n = true := List.all_eq_true.1 h
theorem entB_le {s : ByteArray} (h : entB s = true) : s.size ≤ 100 := by
  unfold entB at h; exact (of_decide_eq_true h).2.1
theorem tenths_append (a b : List ByteArray) : tenths (a ++ b) = tenths a + tenths b := by
  induction a with
  | nil => simp [tenths]
  | cons x r ih => simp only [List.cons_append, tenths, ih]; omega
theorem wts_split (ks : List Tr) (i : Nat) : wts (ks.take i) + wts (ks.drop i) = wts ks := by rw [← wts_append, List.take_append_drop]
theorem tenths_split (ns : List ByteArray) (i : Nat) : tenths (ns.take i) + tenths (ns.drop i) = tenths ns := by rw [← tenths_append, List.take_append_drop]
theorem wt_empty : wt emptyDir = 1 := by unfold emptyDir; rw [wt]; simp only [tenths, wts, List.length_nil]; rfl
/-- What is laid is little more than both. -/
theorem laid_wt (l : List ByteArray) : ∀ {T X T' : Tr} {deep : Nat}, laidS T l X deep = .ok T' → (∀ n ∈ l, entB n = true) → Nice T → wt T' ≤ wt T + wt X + 12 * l.length ∧ deep + l.length ≤ 64 := by
  induction l with
  | nil =>
    intro T X T' deep h _ _
    cases T
    rw [laidS] at h
    split at h
    · cases h
    · cases h; simp only [List.length_nil]; omega
  | cons a r ih =>
    intro T X T' deep h hent hN
    cases hN with
    | mk k x d ns ks hr hl hk =>
    rw [laidS] at h
    split at h
    · cases h
    split at h
    · cases hq : laidS (kidAt ns ks a) r X (deep + 1) with
      | error e => rw [hq] at h; cases h
      | ok t =>
        rw [hq] at h
        cases h
        obtain ⟨h1, h2⟩ := ih hq (fun n hn => hent n (by simp [hn])) (kidAt_nice hk)
        have ha := entB_le (hent a (by simp))
        rw [wt, wt]
        simp only [tenths_append, wts_append, List.length_append, List.length_cons, List.length_nil, tenths, wts, List.length_take, List.length_drop]
        have hz : (⟨#[]⟩ : ByteArray).size = 0 := rfl
        rw [hz]
        have e1 := tenths_split ns (pos ns a)
        have e2 := wts_split ks (pos ns a)
        cases hh : has ns a with
        | false =>
          have en : nextAt ns a = pos ns a := by unfold nextAt; rw [hh]; rfl
          have ek : kidAt ns ks a = emptyDir := by unfold kidAt; rw [hh]; rfl
          rw [ek, wt_empty] at h1
          rw [en]
          omega
        | true =>
          have en : nextAt ns a = pos ns a + 1 := by unfold nextAt; rw [hh]; rfl
          have hlt := has_lt hh
          have hlk : pos ns a < ks.length := by omega
          have ek : kidAt ns ks a = ks[pos ns a] := by unfold kidAt; rw [hh, if_pos rfl, List.getD_eq_getElem?_getD, List.getElem?_eq_getElem hlk]; rfl
          rw [ek] at h1
          rw [en]
          have e3 := wts_take ks (pos ns a) hlk
          have e4 := wts_split ks (pos ns a + 1)
          have e5 := tenths_take ns (pos ns a) hlt
          have e6 := tenths_split ns (pos ns a + 1)
          omega
    · cases h
/-- Put, or why not. -/
noncomputable def putS (T : Tr) (s : ByteArray) (X : Tr) : Except Nat Tr :=
  if (chk T 1 0).1 ≠ 0 then .error (chk T 1 0).1 else if (chk X 1 0).1 ≠ 0 then .error (chk X 1 0).1 else if isPl s = false then .error 9 else
    match laidS T (placeL s) X 1 with
    | .error e => .error e
    | .ok W => if (chk W 1 0).1 ≠ 0 then .error (chk W 1 0).1 else .ok W
end Go.Proofs.YthfjofmfiklegabDoor
/- A node stored into a box. -/
namespace Go.Proofs.YthfjofmfiklegabDoor
open Go.RowKit
def set5 (w : World) (b : Nat) (v0 v1 v2 v3 v4 : Value) : World := ((((w.setCell ⟨b, 0, none⟩ v0).setCell ⟨b, 1, none⟩ v1).setCell ⟨b, 2, none⟩ v2).setCell ⟨b, 3, none⟩ v3).setCell ⟨b, 4, none⟩ v4
theorem set5_eq (w : World) (b : Nat) (v0 v1 v2 v3 v4 : Value) : ((((w.setCell ⟨b, 0, none⟩ v0).setCell ⟨b, 1, none⟩ v1).setCell ⟨b, 2, none⟩ v2).setCell ⟨b, 3, none⟩ v3).setCell ⟨b, 4, none⟩ v4 = set5 w b v0 v1 v2 v3 v4 := rfl
@[simp] theorem set5_size (w : World) (b : Nat) (v0 v1 v2 v3 v4 : Value) : (set5 w b v0 v1 v2 v3 v4).heap.size = w.heap.size := by simp [set5]
theorem set5_other (w : World) (b k : Nat) (v0 v1 v2 v3 v4 : Value) (h : k ≠ b) : (set5 w b v0 v1 v2 v3 v4).heap[k]? = w.heap[k]? := by
  unfold set5
  rw [set_other _ _ _ _ _ h, set_other _ _ _ _ _ h, set_other _ _ _ _ _ h, set_other _ _ _ _ _ h, set_other _ _ _ _ _ h]
theorem below_set5 {B : Nat} {a w : World} (h : Below B a w) {b : Nat} (hb : B ≤ b) (v0 v1 v2 v3 v4 : Value) : Below B a (set5 w b v0 v1 v2 v3 v4) := by
  unfold YthfjofmfiklegabDoor.set5
  exact ((((h.setCell hb _).setCell hb _).setCell hb _).setCell hb _).setCell hb _
theorem Bx.set5 {w : World} {b : Nat} {u0 u1 u2 u3 u4 : Value} (h : Bx w b u0 u1 u2 u3 u4) (v0 v1 v2 v3 v4 : Value) : Bx (set5 w b v0 v1 v2 v3 v4) b v0 v1 v2 v3 v4 := by
  unfold Bx at h ⊢
  unfold YthfjofmfiklegabDoor.set5
  have hl := (Array.getElem?_eq_some_iff.1 h).1
  simp [World.setCell, Array.getElem?_modify, h]
end Go.Proofs.YthfjofmfiklegabDoor
/- slices.Concat of three. -/
namespace Go.Proofs.YthfjofmfiklegabDoor
open Go.RowKit
theorem concat23_three (g lo hi : Nat) (a1 a2 a3 : Option Addr) (n1 c1 n2 c2 n3 c3 : Nat) (x1 x2 x3 : List Value) (w : World) (hg : g < w.heap.size) (hhi : hi ≤ w.heap.size)
    (z1 : w.cell? ⟨g, 0, none⟩ = some (.slice a1 n1 c1)) (z2 : w.cell? ⟨g, 1, none⟩ = some (.slice a2 n2 c2)) (z3 : w.cell? ⟨g, 2, none⟩ = some (.slice a3 n3 c3))
    (r1 : Row lo hi w (.slice a1 n1 c1) n1 x1) (r2 : Row lo hi w (.slice a2 n2 c2) n2 x2) (r3 : Row lo hi w (.slice a3 n3 c3) n3 x3)
    (l1 : x1.length = n1 * 1) (l2 : x2.length = n2 * 1) (l3 : x3.length = n3 * 1) (o1 : ∀ u ∈ x1, u.oneCell' = true) (o2 : ∀ u ∈ x2, u.oneCell' = true) (o3 : ∀ u ∈ x3, u.oneCell' = true) (hmax : n1 + n2 + n3 ≤ 1000000) :
    Calls Tryd.prog 23 #[.slice (some ⟨g, 0, none⟩) 3 3] w fun e w' => ∃ a c, e = .returned (.slice a (n1 + n2 + n3) c) ∧ w'.ownsRow w.heap.size 9 1 (.slice a (n1 + n2 + n3) c) (n1 + n2 + n3) (x1 ++ x2 ++ x3) ∧ Below w.heap.size w w' := by
  have h := concat23_any g 0 3 3 lo hi (fun i => [a1, a2, a3].getD i none) (fun i => [n1, n2, n3].getD i 0) (fun i => [c1, c2, c3].getD i 0) (fun i => [x1, x2, x3].getD i []) w (by omega) hg hhi
    (fun i hi => by match i, hi with
      | 0, _ => exact z1
      | 1, _ => exact z2
      | 2, _ => exact z3)
    (fun i hi => by match i, hi with
      | 0, _ => exact r1
      | 1, _ => exact r2
      | 2, _ => exact r3)
    (fun i hi => by match i, hi with
      | 0, _ => exact l1
      | 1, _ => exact l2
      | 2, _ => exact l3)
    (fun i hi => by match i, hi with
      | 0, _ => exact o1
      | 1, _ => exact o2
      | 2, _ => exact o3)
    (fun i hi => by match i, hi with
      | 0, _ => show 0 ≤ _; omega
      | 1, _ => show 0 + n1 ≤ _; omega
      | 2, _ => show 0 + n1 + n2 ≤ _; omega
      | 3, _ => show 0 + n1 + n2 + n3 ≤ _; omega)
  have e1 : catN (fun i => [n1, n2, n3].getD i 0) 3 = n1 + n2 + n3 := by show 0 + n1 + n2 + n3 = _; omega
  have e2 : catX (fun i => [x1, x2, x3].getD i []) 3 = x1 ++ x2 ++ x3 := by show [] ++ x1 ++ x2 ++ x3 = _; simp
  rw [e1, e2] at h
  exact h
theorem concat24_three (g lo hi : Nat) (a1 a2 a3 : Option Addr) (n1 c1 n2 c2 n3 c3 : Nat) (x1 x2 x3 : List Value) (w : World) (hg : g < w.heap.size) (hhi : hi ≤ w.heap.size)
    (z1 : w.cell? ⟨g, 0, none⟩ = some (.slice a1 n1 c1)) (z2 : w.cell? ⟨g, 1, none⟩ = some (.slice a2 n2 c2)) (z3 : w.cell? ⟨g, 2, none⟩ = some (.slice a3 n3 c3))
    (r1 : Row lo hi w (.slice a1 n1 c1) n1 x1) (r2 : Row lo hi w (.slice a2 n2 c2) n2 x2) (r3 : Row lo hi w (.slice a3 n3 c3) n3 x3)
    (l1 : x1.length = n1 * 5) (l2 : x2.length = n2 * 5) (l3 : x3.length = n3 * 5) (o1 : ∀ u ∈ x1, u.oneCell' = true) (o2 : ∀ u ∈ x2, u.oneCell' = true) (o3 : ∀ u ∈ x3, u.oneCell' = true) (hmax : n1 + n2 + n3 ≤ 1000000) :
    Calls Tryd.prog 24 #[.slice (some ⟨g, 0, none⟩) 3 3] w fun e w' => ∃ a c, e = .returned (.slice a (n1 + n2 + n3) c) ∧ w'.ownsRow w.heap.size 26 5 (.slice a (n1 + n2 + n3) c) (n1 + n2 + n3) (x1 ++ x2 ++ x3) ∧ Below w.heap.size w w' := by
  have h := concat24_any g 0 3 3 lo hi (fun i => [a1, a2, a3].getD i none) (fun i => [n1, n2, n3].getD i 0) (fun i => [c1, c2, c3].getD i 0) (fun i => [x1, x2, x3].getD i []) w (by omega) hg hhi
    (fun i hi => by match i, hi with
      | 0, _ => exact z1
      | 1, _ => exact z2
      | 2, _ => exact z3)
    (fun i hi => by match i, hi with
      | 0, _ => exact r1
      | 1, _ => exact r2
      | 2, _ => exact r3)
    (fun i hi => by match i, hi with
      | 0, _ => exact l1
      | 1, _ => exact l2
      | 2, _ => exact l3)
    (fun i hi => by match i, hi with
      | 0, _ => exact o1
      | 1, _ => exact o2
      | 2, _ => exact o3)
    (fun i hi => by match i, hi with
      | 0, _ => show 0 ≤ _; omega
      | 1, _ => show 0 + n1 ≤ _; omega
      | 2, _ => show 0 + n1 + n2 ≤ _; omega
      | 3, _ => show 0 + n1 + n2 + n3 ≤ _; omega)
  have e1 : catN (fun i => [n1, n2, n3].getD i 0) 3 = n1 + n2 + n3 := by show 0 + n1 + n2 + n3 = _; omega
  have e2 : catX (fun i => [x1, x2, x3].getD i []) 3 = x1 ++ x2 ++ x3 := by show [] ++ x1 ++ x2 ++ x3 = _; simp
  rw [e1, e2] at h
  exact h
end Go.Proofs.YthfjofmfiklegabDoor
/- slices.Concat of three, one of them new. -/
namespace Go.Proofs.YthfjofmfiklegabDoor
open Go.RowKit
theorem concat23_set (lo hi B : Nat) (a1 a3 : Option Addr) (n1 c1 n3 c3 : Nat) (x1 x3 : List Value) (nm : ByteArray) (w : World) (hB : w.heap.size = B) (hhi : hi ≤ B)
    (r1 : Row lo hi w (.slice a1 n1 c1) n1 x1) (r3 : Row lo hi w (.slice a3 n3 c3) n3 x3)
    (l1 : x1.length = n1 * 1) (l3 : x3.length = n3 * 1) (o1 : ∀ u ∈ x1, u.oneCell' = true) (o3 : ∀ u ∈ x3, u.oneCell' = true) (hmax : n1 + 1 + n3 ≤ 1000000) :
    Calls Tryd.prog 23 #[.slice (some ⟨B + 1, 0, none⟩) 3 3] ((w.alloc (.cells #[.string nm] 9)).alloc (.cells #[.slice a1 n1 c1, .slice (some ⟨B, 0, none⟩) 1 1, .slice a3 n3 c3] 23)).drew fun e w' => ∃ a c, e = .returned (.slice a (n1 + 1 + n3) c) ∧ w'.ownsRow (B + 1 + 1) 9 1 (.slice a (n1 + 1 + n3) c) (n1 + 1 + n3) (x1 ++ [.string nm] ++ x3) ∧ Below B w w' := by
  subst hB
  have hbw : Below w.heap.size w ((w.alloc (.cells #[.string nm] 9)).alloc (.cells #[.slice a1 n1 c1, .slice (some ⟨w.heap.size, 0, none⟩) 1 1, .slice a3 n3 c3] 23)).drew := (((Below.refl _ _).alloc (Nat.le_refl _) _).alloc (by simp) _).drew
  have hh : ((w.alloc (.cells #[.string nm] 9)).alloc (.cells #[.slice a1 n1 c1, .slice (some ⟨w.heap.size, 0, none⟩) 1 1, .slice a3 n3 c3] 23)).drew.heap[w.heap.size + 1]? = some (.cells #[.slice a1 n1 c1, .slice (some ⟨w.heap.size, 0, none⟩) 1 1, .slice a3 n3 c3] 23) := by
    show ((w.heap.push _).push _)[w.heap.size + 1]? = _
    rw [Array.getElem?_push, if_pos (by simp)]
  have hm : ((w.alloc (.cells #[.string nm] 9)).alloc (.cells #[.slice a1 n1 c1, .slice (some ⟨w.heap.size, 0, none⟩) 1 1, .slice a3 n3 c3] 23)).drew.heap[w.heap.size]? = some (.cells #[.string nm] 9) := by
    show ((w.heap.push _).push _)[w.heap.size]? = _
    rw [Array.getElem?_push, if_neg (by simp), Array.getElem?_push, if_pos rfl]
  have hz : ((w.alloc (.cells #[.string nm] 9)).alloc (.cells #[.slice a1 n1 c1, .slice (some ⟨w.heap.size, 0, none⟩) 1 1, .slice a3 n3 c3] 23)).drew.heap.size = w.heap.size + 1 + 1 := by simp
  have h := concat23_three (w.heap.size + 1) 0 (w.heap.size + 1 + 1) a1 (some ⟨w.heap.size, 0, none⟩) a3 n1 c1 1 1 n3 c3 x1 [.string nm] x3 _ (by rw [hz]; omega) (by rw [hz]; omega)
    (by rw [cell_of_row _ _ _ _ _ _ hh]; rfl) (by rw [cell_of_row _ _ _ _ _ _ hh]; rfl) (by rw [cell_of_row _ _ _ _ _ _ hh]; rfl)
    ((r1.below hbw hhi).mono (Nat.zero_le _) (by omega)) ⟨_, _, rfl, Nat.le_refl _, fun _ => ⟨w.heap.size, 0, rfl, Nat.zero_le _, by omega, fun j u hj => by rw [cell_of_row _ _ _ _ _ _ hm, Nat.zero_add]; rw [← Array.getElem?_toList]; exact hj⟩⟩ ((r3.below hbw hhi).mono (Nat.zero_le _) (by omega))
    l1 rfl l3 o1 (by simp [Value.oneCell']) o3 hmax
  rw [hz] at h
  exact h.mono (fun e w' ⟨a, c, h1, h2, h3⟩ => ⟨a, c, h1, h2, hbw.trans (h3.mono (by omega))⟩)
theorem concat24_set (lo hi B : Nat) (a1 a3 : Option Addr) (n1 c1 n3 c3 : Nat) (x1 x3 : List Value) (j0 : Int) (j1 : Bool) (f1 f2 f3 : Option Addr) (g1 h1 g2 h2 g3 h3 : Nat) (w : World) (hB : w.heap.size = B) (hhi : hi ≤ B)
    (r1 : Row lo hi w (.slice a1 n1 c1) n1 x1) (r3 : Row lo hi w (.slice a3 n3 c3) n3 x3)
    (l1 : x1.length = n1 * 5) (l3 : x3.length = n3 * 5) (o1 : ∀ u ∈ x1, u.oneCell' = true) (o3 : ∀ u ∈ x3, u.oneCell' = true) (hmax : n1 + 1 + n3 ≤ 1000000) :
    Calls Tryd.prog 24 #[.slice (some ⟨B + 1, 0, none⟩) 3 3] ((w.alloc (.cells #[.int .i64 j0, .bool j1, .slice f1 g1 h1, .slice f2 g2 h2, .slice f3 g3 h3] 26)).alloc (.cells #[.slice a1 n1 c1, .slice (some ⟨B, 0, none⟩) 1 1, .slice a3 n3 c3] 24)).drew fun e w' => ∃ a c, e = .returned (.slice a (n1 + 1 + n3) c) ∧ w'.ownsRow (B + 1 + 1) 26 5 (.slice a (n1 + 1 + n3) c) (n1 + 1 + n3) (x1 ++ [.int .i64 j0, .bool j1, .slice f1 g1 h1, .slice f2 g2 h2, .slice f3 g3 h3] ++ x3) ∧ Below B w w' := by
  subst hB
  have hbw : Below w.heap.size w ((w.alloc (.cells #[.int .i64 j0, .bool j1, .slice f1 g1 h1, .slice f2 g2 h2, .slice f3 g3 h3] 26)).alloc (.cells #[.slice a1 n1 c1, .slice (some ⟨w.heap.size, 0, none⟩) 1 1, .slice a3 n3 c3] 24)).drew := (((Below.refl _ _).alloc (Nat.le_refl _) _).alloc (by simp) _).drew
  have hh : ((w.alloc (.cells #[.int .i64 j0, .bool j1, .slice f1 g1 h1, .slice f2 g2 h2, .slice f3 g3 h3] 26)).alloc (.cells #[.slice a1 n1 c1, .slice (some ⟨w.heap.size, 0, none⟩) 1 1, .slice a3 n3 c3] 24)).drew.heap[w.heap.size + 1]? = some (.cells #[.slice a1 n1 c1, .slice (some ⟨w.heap.size, 0, none⟩) 1 1, .slice a3 n3 c3] 24) := by
    show ((w.heap.push _).push _)[w.heap.size + 1]? = _
    rw [Array.getElem?_push, if_pos (by simp)]
  have hm : ((w.alloc (.cells #[.int .i64 j0, .bool j1, .slice f1 g1 h1, .slice f2 g2 h2, .slice f3 g3 h3] 26)).alloc (.cells #[.slice a1 n1 c1, .slice (some ⟨w.heap.size, 0, none⟩) 1 1, .slice a3 n3 c3] 24)).drew.heap[w.heap.size]? = some (.cells #[.int .i64 j0, .bool j1, .slice f1 g1 h1, .slice f2 g2 h2, .slice f3 g3 h3] 26) := by
    show ((w.heap.push _).push _)[w.heap.size]? = _
    rw [Array.getElem?_push, if_neg (by simp), Array.getElem?_push, if_pos rfl]
  have hz : ((w.alloc (.cells #[.int .i64 j0, .bool j1, .slice f1 g1 h1, .slice f2 g2 h2, .slice f3 g3 h3] 26)).alloc (.cells #[.slice a1 n1 c1, .slice (some ⟨w.heap.size, 0, none⟩) 1 1, .slice a3 n3 c3] 24)).drew.heap.size = w.heap.size + 1 + 1 := by simp
  have h := concat24_three (w.heap.size + 1) 0 (w.heap.size + 1 + 1) a1 (some ⟨w.heap.size, 0, none⟩) a3 n1 c1 1 1 n3 c3 x1 [.int .i64 j0, .bool j1, .slice f1 g1 h1, .slice f2 g2 h2, .slice f3 g3 h3] x3 _ (by rw [hz]; omega) (by rw [hz]; omega)
    (by rw [cell_of_row _ _ _ _ _ _ hh]; rfl) (by rw [cell_of_row _ _ _ _ _ _ hh]; rfl) (by rw [cell_of_row _ _ _ _ _ _ hh]; rfl)
    ((r1.below hbw hhi).mono (Nat.zero_le _) (by omega)) ⟨_, _, rfl, Nat.le_refl _, fun _ => ⟨w.heap.size, 0, rfl, Nat.zero_le _, by omega, fun j u hj => by rw [cell_of_row _ _ _ _ _ _ hm, Nat.zero_add]; rw [← Array.getElem?_toList]; exact hj⟩⟩ ((r3.below hbw hhi).mono (Nat.zero_le _) (by omega))
    l1 rfl l3 o1 (by simp [Value.oneCell']) o3 hmax
  rw [hz] at h
  exact h.mono (fun e w' ⟨a, c, h1, h2, h3⟩ => ⟨a, c, h1, h2, hbw.trans (h3.mono (by omega))⟩)
end Go.Proofs.YthfjofmfiklegabDoor
/- laid, in the code. -/
namespace Go.Proofs.YthfjofmfiklegabDoor
open Go.RowKit
attribute [local go_sem ↓] slice_sl23 slice_sl24
def zeroT : List Value := [.int .i64 0, .bool false, .slice none 0 0, .slice none 0 0, .slice none 0 0]
/-- What laid answers. -/
def LaidA (m B : Nat) (r : Except Nat Tr) (e : Ending) (w' : World) : Prop := match r with
  | .error n => e = .returned (.tuple #[.agg zeroT.toArray, .int .i64 (n : Int)])
  | .ok T => ∃ cs, e = .returned (.tuple #[.agg cs.toArray, .int .i64 0]) ∧ Lays m B w' T cs
set_option linter.unusedSimpArgs false
theorem one_strsL (ns : List ByteArray) (l : List Value) (h : ∀ u, u ∈ l → u ∈ ns.map Value.string) : ∀ u ∈ l, u.oneCell' = true := fun u hu => by
  obtain ⟨s, _, rfl⟩ := List.mem_map.1 (h u hu); rfl
theorem ones_flat {lo hi : Nat} {w : World} {ks : List Tr} {Ks : List (List Value)} (hl : Ks.length = ks.length) (hK : ∀ (i : Nat) (t : Tr) (c : List Value), ks[i]? = some t → Ks[i]? = some c → Lies lo hi w t c) : ∀ u ∈ Ks.flatten, u.oneCell' = true := fun u hu => by
  obtain ⟨c, hc, huc⟩ := List.mem_flatten.1 hu
  obtain ⟨i, hi, rfl⟩ := List.getElem_of_mem hc
  obtain ⟨_, _, _, _, _, _, _, _, _, _, _, e⟩ := (hK i ks[i] Ks[i] (List.getElem?_eq_getElem (by omega)) (List.getElem?_eq_getElem hi)).form
  rw [e] at huc
  simp at huc
  rcases huc with h | h | h | h | h <;> subst h <;> rfl
theorem laidS_err {l : List ByteArray} : ∀ {T X : Tr} {deep n : Nat}, laidS T l X deep = .error n → n ≠ 0 := by
  induction l with
  | nil => intro T X deep n h; cases T; rw [laidS] at h; split at h <;> cases h; decide
  | cons a r ih =>
    intro T X deep n h
    cases T with
    | mk k x d ns ks =>
    rw [laidS] at h
    split at h
    · cases h; decide
    split at h
    · cases hq : laidS (kidAt ns ks a) r X (deep + 1) with
      | error e => rw [hq] at h; cases h; exact ih hq
      | ok t => rw [hq] at h; cases h
    · cases h; decide
set_option maxRecDepth 20000 in
set_option maxHeartbeats 2000000 in
theorem laid_any (m : Nat) (l : List ByteArray) : ∀ (T X : Tr) (lo hi lo' hi' deep : Nat) (cs cx : List Value) (w : World), Lies lo hi w T cs → Lies lo' hi' w X cx → hi ≤ m → hi' ≤ m → m ≤ w.heap.size → Nice T → wt T ≤ 100000 → (∀ n ∈ l, entB n = true) → (joinB l).size ≤ 1000000 → deep ≤ 65 →
    Calls Tryd.prog 12 #[.agg cs.toArray, .string (joinB l), .agg cx.toArray, .int .i64 (deep : Int)] w fun e w' => Below w.heap.size w w' ∧ LaidA m w.heap.size (laidS T l X deep) e w' := by
  induction l with
  | nil =>
    intro T X lo hi lo' hi' deep cs cx w hL hX hhm hhm' hmw hN hW hent hsz hdp
    obtain ⟨kt, xt, at0, nt, ct, bt, mt, dt, et, pt, qt, rfl⟩ := hL.form
    obtain ⟨kx, xx, ax, nx, cxx, bx, mx, dx, ex, px, qx, rfl⟩ := hX.form
    have e0 : joinB [] = ⟨#[]⟩ := rfl
    rw [e0]
    have HX := hide hX
    clear e0 hL hX hN hW hent hsz
    by_cases hdeep : 64 < deep
    · have HS : Hid (laidS T [] X deep = .error 5) := by show laidS _ _ _ _ = _; cases T; rw [laidS, if_pos hdeep]
      go_enter Tryd.func12, Tryd.ntmps12
      go_wp2_with fail
      rw [unhide HS]
      refine bodyPost_ret (v := .tuple #[.agg zeroT.toArray, .int .i64 5]) (by simp [results, Tryd.results12, go_sem, zeroT]) rfl ⟨?_, rfl⟩
      exact (((Below.refl _ _).alloc (Nat.le_refl _) _).alloc (by simp) _).alloc (by simp; omega) _
    · have HS : Hid (laidS T [] X deep = .ok X) := by show laidS _ _ _ _ = _; cases T; rw [laidS, if_neg hdeep]
      have hd1 : ¬ (64 : Int) < (deep : Int) := by omega
      go_enter Tryd.func12, Tryd.ntmps12
      go_wp2_with fail
      rw [unhide HS]
      refine bodyPost_ret (v := .tuple #[.agg #[.int .i64 kx, .bool xx, .slice ax nx cxx, .slice bx mx dx, .slice ex px qx], .int .i64 0]) (by simp [results, Tryd.results12, go_sem]) rfl ⟨?_, ?_⟩
      · exact (((Below.refl _ _).alloc (Nat.le_refl _) _).alloc (by simp) _).alloc (by simp; omega) _
      · refine ⟨[.int .i64 kx, .bool xx, .slice ax nx cxx, .slice bx mx dx, .slice ex px qx], rfl, ?_⟩
        refine lays_of ((unhide HX).kept (B := w.heap.size) ((((Below.refl _ _).alloc (Nat.le_refl _) _).alloc (by simp) _).alloc (by simp; omega) _) (by omega)) hhm' ?_
        simp; omega
  | cons nm r ih =>
    intro T X lo hi lo' hi' deep cs cx w hL hX hhm hhm' hmw hN hW hent hsz hdp
    have hhi : hi ≤ w.heap.size := by omega
    have hhi' : hi' ≤ w.heap.size := by omega
    obtain ⟨kx, xx, ax, nx, cxx, bx, mx, dx, ex, px, qx, rfl⟩ := hX.form
    have hSm : ∃ k x d ns ks, T = .mk k x d ns ks := by cases T; exact ⟨_, _, _, _, _, rfl⟩
    obtain ⟨k, x, d, ns, ks, rfl⟩ := hSm
    have hSm := small_of hW
    obtain ⟨hri, hln, hnk⟩ : Rise ns ∧ ns.length = ks.length ∧ ∀ t ∈ ks, Nice t := by cases hN with | mk _ _ _ _ _ h1 h2 h3 => exact ⟨h1, h2, h3⟩
    cases hL with
    | mk _ _ _ _ _ vd vn vk Ks hl hd hn hk hK =>
    obtain ⟨ad, cd, rfl, hcd⟩ := hd.slice
    obtain ⟨an, cn, rfl, hcn⟩ := hn.slice
    obtain ⟨ak, ck, rfl, hck⟩ := hk.slice
    have hpl : ((joinB (nm :: r)).toList == []) = false := by
      rw [beq_eq_false_iff_ne, ByteArray.toList_eq]
      intro h
      have h1 := entB_pos (hent nm (by simp))
      have h2 := join_mem (parts := nm :: r) (x := nm) (by simp)
      have h3 : (joinB (nm :: r)).data.toList.length = 0 := by rw [h]; rfl
      have h4 : (joinB (nm :: r)).size = (joinB (nm :: r)).data.toList.length := by simp
      omega
    by_cases hdeep : 64 < deep
    · have HS : Hid (laidS (.mk k x d ns ks) (nm :: r) X deep = .error 5) := by show laidS _ _ _ _ = _; rw [laidS, if_pos hdeep]
      go_enter Tryd.func12, Tryd.ntmps12
      go_wp2_with fail
      rw [unhide HS]
      refine bodyPost_ret (v := .tuple #[.agg zeroT.toArray, .int .i64 5]) (by simp [results, Tryd.results12, go_sem, zeroT]) rfl ⟨?_, rfl⟩
      exact (((Below.refl _ _).alloc (Nat.le_refl _) _).alloc (by simp) _).alloc (by simp; omega) _
    by_cases hk2 : k = 2
    case neg =>
      have HS : Hid (laidS (.mk k x d ns ks) (nm :: r) X deep = .error 8) := by show laidS _ _ _ _ = _; rw [laidS, if_neg hdeep, if_neg hk2]
      have e2 : (k == 2) = false := by simpa using hk2
      clear hk2
      go_enter Tryd.func12, Tryd.ntmps12
      go_wp2_with fail
      rw [unhide HS]
      refine bodyPost_ret (v := .tuple #[.agg zeroT.toArray, .int .i64 8]) (by simp [results, Tryd.results12, go_sem, zeroT]) rfl ⟨?_, rfl⟩
      exact (((Below.refl _ _).alloc (Nat.le_refl _) _).alloc (by simp) _).alloc (by simp; omega) _
    subst hk2
    have HS : Hid (laidS (.mk 2 x d ns ks) (nm :: r) X deep = (match laidS (kidAt ns ks nm) r X (deep + 1) with
      | .error e => .error e
      | .ok t => .ok (.mk 2 false ⟨#[]⟩ (ns.take (pos ns nm) ++ [nm] ++ ns.drop (nextAt ns nm)) (ks.take (pos ns nm) ++ [t] ++ ks.drop (nextAt ns nm))))) := by show laidS _ _ _ _ = _; rw [laidS, if_neg hdeep, if_pos rfl]; cases laidS (kidAt ns ks nm) r X (deep + 1) <;> rfl
    obtain ⟨wA, hwA⟩ : ∃ wA, wA = ((w.alloc (.cells #[.int .i64 2, .bool x, .slice ad d.size cd, .slice an ns.length cn, .slice ak ks.length ck] 26)).alloc (.cells #[.int .i64 kx, .bool xx, .slice ax nx cxx, .slice bx mx dx, .slice ex px qx] 26)).alloc (.cells #[.int .i64 0, .bool false, .slice none 0 0, .slice none 0 0, .slice none 0 0] 26) := ⟨_, rfl⟩
    have hsA : wA.heap.size = w.heap.size + 1 + 1 + 1 := by rw [hwA]; simp
    have hbA : Below w.heap.size w wA := by rw [hwA]; exact (((Below.refl _ _).alloc (Nat.le_refl _) _).alloc (by simp) _).alloc (by simp; omega) _
    have hbt : Bx wA w.heap.size (.int .i64 2) (.bool x) (.slice ad d.size cd) (.slice an ns.length cn) (.slice ak ks.length ck) := by
      rw [hwA]
      exact (bx_new w _ _ _ _ _).kept (((Below.refl (w.heap.size + 1) _).alloc (by simp) _).alloc (by simp) _) (by omega)
    have hbx : Bx wA (w.heap.size + 1) (.int .i64 kx) (.bool xx) (.slice ax nx cxx) (.slice bx mx dx) (.slice ex px qx) := by
      rw [hwA]
      have := (bx_new (w.alloc (.cells #[.int .i64 2, .bool x, .slice ad d.size cd, .slice an ns.length cn, .slice ak ks.length ck] 26)) (.int .i64 kx) (.bool xx) (.slice ax nx cxx) (.slice bx mx dx) (.slice ex px qx)).kept ((Below.refl (w.heap.size + 1 + 1) _).alloc (by simp) (.cells #[.int .i64 0, .bool false, .slice none 0 0, .slice none 0 0, .slice none 0 0] 26)) (by simp)
      simpa using this
    have hbr : Bx wA (w.heap.size + 1 + 1) (.int .i64 0) (.bool false) (.slice none 0 0) (.slice none 0 0) (.slice none 0 0) := by
      rw [hwA]
      have := bx_new ((w.alloc (.cells #[.int .i64 2, .bool x, .slice ad d.size cd, .slice an ns.length cn, .slice ak ks.length ck] 26)).alloc (.cells #[.int .i64 kx, .bool xx, .slice ax nx cxx, .slice bx mx dx, .slice ex px qx] 26)) (.int .i64 0) (.bool false) (.slice none 0 0) (.slice none 0 0) (.slice none 0 0)
      simpa using this
    have hd1 : ¬ (64 : Int) < (deep : Int) := by omega
    have HCut := hide (fun w => cut_any nm r w (entB_no (hent nm (by simp))) hsz)
    have HSe := hide (fun w (h : Row lo hi w (.slice an ns.length cn) ns.length (ns.map .string)) => search_any lo hi an cn ns nm w h hri (by have := hSm.n; omega))
    have hsz' : (joinB r).size ≤ 1000000 := by
      cases r with
      | nil => exact Nat.zero_le _
      | cons m r' => rw [join_size] at hsz; omega
    have HI := hide (fun (T : Tr) (cs : List Value) (w : World) (h1 : Lies lo hi w T cs) (h2 : Lies lo' hi' w X [.int .i64 kx, .bool xx, .slice ax nx cxx, .slice bx mx dx, .slice ex px qx]) (h3 : m ≤ w.heap.size) (h5 : Nice T) (h6 : wt T ≤ 100000) => ih T X lo hi lo' hi' (deep + 1) cs _ w h1 h2 hhm hhm' h3 h5 h6 (fun n hn => hent n (by simp [hn])) hsz' (by omega))
    have HT := hide (And.intro hX (And.intro hn (And.intro hk (And.intro hl (And.intro hK (And.intro hSm (And.intro hln hnk)))))))
    have HA := hide (And.intro hsA (And.intro hbA (And.intro hbt (And.intro hbx hbr))))
    have HwA := hide hwA
    have Hj := hide (And.intro hsz hent)
    clear hX hn hk hl hK hSm hsA hbA hbt hbx hbr hwA hd hN hW hsz hent hri hnk ih hsz' hdp hln
    generalize joinB (nm :: r) = pl at *
    generalize joinB r = pr at *
    go_enter Tryd.func12, Tryd.ntmps12
    go_wp2_with fail
    rw [← unhide HwA]
    refine (unhide HCut wA).mono ?_
    rintro e w1 ⟨⟨q, rfl⟩, b, rfl⟩
    clear HCut
    obtain ⟨c0, c1, c2, c3, c4⟩ := (unhide HA).2.2.1.cells
    go_wp2_with fail
    refine (unhide HSe _ (((unhide HT).2.1.below (unhide HA).2.1 hhi).below (below_drewN (Below.refl wA.heap.size wA) q) (by have := (unhide HA).1; omega))).mono ?_
    rintro e w1 ⟨hw1, hF⟩
    rw [hw1]
    obtain ⟨rfl, hple⟩ := found_pos hF
    clear hw1 w1 hF HSe
    have hsA := (unhide HA).1
    have hlA : w.heap.size < wA.heap.size := by omega
    have hlA1 : w.heap.size + 1 < wA.heap.size := by omega
    have hlA2 : w.heap.size + 1 + 1 < wA.heap.size := by omega
    obtain ⟨y0, y1, y2, y3, y4⟩ := (unhide HA).2.2.2.1.cells
    have hslv : ks.length = ns.length := (unhide HT).2.2.2.2.2.2.1.symm
    have HLen := hide hslv
    clear hslv
    cases hh : has ns nm
    case false =>
      have HKl : Hid (Lies lo hi ((wA.drewN q).alloc (.cells #[.int .i64 2, .bool false, .slice none 0 0, .slice none 0 0, .slice none 0 0] 26)) (kidAt ns ks nm) [.int .i64 2, .bool false, .slice none 0 0, .slice none 0 0, .slice none 0 0]) := by
        show Lies _ _ _ _ _
        rw [kidAt_no hh]
        exact empty_lies _ _ _
      have HNx := hide (nextAt_no hh)
      go_wp2_with fail
      have HI2 := hide (unhide HI (kidAt ns ks nm) [.int .i64 2, .bool false, .slice none 0 0, .slice none 0 0, .slice none 0 0] ((wA.drewN q).alloc (.cells #[.int .i64 2, .bool false, .slice none 0 0, .slice none 0 0, .slice none 0 0] 26)) (unhide HKl) (((unhide HT).1.kept (unhide HA).2.1 hhi').kept (((below_drewN (Below.refl wA.heap.size wA) q)).alloc (Nat.le_refl _) _) (by omega)) (by simp; omega) (kidAt_nice (unhide HT).2.2.2.2.2.2.2) (kidAt_wt (unhide HT).2.2.2.2.2.1.t))
      obtain ⟨wK, hwK⟩ : ∃ wK, wK = (wA.drewN q).alloc (.cells #[.int .i64 2, .bool false, .slice none 0 0, .slice none 0 0, .slice none 0 0] 26) := ⟨_, rfl⟩
      have hbK : Below wA.heap.size wA wK := by rw [hwK]; exact ((below_drewN (Below.refl wA.heap.size wA) q)).alloc (Nat.le_refl _) _
      have hsK : wK.heap.size = wA.heap.size + 1 := by rw [hwK]; simp
      have hkK : Bx wK (w.heap.size + 1 + 1 + 1) (.int .i64 2) (.bool false) (.slice none 0 0) (.slice none 0 0) (.slice none 0 0) := by
        rw [hwK]
        have := bx_new (wA.drewN q) (.int .i64 2) (.bool false) (.slice none 0 0) (.slice none 0 0) (.slice none 0 0)
        rw [World.heap_drewN, hsA] at this
        exact this
      rw [← hwK] at HI2 ⊢
      clear hwK HKl HI
      refine (unhide HI2).mono ?_
      rintro e w4 ⟨hb4, hans⟩
      clear HI2
      have hs4 := hb4.size
      have hw4 : Below w.heap.size w w4 := ((unhide HA).2.1.trans (hbK.mono (by omega))).trans (hb4.mono (by omega))
      have hr4 := (((unhide HA).2.2.2.2.kept hbK (by omega)).kept hb4 (by omega))
      have hk4 := hkK.kept hb4 (by omega)
      have ht4 := (((unhide HA).2.2.1.kept hbK (by omega)).kept hb4 (by omega))
      cases hlr : laidS (kidAt ns ks nm) r X (deep + 1) with
      | error en =>
        rw [hlr] at hans HS
        have he : e = .returned (.tuple #[.agg zeroT.toArray, .int .i64 (en : Int)]) := hans
        subst he
        have hen : ((en : Int) == 0) = false := by
          rw [beq_eq_false_iff_ne]; have := laidS_err hlr; omega
        obtain ⟨z0, z1, z2, z3, z4⟩ := hk4.cells
        have zf0 := hk4.fr 0
        have zf1 := hk4.fr 1
        have zf2 := hk4.fr 2
        have zf3 := hk4.fr 3
        have zf4 := hk4.fr 4
        obtain ⟨r0, r1, r2, r3, r4⟩ := hr4.cells
        have rf0 := hr4.fr 0
        have rf1 := hr4.fr 1
        have rf2 := hr4.fr 2
        have rf3 := hr4.fr 3
        have rf4 := hr4.fr 4
        have HB4 := hide hw4
        clear hw4 hr4 hk4 ht4 hb4 hbK hans hlr hkK
        unfold zeroT
        go_wp2_with fail
        rw [unhide HS]
        refine bodyPost_ret (v := .tuple #[.agg zeroT.toArray, .int .i64 (en : Int)]) (by simp [results, Tryd.results12, go_sem, zeroT, r0, r1, r2, r3, r4]) rfl ⟨?_, rfl⟩
        exact below_set5 (below_set5 (unhide HB4) (by omega) _ _ _ _ _) (by omega) _ _ _ _ _
      | ok T' =>
        rw [hlr] at hans HS
        obtain ⟨cs', rfl, hL'⟩ : ∃ cs : List Value, e = .returned (.tuple #[.agg cs.toArray, .int .i64 0]) ∧ Lays m wK.heap.size w4 T' cs := hans
        obtain ⟨j0, j1, f1, g1, h1, f2, g2, h2, f3, g3, h3, rfl⟩ := hL'.lies.form
        obtain ⟨z0, z1, z2, z3, z4⟩ := hk4.cells
        have zf0 := hk4.fr 0
        have zf1 := hk4.fr 1
        have zf2 := hk4.fr 2
        have zf3 := hk4.fr 3
        have zf4 := hk4.fr 4
        have HL' := hide hL'
        have HB4 := hide (And.intro hw4 (And.intro hr4 (And.intro ht4 (And.intro hs4 hk4))))
        clear hw4 hr4 ht4 hb4 hbK hlr hL' hkK hk4
        go_wp2_with fail
        rw [set5_eq]
        obtain ⟨wS, hwS⟩ : ∃ wS, wS = set5 w4 (w.heap.size + 1 + 1 + 1) (.int .i64 j0) (.bool j1) (.slice f1 g1 h1) (.slice f2 g2 h2) (.slice f3 g3 h3) := ⟨_, rfl⟩
        have hsS : wS.heap.size = w4.heap.size := by rw [hwS]; simp
        have htS := (unhide HB4).2.2.1.of (show wS.heap[w.heap.size]? = w4.heap[w.heap.size]? by rw [hwS]; exact set5_other _ _ _ _ _ _ _ _ (by omega))
        have hkS : Bx wS (w.heap.size + 1 + 1 + 1) (.int .i64 j0) (.bool j1) (.slice f1 g1 h1) (.slice f2 g2 h2) (.slice f3 g3 h3) := by rw [hwS]; exact (unhide HB4).2.2.2.2.set5 _ _ _ _ _
        have hrS := (unhide HB4).2.1.of (show wS.heap[w.heap.size + 1 + 1]? = w4.heap[w.heap.size + 1 + 1]? by rw [hwS]; exact set5_other _ _ _ _ _ _ _ _ (by omega))
        have HBS : Hid (Below w.heap.size w wS ∧ ∀ k, k < w4.heap.size → k < m ∨ w.heap.size + 1 + 1 + 1 + 1 ≤ k → wS.heap[k]? = w4.heap[k]?) := by
          refine ⟨by rw [hwS]; exact below_set5 (unhide HB4).1 (by omega) _ _ _ _ _, fun k h1 h2 => ?_⟩
          rw [hwS]; exact set5_other _ _ _ _ _ _ _ _ (by omega)
        rw [← hwS]
        have HwS := hide hwS
        clear hwS z0 z1 z2 z3 z4 zf0 zf1 zf2 zf3 zf4
        obtain ⟨t0, t1, t2, t3, t4⟩ := htS.cells
        obtain ⟨a1, hcut1, hrow1⟩ := cut_hi23 lo hi an ns.length cn (pos ns nm) hcn hple
        obtain ⟨a2, hcut2, hrow2⟩ := cut_lo23 lo hi an ns.length cn (pos ns nm) hcn (by omega)
        obtain ⟨b1, hcut3, hrow3⟩ := cut_hi24 lo hi ak ks.length ck (pos ns nm) hck (by have := unhide HLen; omega)
        obtain ⟨b2, hcut4, hrow4⟩ := cut_lo24 lo hi ak ks.length ck (pos ns nm) hck (by have := unhide HLen; omega)
        have HR1 := hide (And.intro hrow1 (And.intro hrow2 (And.intro hrow3 hrow4)))
        clear hrow1 hrow2 hrow3 hrow4
        have hlS : w.heap.size < wS.heap.size := by omega
        refine wp_region_noPanic ?_
        refine wp_region_held_drew (S := fun w' => w'.cell? ⟨w.heap.size, 3, none⟩ = some (.slice an ns.length cn)) (by kernel_rfl) t3 (fun hHeld => ?_)
        refine wpAnyH_take (i := 0) (v := .pointer (some ⟨w.heap.size, 3, none⟩)) rfl (by kernel_rfl) (by kernel_rfl) (by kernel_rfl) (fun _ _ _ h => h) (Or.inl ⟨by rfl, ?_⟩) hHeld ?_
        · intro w' hS'; go_simp
        try simp only [Act.put, List.getElem_toArray, List.getElem_cons_zero, List.getElem_cons_succ, List.setIfInBounds_toArray, List.set_cons_zero, List.set_cons_succ]
        refine wpAnyH_take (i := 1) (v := .slice an ns.length cn) rfl (by kernel_rfl) (by kernel_rfl) (by kernel_rfl) (fun _ _ _ h => h) (Or.inl ⟨by rfl, ?_⟩) hHeld ?_
        · intro w' hS'; go_simp
        try simp only [Act.put, List.getElem_toArray, List.getElem_cons_zero, List.getElem_cons_succ, List.setIfInBounds_toArray, List.set_cons_zero, List.set_cons_succ]
        refine wpAnyH_take (i := 2) (v := .int .i64 (pos ns nm : Int)) rfl (by kernel_rfl) (by kernel_rfl) (by kernel_rfl) (fun _ _ _ h => h) (Or.inl ⟨by rfl, ?_⟩) hHeld ?_
        · intro w' hS'; go_simp
        try simp only [Act.put, List.getElem_toArray, List.getElem_cons_zero, List.getElem_cons_succ, List.setIfInBounds_toArray, List.set_cons_zero, List.set_cons_succ]
        refine wpAnyH_take (i := 3) (v := .slice a1 (pos ns nm) cn) rfl (by kernel_rfl) (by kernel_rfl) (by kernel_rfl) (fun _ _ _ h => h) (Or.inl ⟨by rfl, ?_⟩) hHeld ?_
        · intro w' hS'; go_simp
        try simp only [Act.put, List.getElem_toArray, List.getElem_cons_zero, List.getElem_cons_succ, List.setIfInBounds_toArray, List.set_cons_zero, List.set_cons_succ]
        refine wpAnyH_take (i := 4) (v := .string nm) rfl (by kernel_rfl) (by kernel_rfl) (by kernel_rfl) (fun _ _ _ h => h) (Or.inl ⟨by rfl, ?_⟩) hHeld ?_
        · intro w' hS'; go_simp
        try simp only [Act.put, List.getElem_toArray, List.getElem_cons_zero, List.getElem_cons_succ, List.setIfInBounds_toArray, List.set_cons_zero, List.set_cons_succ]
        refine wpAnyH_take (i := 6) (v := .pointer (some ⟨w.heap.size, 3, none⟩)) rfl (by kernel_rfl) (by kernel_rfl) (by kernel_rfl) (fun _ _ _ h => h) (Or.inl ⟨by rfl, ?_⟩) hHeld ?_
        · intro w' hS'; go_simp
        try simp only [Act.put, List.getElem_toArray, List.getElem_cons_zero, List.getElem_cons_succ, List.setIfInBounds_toArray, List.set_cons_zero, List.set_cons_succ]
        refine wpAnyH_take (i := 7) (v := .slice an ns.length cn) rfl (by kernel_rfl) (by kernel_rfl) (by kernel_rfl) (fun _ _ _ h => h) (Or.inl ⟨by rfl, ?_⟩) hHeld ?_
        · intro w' hS'; go_simp
        try simp only [Act.put, List.getElem_toArray, List.getElem_cons_zero, List.getElem_cons_succ, List.setIfInBounds_toArray, List.set_cons_zero, List.set_cons_succ]
        refine wpAnyH_take (i := 8) (v := .int .i64 ((pos ns nm : Int))) rfl (by kernel_rfl) (by kernel_rfl) (by kernel_rfl) (fun _ _ _ h => h) (Or.inl ⟨by rfl, ?_⟩) hHeld ?_
        · intro w' hS'; go_simp
        try simp only [Act.put, List.getElem_toArray, List.getElem_cons_zero, List.getElem_cons_succ, List.setIfInBounds_toArray, List.set_cons_zero, List.set_cons_succ]
        refine wpAnyH_take (i := 9) (v := .slice a2 (ns.length - (pos ns nm)) (cn - (pos ns nm))) rfl (by kernel_rfl) (by kernel_rfl) (by kernel_rfl) (fun _ _ _ h => h) (Or.inl ⟨by rfl, ?_⟩) hHeld ?_
        · intro w' hS'; go_simp
        try simp only [Act.put, List.getElem_toArray, List.getElem_cons_zero, List.getElem_cons_succ, List.setIfInBounds_toArray, List.set_cons_zero, List.set_cons_succ]
        refine wpAnyH_ready (rs := [5]) (by kernel_rfl) (by simp) (AllReadyH.cons rfl (fun K hK => ?_) AllReadyH.nil)
        simp only [List.getElem_toArray, List.getElem_cons_zero, List.getElem_cons_succ]
        go_simp
        refine hK.out _ _ ?_ (fun hHeld => ?_)
        · exact (((Below.refl wS.heap.size wS).alloc (Nat.le_refl _) _).drew.cell (p := ⟨w.heap.size, 3, none⟩) hlS).trans t3
        clear hK K
        try simp only [Act.put, List.getElem_toArray, List.getElem_cons_zero, List.getElem_cons_succ, List.setIfInBounds_toArray, List.set_cons_zero, List.set_cons_succ]
        refine wpAnyH_ready (rs := [10]) (by kernel_rfl) (by simp) (AllReadyH.cons rfl (fun K hK => ?_) AllReadyH.nil)
        simp only [List.getElem_toArray, List.getElem_cons_zero, List.getElem_cons_succ]
        go_simp
        refine hK.out _ _ ?_ (fun hHeld => ?_)
        · exact (((((Below.refl wS.heap.size wS).alloc (Nat.le_refl _) _).drew.alloc (by simp) _).drew).cell (p := ⟨w.heap.size, 3, none⟩) hlS).trans t3
        clear hK K
        try simp only [Act.put, List.getElem_toArray, List.getElem_cons_zero, List.getElem_cons_succ, List.setIfInBounds_toArray, List.set_cons_zero, List.set_cons_succ]
        refine wpAnyH_ready (rs := [11]) (by kernel_rfl) (by simp) (AllReadyH.cons rfl (fun K hK => ?_) AllReadyH.nil)
        simp only [List.getElem_toArray, List.getElem_cons_zero, List.getElem_cons_succ]
        go_simp
        have hRn : Row lo hi wS (.slice an ns.length cn) ns.length (ns.map .string) := (unhide HT).2.1.below (unhide HBS).1 hhi
        refine (concat23_set lo hi w4.heap.size a1 a2 (pos ns nm) cn (ns.length - (pos ns nm)) (cn - (pos ns nm)) ((ns.map Value.string).take (pos ns nm)) ((ns.map Value.string).drop (pos ns nm)) nm wS hsS (by omega) ((unhide HR1).1 wS _ (by simp) hRn) ((unhide HR1).2.1 wS _ (by simp) hRn) (by simp; omega) (by simp) (one_strsL _ _ (fun u h => List.mem_of_mem_take h)) (one_strsL _ _ (fun u h => List.mem_of_mem_drop h)) (by have := (unhide HT).2.2.2.2.2.1.n; omega)).mono ?_
        rintro e w5 ⟨aN, cN, rfl, hoN, hb5⟩
        have hs5 := hb5.size
        have hlt5 : w.heap.size + 1 + 1 + 1 < w5.heap.size := by omega
        have ht5 := htS.kept hb5 (by omega)
        have hk5 := hkS.kept hb5 (by omega)
        have hr5 := hrS.kept hb5 (by omega)
        refine hK.out _ _ ht5.cells.2.2.2.1 (fun hHeld => ?_)
        clear hK K
        try simp only [Act.put, List.getElem_toArray, List.getElem_cons_zero, List.getElem_cons_succ, List.setIfInBounds_toArray, List.set_cons_zero, List.set_cons_succ]
        refine wpAnyH_take (i := 12) (v := .slice aN (pos ns nm + 1 + (ns.length - (pos ns nm))) cN) rfl (by kernel_rfl) (by kernel_rfl) (by kernel_rfl) (fun _ _ _ h => h) (Or.inl ⟨by rfl, ?_⟩) hHeld ?_
        · intro w' hS'; go_simp
        try simp only [Act.put, List.getElem_toArray, List.getElem_cons_zero, List.getElem_cons_succ, List.setIfInBounds_toArray, List.set_cons_zero, List.set_cons_succ]
        refine wpAnyH_done (by kernel_rfl) ?_ _
        refine NoPanic.normal ?_
        clear hHeld
        have HN5 := hide (And.intro hoN hb5)
        clear hoN hb5 t0 t1 t2 t3 t4 hRn htS hkS hrS hcut1 hcut2
        go_wp2_with fail
        obtain ⟨t0, t1, t2, t3, t4⟩ := ht5.cells
        obtain ⟨k0, k1, k2, k3, k4⟩ := hk5.cells
        refine wp_region_noPanic ?_
        refine wp_region_held_drew (S := fun w' => Bx w' w.heap.size (.int .i64 2) (.bool x) (.slice ad d.size cd) (.slice an ns.length cn) (.slice ak ks.length ck) ∧ Bx w' (w.heap.size + 1 + 1 + 1) (.int .i64 j0) (.bool j1) (.slice f1 g1 h1) (.slice f2 g2 h2) (.slice f3 g3 h3)) (by kernel_rfl) ⟨ht5, hk5⟩ (fun hHeld => ?_)
        clear t0 t1 t2 t3 t4 k0 k1 k2 k3 k4
        refine wpAnyH_take (i := 0) (v := .pointer (some ⟨w.heap.size, 4, none⟩)) rfl (by kernel_rfl) (by kernel_rfl) (by kernel_rfl) (fun _ _ _ h => h) (Or.inl ⟨by rfl, ?_⟩) hHeld ?_
        · intro w' hS'; go_simp
        try simp only [Act.put, List.getElem_toArray, List.getElem_cons_zero, List.getElem_cons_succ, List.setIfInBounds_toArray, List.set_cons_zero, List.set_cons_succ]
        refine wpAnyH_take (i := 1) (v := .slice ak ks.length ck) rfl (by kernel_rfl) (by kernel_rfl) (by kernel_rfl) (fun _ _ _ h => h) (Or.inl ⟨by rfl, ?_⟩) hHeld ?_
        · intro w' hS'; obtain ⟨t0, t1, t2, t3, t4⟩ := hS'.1.cells; go_simp
        try simp only [Act.put, List.getElem_toArray, List.getElem_cons_zero, List.getElem_cons_succ, List.setIfInBounds_toArray, List.set_cons_zero, List.set_cons_succ]
        refine wpAnyH_take (i := 2) (v := .int .i64 (pos ns nm : Int)) rfl (by kernel_rfl) (by kernel_rfl) (by kernel_rfl) (fun _ _ _ h => h) (Or.inl ⟨by rfl, ?_⟩) hHeld ?_
        · intro w' hS'; go_simp
        try simp only [Act.put, List.getElem_toArray, List.getElem_cons_zero, List.getElem_cons_succ, List.setIfInBounds_toArray, List.set_cons_zero, List.set_cons_succ]
        refine wpAnyH_take (i := 3) (v := .slice b1 (pos ns nm) ck) rfl (by kernel_rfl) (by kernel_rfl) (by kernel_rfl) (fun _ _ _ h => h) (Or.inl ⟨by rfl, ?_⟩) hHeld ?_
        · intro w' hS'; go_simp
        try simp only [Act.put, List.getElem_toArray, List.getElem_cons_zero, List.getElem_cons_succ, List.setIfInBounds_toArray, List.set_cons_zero, List.set_cons_succ]
        refine wpAnyH_take (i := 4) (v := .agg #[.int .i64 j0, .bool j1, .slice f1 g1 h1, .slice f2 g2 h2, .slice f3 g3 h3]) rfl (by kernel_rfl) (by kernel_rfl) (by kernel_rfl) (fun _ _ _ h => h) (Or.inl ⟨by rfl, ?_⟩) hHeld ?_
        · intro w' hS'; obtain ⟨k0, k1, k2, k3, k4⟩ := hS'.2.cells; go_simp
        try simp only [Act.put, List.getElem_toArray, List.getElem_cons_zero, List.getElem_cons_succ, List.setIfInBounds_toArray, List.set_cons_zero, List.set_cons_succ]
        refine wpAnyH_take (i := 6) (v := .pointer (some ⟨w.heap.size, 4, none⟩)) rfl (by kernel_rfl) (by kernel_rfl) (by kernel_rfl) (fun _ _ _ h => h) (Or.inl ⟨by rfl, ?_⟩) hHeld ?_
        · intro w' hS'; go_simp
        try simp only [Act.put, List.getElem_toArray, List.getElem_cons_zero, List.getElem_cons_succ, List.setIfInBounds_toArray, List.set_cons_zero, List.set_cons_succ]
        refine wpAnyH_take (i := 7) (v := .slice ak ks.length ck) rfl (by kernel_rfl) (by kernel_rfl) (by kernel_rfl) (fun _ _ _ h => h) (Or.inl ⟨by rfl, ?_⟩) hHeld ?_
        · intro w' hS'; obtain ⟨t0, t1, t2, t3, t4⟩ := hS'.1.cells; go_simp
        try simp only [Act.put, List.getElem_toArray, List.getElem_cons_zero, List.getElem_cons_succ, List.setIfInBounds_toArray, List.set_cons_zero, List.set_cons_succ]
        refine wpAnyH_take (i := 8) (v := .int .i64 ((pos ns nm : Int))) rfl (by kernel_rfl) (by kernel_rfl) (by kernel_rfl) (fun _ _ _ h => h) (Or.inl ⟨by rfl, ?_⟩) hHeld ?_
        · intro w' hS'; go_simp
        try simp only [Act.put, List.getElem_toArray, List.getElem_cons_zero, List.getElem_cons_succ, List.setIfInBounds_toArray, List.set_cons_zero, List.set_cons_succ]
        refine wpAnyH_take (i := 9) (v := .slice b2 (ks.length - (pos ns nm)) (ck - (pos ns nm))) rfl (by kernel_rfl) (by kernel_rfl) (by kernel_rfl) (fun _ _ _ h => h) (Or.inl ⟨by rfl, ?_⟩) hHeld ?_
        · intro w' hS'; go_simp
        try simp only [Act.put, List.getElem_toArray, List.getElem_cons_zero, List.getElem_cons_succ, List.setIfInBounds_toArray, List.set_cons_zero, List.set_cons_succ]
        refine wpAnyH_ready (rs := [5]) (by kernel_rfl) (by simp) (AllReadyH.cons rfl (fun K hK => ?_) AllReadyH.nil)
        simp only [List.getElem_toArray, List.getElem_cons_zero, List.getElem_cons_succ]
        go_simp
        refine hK.out _ _ ?_ (fun hHeld => ?_)
        · exact ⟨ht5.kept ((Below.refl w5.heap.size w5).alloc (Nat.le_refl _) _).drew (by omega), hk5.kept ((Below.refl w5.heap.size w5).alloc (Nat.le_refl _) _).drew hlt5⟩
        clear hK K
        try simp only [Act.put, List.getElem_toArray, List.getElem_cons_zero, List.getElem_cons_succ, List.setIfInBounds_toArray, List.set_cons_zero, List.set_cons_succ]
        refine wpAnyH_ready (rs := [10]) (by kernel_rfl) (by simp) (AllReadyH.cons rfl (fun K hK => ?_) AllReadyH.nil)
        simp only [List.getElem_toArray, List.getElem_cons_zero, List.getElem_cons_succ]
        go_simp
        refine hK.out _ _ ?_ (fun hHeld => ?_)
        · exact ⟨ht5.kept ((((Below.refl w5.heap.size w5).alloc (Nat.le_refl _) _).alloc (by simp) _).drew) (by omega), hk5.kept ((((Below.refl w5.heap.size w5).alloc (Nat.le_refl _) _).alloc (by simp) _).drew) hlt5⟩
        clear hK K
        try simp only [Act.put, List.getElem_toArray, List.getElem_cons_zero, List.getElem_cons_succ, List.setIfInBounds_toArray, List.set_cons_zero, List.set_cons_succ]
        refine wpAnyH_ready (rs := [11]) (by kernel_rfl) (by simp) (AllReadyH.cons rfl (fun K hK => ?_) AllReadyH.nil)
        simp only [List.getElem_toArray, List.getElem_cons_zero, List.getElem_cons_succ]
        go_simp
        have hbw5 : Below w.heap.size w w5 := (unhide HBS).1.trans ((unhide HN5).2.mono (by omega))
        have hRk : Row lo hi w5 (.slice ak ks.length ck) ks.length Ks.flatten := (unhide HT).2.2.1.below hbw5 hhi
        have hK5 := Lies.all5 (unhide HT).2.2.2.1 (unhide HT).2.2.2.2.1
        have hfl : Ks.flatten.length = ks.length * 5 := by rw [flat5_length Ks hK5, (unhide HT).2.2.2.1]
        have hone : ∀ u ∈ Ks.flatten, u.oneCell' = true := ones_flat (unhide HT).2.2.2.1 (unhide HT).2.2.2.2.1
        have hlen := unhide HLen
        have hsm := (unhide HT).2.2.2.2.2.1.k
        refine (concat24_set lo hi w5.heap.size b1 b2 (pos ns nm) ck (ks.length - (pos ns nm)) (ck - (pos ns nm)) (Ks.flatten.take (pos ns nm * 5)) (Ks.flatten.drop ((pos ns nm) * 5)) j0 j1 f1 f2 f3 g1 h1 g2 h2 g3 h3 w5 rfl (by omega) ((unhide HR1).2.2.1 w5 _ hfl hRk) ((unhide HR1).2.2.2 w5 _ hfl hRk) (by rw [List.length_take, hfl]; omega) (by rw [List.length_drop, hfl]; omega) (fun u h => hone u (List.mem_of_mem_take h)) (fun u h => hone u (List.mem_of_mem_drop h)) (by omega)).mono ?_
        rintro e w6 ⟨aK, cK, rfl, hoK, hb6⟩
        have hs6 := hb6.size
        have hr6 := hr5.kept hb6 (by omega)
        refine hK.out _ _ ⟨ht5.kept hb6 (by omega), hk5.kept hb6 (by omega)⟩ (fun hHeld => ?_)
        clear hK K
        try simp only [Act.put, List.getElem_toArray, List.getElem_cons_zero, List.getElem_cons_succ, List.setIfInBounds_toArray, List.set_cons_zero, List.set_cons_succ]
        refine wpAnyH_take (i := 12) (v := .slice aK (pos ns nm + 1 + (ks.length - (pos ns nm))) cK) rfl (by kernel_rfl) (by kernel_rfl) (by kernel_rfl) (fun _ _ _ h => h) (Or.inl ⟨by rfl, ?_⟩) hHeld ?_
        · intro w' hS'; go_simp
        try simp only [Act.put, List.getElem_toArray, List.getElem_cons_zero, List.getElem_cons_succ, List.setIfInBounds_toArray, List.set_cons_zero, List.set_cons_succ]
        refine wpAnyH_done (by kernel_rfl) ?_ _
        refine NoPanic.normal ?_
        clear hHeld
        have HN6 := hide (And.intro hoK (And.intro hb6 (And.intro hbw5 (And.intro hK5 (And.intro hfl hlen)))))
        clear hoK hb6 hbw5 hK5 hfl hRk hone hlen hsm ht5 hk5 hr5 hcut3 hcut4
        obtain ⟨r0, r1, r2, r3, r4⟩ := hr6.cells
        have rf0 := hr6.fr 0
        have rf1 := hr6.fr 1
        have rf2 := hr6.fr 2
        have rf3 := hr6.fr 3
        have rf4 := hr6.fr 4
        go_wp2_with fail
        rw [unhide HNx] at HS
        rw [unhide HS]
        refine bodyPost_ret (v := .tuple #[.agg #[.int .i64 2, .bool false, .slice none 0 0, .slice aN (pos ns nm + 1 + (ns.length - (pos ns nm))) cN, .slice aK (pos ns nm + 1 + (ks.length - (pos ns nm))) cK], .int .i64 0]) (by simp [results, Tryd.results12, go_sem, r0, r1, r2, r3, r4]) rfl ⟨?_, ?_⟩
        · exact below_set5 ((unhide HN6).2.2.1.trans ((unhide HN6).2.1.mono (by omega))) (by omega) _ _ _ _ _
        refine ⟨[.int .i64 2, .bool false, .slice none 0 0, .slice aN (pos ns nm + 1 + (ns.length - (pos ns nm))) cN, .slice aK (pos ns nm + 1 + (ks.length - (pos ns nm))) cK], rfl, ?_⟩
        rw [set5_eq]
        obtain ⟨hoK, hb6, hbw5, hK5, hfl, hlen⟩ := unhide HN6
        obtain ⟨hoN, hb5⟩ := unhide HN5
        obtain ⟨hX, hn, hk, hl, hKK, hSm, hln, hnk⟩ := unhide HT
        refine laid_end (B' := wK.heap.size) (w4 := w4) hl hKK hhm hmw (Nat.le_refl _) (by omega) (below_set5 (hbw5.trans (hb6.mono (by omega))) (by omega) _ _ _ _ _) (unhide HL') (by rw [set5_size]; omega) (fun k hk1 hk2 => ?_) ?_ ?_
        · rw [set5_other _ _ _ _ _ _ _ _ (by omega), hb6.block k (by omega), hb5.block k (by omega), (unhide HBS).2 k hk1 (by omega)]
        · have e1 : (ns.take (pos ns nm) ++ [nm] ++ ns.drop (pos ns nm)).length = pos ns nm + 1 + (ns.length - (pos ns nm)) := by simp; omega
          have e2 : (ns.take (pos ns nm) ++ [nm] ++ ns.drop (pos ns nm)).map Value.string = (ns.map Value.string).take (pos ns nm) ++ [.string nm] ++ (ns.map Value.string).drop (pos ns nm) := by simp [List.map_take, List.map_drop]
          rw [e1, e2]
          have h0 : Row (w4.heap.size + 1 + 1) w5.heap.size w5 _ _ _ := owns_row hoN (fun g hg => owns_lt hoN g hg)
          exact ((h0.below hb6 (Nat.le_refl _)).same (fun k hk1 hk2 => set5_other _ _ _ _ _ _ _ _ (by omega))).mono (by omega) (by rw [set5_size]; omega)
        · have e1 : (ks.take (pos ns nm) ++ [T'] ++ ks.drop (pos ns nm)).length = pos ns nm + 1 + (ks.length - (pos ns nm)) := by simp; omega
          have e2 : (Ks.take (pos ns nm) ++ ([[.int .i64 j0, .bool j1, .slice f1 g1 h1, .slice f2 g2 h2, .slice f3 g3 h3]] : List (List Value)) ++ Ks.drop (pos ns nm)).flatten = Ks.flatten.take (pos ns nm * 5) ++ [.int .i64 j0, .bool j1, .slice f1 g1 h1, .slice f2 g2 h2, .slice f3 g3 h3] ++ Ks.flatten.drop ((pos ns nm) * 5) := by
            rw [flat5_take Ks hK5, flat5_drop Ks hK5]; simp
          rw [e1, e2]
          have h0 : Row (w5.heap.size + 1 + 1) w6.heap.size w6 _ _ _ := owns_row hoK (fun g hg => owns_lt hoK g hg)
          exact (h0.same (fun k hk1 hk2 => set5_other _ _ _ _ _ _ _ _ (by omega))).mono (by omega) (by rw [set5_size]; omega)
    case true =>
      have hlt := has_lt hh
      have hlk : pos ns nm < ks.length := by rw [unhide HLen]; exact hlt
      have hbA := (unhide HA).2.1
      obtain ⟨gk, ok, eak, hg1, hg2, hcell⟩ := (unhide HT).2.2.1.at (show 0 < ks.length by omega)
      obtain ⟨qk, qb, p1, p2, p3, p4, p5, p6, p7, p8, p9, hLk, u0, u1, u2, u3, u4⟩ := kid_sl (unhide HT).2.2.2.1 hcell (unhide HT).2.2.2.2.1 (pos ns nm) hlk
      clear hcell
      subst eak
      rw [← hbA.cell (p := ⟨gk, _, none⟩) (by show gk < _; omega)] at u0
      rw [← hbA.cell (p := ⟨gk, _, none⟩) (by show gk < _; omega)] at u1
      rw [← hbA.cell (p := ⟨gk, _, none⟩) (by show gk < _; omega)] at u2
      rw [← hbA.cell (p := ⟨gk, _, none⟩) (by show gk < _; omega)] at u3
      rw [← hbA.cell (p := ⟨gk, _, none⟩) (by show gk < _; omega)] at u4
      have HKl : Hid (Lies lo hi ((wA.drewN q).alloc (.cells #[.int .i64 qk, .bool qb, .slice p1 p2 p3, .slice p4 p5 p6, .slice p7 p8 p9] 26)) (kidAt ns ks nm) [.int .i64 qk, .bool qb, .slice p1 p2 p3, .slice p4 p5 p6, .slice p7 p8 p9]) := by
        show Lies _ _ _ _ _
        rw [kidAt_yes hh hlk]
        exact (hLk.kept hbA hhi).kept (((below_drewN (Below.refl wA.heap.size wA) q)).alloc (Nat.le_refl _) _) (by omega)
      have HNx := hide (nextAt_yes hh)
      have hgA : gk < wA.heap.size := by omega
      have hgB : gk < w.heap.size + 1 + 1 + 1 := by omega
      have hgC : gk ≠ w.heap.size + 1 + 1 + 1 := by omega
      have hpb : pos ns nm ≤ 1000000 := by have := (unhide HT).2.2.2.2.2.1.k; omega
      clear hLk hbA
      go_wp2_with fail
      clear u0 u1 u2 u3 u4
      have HI2 := hide (unhide HI (kidAt ns ks nm) [.int .i64 qk, .bool qb, .slice p1 p2 p3, .slice p4 p5 p6, .slice p7 p8 p9] ((wA.drewN q).alloc (.cells #[.int .i64 qk, .bool qb, .slice p1 p2 p3, .slice p4 p5 p6, .slice p7 p8 p9] 26)) (unhide HKl) (((unhide HT).1.kept (unhide HA).2.1 hhi').kept (((below_drewN (Below.refl wA.heap.size wA) q)).alloc (Nat.le_refl _) _) (by omega)) (by simp; omega) (kidAt_nice (unhide HT).2.2.2.2.2.2.2) (kidAt_wt (unhide HT).2.2.2.2.2.1.t))
      obtain ⟨wK, hwK⟩ : ∃ wK, wK = (wA.drewN q).alloc (.cells #[.int .i64 qk, .bool qb, .slice p1 p2 p3, .slice p4 p5 p6, .slice p7 p8 p9] 26) := ⟨_, rfl⟩
      have hbK : Below wA.heap.size wA wK := by rw [hwK]; exact ((below_drewN (Below.refl wA.heap.size wA) q)).alloc (Nat.le_refl _) _
      have hsK : wK.heap.size = wA.heap.size + 1 := by rw [hwK]; simp
      have hkK : Bx wK (w.heap.size + 1 + 1 + 1) (.int .i64 qk) (.bool qb) (.slice p1 p2 p3) (.slice p4 p5 p6) (.slice p7 p8 p9) := by
        rw [hwK]
        have := bx_new (wA.drewN q) (.int .i64 qk) (.bool qb) (.slice p1 p2 p3) (.slice p4 p5 p6) (.slice p7 p8 p9)
        rw [World.heap_drewN, hsA] at this
        exact this
      rw [← hwK] at HI2 ⊢
      clear hwK HKl HI
      refine (unhide HI2).mono ?_
      rintro e w4 ⟨hb4, hans⟩
      clear HI2
      have hs4 := hb4.size
      have hw4 : Below w.heap.size w w4 := ((unhide HA).2.1.trans (hbK.mono (by omega))).trans (hb4.mono (by omega))
      have hr4 := (((unhide HA).2.2.2.2.kept hbK (by omega)).kept hb4 (by omega))
      have hk4 := hkK.kept hb4 (by omega)
      have ht4 := (((unhide HA).2.2.1.kept hbK (by omega)).kept hb4 (by omega))
      cases hlr : laidS (kidAt ns ks nm) r X (deep + 1) with
      | error en =>
        rw [hlr] at hans HS
        have he : e = .returned (.tuple #[.agg zeroT.toArray, .int .i64 (en : Int)]) := hans
        subst he
        have hen : ((en : Int) == 0) = false := by
          rw [beq_eq_false_iff_ne]; have := laidS_err hlr; omega
        obtain ⟨z0, z1, z2, z3, z4⟩ := hk4.cells
        have zf0 := hk4.fr 0
        have zf1 := hk4.fr 1
        have zf2 := hk4.fr 2
        have zf3 := hk4.fr 3
        have zf4 := hk4.fr 4
        obtain ⟨r0, r1, r2, r3, r4⟩ := hr4.cells
        have rf0 := hr4.fr 0
        have rf1 := hr4.fr 1
        have rf2 := hr4.fr 2
        have rf3 := hr4.fr 3
        have rf4 := hr4.fr 4
        have HB4 := hide hw4
        clear hw4 hr4 hk4 ht4 hb4 hbK hans hlr hkK
        unfold zeroT
        go_wp2_with fail
        rw [unhide HS]
        refine bodyPost_ret (v := .tuple #[.agg zeroT.toArray, .int .i64 (en : Int)]) (by simp [results, Tryd.results12, go_sem, zeroT, r0, r1, r2, r3, r4]) rfl ⟨?_, rfl⟩
        exact below_set5 (below_set5 (unhide HB4) (by omega) _ _ _ _ _) (by omega) _ _ _ _ _
      | ok T' =>
        rw [hlr] at hans HS
        obtain ⟨cs', rfl, hL'⟩ : ∃ cs : List Value, e = .returned (.tuple #[.agg cs.toArray, .int .i64 0]) ∧ Lays m wK.heap.size w4 T' cs := hans
        obtain ⟨j0, j1, f1, g1, h1, f2, g2, h2, f3, g3, h3, rfl⟩ := hL'.lies.form
        obtain ⟨z0, z1, z2, z3, z4⟩ := hk4.cells
        have zf0 := hk4.fr 0
        have zf1 := hk4.fr 1
        have zf2 := hk4.fr 2
        have zf3 := hk4.fr 3
        have zf4 := hk4.fr 4
        have HL' := hide hL'
        have HB4 := hide (And.intro hw4 (And.intro hr4 (And.intro ht4 (And.intro hs4 hk4))))
        clear hw4 hr4 ht4 hb4 hbK hlr hL' hkK hk4
        go_wp2_with fail
        rw [set5_eq]
        obtain ⟨wS, hwS⟩ : ∃ wS, wS = set5 w4 (w.heap.size + 1 + 1 + 1) (.int .i64 j0) (.bool j1) (.slice f1 g1 h1) (.slice f2 g2 h2) (.slice f3 g3 h3) := ⟨_, rfl⟩
        have hsS : wS.heap.size = w4.heap.size := by rw [hwS]; simp
        have htS := (unhide HB4).2.2.1.of (show wS.heap[w.heap.size]? = w4.heap[w.heap.size]? by rw [hwS]; exact set5_other _ _ _ _ _ _ _ _ (by omega))
        have hkS : Bx wS (w.heap.size + 1 + 1 + 1) (.int .i64 j0) (.bool j1) (.slice f1 g1 h1) (.slice f2 g2 h2) (.slice f3 g3 h3) := by rw [hwS]; exact (unhide HB4).2.2.2.2.set5 _ _ _ _ _
        have hrS := (unhide HB4).2.1.of (show wS.heap[w.heap.size + 1 + 1]? = w4.heap[w.heap.size + 1 + 1]? by rw [hwS]; exact set5_other _ _ _ _ _ _ _ _ (by omega))
        have HBS : Hid (Below w.heap.size w wS ∧ ∀ k, k < w4.heap.size → k < m ∨ w.heap.size + 1 + 1 + 1 + 1 ≤ k → wS.heap[k]? = w4.heap[k]?) := by
          refine ⟨by rw [hwS]; exact below_set5 (unhide HB4).1 (by omega) _ _ _ _ _, fun k h1 h2 => ?_⟩
          rw [hwS]; exact set5_other _ _ _ _ _ _ _ _ (by omega)
        rw [← hwS]
        have HwS := hide hwS
        clear hwS z0 z1 z2 z3 z4 zf0 zf1 zf2 zf3 zf4
        obtain ⟨t0, t1, t2, t3, t4⟩ := htS.cells
        obtain ⟨a1, hcut1, hrow1⟩ := cut_hi23 lo hi an ns.length cn (pos ns nm) hcn hple
        obtain ⟨a2, hcut2, hrow2⟩ := cut_lo23 lo hi an ns.length cn (pos ns nm + 1) hcn (by omega)
        obtain ⟨b1, hcut3, hrow3⟩ := cut_hi24 lo hi (some ⟨gk, ok, none⟩) ks.length ck (pos ns nm) hck (by have := unhide HLen; omega)
        obtain ⟨b2, hcut4, hrow4⟩ := cut_lo24 lo hi (some ⟨gk, ok, none⟩) ks.length ck (pos ns nm + 1) hck (by have := unhide HLen; omega)
        have HR1 := hide (And.intro hrow1 (And.intro hrow2 (And.intro hrow3 hrow4)))
        clear hrow1 hrow2 hrow3 hrow4
        have hpush : ((pos ns nm + 1 : Nat) : Int) = (pos ns nm : Int) + 1 := by omega
        rw [hpush] at hcut2 hcut4
        clear hpush
        have hlS : w.heap.size < wS.heap.size := by omega
        refine wp_region_noPanic ?_
        refine wp_region_held_drew (S := fun w' => w'.cell? ⟨w.heap.size, 3, none⟩ = some (.slice an ns.length cn)) (by kernel_rfl) t3 (fun hHeld => ?_)
        refine wpAnyH_take (i := 0) (v := .pointer (some ⟨w.heap.size, 3, none⟩)) rfl (by kernel_rfl) (by kernel_rfl) (by kernel_rfl) (fun _ _ _ h => h) (Or.inl ⟨by rfl, ?_⟩) hHeld ?_
        · intro w' hS'; go_simp
        try simp only [Act.put, List.getElem_toArray, List.getElem_cons_zero, List.getElem_cons_succ, List.setIfInBounds_toArray, List.set_cons_zero, List.set_cons_succ]
        refine wpAnyH_take (i := 1) (v := .slice an ns.length cn) rfl (by kernel_rfl) (by kernel_rfl) (by kernel_rfl) (fun _ _ _ h => h) (Or.inl ⟨by rfl, ?_⟩) hHeld ?_
        · intro w' hS'; go_simp
        try simp only [Act.put, List.getElem_toArray, List.getElem_cons_zero, List.getElem_cons_succ, List.setIfInBounds_toArray, List.set_cons_zero, List.set_cons_succ]
        refine wpAnyH_take (i := 2) (v := .int .i64 (pos ns nm : Int)) rfl (by kernel_rfl) (by kernel_rfl) (by kernel_rfl) (fun _ _ _ h => h) (Or.inl ⟨by rfl, ?_⟩) hHeld ?_
        · intro w' hS'; go_simp
        try simp only [Act.put, List.getElem_toArray, List.getElem_cons_zero, List.getElem_cons_succ, List.setIfInBounds_toArray, List.set_cons_zero, List.set_cons_succ]
        refine wpAnyH_take (i := 3) (v := .slice a1 (pos ns nm) cn) rfl (by kernel_rfl) (by kernel_rfl) (by kernel_rfl) (fun _ _ _ h => h) (Or.inl ⟨by rfl, ?_⟩) hHeld ?_
        · intro w' hS'; go_simp
        try simp only [Act.put, List.getElem_toArray, List.getElem_cons_zero, List.getElem_cons_succ, List.setIfInBounds_toArray, List.set_cons_zero, List.set_cons_succ]
        refine wpAnyH_take (i := 4) (v := .string nm) rfl (by kernel_rfl) (by kernel_rfl) (by kernel_rfl) (fun _ _ _ h => h) (Or.inl ⟨by rfl, ?_⟩) hHeld ?_
        · intro w' hS'; go_simp
        try simp only [Act.put, List.getElem_toArray, List.getElem_cons_zero, List.getElem_cons_succ, List.setIfInBounds_toArray, List.set_cons_zero, List.set_cons_succ]
        refine wpAnyH_take (i := 6) (v := .pointer (some ⟨w.heap.size, 3, none⟩)) rfl (by kernel_rfl) (by kernel_rfl) (by kernel_rfl) (fun _ _ _ h => h) (Or.inl ⟨by rfl, ?_⟩) hHeld ?_
        · intro w' hS'; go_simp
        try simp only [Act.put, List.getElem_toArray, List.getElem_cons_zero, List.getElem_cons_succ, List.setIfInBounds_toArray, List.set_cons_zero, List.set_cons_succ]
        refine wpAnyH_take (i := 7) (v := .slice an ns.length cn) rfl (by kernel_rfl) (by kernel_rfl) (by kernel_rfl) (fun _ _ _ h => h) (Or.inl ⟨by rfl, ?_⟩) hHeld ?_
        · intro w' hS'; go_simp
        try simp only [Act.put, List.getElem_toArray, List.getElem_cons_zero, List.getElem_cons_succ, List.setIfInBounds_toArray, List.set_cons_zero, List.set_cons_succ]
        refine wpAnyH_take (i := 8) (v := .int .i64 ((pos ns nm : Int) + 1)) rfl (by kernel_rfl) (by kernel_rfl) (by kernel_rfl) (fun _ _ _ h => h) (Or.inl ⟨by rfl, ?_⟩) hHeld ?_
        · intro w' hS'; go_simp
        try simp only [Act.put, List.getElem_toArray, List.getElem_cons_zero, List.getElem_cons_succ, List.setIfInBounds_toArray, List.set_cons_zero, List.set_cons_succ]
        refine wpAnyH_take (i := 9) (v := .slice a2 (ns.length - (pos ns nm + 1)) (cn - (pos ns nm + 1))) rfl (by kernel_rfl) (by kernel_rfl) (by kernel_rfl) (fun _ _ _ h => h) (Or.inl ⟨by rfl, ?_⟩) hHeld ?_
        · intro w' hS'; go_simp
        try simp only [Act.put, List.getElem_toArray, List.getElem_cons_zero, List.getElem_cons_succ, List.setIfInBounds_toArray, List.set_cons_zero, List.set_cons_succ]
        refine wpAnyH_ready (rs := [5]) (by kernel_rfl) (by simp) (AllReadyH.cons rfl (fun K hK => ?_) AllReadyH.nil)
        simp only [List.getElem_toArray, List.getElem_cons_zero, List.getElem_cons_succ]
        go_simp
        refine hK.out _ _ ?_ (fun hHeld => ?_)
        · exact (((Below.refl wS.heap.size wS).alloc (Nat.le_refl _) _).drew.cell (p := ⟨w.heap.size, 3, none⟩) hlS).trans t3
        clear hK K
        try simp only [Act.put, List.getElem_toArray, List.getElem_cons_zero, List.getElem_cons_succ, List.setIfInBounds_toArray, List.set_cons_zero, List.set_cons_succ]
        refine wpAnyH_ready (rs := [10]) (by kernel_rfl) (by simp) (AllReadyH.cons rfl (fun K hK => ?_) AllReadyH.nil)
        simp only [List.getElem_toArray, List.getElem_cons_zero, List.getElem_cons_succ]
        go_simp
        refine hK.out _ _ ?_ (fun hHeld => ?_)
        · exact (((((Below.refl wS.heap.size wS).alloc (Nat.le_refl _) _).drew.alloc (by simp) _).drew).cell (p := ⟨w.heap.size, 3, none⟩) hlS).trans t3
        clear hK K
        try simp only [Act.put, List.getElem_toArray, List.getElem_cons_zero, List.getElem_cons_succ, List.setIfInBounds_toArray, List.set_cons_zero, List.set_cons_succ]
        refine wpAnyH_ready (rs := [11]) (by kernel_rfl) (by simp) (AllReadyH.cons rfl (fun K hK => ?_) AllReadyH.nil)
        simp only [List.getElem_toArray, List.getElem_cons_zero, List.getElem_cons_succ]
        go_simp
        have hRn : Row lo hi wS (.slice an ns.length cn) ns.length (ns.map .string) := (unhide HT).2.1.below (unhide HBS).1 hhi
        refine (concat23_set lo hi w4.heap.size a1 a2 (pos ns nm) cn (ns.length - (pos ns nm + 1)) (cn - (pos ns nm + 1)) ((ns.map Value.string).take (pos ns nm)) ((ns.map Value.string).drop (pos ns nm + 1)) nm wS hsS (by omega) ((unhide HR1).1 wS _ (by simp) hRn) ((unhide HR1).2.1 wS _ (by simp) hRn) (by simp; omega) (by simp) (one_strsL _ _ (fun u h => List.mem_of_mem_take h)) (one_strsL _ _ (fun u h => List.mem_of_mem_drop h)) (by have := (unhide HT).2.2.2.2.2.1.n; omega)).mono ?_
        rintro e w5 ⟨aN, cN, rfl, hoN, hb5⟩
        have hs5 := hb5.size
        have hlt5 : w.heap.size + 1 + 1 + 1 < w5.heap.size := by omega
        have ht5 := htS.kept hb5 (by omega)
        have hk5 := hkS.kept hb5 (by omega)
        have hr5 := hrS.kept hb5 (by omega)
        refine hK.out _ _ ht5.cells.2.2.2.1 (fun hHeld => ?_)
        clear hK K
        try simp only [Act.put, List.getElem_toArray, List.getElem_cons_zero, List.getElem_cons_succ, List.setIfInBounds_toArray, List.set_cons_zero, List.set_cons_succ]
        refine wpAnyH_take (i := 12) (v := .slice aN (pos ns nm + 1 + (ns.length - (pos ns nm + 1))) cN) rfl (by kernel_rfl) (by kernel_rfl) (by kernel_rfl) (fun _ _ _ h => h) (Or.inl ⟨by rfl, ?_⟩) hHeld ?_
        · intro w' hS'; go_simp
        try simp only [Act.put, List.getElem_toArray, List.getElem_cons_zero, List.getElem_cons_succ, List.setIfInBounds_toArray, List.set_cons_zero, List.set_cons_succ]
        refine wpAnyH_done (by kernel_rfl) ?_ _
        refine NoPanic.normal ?_
        clear hHeld
        have HN5 := hide (And.intro hoN hb5)
        clear hoN hb5 t0 t1 t2 t3 t4 hRn htS hkS hrS hcut1 hcut2
        go_wp2_with fail
        obtain ⟨t0, t1, t2, t3, t4⟩ := ht5.cells
        obtain ⟨k0, k1, k2, k3, k4⟩ := hk5.cells
        refine wp_region_noPanic ?_
        refine wp_region_held_drew (S := fun w' => Bx w' w.heap.size (.int .i64 2) (.bool x) (.slice ad d.size cd) (.slice an ns.length cn) (.slice (some ⟨gk, ok, none⟩) ks.length ck) ∧ Bx w' (w.heap.size + 1 + 1 + 1) (.int .i64 j0) (.bool j1) (.slice f1 g1 h1) (.slice f2 g2 h2) (.slice f3 g3 h3)) (by kernel_rfl) ⟨ht5, hk5⟩ (fun hHeld => ?_)
        clear t0 t1 t2 t3 t4 k0 k1 k2 k3 k4
        refine wpAnyH_take (i := 0) (v := .pointer (some ⟨w.heap.size, 4, none⟩)) rfl (by kernel_rfl) (by kernel_rfl) (by kernel_rfl) (fun _ _ _ h => h) (Or.inl ⟨by rfl, ?_⟩) hHeld ?_
        · intro w' hS'; go_simp
        try simp only [Act.put, List.getElem_toArray, List.getElem_cons_zero, List.getElem_cons_succ, List.setIfInBounds_toArray, List.set_cons_zero, List.set_cons_succ]
        refine wpAnyH_take (i := 1) (v := .slice (some ⟨gk, ok, none⟩) ks.length ck) rfl (by kernel_rfl) (by kernel_rfl) (by kernel_rfl) (fun _ _ _ h => h) (Or.inl ⟨by rfl, ?_⟩) hHeld ?_
        · intro w' hS'; obtain ⟨t0, t1, t2, t3, t4⟩ := hS'.1.cells; go_simp
        try simp only [Act.put, List.getElem_toArray, List.getElem_cons_zero, List.getElem_cons_succ, List.setIfInBounds_toArray, List.set_cons_zero, List.set_cons_succ]
        refine wpAnyH_take (i := 2) (v := .int .i64 (pos ns nm : Int)) rfl (by kernel_rfl) (by kernel_rfl) (by kernel_rfl) (fun _ _ _ h => h) (Or.inl ⟨by rfl, ?_⟩) hHeld ?_
        · intro w' hS'; go_simp
        try simp only [Act.put, List.getElem_toArray, List.getElem_cons_zero, List.getElem_cons_succ, List.setIfInBounds_toArray, List.set_cons_zero, List.set_cons_succ]
        refine wpAnyH_take (i := 3) (v := .slice b1 (pos ns nm) ck) rfl (by kernel_rfl) (by kernel_rfl) (by kernel_rfl) (fun _ _ _ h => h) (Or.inl ⟨by rfl, ?_⟩) hHeld ?_
        · intro w' hS'; go_simp
        try simp only [Act.put, List.getElem_toArray, List.getElem_cons_zero, List.getElem_cons_succ, List.setIfInBounds_toArray, List.set_cons_zero, List.set_cons_succ]
        refine wpAnyH_take (i := 4) (v := .agg #[.int .i64 j0, .bool j1, .slice f1 g1 h1, .slice f2 g2 h2, .slice f3 g3 h3]) rfl (by kernel_rfl) (by kernel_rfl) (by kernel_rfl) (fun _ _ _ h => h) (Or.inl ⟨by rfl, ?_⟩) hHeld ?_
        · intro w' hS'; obtain ⟨k0, k1, k2, k3, k4⟩ := hS'.2.cells; go_simp
        try simp only [Act.put, List.getElem_toArray, List.getElem_cons_zero, List.getElem_cons_succ, List.setIfInBounds_toArray, List.set_cons_zero, List.set_cons_succ]
        refine wpAnyH_take (i := 6) (v := .pointer (some ⟨w.heap.size, 4, none⟩)) rfl (by kernel_rfl) (by kernel_rfl) (by kernel_rfl) (fun _ _ _ h => h) (Or.inl ⟨by rfl, ?_⟩) hHeld ?_
        · intro w' hS'; go_simp
        try simp only [Act.put, List.getElem_toArray, List.getElem_cons_zero, List.getElem_cons_succ, List.setIfInBounds_toArray, List.set_cons_zero, List.set_cons_succ]
        refine wpAnyH_take (i := 7) (v := .slice (some ⟨gk, ok, none⟩) ks.length ck) rfl (by kernel_rfl) (by kernel_rfl) (by kernel_rfl) (fun _ _ _ h => h) (Or.inl ⟨by rfl, ?_⟩) hHeld ?_
        · intro w' hS'; obtain ⟨t0, t1, t2, t3, t4⟩ := hS'.1.cells; go_simp
        try simp only [Act.put, List.getElem_toArray, List.getElem_cons_zero, List.getElem_cons_succ, List.setIfInBounds_toArray, List.set_cons_zero, List.set_cons_succ]
        refine wpAnyH_take (i := 8) (v := .int .i64 ((pos ns nm : Int) + 1)) rfl (by kernel_rfl) (by kernel_rfl) (by kernel_rfl) (fun _ _ _ h => h) (Or.inl ⟨by rfl, ?_⟩) hHeld ?_
        · intro w' hS'; go_simp
        try simp only [Act.put, List.getElem_toArray, List.getElem_cons_zero, List.getElem_cons_succ, List.setIfInBounds_toArray, List.set_cons_zero, List.set_cons_succ]
        refine wpAnyH_take (i := 9) (v := .slice b2 (ks.length - (pos ns nm + 1)) (ck - (pos ns nm + 1))) rfl (by kernel_rfl) (by kernel_rfl) (by kernel_rfl) (fun _ _ _ h => h) (Or.inl ⟨by rfl, ?_⟩) hHeld ?_
        · intro w' hS'; go_simp
        try simp only [Act.put, List.getElem_toArray, List.getElem_cons_zero, List.getElem_cons_succ, List.setIfInBounds_toArray, List.set_cons_zero, List.set_cons_succ]
        refine wpAnyH_ready (rs := [5]) (by kernel_rfl) (by simp) (AllReadyH.cons rfl (fun K hK => ?_) AllReadyH.nil)
        simp only [List.getElem_toArray, List.getElem_cons_zero, List.getElem_cons_succ]
        go_simp
        refine hK.out _ _ ?_ (fun hHeld => ?_)
        · exact ⟨ht5.kept ((Below.refl w5.heap.size w5).alloc (Nat.le_refl _) _).drew (by omega), hk5.kept ((Below.refl w5.heap.size w5).alloc (Nat.le_refl _) _).drew hlt5⟩
        clear hK K
        try simp only [Act.put, List.getElem_toArray, List.getElem_cons_zero, List.getElem_cons_succ, List.setIfInBounds_toArray, List.set_cons_zero, List.set_cons_succ]
        refine wpAnyH_ready (rs := [10]) (by kernel_rfl) (by simp) (AllReadyH.cons rfl (fun K hK => ?_) AllReadyH.nil)
        simp only [List.getElem_toArray, List.getElem_cons_zero, List.getElem_cons_succ]
        go_simp
        refine hK.out _ _ ?_ (fun hHeld => ?_)
        · exact ⟨ht5.kept ((((Below.refl w5.heap.size w5).alloc (Nat.le_refl _) _).alloc (by simp) _).drew) (by omega), hk5.kept ((((Below.refl w5.heap.size w5).alloc (Nat.le_refl _) _).alloc (by simp) _).drew) hlt5⟩
        clear hK K
        try simp only [Act.put, List.getElem_toArray, List.getElem_cons_zero, List.getElem_cons_succ, List.setIfInBounds_toArray, List.set_cons_zero, List.set_cons_succ]
        refine wpAnyH_ready (rs := [11]) (by kernel_rfl) (by simp) (AllReadyH.cons rfl (fun K hK => ?_) AllReadyH.nil)
        simp only [List.getElem_toArray, List.getElem_cons_zero, List.getElem_cons_succ]
        go_simp
        have hbw5 : Below w.heap.size w w5 := (unhide HBS).1.trans ((unhide HN5).2.mono (by omega))
        have hRk : Row lo hi w5 (.slice (some ⟨gk, ok, none⟩) ks.length ck) ks.length Ks.flatten := (unhide HT).2.2.1.below hbw5 hhi
        have hK5 := Lies.all5 (unhide HT).2.2.2.1 (unhide HT).2.2.2.2.1
        have hfl : Ks.flatten.length = ks.length * 5 := by rw [flat5_length Ks hK5, (unhide HT).2.2.2.1]
        have hone : ∀ u ∈ Ks.flatten, u.oneCell' = true := ones_flat (unhide HT).2.2.2.1 (unhide HT).2.2.2.2.1
        have hlen := unhide HLen
        have hsm := (unhide HT).2.2.2.2.2.1.k
        refine (concat24_set lo hi w5.heap.size b1 b2 (pos ns nm) ck (ks.length - (pos ns nm + 1)) (ck - (pos ns nm + 1)) (Ks.flatten.take (pos ns nm * 5)) (Ks.flatten.drop ((pos ns nm + 1) * 5)) j0 j1 f1 f2 f3 g1 h1 g2 h2 g3 h3 w5 rfl (by omega) ((unhide HR1).2.2.1 w5 _ hfl hRk) ((unhide HR1).2.2.2 w5 _ hfl hRk) (by rw [List.length_take, hfl]; omega) (by rw [List.length_drop, hfl]; omega) (fun u h => hone u (List.mem_of_mem_take h)) (fun u h => hone u (List.mem_of_mem_drop h)) (by omega)).mono ?_
        rintro e w6 ⟨aK, cK, rfl, hoK, hb6⟩
        have hs6 := hb6.size
        have hr6 := hr5.kept hb6 (by omega)
        refine hK.out _ _ ⟨ht5.kept hb6 (by omega), hk5.kept hb6 (by omega)⟩ (fun hHeld => ?_)
        clear hK K
        try simp only [Act.put, List.getElem_toArray, List.getElem_cons_zero, List.getElem_cons_succ, List.setIfInBounds_toArray, List.set_cons_zero, List.set_cons_succ]
        refine wpAnyH_take (i := 12) (v := .slice aK (pos ns nm + 1 + (ks.length - (pos ns nm + 1))) cK) rfl (by kernel_rfl) (by kernel_rfl) (by kernel_rfl) (fun _ _ _ h => h) (Or.inl ⟨by rfl, ?_⟩) hHeld ?_
        · intro w' hS'; go_simp
        try simp only [Act.put, List.getElem_toArray, List.getElem_cons_zero, List.getElem_cons_succ, List.setIfInBounds_toArray, List.set_cons_zero, List.set_cons_succ]
        refine wpAnyH_done (by kernel_rfl) ?_ _
        refine NoPanic.normal ?_
        clear hHeld
        have HN6 := hide (And.intro hoK (And.intro hb6 (And.intro hbw5 (And.intro hK5 (And.intro hfl hlen)))))
        clear hoK hb6 hbw5 hK5 hfl hRk hone hlen hsm ht5 hk5 hr5 hcut3 hcut4
        obtain ⟨r0, r1, r2, r3, r4⟩ := hr6.cells
        have rf0 := hr6.fr 0
        have rf1 := hr6.fr 1
        have rf2 := hr6.fr 2
        have rf3 := hr6.fr 3
        have rf4 := hr6.fr 4
        go_wp2_with fail
        rw [unhide HNx] at HS
        rw [unhide HS]
        refine bodyPost_ret (v := .tuple #[.agg #[.int .i64 2, .bool false, .slice none 0 0, .slice aN (pos ns nm + 1 + (ns.length - (pos ns nm + 1))) cN, .slice aK (pos ns nm + 1 + (ks.length - (pos ns nm + 1))) cK], .int .i64 0]) (by simp [results, Tryd.results12, go_sem, r0, r1, r2, r3, r4]) rfl ⟨?_, ?_⟩
        · exact below_set5 ((unhide HN6).2.2.1.trans ((unhide HN6).2.1.mono (by omega))) (by omega) _ _ _ _ _
        refine ⟨[.int .i64 2, .bool false, .slice none 0 0, .slice aN (pos ns nm + 1 + (ns.length - (pos ns nm + 1))) cN, .slice aK (pos ns nm + 1 + (ks.length - (pos ns nm + 1))) cK], rfl, ?_⟩
        rw [set5_eq]
        obtain ⟨hoK, hb6, hbw5, hK5, hfl, hlen⟩ := unhide HN6
        obtain ⟨hoN, hb5⟩ := unhide HN5
        obtain ⟨hX, hn, hk, hl, hKK, hSm, hln, hnk⟩ := unhide HT
        refine laid_end (B' := wK.heap.size) (w4 := w4) hl hKK hhm hmw (Nat.le_refl _) (by omega) (below_set5 (hbw5.trans (hb6.mono (by omega))) (by omega) _ _ _ _ _) (unhide HL') (by rw [set5_size]; omega) (fun k hk1 hk2 => ?_) ?_ ?_
        · rw [set5_other _ _ _ _ _ _ _ _ (by omega), hb6.block k (by omega), hb5.block k (by omega), (unhide HBS).2 k hk1 (by omega)]
        · have e1 : (ns.take (pos ns nm) ++ [nm] ++ ns.drop (pos ns nm + 1)).length = pos ns nm + 1 + (ns.length - (pos ns nm + 1)) := by simp; omega
          have e2 : (ns.take (pos ns nm) ++ [nm] ++ ns.drop (pos ns nm + 1)).map Value.string = (ns.map Value.string).take (pos ns nm) ++ [.string nm] ++ (ns.map Value.string).drop (pos ns nm + 1) := by simp [List.map_take, List.map_drop]
          rw [e1, e2]
          have h0 : Row (w4.heap.size + 1 + 1) w5.heap.size w5 _ _ _ := owns_row hoN (fun g hg => owns_lt hoN g hg)
          exact ((h0.below hb6 (Nat.le_refl _)).same (fun k hk1 hk2 => set5_other _ _ _ _ _ _ _ _ (by omega))).mono (by omega) (by rw [set5_size]; omega)
        · have e1 : (ks.take (pos ns nm) ++ [T'] ++ ks.drop (pos ns nm + 1)).length = pos ns nm + 1 + (ks.length - (pos ns nm + 1)) := by simp; omega
          have e2 : (Ks.take (pos ns nm) ++ ([[.int .i64 j0, .bool j1, .slice f1 g1 h1, .slice f2 g2 h2, .slice f3 g3 h3]] : List (List Value)) ++ Ks.drop (pos ns nm + 1)).flatten = Ks.flatten.take (pos ns nm * 5) ++ [.int .i64 j0, .bool j1, .slice f1 g1 h1, .slice f2 g2 h2, .slice f3 g3 h3] ++ Ks.flatten.drop ((pos ns nm + 1) * 5) := by
            rw [flat5_take Ks hK5, flat5_drop Ks hK5]; simp
          rw [e1, e2]
          have h0 : Row (w5.heap.size + 1 + 1) w6.heap.size w6 _ _ _ := owns_row hoK (fun g hg => owns_lt hoK g hg)
          exact (h0.same (fun k hk1 hk2 => set5_other _ _ _ _ _ _ _ _ (by omega))).mono (by omega) (by rw [set5_size]; omega)

end Go.Proofs.YthfjofmfiklegabDoor
