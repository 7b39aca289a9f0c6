/- Pages: bytes gathered in a row that has the room for all. -/
import Derived.Test.YtebcmicmklpflaaGreatDoorPv
namespace Go.Proofs.YtebcmicmklpflaaGreatDoor
open Go.RowKit Go.Shelf Go.Great Go.Maps
set_option linter.unusedSimpArgs false
/-- The state of a page, as a number. -/
def stat : Pge → Nat
  | none => 0
  | some d => d.length + 1
/-- A page, as bytes. -/
def encE (ps : List Pge) (n : Nat) : List UInt8 := [UInt8.ofNat (n % 64), UInt8.ofNat (stat (ps[n]?.getD none) / 256), UInt8.ofNat (stat (ps[n]?.getD none))] ++ dat ps n
def encL (ps : List Pge) : List Nat → List UInt8
  | [] => []
  | x :: xs => encE ps x ++ encL ps xs
/-- Pages of a sheet, as bytes. -/
def encB (ps : List Pge) (k : Nat) (xs : List Nat) : List UInt8 := UInt8.ofNat k :: encL ps xs
theorem encL_snoc (ps : List Pge) (x : Nat) : ∀ xs, encL ps (xs ++ [x]) = encL ps xs ++ encE ps x
  | [] => by simp [encL]
  | y :: ys => by simp only [List.cons_append, encL, encL_snoc ps x ys, List.append_assoc]
theorem encB_len (ps : List Pge) (k : Nat) : ∀ xs, (encB ps k xs).length = wsum ps xs
  | [] => rfl
  | x :: xs => by
    have := encB_len ps k xs
    simp only [encB, List.length_cons, encL, encE, List.length_append, wsum] at this ⊢
    simp
    omega
theorem wsum_app (ps : List Pge) : ∀ (xs ys : List Nat), wsum ps xs ≤ wsum ps (xs ++ ys)
  | [], ys => by
    induction ys with
    | nil => exact Nat.le_refl _
    | cons y ys ih =>
      simp only [List.nil_append, wsum] at ih ⊢
      omega
  | x :: xs, ys => by
    have := wsum_app ps xs ys
    simp only [List.cons_append, wsum]
    omega
/-- Bytes that lie in a row r with so much room, which a box bb holds. -/
structure BufAt (X : World) (bb r cap : Nat) (out : List UInt8) : Prop where
  box : X.heap[bb]? = some (.cells #[.slice (some ⟨r, 0, none⟩) out.length cap] 39)
  row : ∃ cur : Array Value, X.heap[r]? = some (.cells cur 5 (0, 0)) ∧ cur.size = cap ∧ byteVals out <+: cur.toList
  le : out.length ≤ cap
theorem BufAt.kept {X X' : World} {bb r cap : Nat} {out : List UInt8} (h : BufAt X bb r cap out) (h1 : X'.heap[bb]? = X.heap[bb]?) (h2 : X'.heap[r]? = X.heap[r]?) : BufAt X' bb r cap out := by
  obtain ⟨hb, ⟨cur, hr, hc, hp⟩, hl⟩ := h
  exact ⟨h1.trans hb, ⟨cur, h2.trans hr, hc, hp⟩, hl⟩
theorem BufAt.ne {X : World} {bb r cap : Nat} {out : List UInt8} (h : BufAt X bb r cap out) : bb ≠ r := by
  obtain ⟨hb, ⟨cur, hr, hc, hp⟩, hl⟩ := h
  rintro rfl
  rw [hb] at hr
  injection hr with hr
  injection hr with _ hr _
  cases hr
theorem BufAt.app {X : World} {bb r cap : Nat} {out d : List UInt8} (h : BufAt X bb r cap out) {a : Option Addr} {c : Nat} (hx : Row X.heap.size X (.slice a d.length c) d) (hfit : out.length + d.length ≤ cap) :
    ∃ X', (∀ ty, (app22 ty #[.slice (some ⟨r, 0, none⟩) out.length cap, .slice a d.length c]).run Tryz.prog X = .ok (.slice (some ⟨r, 0, none⟩) (out.length + d.length) cap) X') ∧ X'.cell? ⟨bb, 0, none⟩ = some (.slice (some ⟨r, 0, none⟩) out.length cap) ∧ X'.frozen? ⟨bb, 0, none⟩ = false ∧ BufAt (X'.setCell ⟨bb, 0, none⟩ (.slice (some ⟨r, 0, none⟩) (out.length + d.length) cap)) bb r cap (out ++ d) ∧ (∀ q, q ≠ r → X'.heap[q]? = X.heap[q]?) ∧ X'.os = X.os ∧ X'.tape = X.tape ∧ X'.output = X.output ∧ X'.heap.size = X.heap.size := by
  have hne := h.ne
  obtain ⟨hb, ⟨cur, hr, hc, hp⟩, hl⟩ := h
  by_cases h0 : d.length = 0
  · obtain rfl : d = [] := List.eq_nil_of_length_eq_zero h0
    refine ⟨X, fun ty => run_append_none (some ⟨r, 0, none⟩) a out.length cap c hl ty X, bk_cell hb, bk_frozen hb, ⟨?_, ⟨cur, ?_, hc, by simpa using hp⟩, by simpa using hl⟩, fun _ _ => rfl, rfl, rfl, rfl, rfl⟩
    · rw [List.append_nil]; exact bk_set _ hb
    · rw [Below.heap_setCell _ _ _ _ (Ne.symm hne)]; exact hr
  · obtain ⟨i, hi', hz, hs, hby⟩ := info5
    obtain ⟨gs, o, rfl, _, hcell⟩ := Row.src hx (by omega)
    have hrun2 : ∀ ty, (app22 ty #[.slice (some ⟨r, 0, none⟩) out.length cap, .slice (some ⟨gs, o, none⟩) d.length c]).run Tryz.prog X = .ok (.slice (some ⟨r, 0, none⟩) (out.length + d.length) cap) (X.setRow r (cur.toList.take out.length ++ byteVals d ++ cur.toList.drop (out.length + d.length)).toArray) := fun ty => by
      have := run_append_room (P := Tryz.prog) X 39 ty 5 i Tryz.underlying39 hi' r out.length cap cur hr ⟨gs, o, none⟩ d.length c (byteVals d) (by rw [byteVals_len, hs]; omega) hcell byte_one hfit (by rw [byteVals_len, hs]; omega)
      rw [hs, byteVals_len, Nat.mul_one] at this
      exact this
    have hR := setRow_heap X r cur (cur.toList.take out.length ++ byteVals d ++ cur.toList.drop (out.length + d.length)).toArray 5 (0, 0) hr
    have hO : ∀ q, q ≠ r → (X.setRow r (cur.toList.take out.length ++ byteVals d ++ cur.toList.drop (out.length + d.length)).toArray).heap[q]? = X.heap[q]? := fun q hq => setRow_other X r q _ hq
    have hb' := (hO bb hne).trans hb
    refine ⟨_, hrun2, bk_cell hb', bk_frozen hb', ⟨?_, ⟨(cur.toList.take out.length ++ byteVals d ++ cur.toList.drop (out.length + d.length)).toArray, ?_, ?_, ?_⟩, by simpa using hfit⟩, hO, rfl, rfl, rfl, by simp [World.setRow]⟩
    · rw [List.length_append]; exact bk_set _ hb'
    · rw [Below.heap_setCell _ _ _ _ (Ne.symm hne)]; exact hR
    · have hlen : cur.toList.length = cap := by simpa using hc
      simp [byteVals_len, hlen]
      omega
    · have ht : cur.toList.take out.length = byteVals out := by
        obtain ⟨t, ht⟩ := hp
        rw [← ht, List.take_append_of_le_length (by rw [byteVals_len]; exact Nat.le_refl _), List.take_of_length_le (by rw [byteVals_len]; exact Nat.le_refl _)]
      rw [ht, byteVals_append]
      simp
theorem row_new (w : World) (d : List UInt8) (cs : Array Value) (h : cs = (byteVals d).toArray) : Row (w.alloc (.cells cs 5)).heap.size (w.alloc (.cells cs 5)) (.slice (some ⟨w.heap.size, 0, none⟩) d.length d.length) d := by
  subst h
  refine ⟨_, _, rfl, Nat.le_refl _, fun _ => ⟨w.heap.size, 0, rfl, by simp, fun j u hj => ?_⟩⟩
  have hnew := World.alloc_heap_new w (.cells (byteVals d).toArray 5)
  simp only [World.cell?, Nat.zero_add]
  rw [hnew]
  simpa using hj
end Go.Proofs.YtebcmicmklpflaaGreatDoor
