/- What stands while new blocks are laid. -/
import Derived.Test.YtbnbakcoomjnaaaGf
import Derived.Deep.AppendSrc
import Derived.Deep.QuietTactic
namespace Go.Proofs.Ytbnbakcoomjnaaa
open Go.RowKit Go.Maps
set_option linter.unusedSimpArgs false
/-- But for blocks of O all of w stands in W; and some blocks of W are known. -/
structure Inv (O : Nat → Prop) (w W : World) (L : List (Nat × Obj)) : Prop where
  os : W.os = w.os
  tape : W.tape = w.tape
  output : W.output = w.output
  size : w.heap.size ≤ W.heap.size
  blk : ∀ q, q < w.heap.size → ¬ O q → W.heap[q]? = w.heap[q]?
  held : ∀ p ∈ L, W.heap[p.1]? = some p.2
  new : ∀ p ∈ L, w.heap.size ≤ p.1
theorem Inv.refl (O : Nat → Prop) (w : World) : Inv O w w [] := ⟨rfl, rfl, rfl, Nat.le_refl _, fun _ _ _ => rfl, fun _ h => (by cases h), fun _ h => (by cases h)⟩
theorem Inv.drew {O : Nat → Prop} {w W : World} {L : List (Nat × Obj)} (h : Inv O w W L) : Inv O w W.drew L := ⟨h.os, h.tape, h.output, h.size, h.blk, h.held, h.new⟩
theorem Inv.drewN {O : Nat → Prop} {w W : World} {L : List (Nat × Obj)} (h : Inv O w W L) (n : Nat) : Inv O w (W.drewN n) L := ⟨h.os, h.tape, h.output, h.size, h.blk, h.held, h.new⟩
theorem Inv.below {O : Nat → Prop} {w W w2 : World} {L : List (Nat × Obj)} (h : Inv O w W L) (hb : Below W.heap.size W w2) : Inv O w w2 L :=
  ⟨hb.os.trans h.os, hb.tape.trans h.tape, hb.output.trans h.output, Nat.le_trans h.size hb.size, fun q h1 h2 => (hb.block q (Nat.lt_of_lt_of_le h1 h.size)).trans (h.blk q h1 h2), fun p hp => (hb.block p.1 (Array.getElem?_eq_some_iff.1 (h.held p hp)).1).trans (h.held p hp), h.new⟩
theorem Inv.alloc {O : Nat → Prop} {w W : World} {L : List (Nat × Obj)} (h : Inv O w W L) (o : Obj) : Inv O w (W.alloc o) ((W.heap.size, o) :: L) := by
  have hb : Below W.heap.size W (W.alloc o) := (Below.refl _ _).alloc (Nat.le_refl _) o
  have hI := h.below hb
  refine ⟨hI.os, hI.tape, hI.output, hI.size, hI.blk, fun p hp => ?_, fun p hp => ?_⟩
  · rcases List.mem_cons.1 hp with rfl | hp
    · exact heap_alloc_new W o
    · exact hI.held p hp
  · rcases List.mem_cons.1 hp with rfl | hp
    · exact h.size
    · exact hI.new p hp
theorem Inv.alloc2 {O : Nat → Prop} {w W : World} {L : List (Nat × Obj)} (h : Inv O w W L) (o p : Obj) : Inv O w ((W.alloc o).alloc p) ((W.heap.size + 1, p) :: (W.heap.size, o) :: L) := by
  have h2 := (h.alloc o).alloc p
  rwa [show (W.alloc o).heap.size = W.heap.size + 1 from by simp] at h2
theorem Inv.dalloc {O : Nat → Prop} {w W : World} {L : List (Nat × Obj)} (h : Inv O w W L) (o : Obj) : Inv O w (W.drew.alloc o) ((W.heap.size, o) :: L) := h.drew.alloc o
theorem Inv.dalloc2 {O : Nat → Prop} {w W : World} {L : List (Nat × Obj)} (h : Inv O w W L) (o p : Obj) : Inv O w ((W.drew.alloc o).alloc p) ((W.heap.size + 1, p) :: (W.heap.size, o) :: L) := h.drew.alloc2 o p
theorem Inv.cell {O : Nat → Prop} {w W : World} {L : List (Nat × Obj)} (h : Inv O w W L) {b o : Nat} {v : Value} (hc : w.cell? ⟨b, o, none⟩ = some v) (hO : ¬ O b) : W.cell? ⟨b, o, none⟩ = some v := by
  rw [World.cell?_of_block (w := w) (a := ⟨b, o, none⟩) (h.blk b (cellLt hc) hO)]; exact hc
theorem Inv.lt {O : Nat → Prop} {w W : World} {L : List (Nat × Obj)} (h : Inv O w W L) {p : Nat × Obj} (hp : p ∈ L) : p.1 < W.heap.size := (Array.getElem?_eq_some_iff.1 (h.held p hp)).1
theorem Inv.sub {O : Nat → Prop} {w W : World} {L L' : List (Nat × Obj)} (h : Inv O w W L) (hs : ∀ p ∈ L', p ∈ L) : Inv O w W L' := ⟨h.os, h.tape, h.output, h.size, h.blk, fun p hp => h.held p (hs p hp), fun p hp => h.new p (hs p hp)⟩
/-- A cell of w behind a store into a new block. -/
theorem Inv.cellSet {O : Nat → Prop} {w W : World} {L : List (Nat × Obj)} (h : Inv O w W L) {b o p : Nat} {v x : Value} (hc : w.cell? ⟨b, o, none⟩ = some v) (hO : ¬ O b) (hp : w.heap.size ≤ p) : (W.setCell ⟨p, 0, none⟩ x).cell? ⟨b, o, none⟩ = some v := by
  have hl : b < w.heap.size := cellLt hc
  rw [World.cell?_setCell_other _ ⟨p, 0, none⟩ ⟨b, o, none⟩ _ (fun e => by injection e with e1; omega)]
  exact h.cell hc hO
/-- A box of one cell is set. -/
theorem Inv.box {O : Nat → Prop} {w W : World} {L : List (Nat × Obj)} (h : Inv O w W L) {b : Nat} {x v : Value} {t : TypeId} (hb : W.heap[b]? = some (.cells #[x] t (0, 0))) (hw : w.heap.size ≤ b) (hL : ∀ p ∈ L, p.1 ≠ b) : Inv O w (W.setCell ⟨b, 0, none⟩ v) ((b, .cells #[v] t (0, 0)) :: L) := by
  refine ⟨h.os, h.tape, h.output, by rw [size_set]; exact h.size, fun q h1 h2 => ?_, fun p hp => ?_, fun p hp => (List.mem_cons.1 hp).elim (fun e => by rw [e]; exact hw) (h.new p)⟩
  · rw [set_other _ _ _ _ _ (by omega)]; exact h.blk q h1 h2
  · rcases List.mem_cons.1 hp with rfl | hp
    · simp [World.setCell, Array.getElem?_modify, hb]
    · rw [set_other _ _ _ _ _ (hL p hp)]; exact h.held p hp
/-- Bytes in a new block, or none. -/
def NewData (lo : Nat) (L : List (Nat × Obj)) (v : Value) (d : List UInt8) : Prop :=
  (L = [] ∧ v = .slice none 0 0 ∧ d = []) ∨ ∃ g cap cur, L = [(g, .cells cur 5 (0, 0))] ∧ v = .slice (some ⟨g, 0, none⟩) d.length cap ∧ lo ≤ g ∧ d.length ≤ cap ∧ cap ≤ maxLen ∧ cur.size = cap ∧ cur.toList.take d.length = byteVals d
theorem Row.inv {hi : Nat} {O : Nat → Prop} {w W : World} {L : List (Nat × Obj)} {v : Value} {d : List UInt8} (h : Row hi w v d) (hI : Inv O w W L) (hO : ∀ q, q < hi → ¬ O q) : Row hi W v d := by
  obtain ⟨a, c, e, hc', hr⟩ := h
  refine ⟨a, c, e, hc', fun h0 => ?_⟩
  obtain ⟨g, p, ea, hg, hcell⟩ := hr h0
  exact ⟨g, p, ea, hg, fun j u hj => hI.cell (hcell j u hj) (hO g hg)⟩
set_option maxRecDepth 20000 in
set_option maxHeartbeats 1000000 in
/-- bytes.Clone, its block known. -/
theorem bclone_new (hi : Nat) (a : Option Addr) (n c : Nat) (d : List UInt8) (w : World) (h : Row hi w (.slice a n c) d) (hn : d.length = n) (hhi : hi ≤ w.heap.size) (hmax : n ≤ 1000000000) :
    Calls Try.prog 33 #[.slice a n c] w fun e w' => ∃ a' c' L, e = .returned (.slice a' n c') ∧ NewData w.heap.size L (.slice a' n c') d ∧ Below w.heap.size w w' ∧ ∀ p ∈ L, w'.heap[p.1]? = some p.2 := by
  have hq := fun w => Lib.run_eql_slice_nil (P := Try.prog) w 22 5 a n c 0 0 Try.underlying22
  cases a with
  | none =>
    have hn0 : d = [] := by
      obtain ⟨a', c', e, _, hx⟩ := h
      cases d with
      | nil => rfl
      | cons b r =>
        injection e with e1
        obtain ⟨g, o, ea, _⟩ := hx (by simp)
        rw [ea] at e1; cases e1
    subst hn0
    simp only [List.length_nil] at hn
    subst hn
    clear h
    go_enter Try.func33, Try.ntmps33
    go_wp2_with fail
    go_ret
    exact ⟨none, 0, [], rfl, .inl ⟨rfl, rfl, rfl⟩, Below.refl _ _, fun _ h => by cases h⟩
  | some b =>
    obtain ⟨i, hi', hz, hsz, hby⟩ := info5
    have hA : Below w.heap.size w (w.alloc (.cells #[] 5)) := (Below.refl _ _).alloc (Nat.le_refl _) _
    obtain ⟨v', w', hr, hown, hgr, -⟩ := run_append_own (P := Try.prog) (w.alloc (.cells #[] 5)) w.heap.size 22 22 5 i (.int .u8 0) 1 1 Try.underlying22 hi' hz hsz hby rfl (by omega) (.slice (some ⟨w.heap.size, 0, none⟩) 0 0) 0 [] (owns_new w 5 1) b n c (byteVals d) (by simp [byteVals, hn])
      (fun j u hj => by
        obtain ⟨a', c', e, _, hx⟩ := h
        injection e with e1
        have hd : 0 < d.length := by have := (List.getElem?_eq_some_iff.1 hj).1; simp [byteVals] at this; omega
        obtain ⟨g, o, ea, hg, hcell⟩ := hx hd
        rw [ea] at e1
        injection e1 with e1
        subst e1
        rw [show (⟨g, o, none⟩ : Addr).add j = ⟨g, o + j, none⟩ from by unfold Addr.add; split <;> simp_all, hA.cell (p := ⟨g, o + j, none⟩) (by show g < _; omega)]
        exact hcell j u hj)
      (fun u hu => by obtain ⟨b, -, rfl⟩ := List.mem_map.1 hu; rfl) (by simp only [maxLen]; omega) (by omega) (by simp)
    rw [List.nil_append, Nat.zero_add] at hown
    have HE : Hid (∃ a' c' L, v' = .slice a' n c' ∧ NewData w.heap.size L (.slice a' n c') d ∧ Below w.heap.size w w' ∧ ∀ p ∈ L, w'.heap[p.1]? = some p.2) := by
      have hB : Below w.heap.size w w' := hA.grown hgr (by simp) (fun k hk => by simp [Value.ownBlock] at hk; omega)
      rcases hown.2 with ⟨e, h0⟩ | ⟨g, cap, cur, e, hg, hh, hcap, hm, hszc, ht⟩
      · subst h0
        obtain rfl : d = [] := List.eq_nil_of_length_eq_zero hn
        exact ⟨none, 0, [], e, .inl ⟨rfl, rfl, rfl⟩, hB, fun _ h => by cases h⟩
      · refine ⟨some ⟨g, 0, none⟩, cap, [(g, .cells cur 5 (0, 0))], e, .inr ⟨g, cap, cur, rfl, by rw [hn], hg, by omega, hm, by omega, ?_⟩, hB, fun p hp => ?_⟩
        · rw [hn, ← ht, Nat.mul_one]
        · simp only [List.mem_singleton] at hp
          subst hp
          exact hh
    have hr' : ∀ ty, (app22 ty #[.slice (some ⟨w.heap.size, 0, none⟩) 0 0, .slice (some b) n c]).run Try.prog (w.alloc (.cells #[] 5)) = .ok v' w' := fun _ => hr
    clear h hown hgr hr hA
    go_enter Try.func33, Try.ntmps33
    go_wp2_with fail
    go_ret
    obtain ⟨a', c', L, rfl, h1, h2, h3⟩ := unhide HE
    exact ⟨a', c', L, rfl, h1, h2, h3⟩
theorem clone_inv {O : Nat → Prop} {w : World} {L : List (Nat × Obj)} (s : ByteArray) (W : World) (hlim : s.size ≤ 281474976710656) (h : Inv O w W L) : Calls Try.prog 32 #[.string s] W fun e w' => e = .returned (.string s) ∧ Inv O w w' L :=
  (clone_any s W hlim).mono fun _ _ ⟨e, hb⟩ => ⟨e, h.below hb⟩
theorem bclone_inv {O : Nat → Prop} {w : World} {L : List (Nat × Obj)} (hi : Nat) (a : Option Addr) (n c : Nat) (d : List UInt8) (W : World) (hr : Row hi w (.slice a n c) d) (hn : d.length = n) (hhi : hi ≤ w.heap.size) (hO : ∀ q, q < hi → ¬ O q) (hmax : n ≤ 1000000000) (h : Inv O w W L) :
    Calls Try.prog 33 #[.slice a n c] W fun e w' => ∃ a' c' L', e = .returned (.slice a' n c') ∧ NewData w.heap.size L' (.slice a' n c') d ∧ Inv O w w' (L ++ L') :=
  (bclone_new hi a n c d W (hr.inv h hO) hn (Nat.le_trans hhi h.size) hmax).mono fun _ w' ⟨a', c', L', e, hd, hb, hL⟩ => by
    refine ⟨a', c', L', e, ?_, ?_⟩
    · rcases hd with hd | ⟨g, cap, cur, h1, h2, h3, h4⟩
      · exact .inl hd
      · exact .inr ⟨g, cap, cur, h1, h2, Nat.le_trans h.size h3, h4⟩
    · have hI := h.below hb
      refine ⟨hI.os, hI.tape, hI.output, hI.size, hI.blk, fun p hp => (List.mem_append.1 hp).elim (hI.held p) (hL p), fun p hp => (List.mem_append.1 hp).elim (hI.new p) (fun hp => ?_)⟩
      rcases hd with ⟨rfl, _⟩ | ⟨g, cap, cur, rfl, _, h3, _⟩
      · cases hp
      · simp only [List.mem_singleton] at hp
        subst hp
        exact Nat.le_trans h.size h3
theorem Inv.bx {O : Nat → Prop} {w W : World} {L : List (Nat × Obj)} (h : Inv O w W L) {b : Nat} {x : Value} {t : TypeId} (hm : (b, Obj.cells #[x] t (0, 0)) ∈ L) : W.cell? ⟨b, 0, none⟩ = some x ∧ W.frozen? ⟨b, 0, none⟩ = false ∧ b < W.heap.size ∧ b ≠ W.heap.size ∧ W.heap.size ≠ b := by
  have hl := h.lt hm
  have := h.held _ hm
  simp only at this hl
  refine ⟨?_, ?_, hl, by omega, by omega⟩
  · simp [World.cell?, this]
  · simp [World.frozen?, this]
theorem Inv.tne {O : Nat → Prop} {w W : World} {L : List (Nat × Obj)} (h : Inv O w W L) {p q : Nat} {x y : Array Value} {s t : TypeId} {fx fy : Nat × Nat} (hp : (p, Obj.cells x s fx) ∈ L) (hq : (q, Obj.cells y t fy) ∈ L) (hne : (s == t) = false) : p ≠ q ∧ q ≠ p := by
  have h1 := h.held _ hp
  have h2 := h.held _ hq
  simp only at h1 h2
  have : p ≠ q := fun e => by
    rw [e, h2] at h1
    injection h1 with h1
    injection h1 with _ h1
    subst h1
    simp at hne
  exact ⟨this, Ne.symm this⟩
theorem Inv.bne {O : Nat → Prop} {w W : World} {L : List (Nat × Obj)} (h : Inv O w W L) {b : Nat} {x : Obj} (hm : (b, x) ∈ L) {q o : Nat} {v : Value} (hc : w.cell? ⟨q, o, none⟩ = some v) : q ≠ b ∧ b ≠ q := by
  have h1 : q < w.heap.size := cellLt hc
  have h2 : w.heap.size ≤ b := h.new _ hm
  omega
theorem Inv.clt {O : Nat → Prop} {w W : World} {L : List (Nat × Obj)} (h : Inv O w W L) {q o : Nat} {v : Value} (hc : w.cell? ⟨q, o, none⟩ = some v) : q < W.heap.size := by
  have h1 : q < w.heap.size := cellLt hc
  have h2 := h.size
  omega
theorem Inv.ne {O : Nat → Prop} {w W : World} {L : List (Nat × Obj)} (h : Inv O w W L) {p q : Nat} {x y : Obj} (hp : (p, x) ∈ L) (hq : (q, y) ∈ L) (hne : x ≠ y) : p ≠ q := fun e => by
  have h1 := h.held _ hp
  have h2 := h.held _ hq
  simp only at h1 h2
  rw [e, h2] at h1
  exact hne (Option.some.inj h1).symm
theorem Inv.an {O : Nat → Prop} {w W : World} {L : List (Nat × Obj)} (h : Inv O w W L) : Inv O w W (L ++ []) := by rw [List.append_nil]; exact h
/-- Blocks of bytes. -/
def Bytes (L : List (Nat × Obj)) : Prop := ∀ z ∈ L, ∃ cur, z.2 = .cells cur 5 (0, 0)
theorem NewData.bytes {lo : Nat} {L : List (Nat × Obj)} {v : Value} {d : List UInt8} (h : NewData lo L v d) : Bytes L := by
  rcases h with ⟨rfl, _⟩ | ⟨g, cap, cur, rfl, _⟩
  · intro z hz; cases hz
  · intro z hz
    simp only [List.mem_singleton] at hz
    exact ⟨cur, by rw [hz]⟩
theorem Inv.bytes_ne {O : Nat → Prop} {w W : World} {L : List (Nat × Obj)} (h : Inv O w W L) {L3 : List (Nat × Obj)} (hB : Bytes L3) (hs : ∀ z ∈ L3, z ∈ L) {p : Nat} {x : Array Value} {t : TypeId} {fz : Nat × Nat} (hp : (p, Obj.cells x t fz) ∈ L) (ht : (5 == t) = false) : ∀ z ∈ L3, z.1 ≠ p := fun z hz => by
  obtain ⟨cur, e⟩ := hB z hz
  have hz' := hs z hz
  cases z with
  | mk g o =>
    simp only at e
    subst e
    exact (h.tne hz' hp ht).1
section
variable {O : Nat → Prop} {w W : World} {L3 : List (Nat × Obj)} {s t : TypeId} {x y u v : Value} {p q : Nat}
theorem Inv.finA (h : Inv O w W ([] ++ L3)) : Inv O w ((W.alloc (.cells #[x] s)).alloc (.cells #[y] t)) ((W.heap.size + 1, .cells #[y] t (0, 0)) :: (W.heap.size, .cells #[x] s (0, 0)) :: L3) := h.alloc2 _ _
theorem Inv.finB (h : Inv O w W ([] ++ L3)) : Inv O w ((W.alloc (.cells #[y] t)).alloc (.cells #[x] s)) ((W.heap.size, .cells #[y] t (0, 0)) :: (W.heap.size + 1, .cells #[x] s (0, 0)) :: L3) :=
  (h.alloc2 _ _).sub fun z hz => by
    simp only [List.mem_cons] at hz ⊢
    rcases hz with h | h | h
    · exact .inr (.inl h)
    · exact .inl h
    · exact .inr (.inr (by simpa using h))
theorem Inv.finC (h : Inv O w W ([(p, .cells #[u] s (0, 0))] ++ L3)) (hB : Bytes L3) (hs : (5 == s) = false) : Inv O w ((W.setCell ⟨p, 0, none⟩ x).alloc (.cells #[y] t)) ((W.heap.size, .cells #[y] t (0, 0)) :: (p, .cells #[x] s (0, 0)) :: L3) := by
  have h0 := h.sub (L' := L3) (fun z hz => List.mem_append_right _ hz)
  have hm : (p, Obj.cells #[u] s (0, 0)) ∈ [(p, Obj.cells #[u] s (0, 0))] ++ L3 := List.mem_append_left _ (List.mem_cons_self ..)
  have h1 := (h0.box (v := x) (h.held _ hm) (h.new _ hm) (h.bytes_ne hB (fun z hz => List.mem_append_right _ hz) hm hs)).alloc (.cells #[y] t)
  rwa [size_set] at h1
theorem Inv.finD (h : Inv O w W ([(p, .cells #[v] t (0, 0))] ++ L3)) (hB : Bytes L3) (hs : (5 == t) = false) : Inv O w ((W.setCell ⟨p, 0, none⟩ y).alloc (.cells #[x] s)) ((p, .cells #[y] t (0, 0)) :: (W.heap.size, .cells #[x] s (0, 0)) :: L3) :=
  (h.finC hB hs).sub fun z hz => by
    simp only [List.mem_cons] at hz ⊢
    rcases hz with h | h | h
    · exact .inr (.inl h)
    · exact .inl h
    · exact .inr (.inr h)
theorem Inv.finE {L : List (Nat × Obj)} (h : Inv O w W (L ++ L3)) (hp : (p, .cells #[u] s (0, 0)) ∈ L) (hq : (q, .cells #[v] t (0, 0)) ∈ L) (hpq : p ≠ q) (hB : Bytes L3) (hs : (5 == s) = false) (ht : (5 == t) = false) : Inv O w ((W.setCell ⟨p, 0, none⟩ x).setCell ⟨q, 0, none⟩ y) ((q, .cells #[y] t (0, 0)) :: (p, .cells #[x] s (0, 0)) :: L3) := by
  have hmp := List.mem_append_left L3 hp
  have hmq := List.mem_append_left L3 hq
  have hn1 := h.bytes_ne hB (fun z hz => List.mem_append_right _ hz) hmp hs
  have hn2 := h.bytes_ne hB (fun z hz => List.mem_append_right _ hz) hmq ht
  have h1 := (h.sub (L' := (q, .cells #[v] t (0, 0)) :: L3) (fun z hz => by
    rcases List.mem_cons.1 hz with rfl | hz
    · exact hmq
    · exact List.mem_append_right _ hz)).box (v := x) (h.held _ hmp) (h.new _ hmp) (fun z hz => by
    rcases List.mem_cons.1 hz with rfl | hz
    · exact Ne.symm hpq
    · exact hn1 z hz)
  exact (h1.sub (L' := (p, .cells #[x] s (0, 0)) :: L3) (fun z hz => by
    rcases List.mem_cons.1 hz with rfl | hz
    · exact List.mem_cons_self ..
    · exact List.mem_cons_of_mem _ (List.mem_cons_of_mem _ hz))).box (v := y) (b := q) (x := v) (t := t) (h1.held (q, .cells #[v] t (0, 0)) (List.mem_cons_of_mem _ (List.mem_cons_self ..))) (h.new _ hmq) (fun z hz => by
    rcases List.mem_cons.1 hz with rfl | hz
    · exact hpq
    · exact hn2 z hz)
end
end Go.Proofs.Ytbnbakcoomjnaaa
