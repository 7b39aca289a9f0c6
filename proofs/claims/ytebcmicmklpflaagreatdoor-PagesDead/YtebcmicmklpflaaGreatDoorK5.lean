import Derived.Test.YtebcmicmklpflaaGreatDoorK4
import Derived.Deep.AppendSrc
import Derived.Deep.QuietTactic
/- What stands while new blocks are laid. -/
namespace Go.Proofs.YtebcmicmklpflaaGreatDoor
open Go.RowKit Go.Maps
set_option linter.unusedSimpArgs false
/-- But for blocks of O all of w stands in W; and some blocks of W are known. -/
structure Inv (O : Nat → Prop) (w W : World) (L : List (Nat × Obj)) : Prop where
  os : W.os = w.os
  tape : W.tape = w.tape
  output : W.output = w.output
  size : w.heap.size ≤ W.heap.size
  blk : ∀ q, q < w.heap.size → ¬ O q → W.heap[q]? = w.heap[q]?
  held : ∀ p ∈ L, W.heap[p.1]? = some p.2
  new : ∀ p ∈ L, w.heap.size ≤ p.1
theorem Inv.refl (O : Nat → Prop) (w : World) : Inv O w w [] := ⟨rfl, rfl, rfl, Nat.le_refl _, fun _ _ _ => rfl, fun _ h => (by cases h), fun _ h => (by cases h)⟩
theorem Inv.drew {O : Nat → Prop} {w W : World} {L : List (Nat × Obj)} (h : Inv O w W L) : Inv O w W.drew L := ⟨h.os, h.tape, h.output, h.size, h.blk, h.held, h.new⟩
theorem Inv.drewN {O : Nat → Prop} {w W : World} {L : List (Nat × Obj)} (h : Inv O w W L) (n : Nat) : Inv O w (W.drewN n) L := ⟨h.os, h.tape, h.output, h.size, h.blk, h.held, h.new⟩
theorem Inv.below {O : Nat → Prop} {w W w2 : World} {L : List (Nat × Obj)} (h : Inv O w W L) (hb : Below W.heap.size W w2) : Inv O w w2 L :=
  ⟨hb.os.trans h.os, hb.tape.trans h.tape, hb.output.trans h.output, Nat.le_trans h.size hb.size, fun q h1 h2 => (hb.block q (Nat.lt_of_lt_of_le h1 h.size)).trans (h.blk q h1 h2), fun p hp => (hb.block p.1 (Array.getElem?_eq_some_iff.1 (h.held p hp)).1).trans (h.held p hp), h.new⟩
theorem Inv.alloc {O : Nat → Prop} {w W : World} {L : List (Nat × Obj)} (h : Inv O w W L) (o : Obj) : Inv O w (W.alloc o) ((W.heap.size, o) :: L) := by
  have hb : Below W.heap.size W (W.alloc o) := (Below.refl _ _).alloc (Nat.le_refl _) o
  have hI := h.below hb
  refine ⟨hI.os, hI.tape, hI.output, hI.size, hI.blk, fun p hp => ?_, fun p hp => ?_⟩
  · rcases List.mem_cons.1 hp with rfl | hp
    · exact heap_alloc_new W o
    · exact hI.held p hp
  · rcases List.mem_cons.1 hp with rfl | hp
    · exact h.size
    · exact hI.new p hp
theorem Inv.alloc2 {O : Nat → Prop} {w W : World} {L : List (Nat × Obj)} (h : Inv O w W L) (o p : Obj) : Inv O w ((W.alloc o).alloc p) ((W.heap.size + 1, p) :: (W.heap.size, o) :: L) := by
  have h2 := (h.alloc o).alloc p
  rwa [show (W.alloc o).heap.size = W.heap.size + 1 from by simp] at h2
theorem Inv.dalloc {O : Nat → Prop} {w W : World} {L : List (Nat × Obj)} (h : Inv O w W L) (o : Obj) : Inv O w (W.drew.alloc o) ((W.heap.size, o) :: L) := h.drew.alloc o
theorem Inv.dalloc2 {O : Nat → Prop} {w W : World} {L : List (Nat × Obj)} (h : Inv O w W L) (o p : Obj) : Inv O w ((W.drew.alloc o).alloc p) ((W.heap.size + 1, p) :: (W.heap.size, o) :: L) := h.drew.alloc2 o p
theorem Inv.cell {O : Nat → Prop} {w W : World} {L : List (Nat × Obj)} (h : Inv O w W L) {b o : Nat} {v : Value} (hc : w.cell? ⟨b, o, none⟩ = some v) (hO : ¬ O b) : W.cell? ⟨b, o, none⟩ = some v := by
  rw [World.cell?_of_block (w := w) (a := ⟨b, o, none⟩) (h.blk b (cellLt hc) hO)]; exact hc
theorem Inv.lt {O : Nat → Prop} {w W : World} {L : List (Nat × Obj)} (h : Inv O w W L) {p : Nat × Obj} (hp : p ∈ L) : p.1 < W.heap.size := (Array.getElem?_eq_some_iff.1 (h.held p hp)).1
theorem Inv.sub {O : Nat → Prop} {w W : World} {L L' : List (Nat × Obj)} (h : Inv O w W L) (hs : ∀ p ∈ L', p ∈ L) : Inv O w W L' := ⟨h.os, h.tape, h.output, h.size, h.blk, fun p hp => h.held p (hs p hp), fun p hp => h.new p (hs p hp)⟩
/-- A cell of w behind a store into a new block. -/
theorem Inv.cellSet {O : Nat → Prop} {w W : World} {L : List (Nat × Obj)} (h : Inv O w W L) {b o p : Nat} {v x : Value} (hc : w.cell? ⟨b, o, none⟩ = some v) (hO : ¬ O b) (hp : w.heap.size ≤ p) : (W.setCell ⟨p, 0, none⟩ x).cell? ⟨b, o, none⟩ = some v := by
  have hl : b < w.heap.size := cellLt hc
  rw [World.cell?_setCell_other _ ⟨p, 0, none⟩ ⟨b, o, none⟩ _ (fun e => by injection e with e1; omega)]
  exact h.cell hc hO
/-- A box of one cell is set. -/
theorem Inv.box {O : Nat → Prop} {w W : World} {L : List (Nat × Obj)} (h : Inv O w W L) {b : Nat} {x v : Value} {t : TypeId} (hb : W.heap[b]? = some (.cells #[x] t (0, 0))) (hw : w.heap.size ≤ b) (hL : ∀ p ∈ L, p.1 ≠ b) : Inv O w (W.setCell ⟨b, 0, none⟩ v) ((b, .cells #[v] t (0, 0)) :: L) := by
  refine ⟨h.os, h.tape, h.output, by rw [size_set]; exact h.size, fun q h1 h2 => ?_, fun p hp => ?_, fun p hp => (List.mem_cons.1 hp).elim (fun e => by rw [e]; exact hw) (h.new p)⟩
  · rw [set_other _ _ _ _ _ (by omega)]; exact h.blk q h1 h2
  · rcases List.mem_cons.1 hp with rfl | hp
    · simp [World.setCell, Array.getElem?_modify, hb]
    · rw [set_other _ _ _ _ _ (hL p hp)]; exact h.held p hp
/-- Bytes in a new block, or none. -/
def NewData (lo : Nat) (L : List (Nat × Obj)) (v : Value) (d : List UInt8) : Prop :=
  (L = [] ∧ v = .slice none 0 0 ∧ d = []) ∨ ∃ g cap cur, L = [(g, .cells cur 5 (0, 0))] ∧ v = .slice (some ⟨g, 0, none⟩) d.length cap ∧ lo ≤ g ∧ d.length ≤ cap ∧ cap ≤ maxLen ∧ cur.size = cap ∧ cur.toList.take d.length = byteVals d
theorem Row.inv {hi : Nat} {O : Nat → Prop} {w W : World} {L : List (Nat × Obj)} {v : Value} {d : List UInt8} (h : Row hi w v d) (hI : Inv O w W L) (hO : ∀ q, q < hi → ¬ O q) : Row hi W v d := by
  obtain ⟨a, c, e, hc', hr⟩ := h
  refine ⟨a, c, e, hc', fun h0 => ?_⟩
  obtain ⟨g, p, ea, hg, hcell⟩ := hr h0
  exact ⟨g, p, ea, hg, fun j u hj => hI.cell (hcell j u hj) (hO g hg)⟩
set_option maxRecDepth 20000 in
set_option maxHeartbeats 1000000 in
/-- bytes.Clone, its block known. -/
theorem bclone_new (hi : Nat) (a : Option Addr) (n c : Nat) (d : List UInt8) (w : World) (h : Row hi w (.slice a n c) d) (hn : d.length = n) (hhi : hi ≤ w.heap.size) (hmax : n ≤ 1000000000) :
    Calls Tryz.prog 57 #[.slice a n c] w fun e w' => ∃ a' c' L, e = .returned (.slice a' n c') ∧ NewData w.heap.size L (.slice a' n c') d ∧ Below w.heap.size w w' ∧ ∀ p ∈ L, w'.heap[p.1]? = some p.2 := by
  have hq := fun w => Lib.run_eql_slice_nil (P := Tryz.prog) w 39 5 a n c 0 0 Tryz.underlying39
  cases a with
  | none =>
    have hn0 : d = [] := by
      obtain ⟨a', c', e, _, hx⟩ := h
      cases d with
      | nil => rfl
      | cons b r =>
        injection e with e1
        obtain ⟨g, o, ea, _⟩ := hx (by simp)
        rw [ea] at e1; cases e1
    subst hn0
    simp only [List.length_nil] at hn
    subst hn
    clear h
    go_enter Tryz.func57, Tryz.ntmps57
    go_wp2_with fail
    go_ret
    exact ⟨none, 0, [], rfl, .inl ⟨rfl, rfl, rfl⟩, Below.refl _ _, fun _ h => by cases h⟩
  | some b =>
    obtain ⟨i, hi', hz, hsz, hby⟩ := info5
    have hA : Below w.heap.size w (w.alloc (.cells #[] 5)) := (Below.refl _ _).alloc (Nat.le_refl _) _
    obtain ⟨v', w', hr, hown, hgr, -⟩ := run_append_own (P := Tryz.prog) (w.alloc (.cells #[] 5)) w.heap.size 39 39 5 i (.int .u8 0) 1 1 Tryz.underlying39 hi' hz hsz hby rfl (by omega) (.slice (some ⟨w.heap.size, 0, none⟩) 0 0) 0 [] (owns_new w 5 1) b n c (byteVals d) (by simp [byteVals, hn])
      (fun j u hj => by
        obtain ⟨a', c', e, _, hx⟩ := h
        injection e with e1
        have hd : 0 < d.length := by have := (List.getElem?_eq_some_iff.1 hj).1; simp [byteVals] at this; omega
        obtain ⟨g, o, ea, hg, hcell⟩ := hx hd
        rw [ea] at e1
        injection e1 with e1
        subst e1
        rw [show (⟨g, o, none⟩ : Addr).add j = ⟨g, o + j, none⟩ from by unfold Addr.add; split <;> simp_all, hA.cell (p := ⟨g, o + j, none⟩) (by show g < _; omega)]
        exact hcell j u hj)
      (fun u hu => by obtain ⟨b, -, rfl⟩ := List.mem_map.1 hu; rfl) (by simp only [maxLen]; omega) (by omega) (by simp)
    rw [List.nil_append, Nat.zero_add] at hown
    have HE : Hid (∃ a' c' L, v' = .slice a' n c' ∧ NewData w.heap.size L (.slice a' n c') d ∧ Below w.heap.size w w' ∧ ∀ p ∈ L, w'.heap[p.1]? = some p.2) := by
      have hB : Below w.heap.size w w' := hA.grown hgr (by simp) (fun k hk => by simp [Value.ownBlock] at hk; omega)
      rcases hown.2 with ⟨e, h0⟩ | ⟨g, cap, cur, e, hg, hh, hcap, hm, hszc, ht⟩
      · subst h0
        obtain rfl : d = [] := List.eq_nil_of_length_eq_zero hn
        exact ⟨none, 0, [], e, .inl ⟨rfl, rfl, rfl⟩, hB, fun _ h => by cases h⟩
      · refine ⟨some ⟨g, 0, none⟩, cap, [(g, .cells cur 5 (0, 0))], e, .inr ⟨g, cap, cur, rfl, by rw [hn], hg, by omega, hm, by omega, ?_⟩, hB, fun p hp => ?_⟩
        · rw [hn, ← ht, Nat.mul_one]
        · simp only [List.mem_singleton] at hp
          subst hp
          exact hh
    have hr' : ∀ ty, (app22 ty #[.slice (some ⟨w.heap.size, 0, none⟩) 0 0, .slice (some b) n c]).run Tryz.prog (w.alloc (.cells #[] 5)) = .ok v' w' := fun _ => hr
    clear h hown hgr hr hA
    go_enter Tryz.func57, Tryz.ntmps57
    go_wp2_with fail
    go_ret
    obtain ⟨a', c', L, rfl, h1, h2, h3⟩ := unhide HE
    exact ⟨a', c', L, rfl, h1, h2, h3⟩
theorem clone_inv {O : Nat → Prop} {w : World} {L : List (Nat × Obj)} (s : ByteArray) (W : World) (hlim : s.size ≤ 281474976710656) (h : Inv O w W L) : Calls Tryz.prog 48 #[.string s] W fun e w' => e = .returned (.string s) ∧ Inv O w w' L :=
  (clone_any s W hlim).mono fun _ _ ⟨e, hb⟩ => ⟨e, h.below hb⟩
theorem bclone_inv {O : Nat → Prop} {w : World} {L : List (Nat × Obj)} (hi : Nat) (a : Option Addr) (n c : Nat) (d : List UInt8) (W : World) (hr : Row hi w (.slice a n c) d) (hn : d.length = n) (hhi : hi ≤ w.heap.size) (hO : ∀ q, q < hi → ¬ O q) (hmax : n ≤ 1000000000) (h : Inv O w W L) :
    Calls Tryz.prog 57 #[.slice a n c] W fun e w' => ∃ a' c' L', e = .returned (.slice a' n c') ∧ NewData w.heap.size L' (.slice a' n c') d ∧ Inv O w w' (L ++ L') :=
  (bclone_new hi a n c d W (hr.inv h hO) hn (Nat.le_trans hhi h.size) hmax).mono fun _ w' ⟨a', c', L', e, hd, hb, hL⟩ => by
    refine ⟨a', c', L', e, ?_, ?_⟩
    · rcases hd with hd | ⟨g, cap, cur, h1, h2, h3, h4⟩
      · exact .inl hd
      · exact .inr ⟨g, cap, cur, h1, h2, Nat.le_trans h.size h3, h4⟩
    · have hI := h.below hb
      refine ⟨hI.os, hI.tape, hI.output, hI.size, hI.blk, fun p hp => (List.mem_append.1 hp).elim (hI.held p) (hL p), fun p hp => (List.mem_append.1 hp).elim (hI.new p) (fun hp => ?_)⟩
      rcases hd with ⟨rfl, _⟩ | ⟨g, cap, cur, rfl, _, h3, _⟩
      · cases hp
      · simp only [List.mem_singleton] at hp
        subst hp
        exact Nat.le_trans h.size h3
theorem Inv.bx {O : Nat → Prop} {w W : World} {L : List (Nat × Obj)} (h : Inv O w W L) {b : Nat} {x : Value} {t : TypeId} (hm : (b, Obj.cells #[x] t (0, 0)) ∈ L) : W.cell? ⟨b, 0, none⟩ = some x ∧ W.frozen? ⟨b, 0, none⟩ = false ∧ b < W.heap.size ∧ b ≠ W.heap.size ∧ W.heap.size ≠ b := by
  have hl := h.lt hm
  have := h.held _ hm
  simp only at this hl
  refine ⟨?_, ?_, hl, by omega, by omega⟩
  · simp [World.cell?, this]
  · simp [World.frozen?, this]
theorem Inv.tne {O : Nat → Prop} {w W : World} {L : List (Nat × Obj)} (h : Inv O w W L) {p q : Nat} {x y : Array Value} {s t : TypeId} {fx fy : Nat × Nat} (hp : (p, Obj.cells x s fx) ∈ L) (hq : (q, Obj.cells y t fy) ∈ L) (hne : (s == t) = false) : p ≠ q ∧ q ≠ p := by
  have h1 := h.held _ hp
  have h2 := h.held _ hq
  simp only at h1 h2
  have : p ≠ q := fun e => by
    rw [e, h2] at h1
    injection h1 with h1
    injection h1 with _ h1
    subst h1
    simp at hne
  exact ⟨this, Ne.symm this⟩
theorem Inv.bne {O : Nat → Prop} {w W : World} {L : List (Nat × Obj)} (h : Inv O w W L) {b : Nat} {x : Obj} (hm : (b, x) ∈ L) {q o : Nat} {v : Value} (hc : w.cell? ⟨q, o, none⟩ = some v) : q ≠ b ∧ b ≠ q := by
  have h1 : q < w.heap.size := cellLt hc
  have h2 : w.heap.size ≤ b := h.new _ hm
  omega
theorem Inv.clt {O : Nat → Prop} {w W : World} {L : List (Nat × Obj)} (h : Inv O w W L) {q o : Nat} {v : Value} (hc : w.cell? ⟨q, o, none⟩ = some v) : q < W.heap.size := by
  have h1 : q < w.heap.size := cellLt hc
  have h2 := h.size
  omega
theorem Inv.ne {O : Nat → Prop} {w W : World} {L : List (Nat × Obj)} (h : Inv O w W L) {p q : Nat} {x y : Obj} (hp : (p, x) ∈ L) (hq : (q, y) ∈ L) (hne : x ≠ y) : p ≠ q := fun e => by
  have h1 := h.held _ hp
  have h2 := h.held _ hq
  simp only at h1 h2
  rw [e, h2] at h1
  exact hne (Option.some.inj h1).symm
theorem Inv.an {O : Nat → Prop} {w W : World} {L : List (Nat × Obj)} (h : Inv O w W L) : Inv O w W (L ++ []) := by rw [List.append_nil]; exact h
/-- Blocks of bytes. -/
def Bytes (L : List (Nat × Obj)) : Prop := ∀ z ∈ L, ∃ cur, z.2 = .cells cur 5 (0, 0)
theorem NewData.bytes {lo : Nat} {L : List (Nat × Obj)} {v : Value} {d : List UInt8} (h : NewData lo L v d) : Bytes L := by
  rcases h with ⟨rfl, _⟩ | ⟨g, cap, cur, rfl, _⟩
  · intro z hz; cases hz
  · intro z hz
    simp only [List.mem_singleton] at hz
    exact ⟨cur, by rw [hz]⟩
theorem Inv.bytes_ne {O : Nat → Prop} {w W : World} {L : List (Nat × Obj)} (h : Inv O w W L) {L3 : List (Nat × Obj)} (hB : Bytes L3) (hs : ∀ z ∈ L3, z ∈ L) {p : Nat} {x : Array Value} {t : TypeId} {fz : Nat × Nat} (hp : (p, Obj.cells x t fz) ∈ L) (ht : (5 == t) = false) : ∀ z ∈ L3, z.1 ≠ p := fun z hz => by
  obtain ⟨cur, e⟩ := hB z hz
  have hz' := hs z hz
  cases z with
  | mk g o =>
    simp only at e
    subst e
    exact (h.tne hz' hp ht).1
section
variable {O : Nat → Prop} {w W : World} {L3 : List (Nat × Obj)} {s t : TypeId} {x y u v : Value} {p q : Nat}
theorem Inv.finA (h : Inv O w W ([] ++ L3)) : Inv O w ((W.alloc (.cells #[x] s)).alloc (.cells #[y] t)) ((W.heap.size + 1, .cells #[y] t (0, 0)) :: (W.heap.size, .cells #[x] s (0, 0)) :: L3) := h.alloc2 _ _
theorem Inv.finB (h : Inv O w W ([] ++ L3)) : Inv O w ((W.alloc (.cells #[y] t)).alloc (.cells #[x] s)) ((W.heap.size, .cells #[y] t (0, 0)) :: (W.heap.size + 1, .cells #[x] s (0, 0)) :: L3) :=
  (h.alloc2 _ _).sub fun z hz => by
    simp only [List.mem_cons] at hz ⊢
    rcases hz with h | h | h
    · exact .inr (.inl h)
    · exact .inl h
    · exact .inr (.inr (by simpa using h))
theorem Inv.finC (h : Inv O w W ([(p, .cells #[u] s (0, 0))] ++ L3)) (hB : Bytes L3) (hs : (5 == s) = false) : Inv O w ((W.setCell ⟨p, 0, none⟩ x).alloc (.cells #[y] t)) ((W.heap.size, .cells #[y] t (0, 0)) :: (p, .cells #[x] s (0, 0)) :: L3) := by
  have h0 := h.sub (L' := L3) (fun z hz => List.mem_append_right _ hz)
  have hm : (p, Obj.cells #[u] s (0, 0)) ∈ [(p, Obj.cells #[u] s (0, 0))] ++ L3 := List.mem_append_left _ (List.mem_cons_self ..)
  have h1 := (h0.box (v := x) (h.held _ hm) (h.new _ hm) (h.bytes_ne hB (fun z hz => List.mem_append_right _ hz) hm hs)).alloc (.cells #[y] t)
  rwa [size_set] at h1
theorem Inv.finD (h : Inv O w W ([(p, .cells #[v] t (0, 0))] ++ L3)) (hB : Bytes L3) (hs : (5 == t) = false) : Inv O w ((W.setCell ⟨p, 0, none⟩ y).alloc (.cells #[x] s)) ((p, .cells #[y] t (0, 0)) :: (W.heap.size, .cells #[x] s (0, 0)) :: L3) :=
  (h.finC hB hs).sub fun z hz => by
    simp only [List.mem_cons] at hz ⊢
    rcases hz with h | h | h
    · exact .inr (.inl h)
    · exact .inl h
    · exact .inr (.inr h)
theorem Inv.finE {L : List (Nat × Obj)} (h : Inv O w W (L ++ L3)) (hp : (p, .cells #[u] s (0, 0)) ∈ L) (hq : (q, .cells #[v] t (0, 0)) ∈ L) (hpq : p ≠ q) (hB : Bytes L3) (hs : (5 == s) = false) (ht : (5 == t) = false) : Inv O w ((W.setCell ⟨p, 0, none⟩ x).setCell ⟨q, 0, none⟩ y) ((q, .cells #[y] t (0, 0)) :: (p, .cells #[x] s (0, 0)) :: L3) := by
  have hmp := List.mem_append_left L3 hp
  have hmq := List.mem_append_left L3 hq
  have hn1 := h.bytes_ne hB (fun z hz => List.mem_append_right _ hz) hmp hs
  have hn2 := h.bytes_ne hB (fun z hz => List.mem_append_right _ hz) hmq ht
  have h1 := (h.sub (L' := (q, .cells #[v] t (0, 0)) :: L3) (fun z hz => by
    rcases List.mem_cons.1 hz with rfl | hz
    · exact hmq
    · exact List.mem_append_right _ hz)).box (v := x) (h.held _ hmp) (h.new _ hmp) (fun z hz => by
    rcases List.mem_cons.1 hz with rfl | hz
    · exact Ne.symm hpq
    · exact hn1 z hz)
  exact (h1.sub (L' := (p, .cells #[x] s (0, 0)) :: L3) (fun z hz => by
    rcases List.mem_cons.1 hz with rfl | hz
    · exact List.mem_cons_self ..
    · exact List.mem_cons_of_mem _ (List.mem_cons_of_mem _ hz))).box (v := y) (b := q) (x := v) (t := t) (h1.held (q, .cells #[v] t (0, 0)) (List.mem_cons_of_mem _ (List.mem_cons_self ..))) (h.new _ hmq) (fun z hz => by
    rcases List.mem_cons.1 hz with rfl | hz
    · exact hpq
    · exact hn2 z hz)
end
end Go.Proofs.YtebcmicmklpflaaGreatDoor
/- alone, in any table. -/
namespace Go.Proofs.YtebcmicmklpflaaGreatDoor
open Go.RowKit Go.Maps
set_option linter.unusedSimpArgs false
/-- How many bytes go with a name. -/
def Tb.alone (T : Tb) (s : ByteArray) : Nat :=
  match T.N s with
  | none => 0
  | some i => if 1 < T.c i then 0 else (T.D i).length
set_option maxRecDepth 20000 in
set_option maxHeartbeats 1000000 in
theorem alone_any (f o : Nat) (K : Nat → Option (List UInt8)) (m : Option Nat) (n : Nat) (T : Tb) (F : Nat → Prop) (b : Nat → Nat) (h : Nat → Value) (s : ByteArray) (w : World) (hc : w.cell? ⟨f, o, none⟩ = some (.map m)) (hT : TabM w K m n T F b h) (hs : s.size ≤ maxLen) :
    Calls Tryz.prog 69 #[.pointer (some ⟨f, o, none⟩), .string s] w fun e w' => e = .returned (.int .i64 (T.alone s : Int)) ∧ w' = w := by
  cases hN : T.N s with
  | none =>
    have e0 : T.alone s = 0 := by unfold Tb.alone; rw [hN]
    rw [e0]
    exact alone_none f o m n _ s w hc hT.tab hs (by simp [hN])
  | some i =>
    have hi := hT.live s i hN
    have hfi := hT.file i hi
    obtain ⟨a0, c0, eh⟩ := (hT.data i hi).len
    have hl := tab_look hT.tab hs
    simp only [hN, Option.map_some] at hl
    unfold ptr at hl
    have hg0 : w.cell? ⟨b i, 0, none⟩ = some (.slice a0 (T.D i).length c0) := by simp [World.cell?, hfi, eh]
    have hg1 : w.cell? ⟨b i, 1, none⟩ = some (.int .i32 (T.c i)) := by simp [World.cell?, hfi]
    have HL := hide (load32 ⟨b i, 1, none⟩ (T.c i) w hg1)
    by_cases h1 : 1 < T.c i
    · have e0 : T.alone s = 0 := by unfold Tb.alone; rw [hN]; simp only [if_pos h1]
      rw [e0]
      clear hT hfi eh hN hi
      go_enter Tryz.func69, Tryz.ntmps69
      go_wp2_with (go_at_call 111; refine (unhide HL).mono ?_; rintro e w2 ⟨rfl, rfl⟩)
      go_ret
      exact ⟨rfl, rfl⟩
    · have e0 : T.alone s = (T.D i).length := by unfold Tb.alone; rw [hN]; simp only [if_neg h1]
      rw [e0]
      clear hT hfi eh hN hi
      generalize (T.D i).length = D at *
      go_enter Tryz.func69, Tryz.ntmps69
      go_wp2_with (go_at_call 111; refine (unhide HL).mono ?_; rintro e w2 ⟨rfl, rfl⟩)
      go_ret
      exact ⟨rfl, rfl⟩
theorem has_tab (f o : Nat) (K : Nat → Option (List UInt8)) (m : Option Nat) (n : Nat) (T : Tb) (F : Nat → Prop) (b : Nat → Nat) (h : Nat → Value) (s : ByteArray) (w : World) (hc : w.cell? ⟨f, o, none⟩ = some (.map m)) (hT : TabM w K m n T F b h) (hs : s.size ≤ maxLen) :
    Calls Tryz.prog 67 #[.pointer (some ⟨f, o, none⟩), .string s] w fun e w' => e = .returned (.bool (T.N s).isSome) ∧ w' = w := by
  have := has_any f o m n _ s w hc hT.tab hs
  simpa using this
set_option maxRecDepth 20000 in
set_option maxHeartbeats 1000000 in
theorem full_not (f o : Nat) (m : Option Nat) (n : Nat) (L : ByteArray → Option Nat) (w : World) (hc : w.cell? ⟨f, o, none⟩ = some (.map m)) (h : TabIs w m n L) (hn : n ≤ 16383) :
    Calls Tryz.prog 68 #[.pointer (some ⟨f, o, none⟩)] w fun e w' => e = .returned (.bool false) ∧ w' = w := by
  obtain ⟨k, hk, hkn⟩ := tab_len h 3
  have hkl : k ≤ 16383 := by omega
  clear hkn h
  go_enter Tryz.func68, Tryz.ntmps68
  go_wp2_with fail
  go_ret
  have e : decide ((16384 : Int) ≤ (k : Int)) = false := decide_eq_false (by omega)
  exact ⟨by rw [← e]; rfl, rfl⟩
end Go.Proofs.YtebcmicmklpflaaGreatDoor
/- A FS in memory. -/
namespace Go.Proofs.YtebcmicmklpflaaGreatDoor
open Go.RowKit Go.Maps
set_option linter.unusedSimpArgs false
/-- A thing. -/
inductive Th where
  | write (s : ByteArray) (d : List UInt8) (i : Nat)
  | fill (s : ByteArray) (d : List UInt8)
  | lay (s old : ByteArray)
  | move (old s : ByteArray)
  | drop (s : ByteArray)
/-- What it does to a table whose stamps are below z. -/
def Th.ap : Th → Tb × Nat → Option (Tb × Nat)
  | .write s d i, (T, z) => if z ≤ i then some (T.write s d i, i + 1) else none
  | .fill s d, (T, z) => (T.N s).map fun i => (T.put i d, z)
  | .lay s old, (T, z) => (T.N old).map fun i => (T.lay s i, z)
  | .move old s, (T, z) => (T.N old).map fun _ => (T.move old s, z)
  | .drop s, (T, z) => some (T.drop s, z)
def runs : List Th → Tb × Nat → Option (Tb × Nat)
  | [], x => some x
  | t :: l, x => (t.ap x).bind (runs l)
theorem runs_snoc (l : List Th) (t : Th) : ∀ x, runs (l ++ [t]) x = (runs l x).bind t.ap := by
  induction l with
  | nil => intro x; simp [runs]
  | cons a l ih =>
    intro x
    simp only [List.cons_append, runs]
    cases a.ap x with
    | none => rfl
    | some y => simp [ih]
/-- A FS: its room, its two tables, what is pending, and how much the fuse bears. -/
structure Fs where
  room : Nat
  now : Tb
  las : Tb
  pend : List Th
  fuse : Option Nat
/-- A thing in memory. -/
def ThIs (w : World) (K : Nat → Option (List UInt8)) (O : Nat → Prop) (v : Value) : Th → Prop
  | .write s d _ => ∃ pn pd hv, v = .func (.func 70) #[] #[.pointer (some ⟨pn, 0, none⟩), .pointer (some ⟨pd, 0, none⟩)] ∧ O pn ∧ O pd ∧ w.heap[pn]? = some (.cells #[.string s] 9 (0, 0)) ∧ w.heap[pd]? = some (.cells #[hv] 39 (0, 0)) ∧ DataIs K hv d ∧ s.size ≤ 300 ∧ d.length ≤ 1048576
  | .fill s d => ∃ pn pd hv, v = .func (.func 193) #[] #[.pointer (some ⟨pn, 0, none⟩), .pointer (some ⟨pd, 0, none⟩)] ∧ O pn ∧ O pd ∧ w.heap[pn]? = some (.cells #[.string s] 9 (0, 0)) ∧ w.heap[pd]? = some (.cells #[hv] 39 (0, 0)) ∧ DataIs K hv d ∧ s.size ≤ 300 ∧ d.length ≤ 1048576
  | .lay _ _ => False
  | .move old s => ∃ pn po, v = .func (.func 207) #[] #[.pointer (some ⟨po, 0, none⟩), .pointer (some ⟨pn, 0, none⟩)] ∧ O pn ∧ O po ∧ w.heap[pn]? = some (.cells #[.string s] 9 (0, 0)) ∧ w.heap[po]? = some (.cells #[.string old] 9 (0, 0)) ∧ s.size ≤ 300 ∧ old.size ≤ 300
  | .drop s => ∃ pn, v = .func (.func 196) #[] #[.pointer (some ⟨pn, 0, none⟩)] ∧ O pn ∧ w.heap[pn]? = some (.cells #[.string s] 9 (0, 0)) ∧ s.size ≤ 300
/-- What is known grows. -/
def Kle (K K' : Nat → Option (List UInt8)) : Prop := ∀ g l, K g = some l → ∃ l', K' g = some l' ∧ l <+: l'
theorem Kle.refl (K : Nat → Option (List UInt8)) : Kle K K := fun _ l h => ⟨l, h, List.prefix_refl l⟩
theorem DataIs.mono {K K' : Nat → Option (List UInt8)} {v : Value} {d : List UInt8} (h : DataIs K v d) (hK : Kle K K') : DataIs K' v d := by
  obtain ⟨a, c, e, h1, h2, h3⟩ := h
  refine ⟨a, c, e, h1, h2, h3.imp id ?_⟩
  rintro ⟨g, l, ea, hg, hd⟩
  obtain ⟨l', hl, hp⟩ := hK g l hg
  exact ⟨g, l', ea, hl, hd.trans hp⟩
theorem ThIs.mono {w w' : World} {K K' : Nat → Option (List UInt8)} {O O' : Nat → Prop} {v : Value} {t : Th} (h : ThIs w K O v t) (hK : Kle K K') (hO : ∀ q, O q → O' q) (hw : ∀ q x ty, O q → w.heap[q]? = some (.cells #[x] ty (0, 0)) → ty = 9 ∨ ty = 39 → w'.heap[q]? = w.heap[q]?) : ThIs w' K' O' v t := by
  cases t with
  | write s d i => obtain ⟨pn, pd, hv, e, o1, o2, h1, h2, hd, hs, hl⟩ := h; exact ⟨pn, pd, hv, e, hO _ o1, hO _ o2, (hw _ _ _ o1 h1 (.inl rfl)).trans h1, (hw _ _ _ o2 h2 (.inr rfl)).trans h2, hd.mono hK, hs, hl⟩
  | fill s d => obtain ⟨pn, pd, hv, e, o1, o2, h1, h2, hd, hs, hl⟩ := h; exact ⟨pn, pd, hv, e, hO _ o1, hO _ o2, (hw _ _ _ o1 h1 (.inl rfl)).trans h1, (hw _ _ _ o2 h2 (.inr rfl)).trans h2, hd.mono hK, hs, hl⟩
  | lay s old => exact h.elim
  | move old s => obtain ⟨pn, po, e, o1, o2, h1, h2, hs⟩ := h; exact ⟨pn, po, e, hO _ o1, hO _ o2, (hw _ _ _ o1 h1 (.inl rfl)).trans h1, (hw _ _ _ o2 h2 (.inl rfl)).trans h2, hs⟩
  | drop s => obtain ⟨pn, e, o1, h1, hs⟩ := h; exact ⟨pn, e, hO _ o1, (hw _ _ _ o1 h1 (.inl rfl)).trans h1, hs⟩
/-- The data blocks hold what is known. -/
def KOK (w : World) (K : Nat → Option (List UInt8)) : Prop := ∀ g l, K g = some l → ∃ cur, w.heap[g]? = some (.cells cur 5 (0, 0)) ∧ byteVals l <+: cur.toList
/-- The room behind a slice is nobody's. -/
def Rm (w : World) (K : Nat → Option (List UInt8)) (v : Value) : Prop := ∀ g n c, v = .slice (some ⟨g, 0, none⟩) n c → n < c → ∃ l cur, K g = some l ∧ l.length = n ∧ w.heap[g]? = some (.cells cur 5 (0, 0)) ∧ cur.size = c
def Apart (v v' : Value) : Prop := ∀ g n c n' c', v = .slice (some ⟨g, 0, none⟩) n c → v' = .slice (some ⟨g, 0, none⟩) n' c' → n < c → n' < c' → False
/-- How a table lies. -/
structure Lie where
  m : Option Nat
  n : Nat
  F : Nat → Prop
  b : Nat → Nat
  h : Nat → Value
  k : Nat
  z : Nat
  e : Nat → Prop
/-- A table that lies so, in blocks of O. -/
structure TabL (w : World) (K : Nat → Option (List UInt8)) (O : Nat → Prop) (T : Tb) (l : Lie) : Prop where
  tab : TabM w K l.m l.n T l.F l.b l.h
  ok : T.Ok l.k
  nk : l.n ≤ l.k
  om : ∀ q, l.m = some q → O q
  ob : ∀ i, l.F i → O (l.b i)
  st : ∀ i, l.F i → i < l.z
/-- The FS's own block. -/
def fsBlk (lk : Int) (S : Fs) (mn ml : Option Nat) (pv : Value) : Obj :=
  .cells #[.int .i32 lk, .int .u32 0, .int .i64 (S.room : Int), .map mn, .int .i64 S.now.u, .map ml, .int .i64 S.las.u, pv, .bool S.fuse.isSome, .int .i64 ((S.fuse.getD 0 : Nat) : Int)] 92 (0, 0)
/-- A FS in memory, whose table now is made out of lasting by X. -/
structure FsM (w : World) (f : Nat) (lk : Int) (S : Fs) (X : List Th) (O : Nat → Prop) (K : Nat → Option (List UInt8)) (n l : Lie) (pv : Value) (ps : List Value) : Prop where
  blk : w.heap[f]? = some (fsBlk lk S n.m l.m pv)
  now : TabL w K O S.now n
  las : TabL w K O S.las l
  dis : ∀ i j, n.F i → l.F j → n.b i ≠ l.b j
  mdis : ∀ q, n.m = some q → l.m ≠ some q
  kok : KOK w K
  rm : ∀ i, n.F i → ¬ n.e i → Rm w K (n.h i)
  ap : ∀ i j, n.F i → n.F j → ¬ n.e i → ¬ n.e j → i ≠ j → Apart (n.h i) (n.h j)
  row : w.ownsRow 0 120 1 pv S.pend.length ps
  ths : ∀ (j : Nat) (v : Value) (t : Th), ps[j]? = some v → S.pend[j]? = some t → ThIs w K O v t
  run : runs X (S.las, l.z) = some (S.now, n.z)
  kb : l.k + 3 * X.length ≤ n.k
  nb : l.n + X.length ≤ n.k
  pl : S.pend.length ≤ 16383
  room : S.room ≤ 1073741824
  fz : S.fuse.getD 0 ≤ 9223372036854775807
  of : O f
  oK : ∀ g x, K g = some x → O g
  op : ∀ q, pv.ownBlock = some q → O q
  lt : ∀ q, O q → q < w.heap.size
/-- A FS in memory. -/
def FsIs (w : World) (f : Nat) (lk : Int) (S : Fs) (O : Nat → Prop) (k : Nat) : Prop := ∃ K n l pv ps, FsM w f lk S S.pend O K n l pv ps ∧ n.k ≤ k ∧ ∀ i, ¬ n.e i
/-- What a call of a FS leaves to others. -/
structure FFr (O O' : Nat → Prop) (w w' : World) : Prop where
  os : w'.os = w.os
  tape : w'.tape = w.tape
  output : w'.output = w.output
  size : w.heap.size ≤ w'.heap.size
  rest : ∀ q, q < w.heap.size → ¬ O q → w'.heap[q]? = w.heap[q]?
  new : ∀ q, O' q → O q ∨ w.heap.size ≤ q
theorem FFr.refl (O : Nat → Prop) (w : World) : FFr O O w w := ⟨rfl, rfl, rfl, Nat.le_refl _, fun _ _ _ => rfl, fun _ h => .inl h⟩
theorem FFr.trans {O O1 O2 : Nat → Prop} {w w1 w2 : World} (h : FFr O O1 w w1) (k : FFr O1 O2 w1 w2) : FFr O O2 w w2 :=
  ⟨k.os.trans h.os, k.tape.trans h.tape, k.output.trans h.output, Nat.le_trans h.size k.size, fun q h1 h2 => by
    rw [k.rest q (Nat.lt_of_lt_of_le h1 h.size) (fun h3 => (h.new q h3).elim h2 (fun h4 => by omega)), h.rest q h1 h2], fun q hq => by
    rcases k.new q hq with h3 | h3
    · exact h.new q h3
    · exact .inr (Nat.le_trans h.size h3)⟩
/-- It stands where its blocks stand. -/
theorem FsM.kept {w w' : World} {f : Nat} {lk : Int} {S : Fs} {X : List Th} {O : Nat → Prop} {K : Nat → Option (List UInt8)} {n l : Lie} {pv : Value} {ps : List Value} (h : FsM w f lk S X O K n l pv ps) (hs : w.heap.size ≤ w'.heap.size) (hw : ∀ q, O q → w'.heap[q]? = w.heap[q]?) : FsM w' f lk S X O K n l pv ps := by
  have hTL : ∀ {T : Tb} {l : Lie}, TabL w K O T l → TabL w' K O T l := fun hT => ⟨hT.tab.kept (fun q e => hw q (hT.om q e)) (fun i hi => hw _ (hT.ob i hi)), hT.ok, hT.nk, hT.om, hT.ob, hT.st⟩
  refine ⟨(hw f h.of).trans h.blk, hTL h.now, hTL h.las, h.dis, h.mdis, fun g x hg => ?_, fun i hi hx g n c e hlt => ?_, h.ap, ⟨h.row.1, h.row.2.imp id ?_⟩, fun j v t h1 h2 => (h.ths j v t h1 h2).mono (Kle.refl _) (fun _ h => h) (fun q x ty o _ _ => hw q o), h.run, h.kb, h.nb, h.pl, h.room, h.fz, h.of, h.oK, h.op, fun q o => Nat.lt_of_lt_of_le (h.lt q o) hs⟩
  · rw [hw g (h.oK g x hg)]; exact h.kok g x hg
  · obtain ⟨l, cur, h1, h2, h3, h4⟩ := h.rm i hi hx g n c e hlt
    exact ⟨l, cur, h1, h2, by rw [hw g (h.oK g l h1)]; exact h3, h4⟩
  · rintro ⟨g, cap, cur, e, h1, h2, h3⟩
    exact ⟨g, cap, cur, e, h1, by rw [hw g (h.op g (by rw [e]; rfl))]; exact h2, h3⟩
theorem FsIs.kept {w w' : World} {f : Nat} {lk : Int} {S : Fs} {O : Nat → Prop} {k : Nat} (h : FsIs w f lk S O k) (hs : w.heap.size ≤ w'.heap.size) (hw : ∀ q, O q → w'.heap[q]? = w.heap[q]?) : FsIs w' f lk S O k := by
  obtain ⟨K, n, l, pv, ps, hM, hk⟩ := h
  exact ⟨K, n, l, pv, ps, hM.kept hs hw, hk⟩
theorem FsM.below {w w' : World} {f : Nat} {lk : Int} {S : Fs} {X : List Th} {O : Nat → Prop} {K : Nat → Option (List UInt8)} {n l : Lie} {pv : Value} {ps : List Value} (h : FsM w f lk S X O K n l pv ps) (hb : Below w.heap.size w w') : FsM w' f lk S X O K n l pv ps := h.kept hb.size (fun q o => hb.block q (h.lt q o))
theorem tag_ne {w : World} {p q : Nat} {x y : Array Value} {s t : TypeId} {fx fy : Nat × Nat} (hp : w.heap[p]? = some (.cells x s fx)) (hq : w.heap[q]? = some (.cells y t fy)) (hne : s ≠ t) : p ≠ q := fun e => by
  rw [e, hq] at hp
  injection hp with hp
  injection hp with _ hp
  exact hne hp.symm
theorem map_ne {w : World} {p q : Nat} {n : Nat} {L : ByteArray → Option Nat} {y : Array Value} {t : TypeId} {fy : Nat × Nat} (hp : TabIs w (some p) n L) (hq : w.heap[q]? = some (.cells y t fy)) : p ≠ q := fun e => by
  obtain ⟨es, cl, hb⟩ := hp.block
  rw [e, hq] at hb
  cases hb
theorem FsM.mne {w : World} {f : Nat} {lk : Int} {S : Fs} {X : List Th} {O : Nat → Prop} {K : Nat → Option (List UInt8)} {n l : Lie} {pv : Value} {ps : List Value} (h : FsM w f lk S X O K n l pv ps) {T : Tb} {a : Lie} (hT : TabL w K O T a) : ∀ q, a.m = some q → q ≠ f := fun q e => by
  have := hT.tab.tab
  rw [e] at this
  exact map_ne this h.blk
theorem FsM.bne {w : World} {f : Nat} {lk : Int} {S : Fs} {X : List Th} {O : Nat → Prop} {K : Nat → Option (List UInt8)} {n l : Lie} {pv : Value} {ps : List Value} (h : FsM w f lk S X O K n l pv ps) {T : Tb} {a : Lie} (hT : TabL w K O T a) : ∀ i, a.F i → a.b i ≠ f := fun i hi => tag_ne (hT.tab.file i hi) h.blk (by decide)
/-- The FS's own block is another one, all else stands. -/
theorem FsM.reset {w w' : World} {f : Nat} {lk lk' : Int} {S S' : Fs} {X : List Th} {O : Nat → Prop} {K : Nat → Option (List UInt8)} {n l : Lie} {pv : Value} {ps : List Value} (h : FsM w f lk S X O K n l pv ps) (h1 : S'.now = S.now) (h2 : S'.las = S.las) (h3 : S'.pend = S.pend) (h4 : S'.room = S.room) (h5 : S'.fuse.getD 0 ≤ 9223372036854775807)
    (hs : w.heap.size ≤ w'.heap.size) (hb : w'.heap[f]? = some (fsBlk lk' S' n.m l.m pv)) (hw : ∀ q, O q → q ≠ f → w'.heap[q]? = w.heap[q]?) : FsM w' f lk' S' X O K n l pv ps := by
  have hTL : ∀ {T : Tb} {l : Lie}, TabL w K O T l → TabL w' K O T l := fun hT => ⟨hT.tab.kept (fun q e => hw q (hT.om q e) (h.mne hT q e)) (fun i hi => hw _ (hT.ob i hi) (h.bne hT i hi)), hT.ok, hT.nk, hT.om, hT.ob, hT.st⟩
  have hrow : w'.ownsRow 0 120 1 pv S.pend.length ps := by
    refine ⟨h.row.1, h.row.2.imp id ?_⟩
    rintro ⟨g, cap, cur, e, h1, h2, h3⟩
    exact ⟨g, cap, cur, e, h1, by rw [hw g (h.op g (by rw [e]; rfl)) (tag_ne h2 h.blk (by decide))]; exact h2, h3⟩
  refine ⟨hb, by rw [h1]; exact hTL h.now, by rw [h2]; exact hTL h.las, h.dis, h.mdis, fun g x hg => ?_, fun i hi hx g n c e hlt => ?_, h.ap, by rw [h3]; exact hrow, fun j v t e1 e2 => (h.ths j v t e1 (by rw [← h3]; exact e2)).mono (Kle.refl _) (fun _ h => h) (fun q x ty o hq ht => hw q o (tag_ne hq h.blk (by rcases ht with rfl | rfl <;> decide))), by rw [h1, h2]; exact h.run, h.kb, h.nb, by rw [h3]; exact h.pl, by rw [h4]; exact h.room, h5, h.of, h.oK, h.op, fun q o => Nat.lt_of_lt_of_le (h.lt q o) hs⟩
  · obtain ⟨cur, hc, hp⟩ := h.kok g x hg
    exact ⟨cur, by rw [hw g (h.oK g x hg) (tag_ne hc h.blk (by decide))]; exact hc, hp⟩
  · obtain ⟨l, cur, h1, h2, h3, h4⟩ := h.rm i hi hx g n c e hlt
    exact ⟨l, cur, h1, h2, by rw [hw g (h.oK g l h1) (tag_ne h3 h.blk (by decide))]; exact h3, h4⟩
theorem FsM.lock {w : World} {f : Nat} {lk : Int} {S : Fs} {X : List Th} {O : Nat → Prop} {K : Nat → Option (List UInt8)} {n l : Lie} {pv : Value} {ps : List Value} (h : FsM w f lk S X O K n l pv ps) (lk' : Int) : FsM (w.setCell ⟨f, 0, none⟩ (.int .i32 lk')) f lk' S X O K n l pv ps :=
  h.reset rfl rfl rfl rfl h.fz (by rw [size_set]; exact Nat.le_refl _) (by simp [World.setCell, Array.getElem?_modify, h.blk, fsBlk]) (fun q _ hne => set_other _ _ _ _ _ hne)
theorem FsM.cells {w : World} {f : Nat} {lk : Int} {S : Fs} {X : List Th} {O : Nat → Prop} {K : Nat → Option (List UInt8)} {n l : Lie} {pv : Value} {ps : List Value} (h : FsM w f lk S X O K n l pv ps) :
    w.cell? ⟨f, 0, none⟩ = some (.int .i32 lk) ∧ w.cell? ⟨f, 2, none⟩ = some (.int .i64 (S.room : Int)) ∧ w.cell? ⟨f, 3, none⟩ = some (.map n.m) ∧ w.cell? ⟨f, 4, none⟩ = some (.int .i64 S.now.u) ∧ w.cell? ⟨f, 5, none⟩ = some (.map l.m) ∧ w.cell? ⟨f, 6, none⟩ = some (.int .i64 S.las.u) ∧ w.cell? ⟨f, 7, none⟩ = some pv ∧ w.cell? ⟨f, 8, none⟩ = some (.bool S.fuse.isSome) ∧ w.cell? ⟨f, 9, none⟩ = some (.int .i64 ((S.fuse.getD 0 : Nat) : Int)) ∧ ∀ j, w.frozen? ⟨f, j, none⟩ = false := by
  have hb := h.blk
  unfold fsBlk at hb
  refine ⟨?_, ?_, ?_, ?_, ?_, ?_, ?_, ?_, ?_, fun j => ?_⟩
  all_goals first | (simp [World.cell?, hb]; done) | (simp [World.frozen?, hb]; done)
end Go.Proofs.YtebcmicmklpflaaGreatDoor
