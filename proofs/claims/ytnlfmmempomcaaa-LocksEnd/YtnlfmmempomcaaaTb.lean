/- LocksEnd: its arms. -/
import Derived.Test.YtnlfmmempomcaaaTa
import Derived.Test.YtnlfmmempomcaaaMf
import Derived.Deep.Draws
namespace Go.Proofs.Ytnlfmmempomcaaa
open Go.RowKit Go.Maps
set_option linter.unusedSimpArgs false
/-- What stands between steps: T: the tasks' row, V: among these are all who hold or wait. -/
structure EnS (tb : Nat) (w : World) (T V : List Int) (vt : Value) (O : Ghost) (S : St) (k : Nat) (wr : World) : Prop where
  tab : TbIs O tb S
  mem : Mem k O wr
  bel : Below w.heap.size w wr
  out : ∀ q, q < w.heap.size → O q = none
  few : Few S V
  nor : NoRing S
  row : Nums w.heap.size O wr vt T
  nd : T.Nodup
  ok : ∀ n ∈ T, IOk n
theorem TbIs.emp {O : Ghost} {tb : Nat} {S : St} (h : TbIs O tb S) : Emp S := by obtain ⟨_, _, _, _, _, _, hE, _⟩ := h; exact hE
theorem TbIs.inv' {O : Ghost} {tb : Nat} {S : St} (h : TbIs O tb S) : Inv S := by obtain ⟨_, _, _, _, _, hI, _⟩ := h; exact hI
theorem below_drN (w : World) (q : Nat) : Below w.heap.size w (w.drewN q) := ⟨rfl, rfl, rfl, Nat.le_refl _, fun _ _ => rfl⟩
section
variable {tb : Nat} {w : World} {T V : List Int} {vt : Value} {O : Ghost} {S : St} {k : Nat} {wr : World}
theorem EnS.below (h : EnS tb w T V vt O S k wr) {w' : World} (hb : Below wr.heap.size wr w') : EnS tb w T V vt O S k w' :=
  ⟨h.tab, Rp.below h.mem hb, h.bel.trans (hb.mono h.bel.size), h.out, h.few, h.nor, h.row.kept (Stp.ofBelow (c := 0) hb), h.nd, h.ok⟩
theorem EnS.step (h : EnS tb w T V vt O S k wr) {w' : World} {O' : Ghost} {S' : St} {k' : Nat} {V' : List Int} (h1 : TbIs O' tb S') (h2 : Mem k' O' w') (h3 : Stp 0 wr.heap.size O O' wr w') (h4 : Few S' V') (h5 : NoRing S') : EnS tb w T V' vt O' S' k' w' :=
  ⟨h1, h2, ⟨h3.os.trans h.bel.os, h3.tape.trans h.bel.tape, h3.output.trans h.bel.output, Nat.le_trans h.bel.size h3.size, fun q hq => (h3.rest q (Nat.lt_of_lt_of_le hq h.bel.size) (h.out q hq)).trans (h.bel.block q hq)⟩,
   fun q hq => h3.dom q (Nat.lt_of_lt_of_le hq h.bel.size) (h.out q hq), h4, h5, h.row.kept h3, h.nd, h.ok⟩
/-- Take. -/
theorem en_take (h : EnS tb w T V vt O S k wr) (n : Int) (s : ByteArray) (x : Bool) (hn : IOk n) (hs : s.size ≤ 4000) (hk : k < 100000) (hV : V.length ≤ 1000) :
    Calls Try.prog 12 #[.pointer (some ⟨tb, 0, none⟩), .int .i64 n, .string s, .bool x] wr fun e w1 => (∃ b z, e = .returned (.tuple #[.bool b, .int .i64 z])) ∧ ∃ O' S', EnS tb w T (V ++ [n]) vt O' S' (k + 4) w1 ∧ (n < 0 → Few S' V) := by
  have hI := h.tab.inv'
  have hrow := h.few.rowlen hI s
  refine (take_all O tb S wr h.mem h.tab n s x hn (by omega) (by omega) (by omega)).mono ?_
  rintro e w1 ⟨rfl, O1, p1, p2, p3⟩
  refine ⟨⟨_, _, rfl⟩, O1, _, h.step p1 p2 p3 ((h.few.mono fun m hm => List.mem_append_left _ hm).take n s x (by simp)) (noring_take h.nor n s x), fun h0 => ?_⟩
  have : (S.take n s x).1 = S := by unfold St.take; rw [if_pos h0]
  rw [this]
  exact h.few
/-- Leave: the task is gone. -/
theorem en_leave (h : EnS tb w T V vt O S k wr) (n : Int) (hn : IOk n) (hk : k < 100000) (hV : V.length ≤ 1000) (V' : List Int) (hV' : ∀ m ∈ V, m ≠ n → m ∈ V') :
    Calls Try.prog 17 #[.pointer (some ⟨tb, 0, none⟩), .int .i64 n] wr fun e w1 => (∃ v, e = .returned v) ∧ ∃ O' S', EnS tb w T V' vt O' S' (k + 4 * V.length) w1 := by
  have hI := h.tab.inv'
  have hq : S.queue n ≤ V.length := by
    unfold St.queue
    cases e : S.wt n with
    | none => exact Nat.zero_le _
    | some x => exact h.few.rowlen hI x.1
  have hsum : ∀ ks, Names (fun t => n ∈ S.hs t) ks → sumRw (S.stop n).1 ks ≤ V.length := fun ks hN => sumRw_le (h.few.stop n) (stop_inv hI n) ks hN.nd
  refine (leave_all (C := k + 4 * V.length) O tb S wr h.mem h.tab n hn (by omega) (by omega) fun ks hN => by have := hsum ks hN; omega).mono ?_
  rintro e w1 ⟨v, rfl, ks, hN, O', p1, p2, p3, p4⟩
  have hf := (h.few.stop n).leaves n ks
  obtain ⟨h1, h2⟩ := stop_wt S n
  obtain ⟨h3, h4⟩ := leaves_gone ks (stop_inv hI n) h1
  have hI' := p1.inv'
  refine ⟨⟨v, rfl⟩, O', _, h.step p1 p2 p3 ⟨fun s m x hx => ?_, fun s m hm => ?_⟩ (((less_stop S n).trans (less_leaves n ks _)).noring h.nor)⟩
  · refine hV' m (hf.row s m x hx) fun e => ?_
    have := (hI'.wait m s x).2 hx
    rw [e, h3] at this
    cases this
  · refine hV' m (hf.hld s m hm) fun e => ?_
    rw [e] at hm
    obtain ⟨h5, h6⟩ := (h4 s).1 hm
    exact h6 ((hN.mem s).2 ((h2 s).1 h5))
/-- A task joins the row. -/
theorem EnS.join (h : EnS tb w T V vt O S k wr) (hl : T.length ≤ 1000) {n : Int} (hn : n ∉ T) (hok : IOk n) :
    ∃ v' w3, (∀ ty, (app38 ty #[vt, .slice (some ⟨wr.heap.size, 0, none⟩) 1 1]).run Try.prog (wr.alloc (.cells #[.int .i64 n] 3)) = .ok v' w3) ∧ EnS tb w (T ++ [n]) V v' O S k w3 := by
  obtain ⟨v', w3, a1, a2, a3, a4⟩ := h.row.grow h.mem h.bel.size (by omega) n
  refine ⟨v', w3, a1, h.tab, a4, h.bel.grown a3 h.bel.size fun q e => (h.row.lt e).2, h.out, h.few, h.nor, a2, List.nodup_append.2 ⟨h.nd, by simp, fun a ha b hb e => ?_⟩, fun m hm => ?_⟩
  · rw [List.mem_singleton.1 hb] at e
    exact hn (e ▸ ha)
  · rcases List.mem_append.1 hm with hm | hm
    · exact h.ok m hm
    · rw [List.mem_singleton.1 hm]; exact hok
/-- Among whom are all who hold or wait may be told anew. -/
theorem EnS.among (h : EnS tb w T V vt O S k wr) {V' : List Int} (hf : Few S V') : EnS tb w T V' vt O S k wr := ⟨h.tab, h.mem, h.bel, h.out, hf, h.nor, h.row, h.nd, h.ok⟩
theorem EnS.mono (h : EnS tb w T V vt O S k wr) {k' : Nat} (hk : k ≤ k') : EnS tb w T V vt O S k' wr := ⟨h.tab, h.mem.mono hk, h.bel, h.out, h.few, h.nor, h.row, h.nd, h.ok⟩
theorem en_start {w1 w2 : World} (hb : Below w.heap.size w w1) (h : Left 0 w1.heap.size tb St.zero (fun _ => none) w1 w2) : ∃ O, EnS tb w [] [] (.slice none 0 0) O St.zero 0 w2 := by
  obtain ⟨O1, h1, h2, h3⟩ := h
  have hb2 : Below w.heap.size w w2 := ⟨h3.os.trans hb.os, h3.tape.trans hb.tape, h3.output.trans hb.output, Nat.le_trans hb.size h3.size, fun q hq => (h3.rest q (Nat.lt_of_lt_of_le hq hb.size) rfl).trans (hb.block q hq)⟩
  exact ⟨O1, h1, h2, hb2, fun q hq => h3.dom q (Nat.lt_of_lt_of_le hq hb.size) rfl, ⟨fun s n x hx => (by cases hx), fun s n hn => (by cases hn)⟩, NoRing.zero, Nums.nil _ _ _, .nil, fun n hn => (by cases hn)⟩
end
end Go.Proofs.Ytnlfmmempomcaaa
