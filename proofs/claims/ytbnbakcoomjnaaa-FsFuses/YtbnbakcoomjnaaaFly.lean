/- lay: a name names a file. -/
import Derived.Test.YtbnbakcoomjnaaaFat
import Derived.WalkSpells
import Derived.Carry
namespace Go.Proofs.Ytbnbakcoomjnaaa
open Go.RowKit Go.Maps
set_option linter.unusedSimpArgs false
theorem set_other (w : World) (b o k : Nat) (v : Value) (h : k ≠ b) : (w.setCell ⟨b, o, none⟩ v).heap[k]? = w.heap[k]? := Below.heap_setCell _ _ _ _ h
theorem eq_nil (w : World) : (binOp BinOp.eql 62 (.map none) (.map none)).run Try.prog w = .ok (.bool true) w := run_eql_map_nil w 62 9 95 none Try.underlying62
theorem eq_some (g : Nat) (w : World) : (binOp BinOp.eql 62 (.map (some g)) (.map none)).run Try.prog w = .ok (.bool false) w := run_eql_map_nil w 62 9 95 (some g) Try.underlying62
/-- What lay leaves. -/
structure Laid (f o gx mb : Nat) (m : Option Nat) (k : Int) (n : Nat) (L : ByteArray → Option Nat) (s : ByteArray) (w w' : World) : Prop where
  os : w'.os = w.os
  tape : w'.tape = w.tape
  output : w'.output = w.output
  size : w.heap.size ≤ w'.heap.size
  rest : ∀ q, q < w.heap.size → q ≠ f → q ≠ gx → m ≠ some q → w'.heap[q]? = w.heap[q]?
  tb : w'.heap[f]? = (w.setCell ⟨f, o, none⟩ (.map (some mb))).heap[f]?
  fl : w'.heap[gx]? = (w.setCell ⟨gx, 1, none⟩ (.int .i32 (k + 1))).heap[gx]?
  tab : TabIs w' (some mb) (n + 1) (upd L s (some gx))
  new : m = some mb ∨ (m = none ∧ w.heap.size ≤ mb ∧ mb < w'.heap.size)
theorem set_self {w : World} {b o : Nat} {v : Value} (h : w.cell? ⟨b, o, none⟩ = some v) : (w.setCell ⟨b, o, none⟩ v).heap[b]? = w.heap[b]? := by
  unfold World.cell? at h
  split at h
  · rename_i c t fr e
    simp only [World.setCell, Array.getElem?_modify, e]
    simp
    obtain ⟨hi, he⟩ := Array.getElem?_eq_some_iff.1 h
    rw [← he]
    have hi' : o < c.size := hi
    have e5 : c.setIfInBounds o c[o] = c := by
      apply Array.ext
      · simp
      · intro j h1 h2
        rw [Array.getElem_setIfInBounds]
        split
        · rename_i e6; subst e6; rfl
        · rfl
    exact e5
  · simp at h
set_option maxRecDepth 20000 in
set_option maxHeartbeats 1000000 in
theorem lay_none (f o gx : Nat) (m : Option Nat) (n : Nat) (L : ByteArray → Option Nat) (s : ByteArray) (k : Int) (w : World) (hc : w.cell? ⟨f, o, none⟩ = some (.map m)) (hfz : w.frozen? ⟨f, o, none⟩ = false)
    (h : TabIs w m n L) (hs : s.size ≤ maxLen) (hn : n < maxLen) (hL : L s = none) (hg1 : w.cell? ⟨gx, 1, none⟩ = some (.int .i32 k)) (hgz : w.frozen? ⟨gx, 1, none⟩ = false) (hk : 0 ≤ k ∧ k ≤ 100000) (hne : gx ≠ f) (hm : m = none → n = 0) :
    Calls Try.prog 62 #[.pointer (some ⟨f, o, none⟩), .string s, .pointer (some ⟨gx, 0, none⟩)] w fun e w' => e = .returned (.tuple #[]) ∧ ∃ mb, Laid f o gx mb m k n L s w w' := by
  have HD := hide (drop_none f o m n L s w hc h hs hL)
  have HA := hide (add32 ⟨gx, 1, none⟩ k 1 (k + 1) w hg1 hgz (wrap32 (by omega) (by omega)))
  obtain ⟨w1, hw1⟩ : ∃ w1, w1 = w.setCell ⟨gx, 1, none⟩ (.int .i32 (k + 1)) := ⟨_, rfl⟩
  have hfl : f < w.heap.size := cellLt hc
  have hgl : gx < w.heap.size := cellLt hg1
  have hq1 := eq_nil
  have hq2 := eq_some
  have hs1 : w1.heap.size = w.heap.size := by rw [hw1]; simp [World.setCell]
  have hbf : w1.heap[f]? = w.heap[f]? := by rw [hw1]; exact set_other _ _ _ _ _ (Ne.symm hne)
  have hc1 : w1.cell? ⟨f, o, none⟩ = some (.map m) := by rw [World.cell?_of_block (w := w) (a := ⟨f, o, none⟩) hbf]; exact hc
  have hz1 : w1.frozen? ⟨f, o, none⟩ = false := by rw [World.frozen?_of_block (w := w) (a := ⟨f, o, none⟩) hbf]; exact hfz
  have hT1 : TabIs w1 m n L := h.same fun mb e => by
    rw [hw1]
    refine set_other _ _ _ _ _ fun e2 => ?_
    subst e e2
    obtain ⟨D, ⟨es, clock, hb, _⟩, _⟩ := h
    simp [World.cell?, hb] at hg1
  cases m with
  | some mb =>
    obtain ⟨w2, hr2, hT2, ht2⟩ := tab_store hT1 hs hn gx
    have HE : Hid (Laid f o gx mb (some mb) k n L s w w2) := by
      have hgr := ht2.grown
      have hz2 := hgr.size
      have hmf : f ≠ mb := turned_ne ht2 hc1
      have hgx1 : ∃ v, w1.cell? ⟨gx, 1, none⟩ = some v := ⟨.int .i32 (k + 1), by rw [hw1]; exact World.cell?_setCell_same w _ _ hg1⟩
      obtain ⟨v, hv⟩ := hgx1
      have hmg : gx ≠ mb := turned_ne ht2 hv
      refine ⟨?_, ?_, ?_, by omega, fun q h1 h2 h3 h4 => ?_, ?_, ?_, hT2, .inl rfl⟩
      · rw [hgr.os, hw1]; rfl
      · rw [hgr.tape, hw1]; rfl
      · rw [hgr.output, hw1]; rfl
      · rw [turned_block ht2 (by omega) (fun e => h4 (by rw [e])), hw1]; exact set_other _ _ _ _ _ h3
      · rw [turned_block ht2 (by show f < _; omega) hmf, hbf, set_self hc]
      · rw [turned_block ht2 (by show gx < _; omega) hmg, hw1]
    rw [← hw1] at HA
    clear h hT1 hT2 ht2 hbf hw1
    go_enter Try.func62, Try.ntmps62
    go_wp2_with fail
    refine (unhide HD).mono ?_
    rintro e w0 ⟨rfl, rfl⟩
    go_wp2_with fail
    refine (unhide HA).mono ?_
    rintro e w0' ⟨rfl, rfl⟩
    go_wp2_with fail
    go_end0
    exact ⟨rfl, mb, unhide HE⟩
  | none =>
    obtain rfl : n = 0 := hm rfl
    obtain ⟨w2, hw2⟩ : ∃ w2, w2 = (w1.setCell ⟨f, o, none⟩ (.map (some w1.heap.size))).alloc (.map #[] 0) := ⟨_, rfl⟩
    have hT2 : TabIs w2 (some w1.heap.size) 0 L := by
      have e : L = fun _ => none := funext fun t => hT1 t
      rw [e, hw2]
      have hn0 := tab_new (w1.setCell ⟨f, o, none⟩ (.map (some w1.heap.size)))
      rwa [show (w1.setCell ⟨f, o, none⟩ (.map (some w1.heap.size))).heap.size = w1.heap.size from by simp [World.setCell]] at hn0
    obtain ⟨w3, hr3, hT3, ht3⟩ := tab_store hT2 hs (by omega) gx
    have hs2 : w2.heap.size = w1.heap.size + 1 := by rw [hw2]; simp [World.setCell]
    have hlf : f < w1.heap.size := by show f < _; rw [hs1]; exact hfl
    have hlg : gx < w1.heap.size := by show gx < _; rw [hs1]; exact hgl
    have hold : ∀ q, q < w1.heap.size → q ≠ f → w2.heap[q]? = w1.heap[q]? := fun q h1 h2 => by rw [hw2, Below.heap_alloc _ _ _ (by simp [World.setCell]; exact h1)]; exact set_other _ _ _ _ _ h2
    have HE : Hid (Laid f o gx w1.heap.size none k 0 L s w w3) := by
      have hgr := ht3.grown
      have hz3 := hgr.size
      refine ⟨?_, ?_, ?_, by omega, fun q h1 h2 h3 _ => ?_, ?_, ?_, hT3, .inr ⟨rfl, by omega, by omega⟩⟩
      · rw [hgr.os, hw2, hw1]; rfl
      · rw [hgr.tape, hw2, hw1]; rfl
      · rw [hgr.output, hw2, hw1]; rfl
      · rw [turned_block ht3 (by omega) (by omega), hold q (by omega) h2, hw1]; exact set_other _ _ _ _ _ h3
      · rw [turned_block ht3 (by omega) (by omega), hw2]
        rw [Below.heap_alloc _ _ _ (by simp [World.setCell]; exact hlf)]
        simp only [World.setCell, Array.getElem?_modify, hbf]
      · rw [turned_block ht3 (by omega) (by omega), hold gx hlg hne, hw1]
    have hmk := run_makeMap (P := Try.prog) 62 w1
    have HW2 := hide hw2
    rw [← hw1] at HA
    rw [hw2] at hr3
    clear h hT1 hT2 hT3 ht3 hbf hw1 hold hw2 hs1 hs2
    go_enter Try.func62, Try.ntmps62
    go_wp2_with fail
    refine (unhide HD).mono ?_
    rintro e w0 ⟨rfl, rfl⟩
    go_wp2_with fail
    refine (unhide HA).mono ?_
    rintro e w0' ⟨rfl, rfl⟩
    go_wp2_with fail
    go_end0
    exact ⟨rfl, _, unhide HE⟩
end Go.Proofs.Ytbnbakcoomjnaaa
