/- load: the groups that are there. -/
import Derived.Test.YtebcmicmklpflaaGreatDoorRj
namespace Go.Proofs.YtebcmicmklpflaaGreatDoor
open Go.RowKit Go.Maps
set_option linter.unusedSimpArgs false
/-- A journal that is being opened. -/
def jn0 (p : Nat) : Jn := ⟨[], [], p, false⟩
abbrev jBlk0 (f : Nat) (nm : ByteArray) (p : Nat) : Obj := jnBlk f nm (jn0 p) (.slice none 0 0) (.slice none 0 0)
theorem jn0_cells {w : World} {j f : Nat} {nm : ByteArray} {p : Nat} (h : w.heap[j]? = some (jBlk0 f nm p)) : w.cell? ⟨j, 0, none⟩ = some (.pointer (some ⟨f, 0, none⟩)) ∧ w.cell? ⟨j, 1, none⟩ = some (.string nm) ∧ w.cell? ⟨j, 2, none⟩ = some (.int .i64 (p : Int)) ∧ w.cell? ⟨j, 3, none⟩ = some (.slice none 0 0) ∧ w.cell? ⟨j, 4, none⟩ = some (.bool false) ∧ ∀ i, w.frozen? ⟨j, i, none⟩ = false := by
  unfold jBlk0 jnBlk jn0 at h
  refine ⟨?_, ?_, ?_, ?_, ?_, fun i => ?_⟩
  all_goals first | (simp [World.cell?, h]; done) | (simp [World.frozen?, h]; done)
theorem jn0_parts {w : World} {j f : Nat} {nm : ByteArray} {p p' : Nat} (h : w.heap[j]? = some (jBlk0 f nm p)) : (w.setCell ⟨j, 2, none⟩ (.int .i64 (p' : Int))).heap[j]? = some (jBlk0 f nm p') := by
  unfold jBlk0 jnBlk jn0 at *
  simp [World.setCell, Array.getElem?_modify, h]
/-- What the loading ends with: the next part is not there, and there are no strays. -/
theorem load_end (j f : Nat) (S : Fs) (O : Nat → Prop) (k : Nat) (nm : ByteArray) (p : Nat) (W : World) (h : FsIs W f 0 S O k) (hj : W.heap[j]? = some (jBlk0 f nm p)) (hk : k ≤ 16000) (hn : nm.size ≤ 100) (hNs : ∀ s i, S.now.N s = some i → s.size ≤ 300) (hP : NoPart S.now nm) (hp : (p = 0 ∧ S.now.N nm = none) ∨ (p = 1 ∧ S.now.N (part1 nm) = none)) :
    ∃ s, Calls Tryz.prog 97 #[.pointer (some ⟨j, 0, none⟩), .int .i64 (p : Int)] W.drew fun e w1 => e = .returned (.string s) ∧ w1.cell? ⟨j, 0, none⟩ = some (.pointer (some ⟨f, 0, none⟩)) ∧ Hid (Calls Tryz.prog 30 #[.pointer (some ⟨f, 0, none⟩), .string s] w1 fun e w2 => e = .returned (.tuple #[.slice none 0 0, .int .i64 7]) ∧ w2.cell? ⟨j, 2, none⟩ = some (.int .i64 (p : Int)) ∧ Hid (Calls Tryz.prog 99 #[.pointer (some ⟨j, 0, none⟩), .int .i64 (p : Int)] w2 fun e w3 => e = .returned (.slice none 0 0) ∧ w3.cell? ⟨j, 3, none⟩ = some (.slice none 0 0) ∧ w3.frozen? ⟨j, 3, none⟩ = false ∧ w3.setCell ⟨j, 3, none⟩ (.slice none 0 0) = w3 ∧ Hid (FsIs w3 f 0 S O k ∧ Below W.heap.size W w3))) := by
  have hjl : j < W.heap.size := (Array.getElem?_eq_some_iff.1 hj).1
  have key : ∀ (s : ByteArray) (w1 : World), s.size ≤ maxLen → S.now.N s = none → Below W.heap.size W w1 → w1.cell? ⟨j, 0, none⟩ = some (.pointer (some ⟨f, 0, none⟩)) ∧ Hid (Calls Tryz.prog 30 #[.pointer (some ⟨f, 0, none⟩), .string s] w1 fun e w2 => e = .returned (.tuple #[.slice none 0 0, .int .i64 7]) ∧ w2.cell? ⟨j, 2, none⟩ = some (.int .i64 (p : Int)) ∧ Hid (Calls Tryz.prog 99 #[.pointer (some ⟨j, 0, none⟩), .int .i64 (p : Int)] w2 fun e w3 => e = .returned (.slice none 0 0) ∧ w3.cell? ⟨j, 3, none⟩ = some (.slice none 0 0) ∧ w3.frozen? ⟨j, 3, none⟩ = false ∧ w3.setCell ⟨j, 3, none⟩ (.slice none 0 0) = w3 ∧ Hid (FsIs w3 f 0 S O k ∧ Below W.heap.size W w3))) := fun s w1 hs hN hb1 => by
    have hj1 : w1.heap[j]? = some (jBlk0 f nm p) := by rw [hb1.block j hjl]; exact hj
    have hF1 : FsIs w1 f 0 S O k := h.kept hb1.size (fun q o => hb1.block q (h.lt q o))
    refine ⟨(jn0_cells hj1).1, (read_none f S O k s w1 hF1 hs hN).mono fun e w2 ⟨e1, hF2, hb2⟩ => ?_⟩
    have hb2' : Below W.heap.size W w2 := hb1.trans (hb2.mono hb1.size)
    have hj2 : w2.heap[j]? = some (jBlk0 f nm p) := by rw [hb2'.block j hjl]; exact hj
    obtain ⟨c0, c1, c2, _⟩ := jn0_cells hj2
    refine ⟨e1, c2, (parts_none j f p S O k nm w2 c0 c1 hn hF2 hk hNs hP).mono fun e w3 ⟨e3, hF3, hb3⟩ => ?_⟩
    have hb3' : Below W.heap.size W w3 := hb2'.trans (hb3.mono hb2'.size)
    have hj3 : w3.heap[j]? = some (jBlk0 f nm p) := by rw [hb3'.block j hjl]; exact hj
    obtain ⟨_, _, _, d3, _, dz⟩ := jn0_cells hj3
    exact ⟨e3, d3, dz 3, setCell_id d3, hF3, hb3'⟩
  have hbd : Below W.heap.size W W.drew := ⟨rfl, rfl, rfl, Nat.le_refl _, fun _ _ => rfl⟩
  have c1 : W.drew.cell? ⟨j, 1, none⟩ = some (.string nm) := (jn0_cells hj).2.1
  rcases hp with ⟨rfl, hN⟩ | ⟨rfl, hN⟩
  · refine ⟨nm, (part_zero j nm W.drew c1).mono ?_⟩
    rintro e w1 ⟨e1, rfl⟩
    exact ⟨e1, key nm _ (by simp only [maxLen]; omega) hN hbd⟩
  · refine ⟨part1 nm, (part_one j nm W.drew c1 hn).mono ?_⟩
    rintro e w1 ⟨e1, hb1⟩
    have hsz : (part1 nm).size = nm.size + 6 + 1 := by unfold part1; rw [ByteArray.size_append, ByteArray.size_append]; rfl
    exact ⟨e1, key _ _ (by rw [hsz]; simp only [maxLen]; omega) hN (hbd.trans hb1)⟩
set_option maxRecDepth 20000 in
set_option maxHeartbeats 1000000 in
theorem load_none (j f : Nat) (S : Fs) (O : Nat → Prop) (k : Nat) (nm : ByteArray) (w : World) (h : FsIs w f 0 S O k) (hj : w.heap[j]? = some (jBlk0 f nm 0)) (hk : k ≤ 16000) (hn : nm.size ≤ 100) (hNs : ∀ s i, S.now.N s = some i → s.size ≤ 300) (hP : NoPart S.now nm) (hN : S.now.N nm = none) :
    Calls Tryz.prog 49 #[.pointer (some ⟨j, 0, none⟩)] w fun e w' => e = .returned (.slice none 0 0) ∧ FsIs w' f 0 S O k ∧ Below w.heap.size w w' := by
  obtain ⟨s, hE⟩ := load_end j f S O k nm 0 w h hj hk hn hNs hP (.inl ⟨rfl, hN⟩)
  obtain ⟨c0, c1, c2, c3, c4, cz⟩ := jn0_cells hj
  have c0d : w.drew.cell? ⟨j, 0, none⟩ = some (.pointer (some ⟨f, 0, none⟩)) := c0
  have c2d : w.drew.cell? ⟨j, 2, none⟩ = some (.int .i64 ((0 : Nat) : Int)) := c2
  have HE := hide hE
  clear h hj hk hn hNs hP hN hE c0 c1 c3 cz
  simp only [Int.natCast_zero] at c2 c2d HE
  go_enter Tryz.func49, Tryz.ntmps49
  go_wp2_with fail
  go_loopw [3] (fun gv wr => gv = .slice none 0 0 ∧ wr = w) (fun _ _ => 0)
  case atStart => exact ⟨rfl, rfl⟩
  case round =>
    obtain ⟨rfl, rfl⟩ := hrel
    go_wp2_with fail
    refine wp_region_noPanic ?_
    go_region_law (go_simp; first | (refine (unhide HE).mono ?_; rintro e w1 ⟨rfl, d0, HR⟩; simp only []) | (refine (unhide HR).mono ?_; rintro e w2 ⟨rfl, d2, HQ⟩; simp only []))
    all_goals
      refine NoPanic.normal ?_
      go_wp2_with fail
      refine (unhide HQ).mono ?_
      rintro e w3 ⟨rfl, d3, dz, did, HF⟩
      go_wp2_with fail
      go_ret
      exact ⟨rfl, unhide HF⟩
end Go.Proofs.YtebcmicmklpflaaGreatDoor
