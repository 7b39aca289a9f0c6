/- Used and Read. -/
import Derived.Test.YtbnbakcoomjnaaaFfl
namespace Go.Proofs.Ytbnbakcoomjnaaa
open Go.RowKit Go.Maps
set_option linter.unusedSimpArgs false
set_option maxRecDepth 20000 in
set_option maxHeartbeats 1000000 in
theorem used_any (f : Nat) (u : Int) (w : World) (h0 : w.cell? ⟨f, 0, none⟩ = some (.int .i32 0)) (hz : w.frozen? ⟨f, 0, none⟩ = false) (h4 : w.cell? ⟨f, 4, none⟩ = some (.int .i64 u)) :
    Calls Try.prog 25 #[.pointer (some ⟨f, 0, none⟩)] w fun e w' => e = .returned (.int .i64 u) ∧ w' = (w.setCell ⟨f, 0, none⟩ (.int .i32 1)).setCell ⟨f, 0, none⟩ (.int .i32 0) := by
  go_enter_defers Try.func25, Try.ntmps25
  go_wp2_with (go_at_call 36; refine (lock_free ⟨f, 0, none⟩ _ h0 hz).mono ?_; rintro e w' ⟨rfl, rfl⟩)
  refine leaves_cons (f := 37) (args := #[.pointer (some ⟨f, 0, none⟩)]) (by simp) (by simp [go_sem]) ?_
  refine (unlock_deferred ⟨f, 0, none⟩ .returning _ ?_ ?_).mono ?_
  · exact World.cell?_setCell_same w ⟨f, 0, none⟩ (.int .i32 1) h0
  · simp [hz]
  rintro e u' w'' ⟨rfl, rfl, rfl⟩
  exact ⟨_, results_tmp rfl _ _ _, rfl, rfl⟩
theorem set_two {w : World} {f o : Nat} {v u : Value} (h0 : w.cell? ⟨f, o, none⟩ = some u) : ((w.setCell ⟨f, o, none⟩ v).setCell ⟨f, o, none⟩ u).heap = w.heap := by
  apply Array.ext_getElem?
  intro q
  by_cases hq : q = f
  · subst hq
    have h1 := set_self h0
    have h2 : ((w.setCell ⟨q, o, none⟩ v).setCell ⟨q, o, none⟩ u).heap[q]? = (w.setCell ⟨q, o, none⟩ u).heap[q]? := by
      unfold World.cell? at h0
      split at h0
      · rename_i c t fr e
        simp [World.setCell, Array.getElem?_modify, e]
      · simp at h0
    rw [h2, h1]
  · rw [set_other _ _ _ _ _ hq, set_other _ _ _ _ _ hq]
/-- Nothing has changed but draws and what was laid behind. -/
theorem below_two {w W : World} {f : Nat} {v : Value} (h0 : w.cell? ⟨f, 0, none⟩ = some v) (hb : Below w.heap.size (w.setCell ⟨f, 0, none⟩ (.int .i32 1)) W) : Below w.heap.size w (W.setCell ⟨f, 0, none⟩ v) := by
  have hfl : f < w.heap.size := cellLt h0
  have hs0 : (w.setCell ⟨f, 0, none⟩ (.int .i32 1)).heap.size = w.heap.size := by simp [World.setCell]
  refine ⟨hb.os, hb.tape, hb.output, by have := hb.size; rw [hs0] at this; simpa [World.setCell] using this, fun q hq => ?_⟩
  by_cases he : q = f
  · subst he
    have h1 : (W.setCell ⟨q, 0, none⟩ v).heap[q]? = ((w.setCell ⟨q, 0, none⟩ (.int .i32 1)).setCell ⟨q, 0, none⟩ v).heap[q]? := by
      simp only [World.setCell, Array.getElem?_modify]
      have := hb.block q hq
      simp only [World.setCell, Array.getElem?_modify] at this
      rw [this]
    rw [h1, set_two h0]
  · rw [set_other _ _ _ _ _ he, hb.block q hq, set_other _ _ _ _ _ he]
theorem tab_set {w : World} {m : Option Nat} {n : Nat} {L : ByteArray → Option Nat} {f o : Nat} {v0 : Value} (h : TabIs w m n L) (hc : w.cell? ⟨f, o, none⟩ = some v0) (v : Value) : TabIs (w.setCell ⟨f, o, none⟩ v) m n L := h.same fun mb e => by
  refine set_other _ _ _ _ _ fun e2 => ?_
  subst e e2
  obtain ⟨D, ⟨es, clock, hb, _⟩, _⟩ := h
  simp [World.cell?, hb] at hc
theorem Row.set {hi : Nat} {w : World} {v : Value} {d : List UInt8} {f o : Nat} {x : Value} (h : Row hi w v d) (hc : w.cell? ⟨f, o, none⟩ = some x) (hx : ∀ z : Int, x ≠ .int .u8 z) (y : Value) : Row hi (w.setCell ⟨f, o, none⟩ y) v d := by
  obtain ⟨a, c, e, hc', hr⟩ := h
  refine ⟨a, c, e, hc', fun h0 => ?_⟩
  obtain ⟨g, p, ea, hg, hcell⟩ := hr h0
  refine ⟨g, p, ea, hg, fun j u hj => ?_⟩
  rw [World.cell?_setCell_other _ ⟨f, o, none⟩ ⟨g, p + j, none⟩ _ (fun e2 => ?_)]
  · exact hcell j u hj
  · have h1 := hcell j u hj
    rw [← e2, hc] at h1
    injection h1 with h1
    unfold byteVals at hj
    rw [List.getElem?_map] at hj
    obtain ⟨b, _, hb⟩ := Option.map_eq_some_iff.1 hj
    exact hx _ (h1.trans hb.symm)
theorem Row.below {hi : Nat} {w w' : World} {v : Value} {d : List UInt8} (h : Row hi w v d) (hb : Below hi w w') : Row hi w' v d := by
  obtain ⟨a, c, e, hc', hr⟩ := h
  refine ⟨a, c, e, hc', fun h0 => ?_⟩
  obtain ⟨g, p, ea, hg, hcell⟩ := hr h0
  exact ⟨g, p, ea, hg, fun j u hj => by rw [hb.cell (p := ⟨g, p + j, none⟩) hg]; exact hcell j u hj⟩
set_option maxRecDepth 20000 in
set_option maxHeartbeats 1000000 in
theorem read_some (f : Nat) (m : Option Nat) (n : Nat) (L : ByteArray → Option Nat) (s : ByteArray) (g : Nat) (a : Option Addr) (c : Nat) (d : List UInt8) (hi : Nat) (w : World) (h0 : w.cell? ⟨f, 0, none⟩ = some (.int .i32 0)) (hz : w.frozen? ⟨f, 0, none⟩ = false) (h3 : w.cell? ⟨f, 3, none⟩ = some (.map m)) (h : TabIs w m n L) (hs : s.size ≤ maxLen) (hL : L s = some g)
    (hg : w.cell? ⟨g, 0, none⟩ = some (.slice a d.length c)) (hrow : Row hi w (.slice a d.length c) d) (hhi : hi ≤ w.heap.size) (hd : d.length ≤ 1000000000) (hne : g ≠ f) :
    Calls Try.prog 15 #[.pointer (some ⟨f, 0, none⟩), .string s] w fun e w' => ∃ v, e = .returned (.tuple #[v, .int .i64 0]) ∧ Row w'.heap.size w' v d ∧ Below w.heap.size w w' := by
  obtain ⟨W1, hW1⟩ : ∃ W1, W1 = w.setCell ⟨f, 0, none⟩ (.int .i32 1) := ⟨_, rfl⟩
  have hfl : f < w.heap.size := cellLt h0
  have hs1 : W1.heap.size = w.heap.size := by rw [hW1]; simp [World.setCell]
  have t3 : W1.cell? ⟨f, 3, none⟩ = some (.map m) := by rw [hW1, World.cell?_setCell_other _ ⟨f, 0, none⟩ ⟨f, 3, none⟩ _ (by simp)]; exact h3
  have t0 : W1.cell? ⟨f, 0, none⟩ = some (.int .i32 1) := by rw [hW1]; exact World.cell?_setCell_same w ⟨f, 0, none⟩ (.int .i32 1) h0
  have tg : W1.cell? ⟨g, 0, none⟩ = some (.slice a d.length c) := by rw [hW1, World.cell?_setCell_other _ ⟨f, 0, none⟩ ⟨g, 0, none⟩ _ (by simp [Ne.symm hne])]; exact hg
  have hT1 : TabIs W1 m n L := by rw [hW1]; exact tab_set h h0 _
  have hR1 : Row hi W1 (.slice a d.length c) d := by rw [hW1]; exact hrow.set h0 (fun z => by simp) _
  have HH := hide (has_any f 3 m n L s W1 t3 hT1 hs)
  rw [hL] at HH
  have hlk := tab_look hT1 hs
  rw [hL] at hlk
  unfold ptr at hlk
  have HL0 := hide (lock_free ⟨f, 0, none⟩ w h0 hz)
  rw [← hW1] at HL0
  have HB := hide (bclone_any hi a d.length c d W1 hR1 rfl (by omega) hd)
  have HZ : Hid (∀ W, Below W1.heap.size W1 W → W.cell? ⟨f, 0, none⟩ = some (.int .i32 1) ∧ W.frozen? ⟨f, 0, none⟩ = false ∧ Below w.heap.size w (W.setCell ⟨f, 0, none⟩ (.int .i32 0))) := fun W hW => by
    refine ⟨by rw [hW.cell (p := ⟨f, 0, none⟩) (by show f < _; omega)]; exact t0, by rw [hW.frozen (p := ⟨f, 0, none⟩) (by show f < _; omega), hW1]; simp [hz], below_two h0 ?_⟩
    rw [hs1, hW1] at hW
    exact hW
  clear h hT1 hrow hR1 hW1
  generalize d.length = N at *
  go_enter_defers Try.func15, Try.ntmps15
  go_wp2_with fail
  refine (unhide HL0).mono ?_
  rintro e w' ⟨rfl, rfl⟩
  go_wp2_with fail
  refine (unhide HH).mono ?_
  rintro e w'' ⟨rfl, rfl⟩
  go_wp2_with fail
  refine (unhide HB).mono ?_
  rintro e w2 ⟨v, rfl, hR2, hb2⟩
  obtain ⟨c2, z2, hE2⟩ := unhide HZ w2 hb2
  have HE : Hid (Row (w2.setCell ⟨f, 0, none⟩ (.int .i32 0)).heap.size (w2.setCell ⟨f, 0, none⟩ (.int .i32 0)) v d ∧ Below w.heap.size w (w2.setCell ⟨f, 0, none⟩ (.int .i32 0))) := by
    refine ⟨?_, hE2⟩
    rw [show (w2.setCell ⟨f, 0, none⟩ (.int .i32 0)).heap.size = w2.heap.size from by simp [World.setCell]]
    exact hR2.set c2 (fun z => by simp) _
  clear hR2 hE2 hb2
  go_wp2_with fail
  refine leaves_cons (f := 37) (args := #[.pointer (some ⟨f, 0, none⟩)]) (by simp) (by simp [go_sem]) ?_
  refine (unlock_deferred ⟨f, 0, none⟩ .returning _ c2 z2).mono ?_
  rintro e u' w3 ⟨rfl, rfl, rfl⟩
  exact ⟨_, results_tmp2 rfl _ _ _, v, rfl, (unhide HE).1, (unhide HE).2⟩
end Go.Proofs.Ytbnbakcoomjnaaa
