/- The law FsLinks. -/
import Derived.Test.YtbnbakcoomjnaabHf
namespace Go.Proofs.Ytbnbakcoomjnaab
open Go.RowKit Go.Maps
set_option linter.unusedSimpArgs false
theorem Row.wider {hi hj : Nat} {w : World} {v : Value} {d : List UInt8} (h : Row hi w v d) (hh : hi ≤ hj) : Row hj w v d := by
  obtain ⟨a, c, e, hc', hr⟩ := h
  refine ⟨a, c, e, hc', fun h0 => ?_⟩
  obtain ⟨g, p, ea, hg, hcell⟩ := hr h0
  exact ⟨g, p, ea, Nat.lt_of_lt_of_le hg hh, hcell⟩
/-- A row that is there stays. -/
theorem Row.stays {w w' : World} {v : Value} {d : List UInt8} (h : Row w.heap.size w v d) (hb : Below w.heap.size w w') : Row w'.heap.size w' v d := (h.below hb).wider hb.size
/-- Bytes behind a row of one's own. -/
theorem app_own (base : Nat) (v : Value) (n : Nat) (xs : List Value) (hi : Nat) (a : Option Addr) (c : Nat) (d : List UInt8) (W : World) (hown : W.ownsRow base 5 1 v n xs) (hv : ∃ x y, v = .slice x n y) (hrow : Row hi W (.slice a d.length c) d) (hbase : base ≤ W.heap.size) (hmax : n + d.length ≤ 1000000) :
    ∃ a' c' W', (∀ ty, (app22 ty #[v, .slice a d.length c]).run Try.prog W = .ok (.slice a' (n + d.length) c') W') ∧ W'.ownsRow base 5 1 (.slice a' (n + d.length) c') (n + d.length) (xs ++ byteVals d) ∧ Below base W W' := by
  by_cases hd : d.length = 0
  · obtain rfl : d = [] := List.eq_nil_of_length_eq_zero hd
    obtain ⟨x, y, rfl⟩ := hv
    have hle : n ≤ y := by
      rcases hown.2 with ⟨e, e2⟩ | ⟨g, cap, cur, e, _, _, h1, _⟩
      · omega
      · injection e with _ _ e; omega
    refine ⟨x, y, W, fun ty => run_append_none x a n y c hle ty W, ?_, Below.refl _ _⟩
    simpa [byteVals] using hown
  · obtain ⟨i, hi', hz, hsz, hby⟩ := info5
    obtain ⟨gs, o, rfl, _, hcell⟩ := Row.src hrow (by omega)
    obtain ⟨v', w', hr, ho, hgr, -⟩ := run_append_own (P := Try.prog) W base 22 22 5 i (.int .u8 0) 1 1 Try.underlying22 hi' hz hsz hby rfl (by omega) v n xs hown ⟨gs, o, none⟩ d.length c (byteVals d) (by simp [byteVals]) hcell byte_one (by simp only [maxLen]; omega) (by omega) hbase
    have hf : ∃ a' c', v' = .slice a' (n + d.length) c' := by
      rcases ho.2 with ⟨_, e⟩ | ⟨g, cap, cur, e, _⟩
      · omega
      · exact ⟨_, _, e⟩
    obtain ⟨a', c', rfl⟩ := hf
    exact ⟨a', c', w', fun _ => hr, ho, ⟨hgr.os, hgr.tape, hgr.output, hgr.size, fun q hq => hgr.block q (by omega) (fun e => by have := (hown.lt q e.symm).1; omega)⟩⟩
theorem Row.own {base n : Nat} {v : Value} {d : List UInt8} {W : World} (h : W.ownsRow base 5 1 v n (byteVals d)) (hn : d.length = n) (hv : ∃ x y, v = .slice x n y) : Row W.heap.size W v d := by
  subst hn
  rcases h.2 with ⟨rfl, e⟩ | ⟨g, cap, cur, rfl, hb, hg, h1, h2, h3, h4⟩
  · obtain rfl : d = [] := List.eq_nil_of_length_eq_zero e
    exact ⟨none, 0, rfl, Nat.le_refl _, fun h => by simp at h⟩
  · refine ⟨_, cap, rfl, h1, fun _ => ⟨g, 0, rfl, (Array.getElem?_eq_some_iff.1 hg).1, fun j u hj => ?_⟩⟩
    simp only [World.cell?, hg, Nat.zero_add]
    rw [← h4] at hj
    have hj2 := (List.getElem?_eq_some_iff.1 hj).1
    rw [List.length_take] at hj2
    rw [List.getElem?_take_of_lt (by omega)] at hj
    simpa using hj
def lS0 : Fs := Fs.new 1048576
def lS1 (a : List UInt8) (z : Nat) : Fs := lS0.done (lS0.now.write (nm 120) a z) (.write (nm 120) a z)
def lS2 (a : List UInt8) (z : Nat) : Fs := (lS1 a z).done ((lS1 a z).now.lay (nm 121) z) (.lay (nm 121) (nm 120))
def lS3 (a : List UInt8) (z : Nat) : Fs := (lS2 a z).done ((lS2 a z).now.lay (nm 122) z) (.lay (nm 122) (nm 121))
def lS4 (a b : List UInt8) (z : Nat) : Fs := (lS3 a z).done ((lS3 a z).now.put z ((lS3 a z).now.D z ++ b)) (.fill (nm 122) ((lS3 a z).now.D z ++ b))
def lS5 (a b c : List UInt8) (z y : Nat) : Fs := (lS4 a b z).done ((lS4 a b z).now.write (nm 121) c y) (.write (nm 121) c y)
theorem nmne {x y : UInt8} (h : x ≠ y) : nm x ≠ nm y := fun e => h (by simpa [nm] using e)
theorem n1 : nm 121 ≠ nm 120 := nmne (by decide)
theorem n2 : nm 122 ≠ nm 120 := nmne (by decide)
theorem n3 : nm 122 ≠ nm 121 := nmne (by decide)
theorem n4 : nm 120 ≠ nm 121 := nmne (by decide)
theorem n5 : nm 120 ≠ nm 122 := nmne (by decide)
theorem n6 : nm 121 ≠ nm 122 := nmne (by decide)
theorem l1N (a : List UInt8) (z : Nat) (s : ByteArray) : (lS1 a z).now.N s = if s = nm 120 then some z else none := by
  simp [lS1, lS0, Fs.new, Fs.done, Tb.write, Tb.lay, Tb.set, Tb.drop, Tb.add, Tb.none, upd]
theorem l2N (a : List UInt8) (z : Nat) (s : ByteArray) : (lS2 a z).now.N s = if s = nm 121 then some z else if s = nm 120 then some z else none := by
  have h : (lS1 a z).now.N (nm 121) = none := by rw [l1N, if_neg n1]
  simp only [lS2, Fs.done, Tb.lay, Tb.set, Tb.drop, h, upd, l1N]
theorem l3N (a : List UInt8) (z : Nat) (s : ByteArray) : (lS3 a z).now.N s = if s = nm 122 then some z else if s = nm 121 then some z else if s = nm 120 then some z else none := by
  have h : (lS2 a z).now.N (nm 122) = none := by rw [l2N, if_neg n3, if_neg n2]
  simp only [lS3, Fs.done, Tb.lay, Tb.set, Tb.drop, h, upd, l2N]
theorem l3D (a : List UInt8) (z : Nat) : (lS3 a z).now.D z = a := by
  have h : (lS2 a z).now.N (nm 122) = none := by rw [l2N, if_neg n3, if_neg n2]
  have h1 : (lS1 a z).now.N (nm 121) = none := by rw [l1N, if_neg n1]
  simp only [lS3, Fs.done, Tb.lay, Tb.set, Tb.drop, h]
  simp only [lS2, Fs.done, Tb.lay, Tb.set, Tb.drop, h1]
  simp [lS1, lS0, Fs.new, Fs.done, Tb.write, Tb.lay, Tb.set, Tb.drop, Tb.add, Tb.none, upd, updN]
theorem l3u (a : List UInt8) (z : Nat) : (lS3 a z).now.u = (a.length : Int) := by
  have h : (lS2 a z).now.N (nm 122) = none := by rw [l2N, if_neg n3, if_neg n2]
  have h1 : (lS1 a z).now.N (nm 121) = none := by rw [l1N, if_neg n1]
  simp only [lS3, Fs.done, Tb.lay, Tb.set, Tb.drop, h]
  simp only [lS2, Fs.done, Tb.lay, Tb.set, Tb.drop, h1]
  simp [lS1, lS0, Fs.new, Fs.done, Tb.write, Tb.lay, Tb.set, Tb.drop, Tb.add, Tb.none, upd, updN]
theorem l3c (a : List UInt8) (z : Nat) : (lS3 a z).now.c z = 3 := by
  have h : (lS2 a z).now.N (nm 122) = none := by rw [l2N, if_neg n3, if_neg n2]
  have h1 : (lS1 a z).now.N (nm 121) = none := by rw [l1N, if_neg n1]
  simp only [lS3, Fs.done, Tb.lay, Tb.set, Tb.drop, h]
  simp only [lS2, Fs.done, Tb.lay, Tb.set, Tb.drop, h1]
  simp [lS1, lS0, Fs.new, Fs.done, Tb.write, Tb.lay, Tb.set, Tb.drop, Tb.add, Tb.none, upd, updN]
theorem l4N (a b : List UInt8) (z : Nat) (s : ByteArray) : (lS4 a b z).now.N s = if s = nm 122 then some z else if s = nm 121 then some z else if s = nm 120 then some z else none := l3N a z s
theorem l4D (a b : List UInt8) (z : Nat) : (lS4 a b z).now.D z = a ++ b := by
  show updN _ z ((lS3 a z).now.D z ++ b) z = _
  rw [updN_same, l3D]
theorem l4u (a b : List UInt8) (z : Nat) : (lS4 a b z).now.u = (a.length : Int) + (b.length : Int) := by
  show (lS3 a z).now.u + ((((lS3 a z).now.D z ++ b).length : Int) - (((lS3 a z).now.D z).length : Int)) = _
  rw [l3u, l3D, List.length_append]
  omega
theorem l4c (a b : List UInt8) (z : Nat) : (lS4 a b z).now.c z = 3 := l3c a z
theorem l4al (a b : List UInt8) (z : Nat) : (lS4 a b z).now.alone (nm 121) = 0 := by
  unfold Tb.alone
  rw [l4N, if_neg n6, if_pos rfl]
  simp [l4c]
theorem l5N (a b c : List UInt8) (z y : Nat) (s : ByteArray) : (lS5 a b c z y).now.N s = if s = nm 121 then some y else if s = nm 122 then some z else if s = nm 120 then some z else none := by
  have h : ((lS4 a b z).now.add c y).N (nm 121) = some z := by show (lS4 a b z).now.N (nm 121) = _; rw [l4N, if_neg n6, if_pos rfl]
  simp only [lS5, Fs.done, Tb.write, Tb.lay, Tb.set, Tb.drop, h, upd]
  show (if s = nm 121 then some y else if s = nm 121 then none else (lS4 a b z).now.N s) = _
  rw [l4N]
  by_cases e : s = nm 121
  · simp [e]
  · simp [e]
theorem l5c (a b c : List UInt8) (z y : Nat) (hzy : z < y) : (lS5 a b c z y).now.c z = 2 ∧ (lS5 a b c z y).now.c y = 1 := by
  have h : ((lS4 a b z).now.add c y).N (nm 121) = some z := by show (lS4 a b z).now.N (nm 121) = _; rw [l4N, if_neg n6, if_pos rfl]
  have hne : z ≠ y := by omega
  have hne' : y ≠ z := by omega
  have e : (lS5 a b c z y).now.c = updN (updN (updN (lS4 a b z).now.c y 0) z (updN (lS4 a b z).now.c y 0 z + -1)) y (updN (updN (lS4 a b z).now.c y 0) z (updN (lS4 a b z).now.c y 0 z + -1) y + 1) := by
    simp only [lS5, Fs.done, Tb.write, Tb.lay, Tb.set, Tb.drop, h]
    rfl
  rw [e]
  refine ⟨?_, ?_⟩
  · rw [updN_ne _ _ hne, updN_same, updN_ne _ _ hne, l4c]; rfl
  · rw [updN_same, updN_ne _ _ hne', updN_same]; rfl
theorem l5D (a b c : List UInt8) (z y : Nat) (hzy : z < y) : (lS5 a b c z y).now.D z = a ++ b ∧ (lS5 a b c z y).now.D y = c := by
  have h : ((lS4 a b z).now.add c y).N (nm 121) = some z := by show (lS4 a b z).now.N (nm 121) = _; rw [l4N, if_neg n6, if_pos rfl]
  have hne : z ≠ y := by omega
  simp only [lS5, Fs.done, Tb.write, Tb.lay, Tb.set, Tb.drop, h]
  simp only [Tb.add]
  exact ⟨by rw [updN_ne _ _ hne, l4D], updN_same _ _ _⟩
theorem l5u (a b c : List UInt8) (z y : Nat) (hzy : z < y) : (lS5 a b c z y).now.u = (a.length : Int) + (b.length : Int) + (c.length : Int) := by
  have h : ((lS4 a b z).now.add c y).N (nm 121) = some z := by show (lS4 a b z).now.N (nm 121) = _; rw [l4N, if_neg n6, if_pos rfl]
  have hne : z ≠ y := by omega
  have hc : ((lS4 a b z).now.add c y).c z = 3 := by show updN _ y 0 z = 3; rw [updN_ne _ _ hne, l4c]
  simp only [lS5, Fs.done, Tb.write, Tb.lay, Tb.set, Tb.drop, h, hc]
  show (if (3 : Int) + -1 = 0 then _ else (lS4 a b z).now.u + (c.length : Int)) = _
  rw [if_neg (by omega), l4u]
end Go.Proofs.Ytbnbakcoomjnaab
