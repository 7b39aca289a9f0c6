/- A script of a Run that came in. -/
import Derived.Test.YtnlfmmempomcaaaQj
import Derived.Deep.SlicePairs
import Derived.Deep.Slices
import Derived.OpenShut
import Derived.ShutString
import Derived.SizedLaws
import Derived.SliceStrings
namespace Go.Proofs.Ytnlfmmempomcaaa
open Go.ChangeShapes Go.WideShapes Go.RowKit
theorem addMid (b o j : Nat) : (⟨b, o, none⟩ : Addr).add j = ⟨b, o + j, none⟩ := by unfold Addr.add; split <;> simp_all
theorem cellSpot {w : World} {x : Addr} {v : Value} (h : w.cell? x = some v) : x = ⟨x.block, x.off, none⟩ ∧ x.block < w.heap.size := by
  obtain ⟨b, o, l⟩ := x
  have hb : b < w.heap.size := by
    unfold World.cell? at h
    split at h
    · rename_i q; exact (Array.getElem?_eq_some_iff.1 q).1
    · cases h
  cases l with
  | none => exact ⟨rfl, hb⟩
  | some l =>
    exfalso
    unfold World.cell? at h
    split at h
    · simp at h
    · cases h
theorem cells59 : Try.prog.cellsOf 59 = 3 := by kernel_rfl
theorem cells3 : Try.prog.cellsOf 3 = 1 := by kernel_rfl
theorem cells4 : Try.prog.cellsOf 4 = 1 := by kernel_rfl
set_option maxRecDepth 100000 in
theorem open_acts {H : Type} {enc : TypeId × Value → H} {W : World} {held : Bool} {fuel : Nat} {cs : List Value} {x : DataW H × List MemPlace} {a : Option Addr} {len cap : Nat} (h : DataW.trod enc Try.prog W 0 (fun _ => true) held fuel 51 cs = some x) (hcs : cs = [.slice a len cap]) : Acts W a len := by
  rcases Go.Deep.open_slice Try.underlying51 h with ⟨h0, _⟩ | ⟨ad, l, c, m, n, D, Pl, h0, hb, hl, hm, hmm, hx, hi⟩
  · rw [h0] at hcs
    injection hcs with hcs
    injection hcs with e1 e2 e3
    subst e2
    exact fun i hi => absurd hi (Nat.not_lt_zero _)
  · rw [h0] at hcs
    injection hcs with hcs
    injection hcs with e1 e2 e3
    subst e1 e2 e3
    simp only [if_true] at hmm
    intro i hil
    obtain ⟨cs', h1, h2⟩ := hi i (by omega)
    rw [cells59] at h1
    obtain ⟨_, hlen, hcell⟩ := World.cells?_some h1
    obtain ⟨xs, k, hk, hxy, _, hxl, hf⟩ := DataW.trod_struct Try.underlying59 h2
    match xs, hxl, cs', hlen with
    | [y0, y1, y2], _, [v0, v1, v2], _ =>
      have g0 := hf 0 _ rfl
      have g1 := hf 1 _ rfl
      have g2 := hf 2 _ rfl
      simp [cells3, cells4] at g0 g1 g2
      have c0 := hcell 0 (by omega)
      have c1 := hcell 1 (by omega)
      have c2 := hcell 2 (by omega)
      rw [Go.Deep.add_add] at c0 c1 c2
      simp at c0 c1 c2
      obtain ⟨z0, e0, w0, _⟩ := DataW.trod_int Try.underlying3 g0
      obtain ⟨z1, e1, w1, hw1⟩ := DataW.trod_int Try.underlying3 g1
      simp at e0 e1
      subst e0 e1
      have had : ad = ⟨ad.block, ad.off, none⟩ := by
        obtain ⟨cs0, p1, _⟩ := hi 0 (by omega)
        rw [cells59] at p1
        obtain ⟨_, q1, q2⟩ := World.cells?_some p1
        match cs0, q1, q2 with
        | [w0, w1, w2], _, q2 =>
          have q3 := q2 0 (by omega)
          exact (cellSpot (v := w0) (by simpa [Addr.add] using q3)).1
      have hadd : ∀ q, ad.add q = ⟨ad.block, ad.off + q, none⟩ := fun q => by rw [had]; exact addMid _ _ _
      rw [hadd] at c0 c1 c2
      obtain ⟨d, e2, _⟩ := DataW.trod_bool Try.underlying4 g2
      simp at e2
      subst e2
      exact ⟨ad.block, ad.off, z0, z1, d, congrArg some had, (cellSpot c0).2, c0, c1, c2, by
        have hq := hw1
        simp only [Lit.wf, Bool.and_eq_true, decide_eq_true_eq] at hq
        have m1 : IntKind.i64.min = -9223372036854775808 := by kernel_rfl
        have m2 : IntKind.i64.max = 9223372036854775807 := by kernel_rfl
        omega⟩
end Go.Proofs.Ytnlfmmempomcaaa
