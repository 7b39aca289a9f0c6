/- A digest that came in as an argument, as thirty-two bytes. -/
import Derived.Test.YtfoghaocfkcggaaMakes
import Derived.Test.YtfoghaocfkcggaaRows
import Derived.WalkKit
import Derived.ProofKit
import Derived.OpenShut
import Derived.ShutString
import Derived.ChangeOld
import Derived.Below
namespace Go.Proofs.Ytfoghaocfkcggaa
open Go.ChangeShapes Go.WideShapes Go.ChangeAt Go.RowKit

theorem cells5 : Try.prog.cellsOf 5 = 1 := by kernel_rfl
theorem cells25 : Try.prog.cellsOf 25 = 32 := by kernel_rfl
/-- A digest that came in: thirty-two bytes. -/
theorem hash_open {H : Type} {enc : TypeId × Value → H} {w : World} {base : Nat} {spare : Nat → Bool} {held : Bool} {fuel : Nat} {cs : List Value} {x : DataW H × List MemPlace}
    (h : DataW.trod enc Try.prog w base spare held fuel 25 cs = some x) : ∃ l : List Nat, cs = l.map B8 ∧ l.length = 32 ∧ Sha.Bytes l := by
  obtain ⟨xs, m, -, -, hlen, hxl, hget⟩ := DataW.trod_array Try.underlying25 h
  rw [cells25] at hlen
  rw [cells5] at hget
  have hcell : ∀ i, (hi : i < cs.length) → ∃ n : Int, cs[i] = .int .u8 n ∧ 0 ≤ n ∧ n ≤ 255 := by
    intro i hi
    have hg := hget i (by omega)
    rw [Nat.mul_one, List.getElem?_eq_getElem (by omega : i < xs.length)] at hg
    obtain ⟨n, hn, -, hwf⟩ := DataW.trod_int Try.underlying5 hg
    have hd : (cs.drop i).take 1 = [cs[i]] := by rw [List.drop_eq_getElem_cons hi]; rfl
    rw [hd] at hn
    have hb := bounds_u8 hwf
    exact ⟨n, by simpa using hn, hb.1, hb.2⟩
  refine ⟨cs.map fun v => (intOf v).toNat, ?_, by simpa using hlen, ?_⟩
  · rw [List.map_map]
    apply List.ext_getElem (by simp)
    intro i h1 h2
    obtain ⟨n, hn, h0, -⟩ := hcell i h1
    rw [List.getElem_map, Function.comp, hn]
    show Value.int .u8 n = .int .u8 ((n.toNat : Nat) : Int)
    rw [Int.toNat_of_nonneg h0]
  · intro y hy
    obtain ⟨v, hv, rfl⟩ := List.mem_map.1 hy
    obtain ⟨i, hi, rfl⟩ := List.getElem_of_mem hv
    obtain ⟨n, hn, h0, h255⟩ := hcell i hi
    rw [hn]; show n.toNat < 256; omega

namespace digestFolds
end digestFolds
end Go.Proofs.Ytfoghaocfkcggaa
