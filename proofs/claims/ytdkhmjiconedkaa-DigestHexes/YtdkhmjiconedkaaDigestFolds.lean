/- A digest in twenty bytes: for every digest the law DigestFolds returns true and leaves its argument as it was; no condition. -/
import Derived.Test.YtdkhmjiconedkaaFold
import Derived.Test.YtdkhmjiconedkaaRows
import Derived.WalkKit
import Derived.ProofKit
import Derived.OpenShut
import Derived.ShutString
import Derived.ChangeOld
import Derived.Below
namespace Go.Proofs.Ytdkhmjiconedkaa
open Go.ChangeShapes Go.WideShapes Go.ChangeAt Go.RowKit

theorem cells25 : Try.prog.cellsOf 25 = 32 := by kernel_rfl
/-- A digest that came in: thirty-two bytes. -/
theorem hash_open {H : Type} {enc : TypeId × Value → H} {w : World} {base : Nat} {spare : Nat → Bool} {held : Bool} {fuel : Nat} {cs : List Value} {x : DataW H × List MemPlace}
    (h : DataW.trod enc Try.prog w base spare held fuel 25 cs = some x) : ∃ l : List Nat, cs = l.map B8 ∧ l.length = 32 ∧ Sha.Bytes l := by
  obtain ⟨xs, m, -, -, hlen, hxl, hget⟩ := DataW.trod_array Try.underlying25 h
  rw [cells25] at hlen
  rw [cells5] at hget
  have hcell : ∀ i, (hi : i < cs.length) → ∃ n : Int, cs[i] = .int .u8 n ∧ 0 ≤ n ∧ n ≤ 255 := by
    intro i hi
    have hg := hget i (by omega)
    rw [Nat.mul_one, List.getElem?_eq_getElem (by omega : i < xs.length)] at hg
    obtain ⟨n, hn, -, hwf⟩ := DataW.trod_int Try.underlying5 hg
    have hd : (cs.drop i).take 1 = [cs[i]] := by rw [List.drop_eq_getElem_cons hi]; rfl
    rw [hd] at hn
    have hb := bounds_u8 hwf
    exact ⟨n, by simpa using hn, hb.1, hb.2⟩
  refine ⟨cs.map fun v => (intOf v).toNat, ?_, by simpa using hlen, ?_⟩
  · rw [List.map_map]
    apply List.ext_getElem (by simp)
    intro i h1 h2
    obtain ⟨n, hn, h0, -⟩ := hcell i h1
    rw [List.getElem_map, Function.comp, hn]
    show Value.int .u8 n = .int .u8 ((n.toNat : Nat) : Int)
    rw [Int.toNat_of_nonneg h0]
  · intro y hy
    obtain ⟨v, hv, rfl⟩ := List.mem_map.1 hy
    obtain ⟨i, hi, rfl⟩ := List.getElem_of_mem hv
    obtain ⟨n, hn, h0, h255⟩ := hcell i hi
    rw [hn]; show n.toNat < 256; omega

namespace digestFolds
theorem own : ownKnob Try.prog.godebug = none := by kernel_rfl
theorem laidOut : laidOutB Try.prog = true := by kernel_rfl

set_option maxRecDepth 100000 in
theorem lifted (os : Os) (started : os.Started) (H : Type) (enc : TypeId × Value → H) :
    ReturnsInHanded {} Try.checked os 4 .any (Rows.digestFoldsSpec.pre6 enc Try.prog Try.f4 Rows.digestFoldsRow.domain false) (Rows.digestFoldsSpec.post enc Try.prog Try.f4 false true false false) := by
  refine returnsInHanded_of_change (C := Try.checked) own started (by kernel_rfl) Try.func4
    (ChangeSpec.witness6 (enc := enc) (C := Try.checked) false ⟨#[], #[.agg Z25], []⟩ 8 (by kernel_rfl) (by kernel_rfl) (by kernel_rfl) (by kernel_rfl)) ?_
  intro W base args ds gs before hval0 hW hcnd _
  have hval : ∀ (j : Nat) t v, Try.f4.params[j]? = some t → args[j]? = some v → Value.okWide Try.prog W .any base t v := hval0
  have hW' := hW
  obtain ⟨p, q, hA0, hV, rfl, hfz, hnd⟩ := hW
  have hA : DataW.TrodAll enc Try.prog W 0 (fun _ => true) true Try.f4.params.toList args.toList ds p := hA0
  rw [Try.params4] at hA hval
  obtain ⟨v0, vs0, d0, ds0, p0, q0, hargs, rfl, rfl, h0, r0⟩ := trodAll_cons hA
  obtain ⟨rfl, rfl, rfl⟩ := trodAll_nil r0
  obtain rfl : args = #[v0] := by cases args; simp_all
  obtain ⟨rfl, rfl⟩ := trodVars_none hV
  obtain ⟨cs, rfl⟩ : ∃ cs, v0 = .agg cs := by
    have := hval 0 25 v0 rfl rfl
    simp [Value.okWide, Try.underlying25] at this
    obtain ⟨cs, h, -⟩ := this
    exact ⟨cs, h⟩
  have k0 := h0
  have lt0 : ∀ x ∈ p0, x.block < W.heap.size := by obtain ⟨m, hm⟩ := k0; exact DataW.trod_lt m _ _ _ hm
  obtain ⟨l, hl, hll, hlb⟩ : ∃ l : List Nat, cs.toList = l.map B8 ∧ l.length = 32 ∧ Sha.Bytes l := by
    obtain ⟨fuel, hf⟩ := h0
    exact hash_open (by simpa [Value.cells] using hf)
  have hcs : cs = E8 l := by rw [← Array.toArray_toList (xs := cs), hl]; rfl
  clear hA0 hval0
  rw [hcs]
  refine (folds_walk l W hll).mono fun e W' ⟨he, bel⟩ => ?_
  subst he
  rw [hcs] at hW' k0
  exact ⟨_, rfl, _, _, _, [], _, [], hW', trodAll_mk1 (shut_bool Try.underlying4 _), (trodAll_cons_mk (Below.trod laidOut (by kernel_rfl) (of_decide_eq_true (by kernel_rfl)) k0 bel lt0) trodAll_mk0), rfl, bel.frame _, fun h => by cases h⟩

theorem over : Rows.digestFoldsRow.holds Try.pinned (OpenSpec.ofChange Rows.digestFoldsSpec) :=
  OpenClaim.holds_of_wide 4 Try.f4 rfl rfl rfl rfl rfl rfl rfl ⟨rfl, rfl, rfl, rfl, rfl⟩ rfl rfl rfl rfl rfl (by kernel_rfl) Try.func4 (by kernel_rfl)
    (of_decide_eq_true (by kernel_rfl)) (by unfold Func.isWrapper; first | (rw [if_pos (by decide +kernel)]; kernel_rfl) | (rw [if_neg (by decide +kernel)]; exact ⟨rfl, rfl⟩))
    (fun os started H enc _ => lifted os started H enc)
end digestFolds
theorem digestFolds_holds : Rows.DigestFoldsSaid := digestFolds.over
end Go.Proofs.Ytdkhmjiconedkaa
