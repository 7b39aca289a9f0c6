/- Which of any paths stand in any tree, in its files, links and names, is what the document says, and the tree stays as it was: for every tree and every row of texts the law ScanTrees returns true; no condition. -/
import Derived.Test.YtlbfcneboaihnaaTrs
import Derived.Test.YtlbfcneboaihnaaK4
import Derived.Test.YtlbfcneboaihnaaOpenS
import Derived.Test.YtlbfcneboaihnaaRows
import Derived.WalkKit
import Derived.ProofKit
import Derived.OpenShut
import Derived.ShutString
import Derived.ChangeOld
import Derived.Below
import Derived.SizedLaws
import Derived.SliceStrings
namespace Go.Proofs.Ytlbfcneboaihnaa
open Go.ChangeShapes Go.WideShapes Go.ChangeAt Go.RowKit
open Go.ChangeMaps (open_string shut_string)
namespace scanTrees
theorem own : ownKnob Try.prog.godebug = none := by kernel_rfl
theorem bytes5 : Try.prog.bytesOf 5 = 1 := by kernel_rfl
theorem laidOut : laidOutB Try.prog = true := by kernel_rfl

set_option maxRecDepth 100000 in
theorem lifted (os : Os) (started : os.Started) (H : Type) (enc : TypeId × Value → H) :
    ReturnsInHanded {} Try.checked os 4 .any (Rows.scanTreesSpec.pre6 enc Try.prog Try.f4 Rows.scanTreesRow.domain false) (Rows.scanTreesSpec.post enc Try.prog Try.f4 false true false false) := by
  refine returnsInHanded_of_change_sized (C := Try.checked) own started (by kernel_rfl) Try.func4
    (ChangeSpec.witness6 (enc := enc) (C := Try.checked) false ⟨#[], #[.agg #[.int .i64 0, .bool false, .slice none 0 0, .slice none 0 0, .slice none 0 0], .slice none 0 0], []⟩ 8 (by kernel_rfl) (by kernel_rfl) (by kernel_rfl) (by kernel_rfl)) ?_
  intro W base args ds gs before hval0 hW hcnd hsz _
  have hval : ∀ (j : Nat) t v, Try.f4.params[j]? = some t → args[j]? = some v → Value.okWide Try.prog W .any base t v := hval0
  have hW' := hW
  obtain ⟨p, q, hA0, hV, rfl, hfz, hnd⟩ := hW
  have hA : DataW.TrodAll enc Try.prog W 0 (fun _ => true) true Try.f4.params.toList args.toList ds p := hA0
  rw [Try.params4] at hA hval
  obtain ⟨v0, vs0, d0, ds0, p0, q0, hargs, rfl, rfl, h0, r0⟩ := trodAll_cons hA
  obtain ⟨v1, vs1, d1, ds1, p1, q1, rfl, rfl, rfl, h1, r1⟩ := trodAll_cons r0
  obtain ⟨rfl, rfl, rfl⟩ := trodAll_nil r1
  obtain rfl : args = #[v0, v1] := by cases args; simp_all
  obtain ⟨rfl, rfl⟩ := trodVars_none hV
  obtain ⟨cs0, rfl⟩ : ∃ cs, v0 = .agg cs := by
    have := hval 0 34 v0 rfl rfl
    simp [Value.okWide, Try.underlying34] at this
    obtain ⟨cs, h, -⟩ := this
    exact ⟨cs, h⟩
  have k0 := h0
  have lt0 : ∀ x ∈ p0, x.block < W.heap.size := by obtain ⟨m, hm⟩ := k0; exact DataW.trod_lt m _ _ _ hm
  obtain ⟨Tr0, hT0, hF0⟩ : ∃ T, Tn.Lies 0 W.heap.size W T cs0.toList ∧ Tn.Fit T := by
    obtain ⟨fuel, hf⟩ := h0
    refine Tn.open_tree fuel cs0.toList _ (by simpa [Value.cells] using hf) (fun n hn => ?_)
    exact of_decide_eq_true (List.all_eq_true.1 hsz n (DataW.weights_mem_each (j := 0) (t := 34) (d := d0) rfl rfl n hn))
  have k1 := h1
  have lt1 : ∀ x ∈ p1, x.block < W.heap.size := by obtain ⟨m, hm⟩ := k1; exact DataW.trod_lt m _ _ _ hm
  obtain ⟨a1, len1, cap1, rfl⟩ := okWide_slice Try.underlying23 (hval 1 23 v1 rfl rfl)
  obtain ⟨Z1, hat1, hl1, hc1, hz1⟩ : ∃ Z : List Ord.S, StrsAt W (.slice a1 len1 cap1) Z ∧ Z.length = len1 ∧ len1 ≤ 9223372036854775807 ∧ ∀ z ∈ Z, z.length ≤ 140737488351232 := by
    obtain ⟨fuel, hf⟩ := h1
    rcases open_strings Try.underlying23 Try.underlying25 (by kernel_rfl) hf with ⟨hcs, _⟩ | ⟨x, lx, cx, ss, hcs, _, hlx, hmx, hzx, hx, hcell, hwz⟩
    · simp [Value.cells] at hcs
      obtain ⟨rfl, rfl, rfl⟩ := hcs
      exact ⟨[], strs_none W, rfl, by omega, fun z hz => by simp at hz⟩
    · simp [Value.cells] at hcs
      obtain ⟨rfl, rfl, rfl⟩ := hcs
      have hd := (Prod.mk.inj hx).1
      have hml : cap1 ≤ 9223372036854775807 := by unfold maxLen at hmx; omega
      refine ⟨_, strs_some hlx (by simpa using hzx) hcell, by simp; have : ss.length = cap1 := (by simpa using hzx); omega, by omega, fun z hz => ?_⟩
      obtain ⟨y, hy, rfl⟩ := List.mem_map.1 hz
      have h2 := sized_text hsz (j := 1) (t := 23) (e := 25) (elems := strs (ss.take len1)) (spare := strs (ss.drop len1)) (bytes := y.data.toList) rfl (by rw [hd]; rfl) Try.underlying23 (List.mem_map.2 ⟨y, hy, rfl⟩)
      have hr : reachBytes = 140737488351232 := rfl
      rw [hr] at h2
      omega
  clear hA0 hval0
  have hc := trees_walk Tr0 cs0.toList a1 len1 cap1 Z1 W hT0 hF0 hat1 hl1 hc1 hz1
  rw [Array.toArray_toList] at hc
  refine hc.mono fun e W' ⟨he, bel⟩ => ?_
  subst he
  exact ⟨_, rfl, _, _, _, [], _, [], hW', trodAll_mk1 (shut_bool Try.underlying4 _), (trodAll_cons_mk (Below.trod laidOut (by kernel_rfl) (of_decide_eq_true (by kernel_rfl)) k0 bel lt0) (trodAll_cons_mk (Below.trod laidOut (by kernel_rfl) (of_decide_eq_true (by kernel_rfl)) k1 bel lt1) trodAll_mk0)), rfl, bel.frame _, fun h => by cases h⟩

theorem over : Rows.scanTreesRow.holds Try.pinned (OpenSpec.ofChange Rows.scanTreesSpec) :=
  OpenClaim.holds_of_wide 4 Try.f4 rfl rfl rfl rfl rfl rfl rfl ⟨rfl, rfl, rfl, rfl, rfl⟩ rfl rfl rfl rfl rfl (by kernel_rfl) Try.func4 (by kernel_rfl)
    (of_decide_eq_true (by kernel_rfl)) (by unfold Func.isWrapper; first | (rw [if_pos (by decide +kernel)]; kernel_rfl) | (rw [if_neg (by decide +kernel)]; exact ⟨rfl, rfl⟩))
    (fun os started H enc _ => lifted os started H enc)
end scanTrees
theorem scanTrees_holds : Rows.ScanTreesSaid := scanTrees.over
end Go.Proofs.Ytlbfcneboaihnaa
