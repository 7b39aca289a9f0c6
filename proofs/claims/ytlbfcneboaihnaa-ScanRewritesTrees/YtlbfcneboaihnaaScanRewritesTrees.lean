/- One path's digits in the place of another one's, in any tree, in its files, links and names, whose order is made anew, are what the document says, counted, and the tree stays as it was: for every tree and every two texts the law ScanRewritesTrees returns true; no condition. -/
import Derived.Test.YtlbfcneboaihnaaRwl
import Derived.Test.YtlbfcneboaihnaaK4
import Derived.Test.YtlbfcneboaihnaaOpenS
import Derived.Test.YtlbfcneboaihnaaRows
import Derived.WalkKit
import Derived.ProofKit
import Derived.OpenShut
import Derived.ShutString
import Derived.ChangeOld
import Derived.Below
import Derived.SizedLaws
import Derived.SliceStrings
import Derived.HandedShaped
namespace Go.Proofs.Ytlbfcneboaihnaa
open Go.ChangeShapes Go.WideShapes Go.ChangeAt Go.RowKit
open Go.ChangeMaps (open_string shut_string)
namespace scanRewritesTrees
theorem own : ownKnob Try.prog.godebug = none := by kernel_rfl
theorem bytes5 : Try.prog.bytesOf 5 = 1 := by kernel_rfl
theorem laidOut : laidOutB Try.prog = true := by kernel_rfl

set_option maxRecDepth 100000 in
theorem lifted (os : Os) (started : os.Started) (H : Type) (enc : TypeId × Value → H) :
    ReturnsInHanded {} Try.checked os 6 .any (Rows.scanRewritesTreesSpec.pre6 enc Try.prog Try.f6 Rows.scanRewritesTreesRow.domain false) (Rows.scanRewritesTreesSpec.post enc Try.prog Try.f6 false true false false) := by
  refine returnsInHanded_of_change_shaped (C := Try.checked) own started (by kernel_rfl) Try.func6
    (ChangeSpec.witness6 (enc := enc) (C := Try.checked) false ⟨#[], #[.agg #[.int .i64 0, .bool false, .slice none 0 0, .slice none 0 0, .slice none 0 0], .string ⟨#[]⟩, .string ⟨#[]⟩], []⟩ 8 (by kernel_rfl) (by kernel_rfl) (by kernel_rfl) (by kernel_rfl)) ?_
  intro W base args ds gs before hval0 hW hcnd hsz hsh _
  have hval : ∀ (j : Nat) t v, Try.f6.params[j]? = some t → args[j]? = some v → Value.okWide Try.prog W .any base t v := hval0
  have hW' := hW
  obtain ⟨p, q, hA0, hV, rfl, hfz, hnd⟩ := hW
  have hA : DataW.TrodAll enc Try.prog W 0 (fun _ => true) true Try.f6.params.toList args.toList ds p := hA0
  rw [Try.params6] at hA hval
  obtain ⟨v0, vs0, d0, ds0, p0, q0, hargs, rfl, rfl, h0, r0⟩ := trodAll_cons hA
  obtain ⟨v1, vs1, d1, ds1, p1, q1, rfl, rfl, rfl, h1, r1⟩ := trodAll_cons r0
  obtain ⟨v2, vs2, d2, ds2, p2, q2, rfl, rfl, rfl, h2, r2⟩ := trodAll_cons r1
  obtain ⟨rfl, rfl, rfl⟩ := trodAll_nil r2
  obtain rfl : args = #[v0, v1, v2] := by cases args; simp_all
  obtain ⟨rfl, rfl⟩ := trodVars_none hV
  obtain ⟨cs0, rfl⟩ : ∃ cs, v0 = .agg cs := by
    have := hval 0 34 v0 rfl rfl
    simp [Value.okWide, Try.underlying34] at this
    obtain ⟨cs, h, -⟩ := this
    exact ⟨cs, h⟩
  have k0 := h0
  have lt0 : ∀ x ∈ p0, x.block < W.heap.size := by obtain ⟨m, hm⟩ := k0; exact DataW.trod_lt m _ _ _ hm
  obtain ⟨Tr0, hT0, hF0⟩ : ∃ T, Tn.Lies 0 W.heap.size W T cs0.toList ∧ Tn.Fit T := by
    obtain ⟨fuel, hf⟩ := h0
    refine Tn.open_tree fuel cs0.toList _ (by simpa [Value.cells] using hf) (fun n hn => ?_)
    exact of_decide_eq_true (List.all_eq_true.1 hsz n (DataW.weights_mem_each (j := 0) (t := 34) (d := d0) rfl rfl n hn))
  obtain ⟨s1, rfl, rfl, rfl, hs1⟩ := open_string Try.underlying25 (hval 1 25 v1 rfl rfl) h1
  have hz1 : s1.size ≤ 140737488351232 := by
    have h2 := sized_string hsz (j := 1) (t := 25) rfl rfl
    have hr : reachBytes = 140737488351232 := rfl
    rw [hr] at h2
    simpa using h2
  obtain ⟨s2, rfl, rfl, rfl, hs2⟩ := open_string Try.underlying25 (hval 2 25 v2 rfl rfl) h2
  have hz2 : s2.size ≤ 140737488351232 := by
    have h2 := sized_string hsz (j := 2) (t := 25) rfl rfl
    have hr : reachBytes = 140737488351232 := rfl
    rw [hr] at h2
    simpa using h2
  clear hA0 hval0
  have hc := rewTrees_walk Tr0 cs0.toList s1 s2 W hT0 hF0 hz1 hz2 (lays185.s1_3 W hsh)
  rw [Array.toArray_toList] at hc
  refine hc.mono fun e W' ⟨he, bel⟩ => ?_
  subst he
  exact ⟨_, rfl, _, _, _, [], _, [], hW', trodAll_mk1 (shut_bool Try.underlying4 _), (trodAll_cons_mk (Below.trod laidOut (by kernel_rfl) (of_decide_eq_true (by kernel_rfl)) k0 bel lt0) (trodAll_cons_mk (shut_string Try.underlying25 hs1) (trodAll_cons_mk (shut_string Try.underlying25 hs2) trodAll_mk0))), rfl, bel.frame _, fun h => by cases h⟩

theorem over : Rows.scanRewritesTreesRow.holds Try.pinned (OpenSpec.ofChange Rows.scanRewritesTreesSpec) :=
  OpenClaim.holds_of_wide 6 Try.f6 rfl rfl rfl rfl rfl rfl rfl ⟨rfl, rfl, rfl, rfl, rfl⟩ rfl rfl rfl rfl rfl (by kernel_rfl) Try.func6 (by kernel_rfl)
    (of_decide_eq_true (by kernel_rfl)) (by unfold Func.isWrapper; first | (rw [if_pos (by decide +kernel)]; kernel_rfl) | (rw [if_neg (by decide +kernel)]; exact ⟨rfl, rfl⟩))
    (fun os started H enc _ => lifted os started H enc)
end scanRewritesTrees
theorem scanRewritesTrees_holds : Rows.ScanRewritesTreesSaid := scanRewritesTrees.over
end Go.Proofs.Ytlbfcneboaihnaa
