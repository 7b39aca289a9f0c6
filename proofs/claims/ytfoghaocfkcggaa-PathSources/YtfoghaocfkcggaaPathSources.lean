/- Paths of trees, of texts, of fixed outputs and of outputs: for every digest, refs, output and name the law PathSources returns true; no condition. -/
import Derived.Test.YtfoghaocfkcggaaSources
import Derived.Test.YtfoghaocfkcggaaOpen
import Derived.Test.YtfoghaocfkcggaaOpenS
import Derived.Test.YtfoghaocfkcggaaRows
import Derived.WalkKit
import Derived.ProofKit
import Derived.OpenShut
import Derived.ShutString
import Derived.ChangeOld
import Derived.Below
import Derived.SizedLaws
import Derived.SliceStrings
namespace Go.Proofs.Ytfoghaocfkcggaa
open Go.ChangeShapes Go.WideShapes Go.ChangeAt Go.RowKit
open Go.ChangeMaps (open_string shut_string)
namespace pathSources
theorem own : ownKnob Try.prog.godebug = none := by kernel_rfl
theorem laidOut : laidOutB Try.prog = true := by kernel_rfl

set_option maxRecDepth 100000 in
theorem lifted (os : Os) (started : os.Started) (H : Type) (enc : TypeId × Value → H) :
    ReturnsInHanded {} Try.checked os 6 .any (Rows.pathSourcesSpec.pre6 enc Try.prog Try.f6 Rows.pathSourcesRow.domain false) (Rows.pathSourcesSpec.post enc Try.prog Try.f6 false true false false) := by
  refine returnsInHanded_of_change_sized (C := Try.checked) own started (by kernel_rfl) Try.func6
    (ChangeSpec.witness6 (enc := enc) (C := Try.checked) false ⟨#[], #[.agg Z25, .slice none 0 0, .string ⟨#[]⟩, .string ⟨#[]⟩], []⟩ 8 (by kernel_rfl) (by kernel_rfl) (by kernel_rfl) (by kernel_rfl)) ?_
  intro W base args ds gs before hval0 hW hcnd hsz _
  have hval : ∀ (j : Nat) t v, Try.f6.params[j]? = some t → args[j]? = some v → Value.okWide Try.prog W .any base t v := hval0
  have hW' := hW
  obtain ⟨p, q, hA0, hV, rfl, hfz, hnd⟩ := hW
  have hA : DataW.TrodAll enc Try.prog W 0 (fun _ => true) true Try.f6.params.toList args.toList ds p := hA0
  rw [Try.params6] at hA hval
  obtain ⟨v0, vs0, d0, ds0, p0, q0, hargs, rfl, rfl, h0, r0⟩ := trodAll_cons hA
  obtain ⟨v1, vs1, d1, ds1, p1, q1, rfl, rfl, rfl, h1, r1⟩ := trodAll_cons r0
  obtain ⟨v2, vs2, d2, ds2, p2, q2, rfl, rfl, rfl, h2, r2⟩ := trodAll_cons r1
  obtain ⟨v3, vs3, d3, ds3, p3, q3, rfl, rfl, rfl, h3, r3⟩ := trodAll_cons r2
  obtain ⟨rfl, rfl, rfl⟩ := trodAll_nil r3
  obtain rfl : args = #[v0, v1, v2, v3] := by cases args; simp_all
  obtain ⟨rfl, rfl⟩ := trodVars_none hV
  obtain ⟨cs0, rfl⟩ : ∃ cs, v0 = .agg cs := by
    have := hval 0 25 v0 rfl rfl
    simp [Value.okWide, Try.underlying25] at this
    obtain ⟨cs, h, -⟩ := this
    exact ⟨cs, h⟩
  have k0 := h0
  have lt0 : ∀ x ∈ p0, x.block < W.heap.size := by obtain ⟨m, hm⟩ := k0; exact DataW.trod_lt m _ _ _ hm
  obtain ⟨l0, hl0, hll0, hlb0⟩ : ∃ l : List Nat, cs0.toList = l.map B8 ∧ l.length = 32 ∧ Sha.Bytes l := by
    obtain ⟨fuel, hf⟩ := h0
    exact hash_open (by simpa [Value.cells] using hf)
  have hcs0 : cs0 = E8 l0 := by rw [← Array.toArray_toList (xs := cs0), hl0]; rfl
  have k1 := h1
  have lt1 : ∀ x ∈ p1, x.block < W.heap.size := by obtain ⟨m, hm⟩ := k1; exact DataW.trod_lt m _ _ _ hm
  obtain ⟨a1, len1, cap1, rfl⟩ := okWide_slice Try.underlying38 (hval 1 38 v1 rfl rfl)
  obtain ⟨Z1, w1, n1, m1, z1⟩ : ∃ Z : List Ord.S, StrsAt W (.slice a1 len1 cap1) Z ∧ Z.length = len1 ∧ len1 ≤ 9223372036854775807 ∧ ∀ z ∈ Z, z.length ≤ 281474976710656 := by
    obtain ⟨fuel, hf⟩ := h1
    rcases open_strings Try.underlying38 Try.underlying26 (by kernel_rfl) hf with ⟨hcs, _⟩ | ⟨x, lx, cx, ss, hcs, _, hlx, hmx, hzx, hx, hcell, hwz⟩
    · simp [Value.cells] at hcs
      obtain ⟨rfl, rfl, rfl⟩ := hcs
      exact ⟨[], strs_none W, rfl, by omega, fun z hz => by simp at hz⟩
    · simp [Value.cells] at hcs
      obtain ⟨rfl, rfl, rfl⟩ := hcs
      have hd := (Prod.mk.inj hx).1
      have hml : cap1 ≤ 9223372036854775807 := by unfold maxLen at hmx; omega
      refine ⟨_, strs_some hlx (by simpa using hzx) hcell, by simp; have : ss.length = cap1 := (by simpa using hzx); omega, by omega, fun z hz => ?_⟩
      obtain ⟨y, hy, rfl⟩ := List.mem_map.1 hz
      have h2 := sized_text hsz (j := 1) (t := 38) (e := 26) (elems := strs (ss.take len1)) (spare := strs (ss.drop len1)) (bytes := y.data.toList) rfl (by rw [hd]; rfl) Try.underlying38 (List.mem_map.2 ⟨y, hy, rfl⟩)
      have hr : reachBytes = 140737488351232 := rfl
      rw [hr] at h2
      omega
  obtain ⟨s2, rfl, rfl, rfl, hs2⟩ := open_string Try.underlying9 (hval 2 9 v2 rfl rfl) h2
  have hm2 : s2.size ≤ 9223372036854775807 := by
    have h2 := hs2
    first | (unfold maxLen at h2; omega) | (simp [maxLen] at h2; omega) | omega
  have hz2 : s2.size ≤ 140737488351232 := by
    have h2 := sized_string hsz (j := 2) (t := 9) rfl rfl
    have hr : reachBytes = 140737488351232 := rfl
    rw [hr] at h2
    simpa using h2
  obtain ⟨s3, rfl, rfl, rfl, hs3⟩ := open_string Try.underlying9 (hval 3 9 v3 rfl rfl) h3
  have hm3 : s3.size ≤ 9223372036854775807 := by
    have h2 := hs3
    first | (unfold maxLen at h2; omega) | (simp [maxLen] at h2; omega) | omega
  have hz3 : s3.size ≤ 140737488351232 := by
    have h2 := sized_string hsz (j := 3) (t := 9) rfl rfl
    have hr : reachBytes = 140737488351232 := rfl
    rw [hr] at h2
    simpa using h2
  clear hA0 hval0
  rw [hcs0]
  refine (sources_walk W l0 hll0 hlb0 a1 len1 cap1 Z1 w1 n1 m1 z1 s2 hz2 s3 hz3).mono fun e W' ⟨he, bel⟩ => ?_
  subst he
  rw [hcs0] at hW' k0
  exact ⟨_, rfl, _, _, _, [], _, [], hW', trodAll_mk1 (shut_bool Try.underlying4 _), (trodAll_cons_mk (Below.trod laidOut (by kernel_rfl) (of_decide_eq_true (by kernel_rfl)) k0 bel lt0) (trodAll_cons_mk (Below.trod laidOut (by kernel_rfl) (of_decide_eq_true (by kernel_rfl)) k1 bel lt1) (trodAll_cons_mk (shut_string Try.underlying9 hs2) (trodAll_cons_mk (shut_string Try.underlying9 hs3) trodAll_mk0)))), rfl, bel.frame _, fun h => by cases h⟩

theorem over : Rows.pathSourcesRow.holds Try.pinned (OpenSpec.ofChange Rows.pathSourcesSpec) :=
  OpenClaim.holds_of_wide 6 Try.f6 rfl rfl rfl rfl rfl rfl rfl ⟨rfl, rfl, rfl, rfl, rfl⟩ rfl rfl rfl rfl rfl (by kernel_rfl) Try.func6 (by kernel_rfl)
    (of_decide_eq_true (by kernel_rfl)) (by unfold Func.isWrapper; first | (rw [if_pos (by decide +kernel)]; kernel_rfl) | (rw [if_neg (by decide +kernel)]; exact ⟨rfl, rfl⟩))
    (fun os started H enc _ => lifted os started H enc)
end pathSources
theorem pathSources_holds : Rows.PathSourcesSaid := pathSources.over
end Go.Proofs.Ytfoghaocfkcggaa
