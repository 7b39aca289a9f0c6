/- One path's digits in the place of another one's, in any bytes, are what the document says, counted, and what was handed in stays: for every row of bytes and every two texts the law ScanRewrites returns true; no condition. -/
import Derived.Test.YtlbfcneboaihnaaRews
import Derived.Test.YtlbfcneboaihnaaOpenS
import Derived.Test.YtlbfcneboaihnaaRows
import Derived.WalkKit
import Derived.ProofKit
import Derived.OpenShut
import Derived.ShutString
import Derived.ChangeOld
import Derived.Below
import Derived.SizedLaws
import Derived.SliceStrings
import Derived.HandedShaped
namespace Go.Proofs.Ytlbfcneboaihnaa
open Go.ChangeShapes Go.WideShapes Go.ChangeAt Go.RowKit
open Go.ChangeMaps (open_string shut_string)
namespace scanRewrites
theorem own : ownKnob Try.prog.godebug = none := by kernel_rfl
theorem bytes5 : Try.prog.bytesOf 5 = 1 := by kernel_rfl
theorem laidOut : laidOutB Try.prog = true := by kernel_rfl

set_option maxRecDepth 100000 in
theorem lifted (os : Os) (started : os.Started) (H : Type) (enc : TypeId × Value → H) :
    ReturnsInHanded {} Try.checked os 5 .any (Rows.scanRewritesSpec.pre6 enc Try.prog Try.f5 Rows.scanRewritesRow.domain false) (Rows.scanRewritesSpec.post enc Try.prog Try.f5 false true false false) := by
  refine returnsInHanded_of_change_shaped (C := Try.checked) own started (by kernel_rfl) Try.func5
    (ChangeSpec.witness6 (enc := enc) (C := Try.checked) false ⟨#[], #[.slice none 0 0, .string ⟨#[]⟩, .string ⟨#[]⟩], []⟩ 8 (by kernel_rfl) (by kernel_rfl) (by kernel_rfl) (by kernel_rfl)) ?_
  intro W base args ds gs before hval0 hW hcnd hsz hsh _
  have hval : ∀ (j : Nat) t v, Try.f5.params[j]? = some t → args[j]? = some v → Value.okWide Try.prog W .any base t v := hval0
  have hW' := hW
  obtain ⟨p, q, hA0, hV, rfl, hfz, hnd⟩ := hW
  have hA : DataW.TrodAll enc Try.prog W 0 (fun _ => true) true Try.f5.params.toList args.toList ds p := hA0
  rw [Try.params5] at hA hval
  obtain ⟨v0, vs0, d0, ds0, p0, q0, hargs, rfl, rfl, h0, r0⟩ := trodAll_cons hA
  obtain ⟨v1, vs1, d1, ds1, p1, q1, rfl, rfl, rfl, h1, r1⟩ := trodAll_cons r0
  obtain ⟨v2, vs2, d2, ds2, p2, q2, rfl, rfl, rfl, h2, r2⟩ := trodAll_cons r1
  obtain ⟨rfl, rfl, rfl⟩ := trodAll_nil r2
  obtain rfl : args = #[v0, v1, v2] := by cases args; simp_all
  obtain ⟨rfl, rfl⟩ := trodVars_none hV
  have k0 := h0
  have lt0 : ∀ x ∈ p0, x.block < W.heap.size := by obtain ⟨m, hm⟩ := k0; exact DataW.trod_lt m _ _ _ hm
  obtain ⟨a0, len0, cap0, rfl⟩ := okWide_slice Try.underlying22 (hval 0 22 v0 rfl rfl)
  obtain ⟨z0, w0, hc0⟩ : ∃ zs, IsRow .u8 W a0 len0 cap0 zs ∧ len0 ≤ 281474976710656 := by
    obtain ⟨fuel, hf⟩ := h0
    rcases open_ints Try.underlying22 Try.underlying5 (by kernel_rfl) hf with ⟨hcs, _⟩ | ⟨x, l, c, zs, hcs, _, hl, hm, hz, hx, hcell, hwz⟩
    · simp [Value.cells] at hcs
      obtain ⟨rfl, rfl, rfl⟩ := hcs
      exact ⟨[], .inl ⟨rfl, rfl, rfl, rfl⟩, by omega⟩
    · simp [Value.cells] at hcs
      obtain ⟨rfl, rfl, rfl⟩ := hcs
      have hd := (Prod.mk.inj hx).1
      have hzl : zs.length = cap0 := by simpa using hz
      have hs := sized_slice hsz (j := 0) (t := 22) (e := 5) rfl (by rw [hd]; rfl) Try.underlying22
      rw [show Try.checked.prog.bytesOf 5 = 1 from bytes5] at hs
      have hr : reachBytes = 140737488351232 := rfl
      simp [lits] at hs
      exact ⟨zs, .inr ⟨_, rfl, hl, hm, hzl, hcell, hwz⟩, by omega⟩
  obtain ⟨B0, hl0, hb0, hat0⟩ := isRow_bytes w0
  obtain ⟨s1, rfl, rfl, rfl, hs1⟩ := open_string Try.underlying25 (hval 1 25 v1 rfl rfl) h1
  have hz1 : s1.size ≤ 140737488351232 := by
    have h2 := sized_string hsz (j := 1) (t := 25) rfl rfl
    have hr : reachBytes = 140737488351232 := rfl
    rw [hr] at h2
    simpa using h2
  obtain ⟨s2, rfl, rfl, rfl, hs2⟩ := open_string Try.underlying25 (hval 2 25 v2 rfl rfl) h2
  have hz2 : s2.size ≤ 140737488351232 := by
    have h2 := sized_string hsz (j := 2) (t := 25) rfl rfl
    have hr : reachBytes = 140737488351232 := rfl
    rw [hr] at h2
    simpa using h2
  clear hA0 hval0
  have hc := rews_walk a0 len0 cap0 B0 s1 s2 W hat0 hb0 hl0 hc0 hz1 hz2 (lays185.s1_3 W hsh)
  refine hc.mono fun e W' ⟨he, bel⟩ => ?_
  subst he
  exact ⟨_, rfl, _, _, _, [], _, [], hW', trodAll_mk1 (shut_bool Try.underlying4 _), (trodAll_cons_mk (Below.trod laidOut (by kernel_rfl) (of_decide_eq_true (by kernel_rfl)) k0 bel lt0) (trodAll_cons_mk (shut_string Try.underlying25 hs1) (trodAll_cons_mk (shut_string Try.underlying25 hs2) trodAll_mk0))), rfl, bel.frame _, fun h => by cases h⟩

theorem over : Rows.scanRewritesRow.holds Try.pinned (OpenSpec.ofChange Rows.scanRewritesSpec) :=
  OpenClaim.holds_of_wide 5 Try.f5 rfl rfl rfl rfl rfl rfl rfl ⟨rfl, rfl, rfl, rfl, rfl⟩ rfl rfl rfl rfl rfl (by kernel_rfl) Try.func5 (by kernel_rfl)
    (of_decide_eq_true (by kernel_rfl)) (by unfold Func.isWrapper; first | (rw [if_pos (by decide +kernel)]; kernel_rfl) | (rw [if_neg (by decide +kernel)]; exact ⟨rfl, rfl⟩))
    (fun os started H enc _ => lifted os started H enc)
end scanRewrites
theorem scanRewrites_holds : Rows.ScanRewritesSaid := scanRewrites.over
end Go.Proofs.Ytlbfcneboaihnaa
