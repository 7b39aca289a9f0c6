/- What a fuse lets through is done, and nothing behind it: for every number and all rows of bytes the law FsFuses returns true; no condition. -/
import Derived.Test.YtbnbakcoomjnaaaKd
import Derived.Test.YtbnbakcoomjnaaaOpn
import Derived.Test.YtbnbakcoomjnaaaRows
import Derived.WalkKit
import Derived.ProofKit
import Derived.OpenShut
import Derived.ShutString
import Derived.ChangeOld
import Derived.Below
import Derived.SizedLaws
import Derived.SliceStrings
import Derived.Deep.Matrix
namespace Go.Proofs.Ytbnbakcoomjnaaa
open Go.ChangeShapes Go.WideShapes Go.ChangeAt Go.RowKit
open Go.ChangeMaps (open_string shut_string)
theorem weights_mem {H : Type} {P : Program} {e : TypeId} : ∀ {l : List (DataW H)} {d : DataW H}, d ∈ l → ∀ n ∈ d.weights P e, n ∈ DataW.weightsAll P e l
  | x :: r, d, hd, n, hn => by
    simp only [DataW.weightsAll, List.mem_append]
    rcases List.mem_cons.1 hd with rfl | h
    · exact Or.inl hn
    · exact Or.inr (weights_mem h n hn)
/-- How long a row inside a slice of rows may be. -/
theorem inner_sized {H : Type} {P : Program} {ts : List TypeId} {ds : List (DataW H)} (h : (DataW.weightsEach P ts ds).all (· ≤ reachBytes) = true) {j : Nat} {t e q : TypeId} {elems spare e' sp' : List (DataW H)}
    (ht : ts[j]? = some t) (hd : ds[j]? = some (.slice elems spare)) (hu : P.underlying t = some (.slice e)) (hv : P.underlying e = some (.slice q)) (hx : DataW.slice e' sp' ∈ elems) : (e'.length + sp'.length) * P.bytesOf q ≤ reachBytes := by
  refine of_decide_eq_true (List.all_eq_true.1 h _ (DataW.weights_mem_each ht hd _ ?_))
  simp only [DataW.weights, hu, List.mem_cons, List.mem_append]
  exact Or.inr (Or.inl (weights_mem hx _ (by simp [DataW.weights, hv])))
namespace fsFuses
theorem bytes22 : Try.prog.bytesOf 22 = 24 := by kernel_rfl
theorem own : ownKnob Try.prog.godebug = none := by kernel_rfl
theorem bytes5 : Try.prog.bytesOf 5 = 1 := by kernel_rfl
theorem laidOut : laidOutB Try.prog = true := by kernel_rfl

set_option maxRecDepth 100000 in
theorem lifted (os : Os) (started : os.Started) (H : Type) (enc : TypeId × Value → H) :
    ReturnsInHanded {} Try.checked os 4 .any (Rows.fsFusesSpec.pre6 enc Try.prog Try.f4 Rows.fsFusesRow.domain false) (Rows.fsFusesSpec.post enc Try.prog Try.f4 false true false false) := by
  refine returnsInHanded_of_change_sized (C := Try.checked) own started (by kernel_rfl) Try.func4
    (ChangeSpec.witness6 (enc := enc) (C := Try.checked) false ⟨#[], #[.int .i64 0, .slice none 0 0], []⟩ 8 (by kernel_rfl) (by kernel_rfl) (by kernel_rfl) (by kernel_rfl)) ?_
  intro W base args ds gs before hval0 hW hcnd hsz _
  have hval : ∀ (j : Nat) t v, Try.f4.params[j]? = some t → args[j]? = some v → Value.okWide Try.prog W .any base t v := hval0
  have hW' := hW
  obtain ⟨p, q, hA0, hV, rfl, hfz, hnd⟩ := hW
  have hA : DataW.TrodAll enc Try.prog W 0 (fun _ => true) true Try.f4.params.toList args.toList ds p := hA0
  rw [Try.params4] at hA hval
  obtain ⟨v0, vs0, d0, ds0, p0, q0, hargs, rfl, rfl, h0, r0⟩ := trodAll_cons hA
  obtain ⟨v1, vs1, d1, ds1, p1, q1, rfl, rfl, rfl, h1, r1⟩ := trodAll_cons r0
  obtain ⟨rfl, rfl, rfl⟩ := trodAll_nil r1
  obtain rfl : args = #[v0, v1] := by cases args; simp_all
  obtain ⟨rfl, rfl⟩ := trodVars_none hV
  obtain ⟨a0, rfl, rfl, rfl, w0⟩ := open_int Try.underlying3 (hval 0 3 v0 rfl rfl) h0
  have k1 := h1
  have lt1 : ∀ x ∈ p1, x.block < W.heap.size := by obtain ⟨m, hm⟩ := k1; exact DataW.trod_lt m _ _ _ hm
  obtain ⟨a1, len1, cap1, rfl⟩ := okWide_slice Try.underlying43 (hval 1 43 v1 rfl rfl)
  obtain ⟨g1, o1, B1, hlen1, hR1⟩ : ∃ (g0 o0 : Nat) (B : Nat → List UInt8), len1 ≤ 281474976710656 ∧ ∀ i, i < len1 → a1 = some ⟨g0, o0, none⟩ ∧ g0 < W.heap.size ∧ RowAt W W.heap.size g0 o0 B i ∧ (B i).length ≤ 281474976710656 := by
    obtain ⟨fuel, hf⟩ := h1
    rcases Go.Deep.open_int_rows Try.underlying43 Try.underlying22 Try.underlying5 (by kernel_rfl) (by kernel_rfl) hf with ⟨hcs, _⟩ | ⟨x, l, c, A, L, C, Z, hcs, _, hl, hm, hx, hrow⟩
    · simp [Value.cells] at hcs
      obtain ⟨rfl, rfl, rfl⟩ := hcs
      exact ⟨0, 0, fun _ => [], by omega, fun i hi => absurd hi (by omega)⟩
    · simp [Value.cells] at hcs
      obtain ⟨rfl, rfl, rfl⟩ := hcs
      have hd := (Prod.mk.inj hx).1
      have hr : reachBytes = 140737488351232 := rfl
      have hs := sized_slice hsz (j := 1) (t := 43) (e := 22) rfl (by rw [hd]; rfl) Try.underlying43
      rw [show Try.checked.prog.bytesOf 22 = 24 from bytes22] at hs
      simp at hs
      obtain ⟨B, hB⟩ := Go.Deep.choose_lt (α := List UInt8) (n := len1) (p := fun r b => b.length = L r ∧ Row W.heap.size W (.slice (A r) b.length (C r)) b) (fun r hrl => by
        obtain ⟨h1, h2, h3, h4, h5, h6, h7⟩ := hrow r (by omega)
        refine isRow_row (zs := Z r) ?_
        cases hA : A r with
        | none =>
          have := h6 hA
          exact .inl ⟨rfl, by omega, by omega, List.eq_nil_of_length_eq_zero (by omega)⟩
        | some y => exact .inr ⟨y, rfl, h2, h3, h4, fun i hi => (h7 y hA).2 i (by omega), h5⟩)
      refine ⟨x.block, x.off, B, by omega, fun i hi => ?_⟩
      obtain ⟨h1, h2, h3, h4, h5, h6, h7⟩ := hrow i (by omega)
      obtain ⟨hb1, hb3⟩ := hB i hi
      have hsp := cellSpot (show W.cell? x = some _ from by have := (hrow 0 (by omega)).1; simpa [Addr.add] using this)
      have hx0 := hsp.1
      have hlt0 := hsp.2
      refine ⟨congrArg some hx0, hlt0, ⟨A i, C i, ?_, hb3⟩, ?_⟩
      · rw [hx0, addMid] at h1
        rw [h1, hb1]
      · rw [hb1]
        cases hA : A i with
        | none => have := h6 hA; omega
        | some y =>
          have h8 := inner_sized hsz (j := 1) (t := 43) (e := 22) (q := 5) (e' := lits .u8 ((Z i).take (L i))) (sp' := lits .u8 ((Z i).drop (L i))) rfl (by rw [hd]; rfl) Try.underlying43 Try.underlying22
            (List.mem_map.2 ⟨i, List.mem_range.2 hi, by simp [Go.Deep.intRow, hA]⟩)
          rw [show Try.checked.prog.bytesOf 5 = 1 from bytes5] at h8
          simp [lits] at h8
          omega
  clear hA0 hval0
  have hc := fuses_any a0 a1 g1 o1 len1 cap1 B1 W hlen1 hR1
  refine hc.mono fun e W' ⟨he, bel⟩ => ?_
  subst he
  exact ⟨_, rfl, _, _, _, [], _, [], hW', trodAll_mk1 (shut_bool Try.underlying4 _), (trodAll_cons_mk (shut_int Try.underlying3 w0) (trodAll_cons_mk (Below.trod laidOut (by kernel_rfl) (of_decide_eq_true (by kernel_rfl)) k1 bel lt1) trodAll_mk0)), rfl, bel.frame _, fun h => by cases h⟩

theorem over : Rows.fsFusesRow.holds Try.pinned (OpenSpec.ofChange Rows.fsFusesSpec) :=
  OpenClaim.holds_of_wide 4 Try.f4 rfl rfl rfl rfl rfl rfl rfl ⟨rfl, rfl, rfl, rfl, rfl⟩ rfl rfl rfl rfl rfl (by kernel_rfl) Try.func4 (by kernel_rfl)
    (of_decide_eq_true (by kernel_rfl)) (by unfold Func.isWrapper; first | (rw [if_pos (by decide +kernel)]; kernel_rfl) | (rw [if_neg (by decide +kernel)]; exact ⟨rfl, rfl⟩))
    (fun os started H enc _ => lifted os started H enc)
end fsFuses
theorem fsFuses_holds : Rows.FsFusesSaid := fsFuses.over
end Go.Proofs.Ytbnbakcoomjnaaa
