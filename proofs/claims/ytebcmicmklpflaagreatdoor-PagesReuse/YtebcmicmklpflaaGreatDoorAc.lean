/- The listed tables that the pages' walks read, out of the row's condition. -/
import Derived.Test.YtebcmicmklpflaaGreatDoorLft
import Derived.Test.YtebcmicmklpflaaGreatDoorPq
namespace Go.Proofs.YtebcmicmklpflaaGreatDoor
open Go.ChangeShapes Go.WideShapes
set_option maxRecDepth 20000 in
theorem tab64_eq : (Rows.laid_math_bits_deBruijn64tab : DataW Unit) = Lib.tabData .u8 (Lib.deBruijn64tab.map Int.ofNat) := by kernel_rfl
set_option maxRecDepth 20000 in
theorem pow10_eq : (Rows.laid_internal_strconv_uint64pow10 : DataW Unit) = Lib.tabData .u64 Lib.pow10Tab := by kernel_rfl
set_option maxRecDepth 20000 in
theorem tab_of_met {W : World} (h : laidMetH Tryz.prog laid5 W) : Tab W := by
  rw [MakeChecks.laidMetH_plain _ _ _ (by kernel_rfl)] at h
  have h1 := laidMet.filter (fun x => x.1 == "math/bits.deBruijn64tab") h
  have e : laid5.filter (fun x => x.1 == "math/bits.deBruijn64tab") = [("math/bits.deBruijn64tab", Lib.tabData .u8 (Lib.deBruijn64tab.map Int.ofNat))] := by
    rw [← tab64_eq]; rfl
  rw [e] at h1
  have hg : Tryz.prog.globalNamed "math/bits.deBruijn64tab" = some 0 := by kernel_rfl
  have ht := Lib.tabIs_of_head hg (t := 251) (e := 5) (n := 64) (by kernel_rfl) (by kernel_rfl) (by kernel_rfl) (by kernel_rfl) (by kernel_rfl) h1
  intro j hj
  have hl : (Lib.deBruijn64tab.map Int.ofNat).length = 64 := by simp [Lib.deBruijn64tab]
  rw [ht.cell hg j (by rw [hl]; exact hj)]
  congr 2
  simp only [List.getD_eq_getElem?_getD, List.getElem?_map]
  cases Lib.deBruijn64tab[j]? <;> rfl
set_option maxRecDepth 20000 in
theorem pow_of_met {W : World} (h : laidMetH Tryz.prog laid5 W) : PowAt W := by
  rw [MakeChecks.laidMetH_plain _ _ _ (by kernel_rfl)] at h
  have h1 := laidMet.filter (fun x => x.1 == "internal/strconv.uint64pow10") h
  have e : laid5.filter (fun x => x.1 == "internal/strconv.uint64pow10") = [("internal/strconv.uint64pow10", Lib.tabData .u64 Lib.pow10Tab)] := by
    rw [← pow10_eq]; rfl
  rw [e] at h1
  obtain ⟨g, hg⟩ : ∃ g, Tryz.prog.globalNamed "internal/strconv.uint64pow10" = some g := by
    have h : (Tryz.prog.globalNamed "internal/strconv.uint64pow10").isSome = true := by kernel_rfl
    exact Option.isSome_iff_exists.1 h
  have hty : (Tryz.prog.globalNamed "internal/strconv.uint64pow10").bind (fun g => (Tryz.prog.globals[g]?).map (·.type)) = some 307 := by kernel_rfl
  rw [hg] at hty
  have ht := Lib.tabIs_of_head hg (t := 307) (e := 136) (n := 20) hty (by kernel_rfl) (by kernel_rfl) (by kernel_rfl) (by kernel_rfl) h1
  refine ⟨ht, fun g' e => ?_⟩
  obtain rfl : g = g' := Option.some.inj (hg.symm.trans e)
  have hc := ht.cell hg 0 (by simp [Lib.pow10Tab])
  exact cellLt hc
end Go.Proofs.YtebcmicmklpflaaGreatDoor
