/- The known file at a place: the plain mathematics. -/
import Derived.Test.YthfjofmfiklegaaDoorFiles
namespace Go.Proofs.YthfjofmfiklegaaDoor
open Go.RowKit
def fileX : Tr := .mk 1 false ⟨#[120]⟩ [] []
def zeroTr : Tr := .mk 0 false ⟨#[]⟩ [] []
def knownT : Tr := .mk 2 false ⟨#[]⟩ [⟨#[97]⟩] [.mk 2 false ⟨#[]⟩ [⟨#[98]⟩] [fileX]]
theorem ent_a : entB ⟨#[97]⟩ = true := by unfold entB; rw [ByteArray.toList_eq]; decide
theorem ent_b : entB ⟨#[98]⟩ = true := by unfold entB; rw [ByteArray.toList_eq]; decide
theorem ok_a : okNames [⟨#[97]⟩] := fun i hi => by
  obtain rfl : i = 0 := by simp at hi; exact hi
  rw [okName_first (by simp)]; exact ent_a
theorem ok_b : okNames [⟨#[98]⟩] := fun i hi => by
  obtain rfl : i = 0 := by simp at hi; exact hi
  rw [okName_first (by simp)]; exact ent_b
theorem chk_zero : (chk zeroTr 1 0).1 = 3 := by unfold zeroTr; rw [chk, if_neg (by omega)]; simp [locErr]
theorem chk_fileX (deep n : Nat) (hd : deep ≤ 64) (hn : n < 65536) : chk fileX deep n = (0, n + 1) := by
  unfold fileX
  have h : locErr 1 false (⟨#[120]⟩ : ByteArray).size [] ([] : List Tr).length = 0 := (loc_file (x := false) (d := 1) (nk := 0) (ns := []) rfl rfl).trans rfl
  rw [chk, if_neg (by omega), if_pos h, chks]
theorem chk_emptyDir : (chk emptyDir 1 0).1 = 0 := by
  unfold emptyDir
  have h : locErr 2 false (⟨#[]⟩ : ByteArray).size [] ([] : List Tr).length = 0 := loc_dir_ok (okNames_nil rfl)
  rw [chk, if_neg (by omega), if_pos h, chks]
theorem chk_b (deep n : Nat) (hd : deep ≤ 63) (hn : n < 65535) : chk (.mk 2 false ⟨#[]⟩ [⟨#[98]⟩] [fileX]) deep n = (0, n + 2) := by
  have h : locErr 2 false (⟨#[]⟩ : ByteArray).size [⟨#[98]⟩] [fileX].length = 0 := loc_dir_ok ok_b
  rw [chk, if_neg (by omega), if_pos h, chks, chk_fileX _ _ (by omega) (by omega), if_pos rfl, chks]
theorem chk_known : (chk knownT 1 0).1 = 0 := by
  unfold knownT
  have h : locErr 2 false (⟨#[]⟩ : ByteArray).size [⟨#[97]⟩] [Tr.mk 2 false ⟨#[]⟩ [⟨#[98]⟩] [fileX]].length = 0 := loc_dir_ok ok_a
  rw [chk, if_neg (by omega), if_pos h, chks, chk_b _ _ (by omega) (by omega), if_pos rfl, chks]
theorem place_ab : placeL ⟨#[97, 47, 98]⟩ = [⟨#[97]⟩, ⟨#[98]⟩] := rfl
theorem isPl_ab : isPl ⟨#[97, 47, 98]⟩ = true := by unfold isPl; rw [place_ab]; simp [ent_a, ent_b]
theorem laid_ab : laidS emptyDir [⟨#[97]⟩, ⟨#[98]⟩] fileX 1 = .ok knownT := by
  unfold emptyDir
  rw [laidS, if_neg (by omega), if_pos rfl]
  have e : kidAt [] [] (⟨#[97]⟩ : ByteArray) = emptyDir := rfl
  rw [e]
  unfold emptyDir
  rw [laidS, if_neg (by omega), if_pos rfl]
  have e : kidAt [] [] (⟨#[98]⟩ : ByteArray) = emptyDir := rfl
  rw [e]
  unfold emptyDir
  rw [laidS, if_neg (by omega)]
  rfl
theorem put_known : putS emptyDir ⟨#[97, 47, 98]⟩ fileX = .ok knownT := by
  unfold putS
  rw [if_neg (by simp [chk_emptyDir]), if_neg (by simp [chk_fileX 1 0 (by omega) (by omega)]), if_neg (by simp [isPl_ab]), place_ab, laid_ab]
  show (if (chk knownT 1 0).1 ≠ 0 then _ else _) = _
  rw [if_neg (by simp [chk_known])]
theorem files_known : filesS knownT = [⟨#[97, 47, 98]⟩] := by
  unfold filesS
  rw [if_pos chk_known]
  have e : filesL knownT ⟨#[]⟩ = [⟨#[97, 47, 98]⟩] := by
    unfold knownT
    rw [filesL, filesLs, filesL, filesLs]
    unfold fileX
    rw [filesL, filesLs_nil, filesLs_nil]
    rfl
  rw [e]
  unfold sortB sortL
  simp
theorem wt_fileX : wt fileX = 1 := by unfold fileX; rw [wt]; simp only [tenths, wts, List.length_nil]; rfl
theorem wt_known : wt knownT = 5 := by
  unfold knownT
  have e : wts [fileX] = 1 := by rw [wts, wt_fileX, wts]
  rw [wt, wts, wt, e, wts]
  rfl
theorem wt_zero : wt zeroTr = 1 := by unfold zeroTr; rw [wt]; simp only [tenths, wts, List.length_nil]; rfl
end Go.Proofs.YthfjofmfiklegaaDoor
