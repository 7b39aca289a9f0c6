/- Two digests that are known, by the kernel's own reckoning, and the law's function that asks them. -/
import Derived.Test.YtdkhmjiconedkaaHex
import Derived.Lib.SlBytesConst
namespace Go.Proofs.Ytdkhmjiconedkaa
open Go.RowKit Go.Great

def tAbc : List Nat := [97, 98, 99]
def tKey : List Nat := [107, 101, 121]
def tFox : List Nat := [84, 104, 101, 32, 113, 117, 105, 99, 107, 32, 98, 114, 111, 119, 110, 32, 102, 111, 120, 32, 106, 117, 109, 112, 115, 32, 111, 118, 101, 114, 32, 116, 104, 101, 32, 108, 97, 122, 121, 32, 100, 111, 103]
set_option maxRecDepth 100000 in
theorem known1 : hexTo (Sha.sum tAbc) 32 = [98, 97, 55, 56, 49, 54, 98, 102, 56, 102, 48, 49, 99, 102, 101, 97, 52, 49, 52, 49, 52, 48, 100, 101, 53, 100, 97, 101, 50, 50, 50, 51, 98, 48, 48, 51, 54, 49, 97, 51, 57, 54, 49, 55, 55, 97, 57, 99, 98, 52, 49, 48, 102, 102, 54, 49, 102, 50, 48, 48, 49, 53, 97, 100] := by decide +kernel
set_option maxRecDepth 100000 in
theorem known2 : hexTo (Sha.mac tKey tFox) 32 = [102, 55, 98, 99, 56, 51, 102, 52, 51, 48, 53, 51, 56, 52, 50, 52, 98, 49, 51, 50, 57, 56, 101, 54, 97, 97, 54, 102, 98, 49, 52, 51, 101, 102, 52, 100, 53, 57, 97, 49, 52, 57, 52, 54, 49, 55, 53, 57, 57, 55, 52, 55, 57, 100, 98, 99, 50, 100, 49, 97, 51, 99, 100, 56] := by decide +kernel
theorem text1 : strOf (hexTo (Sha.sum tAbc) 32) = ⟨#[98, 97, 55, 56, 49, 54, 98, 102, 56, 102, 48, 49, 99, 102, 101, 97, 52, 49, 52, 49, 52, 48, 100, 101, 53, 100, 97, 101, 50, 50, 50, 51, 98, 48, 48, 51, 54, 49, 97, 51, 57, 54, 49, 55, 55, 97, 57, 99, 98, 52, 49, 48, 102, 102, 54, 49, 102, 50, 48, 48, 49, 53, 97, 100]⟩ := by rw [known1]; rfl
theorem text2 : strOf (hexTo (Sha.mac tKey tFox) 32) = ⟨#[102, 55, 98, 99, 56, 51, 102, 52, 51, 48, 53, 51, 56, 52, 50, 52, 98, 49, 51, 50, 57, 56, 101, 54, 97, 97, 54, 102, 98, 49, 52, 51, 101, 102, 52, 100, 53, 57, 97, 49, 52, 57, 52, 54, 49, 55, 53, 57, 57, 55, 52, 55, 57, 100, 98, 99, 50, 100, 49, 97, 51, 99, 100, 56]⟩ := by rw [known2]; rfl
theorem abc_bytes : Sha.Bytes tAbc := by unfold Sha.Bytes tAbc; decide
theorem key_bytes : Sha.Bytes tKey := by unfold Sha.Bytes tKey; decide
theorem fox_bytes : Sha.Bytes tFox := by unfold Sha.Bytes tFox; decide
theorem abc_cells : (#[.int .u8 97, .int .u8 98, .int .u8 99] : Array Value) = E8 tAbc := rfl
theorem key_cells : (#[.int .u8 107, .int .u8 101, .int .u8 121] : Array Value) = E8 tKey := rfl
theorem fox_cells : (#[.int .u8 84, .int .u8 104, .int .u8 101, .int .u8 32, .int .u8 113, .int .u8 117, .int .u8 105, .int .u8 99, .int .u8 107, .int .u8 32, .int .u8 98, .int .u8 114, .int .u8 111, .int .u8 119, .int .u8 110, .int .u8 32, .int .u8 102, .int .u8 111, .int .u8 120, .int .u8 32, .int .u8 106, .int .u8 117, .int .u8 109, .int .u8 112, .int .u8 115, .int .u8 32, .int .u8 111, .int .u8 118, .int .u8 101, .int .u8 114, .int .u8 32, .int .u8 116, .int .u8 104, .int .u8 101, .int .u8 32, .int .u8 108, .int .u8 97, .int .u8 122, .int .u8 121, .int .u8 32, .int .u8 100, .int .u8 111, .int .u8 103] : Array Value) = E8 tFox := rfl

@[go_sem] theorem conv22 (w : World) (C : Array Value) (n l c : Nat) (hn : n = w.heap.size) :
    (convert 22 22 (.slice (some ⟨n, 0, none⟩) l c)).run Try.prog (w.alloc (.cells C 5)) = .ok (.slice (some ⟨n, 0, none⟩) l c) (w.alloc (.cells C 5 (C.size, C.size + 1))) := by
  subst hn; exact Lib.run_convert_bytes_const w 22 5 C l c Try.underlying22 Try.underlying5
theorem rowOf_alloc_fr (w : World) (c : Array Value) (t : TypeId) (fr : Nat × Nat) (n : Nat) (hn : n = w.heap.size) : rowOf (w.alloc (.cells c t fr)) n = c := by
  subst hn; unfold rowOf; rw [heap_alloc_new]
set_option maxRecDepth 20000 in
set_option maxHeartbeats 1000000 in
theorem known_any (w : World) : Calls Try.prog 13 #[] w fun e w' => e = .returned (.bool true) ∧ Below w.heap.size w w' := by
  go_enter Try.func13, Try.ntmps13
  go_wp2_with fail
  rw [abc_cells]
  have hb0 : ∀ o, Below w.heap.size w (w.alloc o) := fun o => (Below.refl _ _).alloc (Nat.le_refl _) _
  refine (sum_any w.heap.size 0 3 3 tAbc _ rfl (bytesAt_row _ _ tAbc tAbc _ _ (rowOf_alloc_fr _ _ _ _ _ rfl) (by simp) (Nat.le_refl _) (Nat.le_refl _) rfl) abc_bytes (by omega)).mono ?_
  rintro e w1 ⟨rfl, hb1⟩
  have hbl1 : Below w.heap.size w w1 := (hb0 _).trans (hb1.mono (by simp))
  clear hb1 hb0
  go_wp2_with fail
  refine (hex_any (Sha.sum tAbc) _ (Sha.sumBehind_length _ _ _) (Sha.sumBehind_bytes _ _ _)).mono ?_
  rintro e w2 ⟨rfl, hb2⟩
  rw [text1]
  have hbl2 : Below w.heap.size w w2 := hbl1.trans (hb2.mono hbl1.size)
  clear hb2 hbl1
  go_wp2_with fail
  rw [key_cells, fox_cells]
  have hb0 : ∀ o p, Below w2.heap.size w2 ((w2.alloc o).alloc p) := fun o p => ((Below.refl _ _).alloc (Nat.le_refl _) _).alloc (by simp) _
  refine (mac_any w2.heap.size 0 3 3 (w2.heap.size + 1) 0 43 43 tKey tFox _ rfl
    (bytesAt_row _ _ tKey tKey _ _ (by rw [rowOf_alloc_past _ _ _ (by simp)]; exact rowOf_alloc_fr _ _ _ _ _ rfl) (by simp; omega) (Nat.le_refl _) (Nat.le_refl _) rfl) key_bytes (by omega) rfl
    (bytesAt_row _ _ tFox tFox _ _ (rowOf_alloc_fr _ _ _ _ _ (by simp)) (by simp) (Nat.le_refl _) (Nat.le_refl _) rfl) fox_bytes (by omega)).mono ?_
  rintro e w3 ⟨rfl, hb3⟩
  have hbl3 : Below w.heap.size w w3 := hbl2.trans (((hb0 _ _).trans (hb3.mono (by simp; omega))).mono hbl2.size)
  clear hb3 hbl2
  go_wp2_with fail
  refine (hex_any (Sha.mac tKey tFox) _ (Sha.sumBehind_length _ _ _) (Sha.sumBehind_bytes _ _ _)).mono ?_
  rintro e w4 ⟨rfl, hb4⟩
  rw [text2]
  have hbl4 : Below w.heap.size w w4 := hbl3.trans (hb4.mono hbl3.size)
  clear hb4 hbl3
  go_wp2
  go_ret
  exact ⟨rfl, hbl4⟩
end Go.Proofs.Ytdkhmjiconedkaa
