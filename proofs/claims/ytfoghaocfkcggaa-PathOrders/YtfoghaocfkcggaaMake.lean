/- Make, in the code and in the document's own answer. -/
import Derived.Test.YtfoghaocfkcggaaName
import Derived.Test.YtfoghaocfkcggaaRefsum
import Derived.Lib.ConvBytes
namespace Go.Proofs.Ytfoghaocfkcggaa
namespace Sha
/-- What a path's digits are made of. -/
def inside (k l n : List Nat) : List Nat := k ++ [58] ++ hexTo l 32 ++ [58] ++ n
/-- The path of a kind, a digest and a name. -/
def pathOf (k l n : List Nat) : List Nat := textOf (foldTo (sum (inside k l n)) 32) ++ [45] ++ n
end Sha
open Go.RowKit Go.Great
def cvB (v : Value) : Sem Value := convert 9 52 v
@[go_sem ↓] theorem convert_cvB (v : Value) : convert 9 52 v = cvB v := rfl
theorem below_of_blocks {w w' : World} (h1 : w'.os = w.os) (h2 : w'.tape = w.tape) (h3 : w'.output = w.output) (hs : w.heap.size ≤ w'.heap.size) (hb : ∀ j, j < w.heap.size → w'.heap[j]? = w.heap[j]?) : Below w.heap.size w w' := ⟨h1, h2, h3, hs, hb⟩
theorem run_cvB (w : World) (s : ByteArray) : ∃ cap w', (cvB (.string s)).run Try.prog w = .ok (.slice (some ⟨w.heap.size, 0, none⟩) s.size cap) w' ∧ Below w.heap.size w w' ∧ BytesAt w' (.slice (some ⟨w.heap.size, 0, none⟩) s.size cap) (bytesOf s) ∧ w.heap.size + 1 ≤ w'.heap.size := by
  refine ⟨grownCap w s.size 0 5, Lib.bytesWorld w 5 s, ?_, ?_, ?_, ?_⟩
  · exact Lib.run_convert_string_bytes w 9 52 5 s Try.underlying9 Try.underlying52 Try.underlying5
  · exact ⟨rfl, rfl, rfl, by rw [Lib.bytesWorld_size]; omega, fun j hj => Lib.bytesWorld_at_old w 5 s j hj⟩
  · refine ⟨_, _, by rw [bytesOf_length], by rw [bytesOf_length]; exact grownCap_ge w s.size 0 5, fun _ => ⟨w.heap.size, 0, rfl, by rw [Lib.bytesWorld_size]; omega, fun i hi => ?_⟩⟩
    rw [bytesOf_length] at hi
    rw [Nat.zero_add, Lib.bytesWorld_cell w 5 s i hi]
    congr 2
    unfold Sha.nth bytesOf
    rw [List.getElem?_map]
    simp [List.getD, hi]
  · rw [Lib.bytesWorld_size]; omega
theorem strOf_bytesOf (s : ByteArray) : strOf (bytesOf s) = s := by
  apply ByteArray.ext
  unfold strOf bytesOf
  rw [List.map_map]
  apply Array.ext'
  simp [Function.comp_def]
theorem colon : (⟨#[58]⟩ : ByteArray) = strOf [58] := rfl
theorem hyphen : (⟨#[45]⟩ : ByteArray) = strOf [45] := rfl
theorem nil_str : (⟨#[]⟩ : ByteArray) = strOf [] := rfl
theorem isName_l (n : List Nat) (w : World) (hb : Sha.Bytes n) (hm : n.length ≤ 9223372036854775807) :
    Calls Try.prog 8 #[.string (strOf n)] w fun e w' => e = .returned (.bool (Sha.isNm n)) ∧ w' = w := by
  have := isName_any (strOf n) w (by rw [strOf_size]; exact hm)
  rwa [bytesOf_strOf n hb] at this
theorem isNameRef_l (n : List Nat) (w : World) (hb : Sha.Bytes n) (hm : n.length ≤ 9223372036854775807) :
    Calls Try.prog 9 #[.string (strOf n)] w fun e w' => e = .returned (.bool (Sha.isNm n)) ∧ w' = w := by
  have := isNameRef_any (strOf n) w (by rw [strOf_size]; exact hm)
  rwa [bytesOf_strOf n hb] at this
theorem isNm_len {n : List Nat} (h : Sha.isNm n = true) : 1 ≤ n.length ∧ n.length ≤ 80 := by
  by_cases h1 : n.length < 1
  · rw [isNm_short h1] at h; cases h
  · by_cases h2 : 80 < n.length
    · rw [isNm_long h2] at h; cases h
    · omega
theorem x8_lt (a b : Nat) : x8 a b < 256 := by
  unfold x8
  have h := (bits_within .xor .u8 (a : Int) (b : Int)).2
  have e : IntKind.u8.max = 255 := by decide
  rw [e] at h
  have := bits_pos8 .xor (a : Int) (b : Int)
  omega
theorem foldTo_bytes (l : List Nat) (_ : Sha.Bytes l) (i : Nat) : Sha.Bytes (foldTo l i) := by
  induction i with
  | zero => exact Sha.Bytes.rep _
  | succ i ih =>
    intro x hx
    rcases List.mem_or_eq_of_mem_set hx with h | h
    · exact ih x h
    · rw [h]; exact x8_lt _ _
set_option maxRecDepth 20000 in
set_option maxHeartbeats 1000000 in
theorem make_no (k : ByteArray) (n l : List Nat) (w : World) (hb : Sha.Bytes n) (hm : n.length ≤ 9223372036854775807) (hn : Sha.isNm n = false) :
    Calls Try.prog 11 #[.string k, .agg (E8 l), .string (strOf n)] w fun e w' => e = .returned (.tuple #[.string ⟨#[]⟩, .int .i64 9]) ∧ Below w.heap.size w w' := by
  go_enter Try.func11, Try.ntmps11
  go_wp2_with (go_at_call 8; refine (isName_l n _ hb hm).mono ?_; rintro e w' ⟨rfl, hw'⟩; rw [hw', hn]; clear hw' w')
  go_ret2
  exact ⟨rfl, (Below.refl _ _).alloc (Nat.le_refl _) _⟩
set_option maxRecDepth 20000 in
set_option maxHeartbeats 1000000 in
theorem make_yes (k n l : List Nat) (w : World) (hl : l.length = 32) (hb : Sha.Bytes l) (hkb : Sha.Bytes k) (hk : k.length ≤ 150000) (hnb : Sha.Bytes n) (hn : Sha.isNm n = true) :
    Calls Try.prog 11 #[.string (strOf k), .agg (E8 l), .string (strOf n)] w fun e w' => e = .returned (.tuple #[.string (strOf (Sha.pathOf k l n)), .int .i64 0]) ∧ Below w.heap.size w w' := by
  obtain ⟨hm1, hm2⟩ := isNm_len hn
  have hxl := hexTo_length l 32
  have hxb := hexTo_bytes l hb 32
  go_enter Try.func11, Try.ntmps11
  go_wp2_with (go_at_call 8; refine (isName_l n _ hnb (by omega)).mono ?_; rintro e w' ⟨rfl, hw'⟩; rw [hw', hn]; clear hw' w')
  refine (hex_any l _ hl hb).mono ?_
  rintro e w1 ⟨rfl, hb1⟩
  have hz1 : w.heap.size + 1 ≤ w1.heap.size := by have := hb1.size; simp at this; omega
  have hbl1 : Below w.heap.size w w1 := ((Below.refl _ _).alloc (Nat.le_refl _) _).trans (hb1.mono (by simp))
  clear hb1
  generalize hX : hexTo l 32 = X at *
  have hin : strOf k ++ ⟨#[58]⟩ ++ strOf X ++ ⟨#[58]⟩ ++ strOf n = strOf (Sha.inside k l n) := by
    unfold Sha.inside; rw [hX, colon, strOf_append, strOf_append, strOf_append, strOf_append]
  have hMb : Sha.Bytes (Sha.inside k l n) := by
    unfold Sha.inside; rw [hX]; exact (((hkb.append (Sha.Bytes.one (by omega))).append hxb).append (Sha.Bytes.one (by omega))).append hnb
  have hMl : (Sha.inside k l n).length = k.length + n.length + 66 := by unfold Sha.inside; rw [hX]; simp [hxl]; omega
  go_wp2_with fail
  clear hin hX
  have hMm : (Sha.inside k l n).length ≤ 160000 := by omega
  clear hMl
  have HP : Hid (Sha.pathOf k l n = Sha.textOf (foldTo (Sha.sum (Sha.inside k l n)) 32) ++ [45] ++ n) := rfl
  generalize Sha.inside k l n = M at *
  generalize hPP : Sha.pathOf k l n = PP at *
  have HPP := hide hPP
  clear hPP
  obtain ⟨cap, w2, hr2, hb2, hv2, hz2⟩ := run_cvB w1 (strOf M)
  rw [hr2]
  rw [bytesOf_strOf M hMb] at hv2
  rw [strOf_size] at hv2 ⊢
  have hbl2 : Below w.heap.size w w2 := hbl1.trans (hb2.mono (by omega))
  clear hr2 hb2
  go_wp2_with fail
  refine (sum_any w1.heap.size 0 M.length cap M _ rfl hv2 hMb (by omega)).mono ?_
  rintro e w3 ⟨rfl, hb3⟩
  have hbl3 : Below w.heap.size w w3 := hbl2.trans (hb3.mono (by omega))
  have hz3 : w.heap.size + 1 ≤ w3.heap.size := by have := hb3.size; omega
  clear hb3 hv2
  have hsl := Sha.sumBehind_length Sha.start 0 M
  have hsb := Sha.sumBehind_bytes Sha.start 0 M
  have HS : Hid (Sha.sum M = Sha.sumBehind Sha.start 0 M) := rfl
  rw [unhide HS] at HP ⊢
  generalize Sha.sumBehind Sha.start 0 M = D at *
  go_wp2_with fail
  refine (fold_any D _ hsl).mono ?_
  rintro e w4 ⟨rfl, hb4⟩
  have hbl4 : Below w.heap.size w w4 := hbl3.trans (hb4.mono (by omega))
  have hz4 : w.heap.size + 1 ≤ w4.heap.size := by have := hb4.size; omega
  clear hb4
  have hfl := foldTo_length D 32
  have hfb := foldTo_bytes D hsb 32
  generalize foldTo D 32 = F at *
  go_wp2_with fail
  have hv5 : BytesAt (w4.alloc (.cells (E8 F) 49)) (.slice (some ⟨w4.heap.size, 0, none⟩) 20 20) F := bytesAt_row _ _ F F 20 20 (rowOf_alloc_at _ _ _ _ rfl) (by simp) (by omega) (by omega) (by rw [← hfl]; exact List.take_length)
  have hbl5 : Below w.heap.size w (w4.alloc (.cells (E8 F) 49)) := hbl4.alloc (by omega) _
  refine (text_any (some ⟨w4.heap.size, 0, none⟩) 20 20 F _ hfl hv5 hfb (by omega)).mono ?_
  rintro e w6 ⟨rfl, hb6⟩
  have hbl6 : Below w.heap.size w w6 := hbl5.trans (hb6.mono (by simp; omega))
  clear hb6 hv5 hbl5
  have htl : (Sha.textOf F).length = 32 := by rw [Sha.textOf_length, hfl]; rfl
  generalize Sha.textOf F = T at *
  have hout : strOf T ++ ⟨#[45]⟩ ++ strOf n = strOf PP := by rw [unhide HP, hyphen, strOf_append, strOf_append]
  have hn1 : ¬ (9223372036854775807 < 32 + 1) := by omega
  have hn2 : ¬ (9223372036854775807 < 32 + 1 + n.length) := by omega
  go_wp2
  go_ret2
  exact ⟨by rw [unhide HPP]; rfl, hbl6⟩
set_option maxRecDepth 20000 in
set_option maxHeartbeats 1000000 in
theorem makeRef_no (k : ByteArray) (n l : List Nat) (w : World) (hb : Sha.Bytes n) (hm : n.length ≤ 9223372036854775807) (hn : Sha.isNm n = false) :
    Calls Try.prog 12 #[.string k, .agg (E8 l), .string (strOf n)] w fun e w' => e = .returned (.tuple #[.string ⟨#[]⟩, .int .i64 9]) ∧ Below w.heap.size w w' := by
  go_enter Try.func12, Try.ntmps12
  go_wp2_with (go_at_call 9; refine (isNameRef_l n _ hb hm).mono ?_; rintro e w' ⟨rfl, hw'⟩; rw [hw', hn]; clear hw' w')
  go_ret2
  exact ⟨rfl, (Below.refl _ _).alloc (Nat.le_refl _) _⟩
set_option maxRecDepth 20000 in
set_option maxHeartbeats 1000000 in
theorem makeRef_yes (k n l : List Nat) (w : World) (hl : l.length = 32) (hb : Sha.Bytes l) (hkb : Sha.Bytes k) (hk : k.length ≤ 150000) (hnb : Sha.Bytes n) (hn : Sha.isNm n = true) :
    Calls Try.prog 12 #[.string (strOf k), .agg (E8 l), .string (strOf n)] w fun e w' => e = .returned (.tuple #[.string (strOf (Sha.pathOf k l n)), .int .i64 0]) ∧ Below w.heap.size w w' := by
  obtain ⟨hm1, hm2⟩ := isNm_len hn
  have hxl := hexTo_length l 32
  have hxb := hexTo_bytes l hb 32
  go_enter Try.func12, Try.ntmps12
  go_wp2_with (go_at_call 9; refine (isNameRef_l n _ hnb (by omega)).mono ?_; rintro e w' ⟨rfl, hw'⟩; rw [hw', hn]; clear hw' w')
  refine (hexRef_any l _ hl hb).mono ?_
  rintro e w1 ⟨rfl, hb1⟩
  have hz1 : w.heap.size + 1 ≤ w1.heap.size := by have := hb1.size; simp at this; omega
  have hbl1 : Below w.heap.size w w1 := ((Below.refl _ _).alloc (Nat.le_refl _) _).trans (hb1.mono (by simp))
  clear hb1
  generalize hX : hexTo l 32 = X at *
  have hin : strOf k ++ ⟨#[58]⟩ ++ strOf X ++ ⟨#[58]⟩ ++ strOf n = strOf (Sha.inside k l n) := by
    unfold Sha.inside; rw [hX, colon, strOf_append, strOf_append, strOf_append, strOf_append]
  have hMb : Sha.Bytes (Sha.inside k l n) := by
    unfold Sha.inside; rw [hX]; exact (((hkb.append (Sha.Bytes.one (by omega))).append hxb).append (Sha.Bytes.one (by omega))).append hnb
  have hMl : (Sha.inside k l n).length = k.length + n.length + 66 := by unfold Sha.inside; rw [hX]; simp [hxl]; omega
  go_wp2_with fail
  clear hin hX
  have hMm : (Sha.inside k l n).length ≤ 160000 := by omega
  clear hMl
  have HP : Hid (Sha.pathOf k l n = Sha.textOf (foldTo (Sha.sum (Sha.inside k l n)) 32) ++ [45] ++ n) := rfl
  generalize Sha.inside k l n = M at *
  generalize hPP : Sha.pathOf k l n = PP at *
  have HPP := hide hPP
  clear hPP
  obtain ⟨cap, w2, hr2, hb2, hv2, hz2⟩ := run_cvB w1 (strOf M)
  rw [hr2]
  rw [bytesOf_strOf M hMb] at hv2
  rw [strOf_size] at hv2 ⊢
  have hbl2 : Below w.heap.size w w2 := hbl1.trans (hb2.mono (by omega))
  clear hr2 hb2
  go_wp2_with fail
  refine (refSum_any (some ⟨w1.heap.size, 0, none⟩) M.length cap M _ rfl hv2 hMb (by omega)).mono ?_
  rintro e w3 ⟨rfl, hb3⟩
  have hbl3 : Below w.heap.size w w3 := hbl2.trans (hb3.mono (by omega))
  have hz3 : w.heap.size + 1 ≤ w3.heap.size := by have := hb3.size; omega
  clear hb3 hv2
  have hsl := Sha.sumBehind_length Sha.start 0 M
  have hsb := Sha.sumBehind_bytes Sha.start 0 M
  have HS : Hid (Sha.sum M = Sha.sumBehind Sha.start 0 M) := rfl
  rw [unhide HS] at HP ⊢
  generalize Sha.sumBehind Sha.start 0 M = D at *
  go_wp2_with fail
  refine (foldRef_any D _ hsl).mono ?_
  rintro e w4 ⟨rfl, hb4⟩
  have hbl4 : Below w.heap.size w w4 := hbl3.trans (hb4.mono (by omega))
  have hz4 : w.heap.size + 1 ≤ w4.heap.size := by have := hb4.size; omega
  clear hb4
  have hfl := foldTo_length D 32
  have hfb := foldTo_bytes D hsb 32
  generalize foldTo D 32 = F at *
  go_wp2_with fail
  have hv5 : BytesAt (w4.alloc (.cells (E8 F) 49)) (.slice (some ⟨w4.heap.size, 0, none⟩) 20 20) F := bytesAt_row _ _ F F 20 20 (rowOf_alloc_at _ _ _ _ rfl) (by simp) (by omega) (by omega) (by rw [← hfl]; exact List.take_length)
  have hbl5 : Below w.heap.size w (w4.alloc (.cells (E8 F) 49)) := hbl4.alloc (by omega) _
  refine (textRef_any (some ⟨w4.heap.size, 0, none⟩) 20 20 F _ hfl hv5 hfb (by omega)).mono ?_
  rintro e w6 ⟨rfl, hb6⟩
  have hbl6 : Below w.heap.size w w6 := hbl5.trans (hb6.mono (by simp; omega))
  clear hb6 hv5 hbl5
  have htl : (Sha.textOf F).length = 32 := by rw [Sha.textOf_length, hfl]; rfl
  generalize Sha.textOf F = T at *
  have hout : strOf T ++ ⟨#[45]⟩ ++ strOf n = strOf PP := by rw [unhide HP, hyphen, strOf_append, strOf_append]
  have hn1 : ¬ (9223372036854775807 < 32 + 1) := by omega
  have hn2 : ¬ (9223372036854775807 < 32 + 1 + n.length) := by omega
  go_wp2
  go_ret2
  exact ⟨by rw [unhide HPP]; rfl, hbl6⟩
end Go.Proofs.Ytfoghaocfkcggaa
