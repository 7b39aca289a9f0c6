/- The walk of the law B32Unlike. -/
import Derived.Test.YtgchndogklmpdaaHelpers
namespace Go.Proofs.Ytgchndogklmpdaa
open Go.RowKit Go.Great
theorem and_low (a : Int) (h : (Lit.int .i64 a).wf = true) : ∃ q : Nat, bits .and .i64 a 65535 = (q : Int) ∧ q < 65536 := by
  have _ := h
  have e : (BitVec.ofInt 64 65535).toNat = 65535 := by decide
  have h1 : (BitVec.ofInt 64 a &&& BitVec.ofInt 64 65535).toNat ≤ 65535 := by
    rw [BitVec.toNat_and, e]; exact Nat.and_le_right
  refine ⟨(BitVec.ofInt 64 a &&& BitVec.ofInt 64 65535).toNat, ?_, by omega⟩
  show IntKind.i64.wrap ((BitVec.ofInt 64 a &&& BitVec.ofInt 64 65535).toNat : Int) = _
  exact IntWalk.i64_in _ (by omega)
theorem xor_byte (x by' : Nat) (hx : x < 256) (hb : by' < 256) (h0 : by' ≠ 0) : ∃ y : Nat, bits .xor .u8 (x : Int) (by' : Int) = (y : Int) ∧ y < 256 ∧ y ≠ x := by
  refine ⟨x ^^^ by', u8_xor_nat x by' hx hb, Nat.xor_lt_two_pow (n := 8) hx hb, fun h => h0 ?_⟩
  have h1 : x ^^^ (x ^^^ by') = by' := by rw [← Nat.xor_assoc, Nat.xor_self, Nat.zero_xor]
  rw [← h1, h, Nat.xor_self]
theorem byte_wf (n : Int) (h : (Lit.int .u8 n).wf = true) : ∃ m : Nat, n = (m : Int) ∧ m < 256 := by
  have e1 : IntKind.u8.min = 0 := rfl
  have e2 : IntKind.u8.max = 255 := rfl
  simp [Lit.wf] at h
  exact ⟨n.toNat, by omega, by omega⟩
set_option maxRecDepth 20000 in
set_option maxHeartbeats 400000 in
theorem unlike_some (g o n cap : Nat) (b : List Nat) (at' : Int) (q by' : Nat) (w : World) (hn : b.length = n) (hv : BytesAt w (.slice (some ⟨g, o, none⟩) n cap) b) (hb : Sha.Bytes b) (h0 : 0 < n) (hmax : n ≤ 600)
    (hq : bits .and .i64 at' 65535 = (q : Int)) (hby : by' < 256) (hb0' : by' ≠ 0) :
    Calls Try.prog 6 #[.slice (some ⟨g, o, none⟩) n cap, .int .i64 at', .int .u8 (by' : Int)] w fun e w' => e = .returned (.bool true) ∧ Below w.heap.size w w' := by
  subst hn
  have hd : decide ((600 : Int) < (b.length : Int)) = false := by simp; omega
  have hd2 : ((b.length : Int) == 0) = false := by rw [beq_eq_false_iff_ne]; omega
  have hd3 : ((by' : Int) == 0) = false := by rw [beq_eq_false_iff_ne]; omega
  go_enter Try.func6, Try.ntmps6
  go_wp2_with fail
  have hb0 : Below w.heap.size w (w.alloc (.cells #[] 5)) := (Below.refl _ _).alloc (Nat.le_refl _) _
  obtain ⟨v1, w1, hr1, ho1, hbl1, hz1⟩ := app_own (w.alloc (.cells #[] 5)) w.heap.size (.slice (some ⟨w.heap.size, 0, none⟩) 0 0) [] (some ⟨g, o, none⟩) b cap ⟨w.heap.size, [], rfl, Nat.le_refl _, heap_alloc_last w _⟩ (hv.below hb0) h0 (by simp; omega)
  rw [hr1]
  clear hr1
  obtain ⟨g1, R, rfl, hg1, hh1⟩ := ho1
  simp only [List.nil_append] at hh1 ⊢
  have hbl : Below w.heap.size w w1 := hb0.trans hbl1
  clear hbl1 hb0 hz1
  obtain ⟨k, hk, hkl⟩ : ∃ k : Nat, (q : Int).tmod (b.length : Int) = (k : Int) ∧ k < b.length := ⟨q % b.length, by rw [Int.tmod_eq_emod_of_nonneg (by omega)]; simp, Nat.mod_lt _ h0⟩
  obtain ⟨y, hy, hy1, hy2⟩ := xor_byte (Sha.nth b k) by' (hb.at k) hby hb0'
  have hck : w1.cell? ⟨g1, k, none⟩ = some (.int .u8 ((Sha.nth b k : Nat) : Int)) := by
    rw [cell_of_row w1 g1 k _ 5 _ hh1, E8_get _ _ (by simp; omega), Sha.nth_append_left hkl]
  have hfr : w1.frozen? ⟨g1, k, none⟩ = false := by simp [World.frozen?, hh1]
  have HY := hide hy1
  have HY2 := hide hy2
  clear hy1 hy2
  generalize hC : (b ++ R).length = C at *
  go_wp2_with fail
  have hbl2 : Below w.heap.size w (w1.setCell ⟨g1, k, none⟩ (.int .u8 (y : Int))) := hbl.setCell hg1 _
  have hh2 : rowOf (w1.setCell ⟨g1, k, none⟩ (.int .u8 (y : Int))) g1 = E8 ((b ++ R).set k y) := by
    rw [rowOf_set, show rowOf w1 g1 = E8 (b ++ R) by unfold rowOf; rw [hh1], E8_set]
  have hs2 : g1 < (w1.setCell ⟨g1, k, none⟩ (.int .u8 (y : Int))).heap.size := by
    have := (Array.getElem?_eq_some_iff.1 hh1).1; simpa [World.setCell] using this
  generalize w1.setCell ⟨g1, k, none⟩ (.int .u8 (y : Int)) = w2 at *
  refine (text_any _ b.length cap b w2 rfl (hv.below hbl2) hb hmax).mono ?_
  rintro e w3 ⟨rfl, hb3⟩
  have hbl3 : Below w.heap.size w w3 := hbl2.trans (hb3.mono hbl2.size)
  have hh3 : rowOf w3 g1 = E8 ((b ++ R).set k y) := by rw [below_rowOf hb3 hs2, hh2]
  have hs3 : g1 < w3.heap.size := Nat.lt_of_lt_of_le hs2 hb3.size
  have hbs : Sha.Bytes (b.set k y) := fun x hx => by
    rcases List.mem_or_eq_of_mem_set hx with h | h
    · exact hb x h
    · rw [h]; exact unhide HY
  have hne : ((strOf (Sha.textOf b)).toList == (strOf (Sha.textOf (b.set k y))).toList) = false := by
    rw [beq_eq_false_iff_ne]
    intro h
    rw [ByteArray.toList_eq, ByteArray.toList_eq] at h
    replace h := WideShapes.bytes_inj h
    have h2 := Sha.textOf_inj hb hbs (by simp) (strOf_inj (Sha.text_bytes _ _) (Sha.text_bytes _ _) h)
    have h3 : Sha.nth b k = y := by rw [h2, Sha.nth_set_same hkl]
    exact unhide HY2 h3.symm
  have hC' : b.length ≤ C := by rw [← hC]; simp
  have hv3 : BytesAt w3 (.slice (some ⟨g1, 0, none⟩) b.length C) (b.set k y) :=
    bytesAt_row w3 g1 _ _ _ _ hh3 hs3 (by simp) hC' (by rw [List.set_append_left _ _ hkl, List.take_left' (by simp)])
  clear hb3 hh3 hs3 hh2 hs2 hbl2
  generalize Sha.textOf b = T at *
  have HT := hide (text_any _ b.length C (b.set k y) w3 (by simp) hv3 hbs hmax)
  generalize Sha.textOf (b.set k y) = T2 at *
  go_wp2_with (first
    | (go_at_call 8; refine (unhide HT).mono ?_; rintro e w4 ⟨rfl, hb4⟩; have hbl4 : Below w.heap.size w w4 := hbl3.trans (hb4.mono hbl3.size); clear hb4 HT)
    | (go_at_call 14; refine (known_any _).mono ?_; rintro e w5 ⟨rfl, hb5⟩; have hbl5 : Below w.heap.size w w5 := hbl4.trans (hb5.mono hbl4.size)))
  go_ret
  exact ⟨rfl, hbl5⟩
set_option maxRecDepth 20000 in
set_option maxHeartbeats 400000 in
theorem unlike_walk (w : World) (a0 : Option Addr) (len0 cap0 : Nat) (z0 : List Int) (r0 : IsRow .u8 w a0 len0 cap0 z0) (a1 : Int) (w1 : (Lit.int .i64 a1).wf = true) (a2 : Int) (w2 : (Lit.int .u8 a2).wf = true) :
    Calls Try.prog 6 #[.slice a0 len0 cap0, .int .i64 a1, .int .u8 a2] w fun e w' => e = .returned (.bool true) ∧ Below w.heap.size w w' := by
  have hlen := isRow_len r0
  obtain ⟨m, rfl, hm⟩ := byte_wf a2 w2
  obtain ⟨q, hq, -⟩ := and_low a1 w1
  obtain ⟨b, hbl, hb, hv⟩ := isRow_bytes r0
  clear r0 w1 w2
  by_cases hgt : 600 < len0
  · have hd : decide ((600 : Int) < (len0 : Int)) = true := by simp; omega
    go_enter Try.func6, Try.ntmps6
    go_wp2
    go_ret
    exact ⟨rfl, Below.refl _ _⟩
  have hd : decide ((600 : Int) < (len0 : Int)) = false := by simp; omega
  by_cases hz : len0 = 0
  · subst hz
    go_enter Try.func6, Try.ntmps6
    go_wp2
    go_ret
    exact ⟨rfl, Below.refl _ _⟩
  have hd2 : ((len0 : Int) == 0) = false := by rw [beq_eq_false_iff_ne]; omega
  by_cases hm0 : m = 0
  · subst hm0
    go_enter Try.func6, Try.ntmps6
    go_wp2
    go_ret
    exact ⟨rfl, Below.refl _ _⟩
  subst hbl
  obtain ⟨g, o, rfl⟩ : ∃ g o, a0 = some ⟨g, o, none⟩ := by
    obtain ⟨a', c, e, hc, hx⟩ := hv
    obtain ⟨g, o, ea, hl, hcell⟩ := hx (by omega)
    cases e; exact ⟨g, o, ea⟩
  exact unlike_some g o _ cap0 b a1 q m w rfl hv hb (by omega) (by omega) hq hm hm0
end Go.Proofs.Ytgchndogklmpdaa
