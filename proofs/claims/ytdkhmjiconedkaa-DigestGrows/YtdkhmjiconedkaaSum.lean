/- The code's sumBehind and Sum: the digest of any bytes. -/
import Derived.Test.YtdkhmjiconedkaaStep
namespace Go.Proofs.Ytdkhmjiconedkaa
open Go.RowKit Go.Great

theorem lastStep_n (s : Sha.St) (a : Option Addr) (n cap : Nat) (r : List Nat) (size : Int) (N : Nat) (hN : size = (N : Int)) (w : World) (hs : s.ok) (hn : r.length = n) (hv : BytesAt w (.slice a n cap) r) (hm : Sha.Bytes r) (hr : n < 64) (hsize : N ≤ 1099511627776) :
    Calls Try.prog 43 #[.agg (E32 s.list), .slice a n cap, .int .i64 size] w fun e w' => e = .returned (.agg (E8 (Sha.out (Sha.blocks s (Sha.tail r (8 * N)) (Sha.endOf n / 64))))) ∧ Below w.heap.size w w' := by
  subst hn hN; exact lastStep_any s a cap r N w hs hv hm hr hsize
theorem BytesAt.firsts {w : World} {a : Option Addr} {n cap : Nat} {b : List Nat} (h : BytesAt w (.slice a n cap) b) (q : Nat) (hq : q ≤ b.length) : BytesAt w (.slice a q cap) (b.take q) := by
  obtain ⟨a', c, e, hc, hb⟩ := h
  cases e
  have hl : (b.take q).length = q := by rw [List.length_take]; omega
  refine ⟨a, cap, by rw [hl], by omega, fun h0 => ?_⟩
  obtain ⟨g, o, ea, hg, hcell⟩ := hb (by omega)
  exact ⟨g, o, ea, hg, fun i hi => by rw [hcell i (by omega), Sha.nth_take (by omega)]⟩
theorem BytesAt.suffix {w : World} {g o n cap : Nat} {b : List Nat} (h : BytesAt w (.slice (some ⟨g, o, none⟩) n cap) b) (q : Nat) (hq : q ≤ b.length) :
    BytesAt w (.slice (if cap = q then some ⟨g, o, none⟩ else some ⟨g, o + q, none⟩) (b.length - q) (cap - q)) (b.drop q) := by
  obtain ⟨a', c, e, hc, hb⟩ := h
  cases e
  have hl : (b.drop q).length = b.length - q := by rw [List.length_drop]
  refine ⟨_, cap - q, by rw [hl], by omega, fun h0 => ?_⟩
  obtain ⟨g', o', ea, hg, hcell⟩ := hb (by omega)
  cases ea
  exact ⟨g, o + q, if_neg (by omega), hg, fun i hi => by rw [Nat.add_assoc, hcell (q + i) (by omega), Sha.nth_drop]⟩

theorem wrap_i64 (n : Nat) (h : n ≤ 4611686018427387904) : IntKind.i64.wrap (n : Int) = (n : Int) := by
  exact IntWalk.i64_in _ (by omega)
set_option maxRecDepth 20000 in
set_option maxHeartbeats 1000000 in
theorem sumBehind_some (s : Sha.St) (g o cap : Nat) (b : List Nat) (before : Nat) (w : World) (hs : s.ok) (hv : BytesAt w (.slice (some ⟨g, o, none⟩) b.length cap) b) (hb : Sha.Bytes b) (hlen : b.length ≤ 274877906944) (hbef : before ≤ 274877906944) :
    Calls Try.prog 27 #[.agg (E32 s.list), .int .i64 (before : Int), .slice (some ⟨g, o, none⟩) b.length cap] w fun e w' => e = .returned (.agg (E8 (Sha.sumBehind s before b))) ∧ Below w.heap.size w w' := by
  have hs8 := list_eight s
  have hcap : b.length ≤ cap := by obtain ⟨a', c, e, hc, _⟩ := hv; cases e; exact hc
  obtain ⟨q, hq⟩ : ∃ q, b.length - b.length % 64 = q := ⟨_, rfl⟩
  have HQ : Hid (b.length - b.length % 64 = q) := hq
  have hq1 : q ≤ b.length := by omega
  have hq2 : b.length - q < 64 := by omega
  have hq3 : q = 64 * (b.length / 64) := by omega
  have HQ3 := hide hq3
  have hW : Below w.heap.size w ((w.alloc (.cells (E32 s.list) 50)).alloc (.cells Z25 25)) := ((Below.refl _ _).alloc (Nat.le_refl _) _).alloc (by simp) _
  have HV := hide hv
  clear hv hq3
  go_enter Try.func27, Try.ntmps27
  go_wp2_with (go_at_call 39; refine (wholeBlocks_any _ _ _ _ (by omega)).mono ?_; rintro e w' ⟨rfl, rfl⟩; rw [hq])
  have hrow : rowOf ((w.alloc (.cells (E32 s.list) 50)).alloc (.cells Z25 25)) w.heap.size = E32 s.list := by simp [go_sem]
  have hqc : q ≤ cap := by omega
  have hBs := Sha.blocks_ok hs (b.take q) (b.length / 64)
  have htl : (b.take q).length = 64 * (b.length / 64) := by rw [List.length_take]; have := unhide HQ3; omega
  have HTL := hide htl
  have htb := hb.take q
  have hdl : (b.drop q).length = b.length - q := by rw [List.length_drop]
  have HDL := hide hdl
  have hdb := hb.drop q
  have hW2 : ∀ k, Below w.heap.size w (((w.alloc (.cells (E32 s.list) 50)).alloc (.cells Z25 25)).drewN k) := fun k => below_drews hW k
  have HW2 := hide hW2
  clear htl hdl hW2
  go_region_with (go_at_call 38
                  refine (addBlocks_any s _ (b.take q) (b.length / 64) _ hs ?_ htb (unhide HTL) ?_).mono ?_
                  · exact ((unhide HV).below (by first | exact hW | exact hW.drew)).firsts q hq1
                  · rw [unhide HTL]; omega
                  rintro e w5 ⟨rfl, hb5⟩
                  have hz5 : w.heap.size + 2 ≤ w5.heap.size := by have := hb5.size; simp at this; omega
                  have hfit5 : fits w5 w.heap.size 8 = true := by rw [below_fits hb5 (by simp; omega)]; simp [go_sem]
                  have hfitr : fits w5 (w.heap.size + 1) 32 = true := by rw [below_fits hb5 (by simp)]; simp [go_sem]
                  have hbel5 : Below w.heap.size w w5 := (by first | exact hW | exact hW.drew : Below w.heap.size w _).trans (hb5.mono (by simp; omega))
                  clear hb5)
  have hX8 := list_eight (Sha.blocks s (List.take q b) (b.length / 64))
  have hrow6 : rowOf (w5.setRow w.heap.size (E32 (Sha.blocks s (List.take q b) (b.length / 64)).list)) w.heap.size = E32 (Sha.blocks s (List.take q b) (b.length / 64)).list := rowOf_setRow_at _ _ 8 _ hfit5
  have hfit6 : fits (w5.setRow w.heap.size (E32 (Sha.blocks s (List.take q b) (b.length / 64)).list)) (w.heap.size + 1) 32 = true := by rw [fits_of (setRow_other _ _ _ _ (by omega))]; exact hfitr
  have hbel6 : Below w.heap.size w (w5.setRow w.heap.size (E32 (Sha.blocks s (List.take q b) (b.length / 64)).list)) := below_setRow hbel5 (Nat.le_refl _) _
  have hz6 : w.heap.size + 2 ≤ (w5.setRow w.heap.size (E32 (Sha.blocks s (List.take q b) (b.length / 64)).list)).heap.size := by simp; omega
  generalize w5.setRow w.heap.size (E32 (Sha.blocks s (List.take q b) (b.length / 64)).list) = w6 at *
  have HE : Hid (Sha.sumBehind s before b = Sha.out (Sha.blocks (Sha.blocks s (List.take q b) (b.length / 64)) (Sha.tail (b.drop q) (8 * (before + b.length))) (Sha.endOf (b.length - q) / 64))) := by
    unfold Sha.sumBehind
    rw [unhide HQ, show b.length % 64 = b.length - q by have := unhide HQ; omega]; exact rfl
  generalize Sha.blocks s (List.take q b) (b.length / 64) = X at *
  clear hfit5 hfitr hbel5 hz5 hrow hW HW2 HTL htb
  have hwr2 : IntKind.i64.wrap ((before : Int) + (b.length : Int)) = ((before + b.length : Nat) : Int) := by rw [← wrap_i64 (before + b.length) (by omega)]; exact congrArg IntKind.i64.wrap (by omega)
  have hsf2 := ((unhide HV).below hbel6.drew).suffix q hq1
  obtain ⟨A, hA⟩ : ∃ A, (if cap = q then some (⟨g, o, none⟩ : Addr) else some ⟨g, o + q, none⟩) = A := ⟨_, rfl⟩
  rw [hA] at hsf2
  have HSF := hide hsf2
  obtain ⟨R, hR⟩ : ∃ R, Sha.out (Sha.blocks X (Sha.tail (b.drop q) (8 * (before + b.length))) (Sha.endOf (b.length - q) / 64)) = R := ⟨_, rfl⟩
  have hRl : R.length = 32 := by rw [← hR]; exact Sha.out_length _
  rw [hR] at HE
  have HR := hide hR
  clear hsf2 hR
  go_wp2
  go_region_with (go_at_call 43
                  refine (lastStep_n X _ _ _ (b.drop q) _ (before + b.length) ?_ _ hBs (unhide HDL) ?_ hdb hq2 (by omega)).mono ?_
                  · omega
                  · exact unhide HSF
                  rw [unhide HR]
                  rintro e w7 ⟨rfl, hb7⟩
                  have hfit7 : fits w7 (w.heap.size + 1) 32 = true := by rw [below_fits hb7 (by simp; omega)]; exact hfit6
                  have hbel7 : Below w.heap.size w w7 := hbel6.drew.trans (hb7.mono (by simp; omega))
                  clear hb7)
  go_wp2
  exact bodyPost_ret (results_at Try.results27 _ _ hfit7 rfl hRl) rfl ⟨by rw [unhide HE], below_setRow hbel7 (by omega) _⟩

theorem sumBehind_i (s : Sha.St) (g o n cap : Nat) (b : List Nat) (before : Int) (B : Nat) (hB : before = (B : Int)) (w : World) (hs : s.ok) (hn : b.length = n) (hv : BytesAt w (.slice (some ⟨g, o, none⟩) n cap) b) (hb : Sha.Bytes b) (hlen : n ≤ 274877906944) (hbef : B ≤ 274877906944) :
    Calls Try.prog 27 #[.agg (E32 s.list), .int .i64 before, .slice (some ⟨g, o, none⟩) n cap] w fun e w' => e = .returned (.agg (E8 (Sha.sumBehind s B b))) ∧ Below w.heap.size w w' := by
  subst hB hn; exact sumBehind_some s g o cap b B w hs hv hb hlen hbef

set_option maxRecDepth 20000 in
set_option maxHeartbeats 1000000 in
theorem sum_any (g o n cap : Nat) (b : List Nat) (w : World) (hn : b.length = n) (hv : BytesAt w (.slice (some ⟨g, o, none⟩) n cap) b) (hb : Sha.Bytes b) (hlen : n ≤ 274877906944) :
    Calls Try.prog 10 #[.slice (some ⟨g, o, none⟩) n cap] w fun e w' => e = .returned (.agg (E8 (Sha.sum b))) ∧ Below w.heap.size w w' := by
  have hl := Sha.sumBehind_length Sha.start 0 b
  have HV := hide hv
  have HN := hide hn
  have H0 : Hid (Sha.sum b = Sha.sumBehind Sha.start 0 b) := rfl
  clear hv hn
  go_enter Try.func10, Try.ntmps10
  go_wp2_with fail
  refine (firstState_any _).mono ?_; rintro e w1 ⟨rfl, hb1⟩
  have hz1 : w.heap.size + 1 ≤ w1.heap.size := by have := hb1.size; simp at this; omega
  have hbel1 : Below w.heap.size w w1 := ((Below.refl _ _).alloc (Nat.le_refl _) _).trans (hb1.mono (by simp))
  have hfit1 : fits w1 w.heap.size 32 = true := by rw [below_fits hb1 (by simp)]; simp [go_sem]
  clear hb1
  go_wp2_with fail
  refine (sumBehind_i Sha.start g o n cap b 0 0 rfl _ Sha.start_ok (unhide HN) ((unhide HV).below hbel1) hb hlen (by omega)).mono ?_; rintro e w2 ⟨rfl, hb2⟩
  have hbel2 : Below w.heap.size w w2 := hbel1.trans (hb2.mono (by omega))
  have hfit2 : fits w2 w.heap.size 32 = true := by rw [below_fits hb2 (by omega)]; exact hfit1
  clear hb2
  go_wp2
  exact bodyPost_ret (results_at Try.results10 _ _ hfit2 rfl hl) rfl ⟨by rw [unhide H0], below_setRow hbel2 (by omega) _⟩
end Go.Proofs.Ytdkhmjiconedkaa
