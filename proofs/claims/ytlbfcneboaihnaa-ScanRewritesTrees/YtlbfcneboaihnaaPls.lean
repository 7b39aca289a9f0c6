/- places: where digits stand, one by one, for a round that always goes on. -/
import Derived.Test.YtlbfcneboaihnaaIdx
import Derived.RangeFuncNested
import Derived.RangeFuncBound
import Derived.RangeFuncCalls
import Derived.RangeFuncLeaves
import Derived.Shelf.Abstract
import Derived.Shelf.RegionOpen
import Derived.WalkKit
import Derived.OwnWalkIn
import Derived.TacticsInMore
import Derived.LoopNIn
import Derived.LoopIn
namespace Go.Proofs.Ytlbfcneboaihnaa
open Go.RowKit Go.Shelf Go.Great
attribute [local go_sem] Oper.semAt_some
set_option linter.unusedSimpArgs false
set_option maxRecDepth 20000 in
set_option maxHeartbeats 2000000 in
theorem places_in (n l Bd Bb : Nat) (B D : List Nat) (a : Option Addr) (nB cB : Nat) (J : List Nat → World → Prop) (hn : B.length = nB) (hmax : nB ≤ 1000000) (hB : Sha.Bytes B) (hD : Sha.Bytes D) (hl : D.length = 32)
    (hBx : ∀ pre W, J pre W → W.cell? ⟨Bd, 0, none⟩ = some (.string (strOf D)) ∧ W.cell? ⟨Bb, 0, none⟩ = some (.slice a nB cB) ∧ BytesAt W (.slice a nB cB) B ∧ ∃ m, W.cell? ⟨0, 0, none⟩ = some (.int .i64 m))
    (hup : ∀ pre W W', J pre W → Below W.heap.size W W' → J pre W')
    (W : World) (h0 : J [] W)
    (hY : ∀ pre p w', p + 32 ≤ nB → pre.length ≤ nB → J pre w' → W.heap.size ≤ w'.heap.size → YieldAt Fence.wide (n - 1) Try.prog l #[.int .i64 (p : Int)] w' fun e w'' =>
      e = .returned (.bool true) ∧ J (pre ++ [p]) w'' ∧ w'.heap.size ≤ w''.heap.size ∧ ∀ k, W.heap.size ≤ k → k < w'.heap.size → w''.heap[k]? = w'.heap[k]?) :
    CallsIn Fence.wide n Try.prog 65 #[.func (.yield l) #[] #[], .pointer (some ⟨Bd, 0, none⟩), .pointer (some ⟨Bb, 0, none⟩)] W fun e W' => (∃ v, e = .returned v) ∧ J (plcs B D 0) W' := by
  refine callsIn_of_wp Try.func65 rfl trivial ?_ rfl
  simp only [Try.ntmps65, List.size_toArray, List.length_cons, List.length_nil, Nat.reduceAdd, Nat.reduceSub, Array.replicate_succ, Array.replicate_zero, List.push_toArray, List.append_toArray, List.nil_append, List.cons_append]
  obtain ⟨c1, c2, c3, c4⟩ := hBx [] W h0
  gi_wp2_with fail
  obtain ⟨G, w1, hr1, hb1, hat1, hz1⟩ := run_cvB W (strOf D)
  rw [hr1]
  rw [bytesOf_strOf D hD, strOf_size, hl] at hat1
  have h1 := hup [] W w1 h0 hb1
  have hds : (strOf D).size = 32 := by rw [strOf_size, hl]
  rw [hds]
  have HBx := hide hBx
  have HY := hide hY
  have HUP := hide hup
  have HAT := hide hat1
  have HF := hide (And.intro hn (And.intro hB hD))
  clear hr1 c1 c2 c3 c4 h0 hb1 hat1 hBx hY hup hn hB hD
  gi_wp2_with fail
  gi_loopw [5] (fun vi wr => ∃ (pre : List Nat) (i : Nat), i ≤ nB ∧ vi = .int .i64 (i : Int) ∧ Hid (plcs B D 0 = pre ++ plcs B D i) ∧ J pre wr ∧ Hid (BytesAt wr (.slice (some ⟨W.heap.size, 0, none⟩) 32 G) D) ∧ W.heap.size + 1 ≤ wr.heap.size) (fun vi _ => nB + 1 - (intOf vi).toNat)
  case atStart => exact ⟨[], 0, by omega, rfl, rfl, h1, HAT, hz1⟩
  case round =>
    clear h1 hz1 HAT
    obtain ⟨pre, i, hi, rfl, HP, hJ, HW, hz⟩ := hrel
    obtain ⟨c1, c2, c3, m, c4⟩ := unhide HBx pre wr hJ
    have hcap : nB ≤ cB := bytes_cap c3
    by_cases hsh : nB - i < 32
    · have HE : Hid (plcs B D 0 = pre) := by
        have := unhide HP
        rwa [plcs_stop (i := i) (by rw [hl, (unhide HF).1]; omega), List.append_nil] at this
      have HI := hide (fun p c => idx_short p (some ⟨W.heap.size, 0, none⟩) (nB - i) c G wr hsh)
      have hic : i ≤ cB := by omega
      cases a
      all_goals
        gi_wp2_with fail
      all_goals
        refine ⟨trivial, fun h => by simp [Fence.wide] at h, ?_⟩
        refine (callsIn_wide.2 (unhide HI _ _)).mono ?_
        rintro e w' ⟨rfl, hw⟩
        rw [hw]
        clear hw w'
        gi_wp2_with fail
        refine ⟨fun f h => (by cases h), ?_⟩
        gi_wp2_with fail
        exact bodyPost_ret (v := .tuple #[]) (by simp [results, Try.results65]) rfl ⟨⟨_, rfl⟩, by rw [unhide HE]; exact hJ⟩
    · obtain ⟨g, o, rfl, _⟩ := bytes_at c3 (unhide HF).1 i (by omega)
      have hXl : (B.drop i).length = nB - i := by rw [List.length_drop, (unhide HF).1]
      have hX0 := piece_at c3 (unhide HF).1 i (nB - i) (by omega)
      rw [List.take_of_length_le (by omega)] at hX0
      have HI := hide (idx_long g (o + i) (nB - i) (cB - i) W.heap.size G (B.drop i) D wr hX0 (fun x hx => (unhide HF).2.1 x (List.mem_of_mem_drop hx)) hXl (unhide HW) (unhide HF).2.2 hl (by omega) m c4)
      have hic : i ≤ cB := by omega
      have hci : ¬ (cB = i) := by omega
      clear hX0
      gi_wp2_with fail
      refine ⟨trivial, fun h => by simp [Fence.wide] at h, ?_⟩
      refine (callsIn_wide.2 (unhide HI)).mono ?_
      rintro e w' ⟨r, rfl, ⟨q, rfl⟩, hr⟩
      have hbq : Below wr.heap.size wr (wr.drewN q) := ⟨rfl, rfl, rfl, Nat.le_refl _, fun _ _ => rfl⟩
      have hJq := unhide HUP pre wr (wr.drewN q) hJ hbq
      have hzq : W.heap.size + 1 ≤ (wr.drewN q).heap.size := hz
      have HWq : Hid (BytesAt (wr.drewN q) (.slice (some ⟨W.heap.size, 0, none⟩) 32 G) D) := (unhide HW).below hbq
      have hQ1 : (wr.drewN q).cell? ⟨Bb, 0, none⟩ = some (.slice (some ⟨g, o, none⟩) nB cB) := c2
      clear HI hbq hJ HW c1 c2 c3 c4
      generalize wr.drewN q = wq at *
      rcases hr with ⟨rfl, hno⟩ | ⟨k, rfl, hk, hs, hno⟩
      · have HE : Hid (plcs B D 0 = pre) := by
          have := unhide HP
          rwa [plcs_none (i := i) (by omega) (fun j hj => by
            have h := hno j (by rw [hXl]; have := (unhide HF).1; omega)
            rwa [List.drop_drop] at h), List.append_nil] at this
        clear hno
        gi_wp2_with fail
        refine ⟨fun f h => (by cases h), ?_⟩
        gi_wp2_with fail
        exact bodyPost_ret (v := .tuple #[]) (by simp [results, Try.results65]) rfl ⟨⟨_, rfl⟩, by rw [unhide HE]; exact hJq⟩
      · have hik : i + k + 32 ≤ nB := by rw [hXl] at hk; omega
        have HN : Hid (plcs B D 0 = (pre ++ [i + k]) ++ plcs B D (i + k + 32)) := by
          have h := unhide HP
          rw [plcs_next (i := i) (k := k) (by omega) (fun j hj hjl => by
            have h := hno j hj (by rw [hXl]; have := (unhide HF).1; omega)
            rwa [List.drop_drop] at h) (by rw [hl, (unhide HF).1]; exact hik) (by rwa [List.drop_drop] at hs), hl] at h
          show plcs B D 0 = _
          rw [h, List.append_assoc]; rfl
        have hpl : pre.length ≤ nB := by
          have h1 := plcs_len (B := B) (D := D) (by omega) (B.length + 1) 0 (by omega)
          rw [unhide HN, List.length_append, List.length_append] at h1
          have := (unhide HF).1
          omega
        obtain ⟨fn, tmps, assign, body, hy, hR⟩ := unhide HY pre (i + k) wq hik hpl hJq (by omega)
        have HR := hide hR
        have ek : ((i + k : Nat) : Int) = (i : Int) + (k : Int) := by omega
        rw [ek] at hy
        clear hR hno hs hk
        gi_wp2_with fail
        refine ⟨fun h => by simp [Fence.wide] at h, (unhide HR).mono ?_⟩
        rintro e w2 ⟨rfl, hJ2, hz2, hk2⟩
        have HW2 : Hid (BytesAt w2 (.slice (some ⟨W.heap.size, 0, none⟩) 32 G) D) := by
          obtain ⟨a', c', e', hc', hx'⟩ := unhide HWq
          refine ⟨a', c', e', hc', fun h0 => ?_⟩
          obtain ⟨b', o', ea, hlt, hcell⟩ := hx' h0
          have hb' : b' = W.heap.size := by injection e' with e1 _ _; rw [← e1] at ea; injection ea with ea; injection ea with ea _ _; exact ea.symm
          subst hb'
          exact ⟨_, o', ea, Nat.lt_of_lt_of_le hlt hz2, fun j hj => by rw [World.cell?_of_block (w := wq) (a := ⟨W.heap.size, o' + j, none⟩) (hk2 _ (Nat.le_refl _) hlt)]; exact hcell j hj⟩
        have hz2' : W.heap.size + 1 ≤ w2.heap.size := by omega
        clear HR hy hk2 hJq HWq hQ1
        gi_wp2_with fail
        exact ⟨⟨pre ++ [i + k], i + k + 32, by omega, by first | rfl | (congr 1; omega), HN, hJ2, HW2, hz2'⟩, by simp [intOf]; omega⟩
end Go.Proofs.Ytlbfcneboaihnaa
