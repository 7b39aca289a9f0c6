/- Write, where there is no room. -/
import Derived.Test.YtebcmicmklpflaaGreatDoorK6
import Derived.Test.YtebcmicmklpflaaGreatDoorK7
namespace Go.Proofs.YtebcmicmklpflaaGreatDoor
open Go.RowKit Go.Maps
set_option linter.unusedSimpArgs false
set_option maxRecDepth 20000 in
set_option maxHeartbeats 4000000 in
theorem plan_write_no (f bb bf bn : Nat) (K : Nat → Option (List UInt8)) (m : Option Nat) (n k : Nat) (T : Tb) (F : Nat → Prop) (b : Nat → Nat) (h : Nat → Value) (s : ByteArray) (a : Option Addr) (c : Nat) (d : List UInt8) (room : Nat) (w : World)
    (hr : w.cell? ⟨f, 2, none⟩ = some (.int .i64 (room : Int))) (hc : w.cell? ⟨f, 3, none⟩ = some (.map m)) (hu : w.cell? ⟨f, 4, none⟩ = some (.int .i64 T.u))
    (hT : TabM w K m n T F b h) (hok : T.Ok k) (hk : k ≤ 100000) (hs : s.size ≤ 300) (hn : n ≤ 16383) (hb : (room : Int) < T.u - (T.alone s : Int) + (d.length : Int)) (hroom : room ≤ 1073741824) (hd : d.length ≤ 1048576)
    (h1 : w.cell? ⟨bb, 0, none⟩ = some (.slice a d.length c)) (h2 : w.cell? ⟨bf, 0, none⟩ = some (.pointer (some ⟨f, 0, none⟩))) (h3 : w.cell? ⟨bn, 0, none⟩ = some (.string s)) :
    Calls Tryz.prog 66 #[.pointer (some ⟨bb, 0, none⟩), .pointer (some ⟨bf, 0, none⟩), .pointer (some ⟨bn, 0, none⟩)] w fun e w' => e = .returned (.tuple #[.nilFunc, .int .i64 6]) ∧ ∃ q, w' = w.drewN q := by
  have hs2 : s.size ≤ maxLen := by simp only [maxLen]; omega
  have hTW : ∀ W : World, W.heap = w.heap → TabM W K m n T F b h := fun W hW => hT.kept (fun _ _ => by rw [hW]) (fun _ _ => by rw [hW])
  have hC : ∀ W : World, W.heap = w.heap → W.cell? ⟨f, 3, none⟩ = some (.map m) := fun W hW => by rw [World.cell?_of_block (w := w) (a := ⟨f, 3, none⟩) (by rw [hW])]; exact hc
  have HH := hide (fun W (hW : W.heap = w.heap) => has_tab f 3 K m n T F b h s W (hC W hW) (hTW W hW) hs2)
  have HF := hide (fun W (hW : W.heap = w.heap) => full_not f 3 m n _ W (hC W hW) (hTW W hW).tab hn)
  have HA := hide (fun W (hW : W.heap = w.heap) => alone_any f 3 K m n T F b h s W (hC W hW) (hTW W hW) hs2)
  have hub := hok.ub
  have hal : T.alone s ≤ 1048576 := by
    unfold Tb.alone
    split
    · omega
    · split
      · omega
      · exact hok.dl _
  clear hTW hC hT hok
  generalize T.alone s = al at *
  generalize T.u = u at *
  cases hNs : (T.N s).isSome
  all_goals
    rw [hNs] at HH
    clear hNs
    generalize hN0 : d.length = N at *
    have HN0 := hide hN0
    clear hN0
    go_enter Tryz.func66, Tryz.ntmps66
    go_wp2_with fail
    go_quiet (first | (go_at_call 67; exact Calls.quiet_of_same (unhide HH _ rfl)) | (go_at_call 68; exact Calls.quiet_of_same (unhide HF _ rfl)))
    obtain ⟨W1, hW1, hx1⟩ : ∃ W1 : World, W1.heap = w.heap ∧ W1 = w.drewN nq := ⟨w.drewN nq, rfl, rfl⟩
    have hI1 : Inv (fun _ => False) w W1 [] := by rw [hx1]; exact (Inv.refl _ _).drewN _
    have e1 : W1.cell? ⟨bb, 0, none⟩ = some (.slice a N c) := hI1.cell h1 id
    have e2 : W1.cell? ⟨bf, 0, none⟩ = some (.pointer (some ⟨f, 0, none⟩)) := hI1.cell h2 id
    have e3 : W1.cell? ⟨bn, 0, none⟩ = some (.string s) := hI1.cell h3 id
    have e4 : W1.cell? ⟨f, 4, none⟩ = some (.int .i64 u) := hI1.cell hu id
    have e5 : W1.cell? ⟨f, 2, none⟩ = some (.int .i64 (room : Int)) := hI1.cell hr id
    rw [← hx1]
    have HA2 := hide (fun q => unhide HA (W1.drewN q) hW1)
    have hw1 : IntKind.i64.wrap (u - (al : Int)) = u - (al : Int) := wrap64 (by omega)
    have hw2 : IntKind.i64.wrap (u - (al : Int) + (N : Int)) = u - (al : Int) + (N : Int) := wrap64 (by omega)
    have hbI : (room : Int) < u - (al : Int) + (N : Int) := hb
    have HX1 : Hid (∀ p, W1.drewN p = w.drewN (nq + p)) := fun p => by rw [hx1]; exact World.drewN_drewN _ _ _
    clear hx1 hW1 hI1 hb hub hal
    go_wp2_with fail
    go_quiet (first | (go_at_call 69; exact Calls.quiet_of_same (unhide HA2 _)))
    go_wp2_with fail
    go_ret2
    exact ⟨rfl, _, unhide HX1 _⟩
set_option maxRecDepth 20000 in
set_option maxHeartbeats 2000000 in
theorem change_err (f : Nat) (S : Fs) (O : Nat → Prop) (K : Nat → Option (List UInt8)) (n l : Lie) (pv : Value) (ps : List Value) (w : World) (h : FsM w f 0 S S.pend O K n l pv ps) (hf : S.fuse ≠ some 0) (pf : Nat) (c1 c2 c3 : Value) (gn : Nat) (ss : List ByteArray) (cap : Nat)
    (hss : ∀ s ∈ ss, 1 ≤ s.size ∧ s.size ≤ 300) (hlen : ss.length ≤ 100) (hnm : ∀ (k : Nat) (s : ByteArray), ss[k]? = some s → w.cell? ⟨gn, k, none⟩ = some (.string s)) (hgn : gn ≠ f) (er : Int) (her : ¬ er = 0) (hcf : Enters pf)
    (HP : Calls Tryz.prog pf #[c1, c2, c3] (w.setCell ⟨f, 0, none⟩ (.int .i32 1)) fun e w2 => e = .returned (.tuple #[.nilFunc, .int .i64 er]) ∧ ∃ q, w2 = (w.setCell ⟨f, 0, none⟩ (.int .i32 1)).drewN q) :
    Calls Tryz.prog 65 #[.pointer (some ⟨f, 0, none⟩), .func (.func pf) #[] #[c1, c2, c3], .slice (some ⟨gn, 0, none⟩) ss.length cap] w fun e w' => e = .returned (.int .i64 er) ∧ FsM w' f 0 S S.pend O K n l pv ps ∧ Below w.heap.size w w' := by
  obtain ⟨h0, _, _, _, _, _, _, _, _, hz⟩ := h.cells
  obtain ⟨w1, hw1⟩ : ∃ w1, w1 = w.setCell ⟨f, 0, none⟩ (.int .i32 1) := ⟨_, rfl⟩
  have hM1 : FsM w1 f 1 S S.pend O K n l pv ps := by rw [hw1]; exact h.lock 1
  have HD := hide (dead_not hM1 hf)
  have HL := hide (lock_free ⟨f, 0, none⟩ w h0 (hz 0))
  have HBK : Hid (∀ q, FsM ((w1.drewN q).setCell ⟨f, 0, none⟩ (.int .i32 0)) f 0 S S.pend O K n l pv ps ∧ Below w.heap.size w ((w1.drewN q).setCell ⟨f, 0, none⟩ (.int .i32 0)) ∧ (w1.drewN q).cell? ⟨f, 0, none⟩ = some (.int .i32 1) ∧ (w1.drewN q).frozen? ⟨f, 0, none⟩ = false) := fun q => by rw [hw1]; exact h.back ((Inv.refl _ _).drewN q)
  rw [← hw1] at HL HP
  have HP := hide HP
  have hnm1 : ∀ (k : Nat) (s : ByteArray), ss[k]? = some s → w1.cell? ⟨gn, k, none⟩ = some (.string s) := fun k s e => by rw [hw1, World.cell?_setCell_other _ ⟨f, 0, none⟩ ⟨gn, k, none⟩ _ (by simp [Ne.symm hgn])]; exact hnm k s e
  have HS := hide hss
  unfold Enters at hcf
  have HN := hide hnm1
  clear hnm hnm1 hss hM1 h hw1 hz h0
  have hlen2 : (ss.length : Int) ≤ 100 := by omega
  generalize hNN : ss.length = N at *
  have HNN := hide hNN
  clear hNN
  go_enter_defers Tryz.func65, Tryz.ntmps65
  go_wp2_with fail
  refine (unhide HL).mono ?_
  rintro e w' ⟨rfl, rfl⟩
  go_wp2_with fail
  refine (unhide HD).mono ?_
  rintro e w' ⟨rfl, rfl⟩
  go_wp2_with fail
  go_loop [24] (fun i => ∃ k : Nat, k ≤ N ∧ i = .int .i64 k) (fun i => N - (intOf i).toNat)
  case atStart => exact ⟨0, Nat.zero_le _, rfl⟩
  case round =>
    obtain ⟨j, hj, rfl⟩ := hrel
    by_cases hlt : j < N
    · obtain ⟨s, hs, h1, h2⟩ : ∃ s, w'.cell? ⟨gn, j, none⟩ = some (.string s) ∧ 1 ≤ s.size ∧ s.size ≤ 300 := by
        have hj2 : j < ss.length := by rw [unhide HNN]; exact hlt
        exact ⟨ss[j], unhide HN j ss[j] (List.getElem?_eq_getElem hj2), unhide HS _ (List.getElem_mem hj2)⟩
      go_wp2_with fail
      go_round
      case rel => exact ⟨j + 1, by omega, by go_num⟩
      case measure => simp [intOf]; omega
    · go_wp2_with fail
      refine (unhide HP).mono ?_
      rintro e w2 ⟨rfl, q, rfl⟩
      obtain ⟨g1, g2, g3, g4⟩ := unhide HBK q
      have HE := hide (And.intro g1 g2)
      clear g1 g2
      have her2 : (er == 0) = false := by simpa using her
      go_wp2_with fail
      refine leaves_cons (f := 55) (args := #[.pointer (some ⟨f, 0, none⟩)]) (by simp) (by simp [go_sem]) ?_
      refine (unlock_deferred ⟨f, 0, none⟩ .returning _ g3 g4).mono ?_
      rintro e u' w7 ⟨rfl, rfl, rfl⟩
      exact ⟨_, results_tmp rfl _ _ _, rfl, unhide HE⟩
set_option maxRecDepth 20000 in
set_option maxHeartbeats 2000000 in
theorem write_full (f : Nat) (S : Fs) (O : Nat → Prop) (k : Nat) (s : ByteArray) (a : Option Addr) (c : Nat) (d : List UInt8) (w : World) (h : FsIs w f 0 S O k) (hk : k ≤ 16000) (hf : S.fuse ≠ some 0) (hs : 1 ≤ s.size ∧ s.size ≤ 300) (hd : d.length ≤ 1048576) (hfit : (S.room : Int) < S.now.u - (S.now.alone s : Int) + (d.length : Int)) :
    Calls Tryz.prog 28 #[.pointer (some ⟨f, 0, none⟩), .string s, .slice a d.length c] w fun e w' => e = .returned (.int .i64 6) ∧ FsIs w' f 0 S O k ∧ Below w.heap.size w w' := by
  obtain ⟨K, n, l, pv, ps, hM, hnk, hex⟩ := h
  obtain ⟨w0, hw0⟩ : ∃ w0, w0 = (((w.alloc (.cells #[.pointer (some ⟨f, 0, none⟩)] 25)).alloc (.cells #[.string s] 9)).alloc (.cells #[.slice a d.length c] 39)).alloc (.cells #[.string s] 9) := ⟨_, rfl⟩
  have hI0 : Inv (fun _ => False) w w0 ((w.heap.size + 3, .cells #[.string s] 9 (0, 0)) :: (w.heap.size + 2, .cells #[.slice a d.length c] 39 (0, 0)) :: (w.heap.size + 1, .cells #[.string s] 9 (0, 0)) :: (w.heap.size, .cells #[.pointer (some ⟨f, 0, none⟩)] 25 (0, 0)) :: []) := by
    have h1 := (((((Inv.refl (fun _ => False) w).alloc (.cells #[.pointer (some ⟨f, 0, none⟩)] 25)).alloc (.cells #[.string s] 9)).alloc (.cells #[.slice a d.length c] 39)).alloc (.cells #[.string s] 9))
    simp only [World.size_alloc] at h1
    rw [hw0]
    exact h1
  have hM0 : FsM w0 f 0 S S.pend O K n l pv ps := hM.kept hI0.size (fun q o => hI0.blk q (hM.lt q o) id)
  have hfl : f < w.heap.size := hM.lt f hM.of
  obtain ⟨w1, hw1⟩ : ∃ w1, w1 = w0.setCell ⟨f, 0, none⟩ (.int .i32 1) := ⟨_, rfl⟩
  have hM1 : FsM w1 f 1 S S.pend O K n l pv ps := by rw [hw1]; exact hM0.lock 1
  obtain ⟨_, c2, c3, c4, _⟩ := hM1.cells
  have h00 := hM0.cells.1
  have hother : ∀ b v, b ≠ f → w0.cell? ⟨b, 0, none⟩ = some v → w1.cell? ⟨b, 0, none⟩ = some v := fun b v hb hc => by rw [hw1, World.cell?_setCell_other _ ⟨f, 0, none⟩ ⟨b, 0, none⟩ _ (by simp [Ne.symm hb])]; exact hc
  have hnn := hM.now.nk
  have hs1 : w1.heap.size = w0.heap.size := by rw [hw1, size_set]
  have hz0 := hI0.size
  have HP := plan_write_no f (w.heap.size + 2) w.heap.size (w.heap.size + 1) K n.m n.n n.k S.now n.F n.b n.h s a c d S.room w1 c2 c3 c4 hM1.now.tab hM1.now.ok (by omega) hs.2 (by omega) hfit hM.room hd
    (hother _ _ (by omega) (hI0.bx (List.mem_cons_of_mem _ (List.mem_cons_self ..))).1) (hother _ _ (by omega) (hI0.bx (List.mem_cons_of_mem _ (List.mem_cons_of_mem _ (List.mem_cons_of_mem _ (List.mem_cons_self ..))))).1) (hother _ _ (by omega) (hI0.bx (List.mem_cons_of_mem _ (List.mem_cons_of_mem _ (List.mem_cons_self ..)))).1)
  rw [hw1] at HP hM1
  have HC := change_err f S O K n l pv ps w0 hM0 hf 66 (.pointer (some ⟨w.heap.size + 2, 0, none⟩)) (.pointer (some ⟨w.heap.size, 0, none⟩)) (.pointer (some ⟨w.heap.size + 1, 0, none⟩)) (w.heap.size + 3) [s] 1 (fun x hx => by simp at hx; subst hx; exact hs) (by simp) (fun j x hj => by
      cases j with
      | zero => simp at hj; subst hj; exact (hI0.bx (List.mem_cons_self ..)).1
      | succ j => simp at hj) (by omega) 6 (by omega) enters28 HP
  have HC := hide (HC.mono fun e w' ⟨e1, h1, h2⟩ => (⟨e1, ⟨K, n, l, pv, ps, h1, hnk, hex⟩, (⟨hI0.os, hI0.tape, hI0.output, hI0.size, fun q hq => hI0.blk q hq id⟩ : Below w.heap.size w w0).trans (h2.mono hI0.size)⟩ : e = Ending.returned (.int .i64 6) ∧ FsIs w' f 0 S O k ∧ Below w.heap.size w w'))
  rw [hw0] at HC
  clear hI0 hM0 hM1 hM hother HP hw0 hw1 hz0 hs1 c2 c3 c4 h00 hnn
  simp only [List.length_singleton] at HC
  generalize d.length = N at *
  go_enter Tryz.func28, Tryz.ntmps28
  go_wp2_with fail
  refine (unhide HC).mono ?_
  rintro e w9 ⟨rfl, hE⟩
  have HE := hide hE
  clear hE
  go_wp2_with fail
  go_ret
  exact ⟨rfl, unhide HE⟩
end Go.Proofs.YtebcmicmklpflaaGreatDoor
