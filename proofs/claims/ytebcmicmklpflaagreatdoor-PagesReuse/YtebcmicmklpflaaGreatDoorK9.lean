import Derived.Test.YtebcmicmklpflaaGreatDoorK8
import Derived.Deep.QuietTactic
import Derived.Test.YtebcmicmklpflaaGreatDoorK6
import Derived.Test.YtebcmicmklpflaaGreatDoorK7
import Derived.Laws.BitsLemmas
/- The journal's files: part, sweep, mend; Add. -/
namespace Go.Proofs.YtebcmicmklpflaaGreatDoor
open Go.RowKit Go.Maps
set_option linter.unusedSimpArgs false
theorem setCell_id {w : World} {b o : Nat} {v : Value} (h : w.cell? ⟨b, o, none⟩ = some v) : w.setCell ⟨b, o, none⟩ v = w := by
  have hb := set_self h
  have ha : (w.setCell ⟨b, o, none⟩ v).heap = w.heap := by
    apply Array.ext_getElem?
    intro i
    by_cases hi : i = b
    · rw [hi]; exact hb
    · exact set_other _ _ _ _ _ hi
  unfold World.setCell at *
  simp only at ha
  rw [ha]
set_option maxRecDepth 20000 in
theorem part_zero (j : Nat) (nm : ByteArray) (w : World) (h : w.cell? ⟨j, 1, none⟩ = some (.string nm)) : Calls Tryz.prog 97 #[.pointer (some ⟨j, 0, none⟩), .int .i64 0] w fun e w' => e = .returned (.string nm) ∧ w' = w := by
  go_enter Tryz.func97, Tryz.ntmps97
  go_wp2_with fail
  go_ret
  exact ⟨rfl, rfl⟩
set_option maxRecDepth 20000 in
theorem small_one (w : World) : Calls Tryz.prog 229 #[.int .i64 1] w fun e w' => e = .returned (.string ⟨#[49]⟩) ∧ w' = w := by
  go_enter Tryz.func229, Tryz.ntmps229
  go_wp2_with fail
  go_ret
  exact ⟨rfl, rfl⟩
set_option maxRecDepth 20000 in
theorem format_one (w : World) : Calls Tryz.prog 212 #[.int .i64 1, .int .i64 10] w fun e w' => e = .returned (.string ⟨#[49]⟩) ∧ w' = w := by
  have HS := hide small_one
  go_enter Tryz.func212, Tryz.ntmps212
  go_wp2_with fail
  refine (unhide HS _).mono ?_
  rintro e w' ⟨rfl, rfl⟩
  go_wp2_with fail
  go_ret
  exact ⟨rfl, rfl⟩
set_option maxRecDepth 20000 in
theorem itoa_in (w : World) : Calls Tryz.prog 177 #[.int .i64 1] w fun e w' => e = .returned (.string ⟨#[49]⟩) ∧ w' = w := by
  have HS := hide format_one
  go_enter Tryz.func177, Tryz.ntmps177
  go_wp2_with fail
  refine (unhide HS _).mono ?_
  rintro e w' ⟨rfl, rfl⟩
  go_wp2_with fail
  go_ret
  exact ⟨rfl, rfl⟩
set_option maxRecDepth 20000 in
theorem itoa_one (w : World) : Calls Tryz.prog 130 #[.int .i64 1] w fun e w' => e = .returned (.string ⟨#[49]⟩) ∧ w' = w := by
  have HS := hide itoa_in
  go_enter Tryz.func130, Tryz.ntmps130
  go_wp2_with fail
  refine (unhide HS _).mono ?_
  rintro e w' ⟨rfl, rfl⟩
  go_wp2_with fail
  go_ret
  exact ⟨rfl, rfl⟩
/-- What stands between a journal's name and a part's number. -/
def mark : ByteArray := ⟨#[46, 112, 97, 114, 116, 45]⟩
def part1 (nm : ByteArray) : ByteArray := nm ++ mark ++ ⟨#[49]⟩
set_option maxRecDepth 20000 in
theorem part_one (j : Nat) (nm : ByteArray) (w : World) (h : w.cell? ⟨j, 1, none⟩ = some (.string nm)) (hn : nm.size ≤ 100) : Calls Tryz.prog 97 #[.pointer (some ⟨j, 0, none⟩), .int .i64 1] w fun e w' => e = .returned (.string (part1 nm)) ∧ Below w.heap.size w w' := by
  have HS := hide itoa_one
  have hs1 : ¬ (9223372036854775807 < nm.size + 6) := by omega
  go_enter Tryz.func97, Tryz.ntmps97
  go_wp2_with fail
  go_quiet (first | (go_at_call 130; exact Calls.quiet_of_same (unhide HS _)))
  go_wp2_with fail
  go_ret
  exact ⟨rfl, ⟨rfl, rfl, rfl, Nat.le_refl _, fun _ _ => rfl⟩⟩
set_option maxRecDepth 20000 in
theorem sweep_none (j : Nat) (w : World) (h : w.cell? ⟨j, 3, none⟩ = some (.slice none 0 0)) (hz : w.frozen? ⟨j, 3, none⟩ = false) : Calls Tryz.prog 109 #[.pointer (some ⟨j, 0, none⟩)] w fun e w' => e = .returned (.int .i64 0) ∧ w' = w := by
  have hid := setCell_id h
  go_enter Tryz.func109, Tryz.ntmps109
  go_wp2_with fail
  go_loop [11] (fun i => i = .int .i64 0) (fun _ => 0)
  case atStart => rfl
  case round =>
    subst hrel
    go_wp2_with fail
    go_ret
    exact ⟨rfl, rfl⟩
set_option maxRecDepth 20000 in
theorem mend_none (j : Nat) (w : World) (h : w.cell? ⟨j, 3, none⟩ = some (.slice none 0 0)) (h4 : w.cell? ⟨j, 4, none⟩ = some (.bool false)) (hz : w.frozen? ⟨j, 3, none⟩ = false) : Calls Tryz.prog 104 #[.pointer (some ⟨j, 0, none⟩)] w fun e w' => e = .returned (.int .i64 0) ∧ w' = w := by
  have HS := hide (sweep_none j w h hz)
  go_enter Tryz.func104, Tryz.ntmps104
  go_wp2_with fail
  refine (unhide HS).mono ?_
  rintro e w' ⟨rfl, rfl⟩
  go_wp2_with fail
  go_ret
  exact ⟨rfl, rfl⟩
end Go.Proofs.YtebcmicmklpflaaGreatDoor
/- Write, where there is no room. -/
namespace Go.Proofs.YtebcmicmklpflaaGreatDoor
open Go.RowKit Go.Maps
set_option linter.unusedSimpArgs false
set_option maxRecDepth 20000 in
set_option maxHeartbeats 4000000 in
theorem plan_write_no (f bb bf bn : Nat) (K : Nat → Option (List UInt8)) (m : Option Nat) (n k : Nat) (T : Tb) (F : Nat → Prop) (b : Nat → Nat) (h : Nat → Value) (s : ByteArray) (a : Option Addr) (c : Nat) (d : List UInt8) (room : Nat) (w : World)
    (hr : w.cell? ⟨f, 2, none⟩ = some (.int .i64 (room : Int))) (hc : w.cell? ⟨f, 3, none⟩ = some (.map m)) (hu : w.cell? ⟨f, 4, none⟩ = some (.int .i64 T.u))
    (hT : TabM w K m n T F b h) (hok : T.Ok k) (hk : k ≤ 100000) (hs : s.size ≤ 300) (hn : n ≤ 16383) (hb : (room : Int) < T.u - (T.alone s : Int) + (d.length : Int)) (hroom : room ≤ 1073741824) (hd : d.length ≤ 1048576)
    (h1 : w.cell? ⟨bb, 0, none⟩ = some (.slice a d.length c)) (h2 : w.cell? ⟨bf, 0, none⟩ = some (.pointer (some ⟨f, 0, none⟩))) (h3 : w.cell? ⟨bn, 0, none⟩ = some (.string s)) :
    Calls Tryz.prog 66 #[.pointer (some ⟨bb, 0, none⟩), .pointer (some ⟨bf, 0, none⟩), .pointer (some ⟨bn, 0, none⟩)] w fun e w' => e = .returned (.tuple #[.nilFunc, .int .i64 6]) ∧ ∃ q, w' = w.drewN q := by
  have hs2 : s.size ≤ maxLen := by simp only [maxLen]; omega
  have hTW : ∀ W : World, W.heap = w.heap → TabM W K m n T F b h := fun W hW => hT.kept (fun _ _ => by rw [hW]) (fun _ _ => by rw [hW])
  have hC : ∀ W : World, W.heap = w.heap → W.cell? ⟨f, 3, none⟩ = some (.map m) := fun W hW => by rw [World.cell?_of_block (w := w) (a := ⟨f, 3, none⟩) (by rw [hW])]; exact hc
  have HH := hide (fun W (hW : W.heap = w.heap) => has_tab f 3 K m n T F b h s W (hC W hW) (hTW W hW) hs2)
  have HF := hide (fun W (hW : W.heap = w.heap) => full_not f 3 m n _ W (hC W hW) (hTW W hW).tab hn)
  have HA := hide (fun W (hW : W.heap = w.heap) => alone_any f 3 K m n T F b h s W (hC W hW) (hTW W hW) hs2)
  have hub := hok.ub
  have hal : T.alone s ≤ 1048576 := by
    unfold Tb.alone
    split
    · omega
    · split
      · omega
      · exact hok.dl _
  clear hTW hC hT hok
  generalize T.alone s = al at *
  generalize T.u = u at *
  cases hNs : (T.N s).isSome
  all_goals
    rw [hNs] at HH
    clear hNs
    generalize hN0 : d.length = N at *
    have HN0 := hide hN0
    clear hN0
    go_enter Tryz.func66, Tryz.ntmps66
    go_wp2_with fail
    go_quiet (first | (go_at_call 67; exact Calls.quiet_of_same (unhide HH _ rfl)) | (go_at_call 68; exact Calls.quiet_of_same (unhide HF _ rfl)))
    obtain ⟨W1, hW1, hx1⟩ : ∃ W1 : World, W1.heap = w.heap ∧ W1 = w.drewN nq := ⟨w.drewN nq, rfl, rfl⟩
    have hI1 : Inv (fun _ => False) w W1 [] := by rw [hx1]; exact (Inv.refl _ _).drewN _
    have e1 : W1.cell? ⟨bb, 0, none⟩ = some (.slice a N c) := hI1.cell h1 id
    have e2 : W1.cell? ⟨bf, 0, none⟩ = some (.pointer (some ⟨f, 0, none⟩)) := hI1.cell h2 id
    have e3 : W1.cell? ⟨bn, 0, none⟩ = some (.string s) := hI1.cell h3 id
    have e4 : W1.cell? ⟨f, 4, none⟩ = some (.int .i64 u) := hI1.cell hu id
    have e5 : W1.cell? ⟨f, 2, none⟩ = some (.int .i64 (room : Int)) := hI1.cell hr id
    rw [← hx1]
    have HA2 := hide (fun q => unhide HA (W1.drewN q) hW1)
    have hw1 : IntKind.i64.wrap (u - (al : Int)) = u - (al : Int) := wrap64 (by omega)
    have hw2 : IntKind.i64.wrap (u - (al : Int) + (N : Int)) = u - (al : Int) + (N : Int) := wrap64 (by omega)
    have hbI : (room : Int) < u - (al : Int) + (N : Int) := hb
    have HX1 : Hid (∀ p, W1.drewN p = w.drewN (nq + p)) := fun p => by rw [hx1]; exact World.drewN_drewN _ _ _
    clear hx1 hW1 hI1 hb hub hal
    go_wp2_with fail
    go_quiet (first | (go_at_call 69; exact Calls.quiet_of_same (unhide HA2 _)))
    go_wp2_with fail
    go_ret2
    exact ⟨rfl, _, unhide HX1 _⟩
set_option maxRecDepth 20000 in
set_option maxHeartbeats 2000000 in
theorem change_err (f : Nat) (S : Fs) (O : Nat → Prop) (K : Nat → Option (List UInt8)) (n l : Lie) (pv : Value) (ps : List Value) (w : World) (h : FsM w f 0 S S.pend O K n l pv ps) (hf : S.fuse ≠ some 0) (pf : Nat) (c1 c2 c3 : Value) (gn : Nat) (ss : List ByteArray) (cap : Nat)
    (hss : ∀ s ∈ ss, 1 ≤ s.size ∧ s.size ≤ 300) (hlen : ss.length ≤ 100) (hnm : ∀ (k : Nat) (s : ByteArray), ss[k]? = some s → w.cell? ⟨gn, k, none⟩ = some (.string s)) (hgn : gn ≠ f) (er : Int) (her : ¬ er = 0) (hcf : Enters pf)
    (HP : Calls Tryz.prog pf #[c1, c2, c3] (w.setCell ⟨f, 0, none⟩ (.int .i32 1)) fun e w2 => e = .returned (.tuple #[.nilFunc, .int .i64 er]) ∧ ∃ q, w2 = (w.setCell ⟨f, 0, none⟩ (.int .i32 1)).drewN q) :
    Calls Tryz.prog 65 #[.pointer (some ⟨f, 0, none⟩), .func (.func pf) #[] #[c1, c2, c3], .slice (some ⟨gn, 0, none⟩) ss.length cap] w fun e w' => e = .returned (.int .i64 er) ∧ FsM w' f 0 S S.pend O K n l pv ps ∧ Below w.heap.size w w' := by
  obtain ⟨h0, _, _, _, _, _, _, _, _, hz⟩ := h.cells
  obtain ⟨w1, hw1⟩ : ∃ w1, w1 = w.setCell ⟨f, 0, none⟩ (.int .i32 1) := ⟨_, rfl⟩
  have hM1 : FsM w1 f 1 S S.pend O K n l pv ps := by rw [hw1]; exact h.lock 1
  have HD := hide (dead_not hM1 hf)
  have HL := hide (lock_free ⟨f, 0, none⟩ w h0 (hz 0))
  have HBK : Hid (∀ q, FsM ((w1.drewN q).setCell ⟨f, 0, none⟩ (.int .i32 0)) f 0 S S.pend O K n l pv ps ∧ Below w.heap.size w ((w1.drewN q).setCell ⟨f, 0, none⟩ (.int .i32 0)) ∧ (w1.drewN q).cell? ⟨f, 0, none⟩ = some (.int .i32 1) ∧ (w1.drewN q).frozen? ⟨f, 0, none⟩ = false) := fun q => by rw [hw1]; exact h.back ((Inv.refl _ _).drewN q)
  rw [← hw1] at HL HP
  have HP := hide HP
  have hnm1 : ∀ (k : Nat) (s : ByteArray), ss[k]? = some s → w1.cell? ⟨gn, k, none⟩ = some (.string s) := fun k s e => by rw [hw1, World.cell?_setCell_other _ ⟨f, 0, none⟩ ⟨gn, k, none⟩ _ (by simp [Ne.symm hgn])]; exact hnm k s e
  have HS := hide hss
  unfold Enters at hcf
  have HN := hide hnm1
  clear hnm hnm1 hss hM1 h hw1 hz h0
  have hlen2 : (ss.length : Int) ≤ 100 := by omega
  generalize hNN : ss.length = N at *
  have HNN := hide hNN
  clear hNN
  go_enter_defers Tryz.func65, Tryz.ntmps65
  go_wp2_with fail
  refine (unhide HL).mono ?_
  rintro e w' ⟨rfl, rfl⟩
  go_wp2_with fail
  refine (unhide HD).mono ?_
  rintro e w' ⟨rfl, rfl⟩
  go_wp2_with fail
  go_loop [24] (fun i => ∃ k : Nat, k ≤ N ∧ i = .int .i64 k) (fun i => N - (intOf i).toNat)
  case atStart => exact ⟨0, Nat.zero_le _, rfl⟩
  case round =>
    obtain ⟨j, hj, rfl⟩ := hrel
    by_cases hlt : j < N
    · obtain ⟨s, hs, h1, h2⟩ : ∃ s, w'.cell? ⟨gn, j, none⟩ = some (.string s) ∧ 1 ≤ s.size ∧ s.size ≤ 300 := by
        have hj2 : j < ss.length := by rw [unhide HNN]; exact hlt
        exact ⟨ss[j], unhide HN j ss[j] (List.getElem?_eq_getElem hj2), unhide HS _ (List.getElem_mem hj2)⟩
      go_wp2_with fail
      go_round
      case rel => exact ⟨j + 1, by omega, by go_num⟩
      case measure => simp [intOf]; omega
    · go_wp2_with fail
      refine (unhide HP).mono ?_
      rintro e w2 ⟨rfl, q, rfl⟩
      obtain ⟨g1, g2, g3, g4⟩ := unhide HBK q
      have HE := hide (And.intro g1 g2)
      clear g1 g2
      have her2 : (er == 0) = false := by simpa using her
      go_wp2_with fail
      refine leaves_cons (f := 55) (args := #[.pointer (some ⟨f, 0, none⟩)]) (by simp) (by simp [go_sem]) ?_
      refine (unlock_deferred ⟨f, 0, none⟩ .returning _ g3 g4).mono ?_
      rintro e u' w7 ⟨rfl, rfl, rfl⟩
      exact ⟨_, results_tmp rfl _ _ _, rfl, unhide HE⟩
set_option maxRecDepth 20000 in
set_option maxHeartbeats 2000000 in
theorem write_full (f : Nat) (S : Fs) (O : Nat → Prop) (k : Nat) (s : ByteArray) (a : Option Addr) (c : Nat) (d : List UInt8) (w : World) (h : FsIs w f 0 S O k) (hk : k ≤ 16000) (hf : S.fuse ≠ some 0) (hs : 1 ≤ s.size ∧ s.size ≤ 300) (hd : d.length ≤ 1048576) (hfit : (S.room : Int) < S.now.u - (S.now.alone s : Int) + (d.length : Int)) :
    Calls Tryz.prog 28 #[.pointer (some ⟨f, 0, none⟩), .string s, .slice a d.length c] w fun e w' => e = .returned (.int .i64 6) ∧ FsIs w' f 0 S O k ∧ Below w.heap.size w w' := by
  obtain ⟨K, n, l, pv, ps, hM, hnk, hex⟩ := h
  obtain ⟨w0, hw0⟩ : ∃ w0, w0 = (((w.alloc (.cells #[.pointer (some ⟨f, 0, none⟩)] 25)).alloc (.cells #[.string s] 9)).alloc (.cells #[.slice a d.length c] 39)).alloc (.cells #[.string s] 9) := ⟨_, rfl⟩
  have hI0 : Inv (fun _ => False) w w0 ((w.heap.size + 3, .cells #[.string s] 9 (0, 0)) :: (w.heap.size + 2, .cells #[.slice a d.length c] 39 (0, 0)) :: (w.heap.size + 1, .cells #[.string s] 9 (0, 0)) :: (w.heap.size, .cells #[.pointer (some ⟨f, 0, none⟩)] 25 (0, 0)) :: []) := by
    have h1 := (((((Inv.refl (fun _ => False) w).alloc (.cells #[.pointer (some ⟨f, 0, none⟩)] 25)).alloc (.cells #[.string s] 9)).alloc (.cells #[.slice a d.length c] 39)).alloc (.cells #[.string s] 9))
    simp only [World.size_alloc] at h1
    rw [hw0]
    exact h1
  have hM0 : FsM w0 f 0 S S.pend O K n l pv ps := hM.kept hI0.size (fun q o => hI0.blk q (hM.lt q o) id)
  have hfl : f < w.heap.size := hM.lt f hM.of
  obtain ⟨w1, hw1⟩ : ∃ w1, w1 = w0.setCell ⟨f, 0, none⟩ (.int .i32 1) := ⟨_, rfl⟩
  have hM1 : FsM w1 f 1 S S.pend O K n l pv ps := by rw [hw1]; exact hM0.lock 1
  obtain ⟨_, c2, c3, c4, _⟩ := hM1.cells
  have h00 := hM0.cells.1
  have hother : ∀ b v, b ≠ f → w0.cell? ⟨b, 0, none⟩ = some v → w1.cell? ⟨b, 0, none⟩ = some v := fun b v hb hc => by rw [hw1, World.cell?_setCell_other _ ⟨f, 0, none⟩ ⟨b, 0, none⟩ _ (by simp [Ne.symm hb])]; exact hc
  have hnn := hM.now.nk
  have hs1 : w1.heap.size = w0.heap.size := by rw [hw1, size_set]
  have hz0 := hI0.size
  have HP := plan_write_no f (w.heap.size + 2) w.heap.size (w.heap.size + 1) K n.m n.n n.k S.now n.F n.b n.h s a c d S.room w1 c2 c3 c4 hM1.now.tab hM1.now.ok (by omega) hs.2 (by omega) hfit hM.room hd
    (hother _ _ (by omega) (hI0.bx (List.mem_cons_of_mem _ (List.mem_cons_self ..))).1) (hother _ _ (by omega) (hI0.bx (List.mem_cons_of_mem _ (List.mem_cons_of_mem _ (List.mem_cons_of_mem _ (List.mem_cons_self ..))))).1) (hother _ _ (by omega) (hI0.bx (List.mem_cons_of_mem _ (List.mem_cons_of_mem _ (List.mem_cons_self ..)))).1)
  rw [hw1] at HP hM1
  have HC := change_err f S O K n l pv ps w0 hM0 hf 66 (.pointer (some ⟨w.heap.size + 2, 0, none⟩)) (.pointer (some ⟨w.heap.size, 0, none⟩)) (.pointer (some ⟨w.heap.size + 1, 0, none⟩)) (w.heap.size + 3) [s] 1 (fun x hx => by simp at hx; subst hx; exact hs) (by simp) (fun j x hj => by
      cases j with
      | zero => simp at hj; subst hj; exact (hI0.bx (List.mem_cons_self ..)).1
      | succ j => simp at hj) (by omega) 6 (by omega) enters28 HP
  have HC := hide (HC.mono fun e w' ⟨e1, h1, h2⟩ => (⟨e1, ⟨K, n, l, pv, ps, h1, hnk, hex⟩, (⟨hI0.os, hI0.tape, hI0.output, hI0.size, fun q hq => hI0.blk q hq id⟩ : Below w.heap.size w w0).trans (h2.mono hI0.size)⟩ : e = Ending.returned (.int .i64 6) ∧ FsIs w' f 0 S O k ∧ Below w.heap.size w w'))
  rw [hw0] at HC
  clear hI0 hM0 hM1 hM hother HP hw0 hw1 hz0 hs1 c2 c3 c4 h00 hnn
  simp only [List.length_singleton] at HC
  generalize d.length = N at *
  go_enter Tryz.func28, Tryz.ntmps28
  go_wp2_with fail
  refine (unhide HC).mono ?_
  rintro e w9 ⟨rfl, hE⟩
  have HE := hide hE
  clear hE
  go_wp2_with fail
  go_ret
  exact ⟨rfl, unhide HE⟩
end Go.Proofs.YtebcmicmklpflaaGreatDoor
/- Read of a name that is not there; a Write as mathematics. -/
namespace Go.Proofs.YtebcmicmklpflaaGreatDoor
open Go.RowKit Go.Maps
set_option linter.unusedSimpArgs false
set_option maxRecDepth 20000 in
set_option maxHeartbeats 1000000 in
theorem read_none (f : Nat) (S : Fs) (O : Nat → Prop) (k : Nat) (s : ByteArray) (w : World) (h : FsIs w f 0 S O k) (hs : s.size ≤ maxLen) (hN : S.now.N s = none) :
    Calls Tryz.prog 30 #[.pointer (some ⟨f, 0, none⟩), .string s] w fun e w' => e = .returned (.tuple #[.slice none 0 0, .int .i64 7]) ∧ FsIs w' f 0 S O k ∧ Below w.heap.size w w' := by
  obtain ⟨K, n, l, pv, ps, hM, hnk⟩ := h
  obtain ⟨h0, _, _, _, _, _, _, _, _, hz⟩ := hM.cells
  obtain ⟨W1, hW1⟩ : ∃ W1, W1 = w.setCell ⟨f, 0, none⟩ (.int .i32 1) := ⟨_, rfl⟩
  have hM1 : FsM W1 f 1 S S.pend O K n l pv ps := by rw [hW1]; exact hM.lock 1
  obtain ⟨_, _, t3, _⟩ := hM1.cells
  have HH := hide (has_tab f 3 K n.m n.n S.now n.F n.b n.h s W1 t3 hM1.now.tab hs)
  rw [hN] at HH
  have HL0 := hide (lock_free ⟨f, 0, none⟩ w h0 (hz 0))
  rw [← hW1] at HL0
  obtain ⟨b1, b2, c2, z2⟩ := hM.back (Inv.refl _ _)
  rw [← hW1] at b1 b2 c2 z2
  have HE : Hid (FsIs (W1.setCell ⟨f, 0, none⟩ (.int .i32 0)) f 0 S O k ∧ Below w.heap.size w (W1.setCell ⟨f, 0, none⟩ (.int .i32 0))) := ⟨⟨K, n, l, pv, ps, b1, hnk⟩, b2⟩
  clear hM hM1 hW1 hN hz b1 b2
  go_enter_defers Tryz.func30, Tryz.ntmps30
  go_wp2_with fail
  refine (unhide HL0).mono ?_
  rintro e w' ⟨rfl, rfl⟩
  go_wp2_with fail
  refine (unhide HH).mono ?_
  rintro e w'' ⟨rfl, rfl⟩
  go_wp2_with fail
  refine leaves_cons (f := 55) (args := #[.pointer (some ⟨f, 0, none⟩)]) (by simp) (by simp [go_sem]) ?_
  refine (unlock_deferred ⟨f, 0, none⟩ .returning _ c2 z2).mono ?_
  rintro e u' w3 ⟨rfl, rfl, rfl⟩
  exact ⟨_, results_tmp2 rfl _ _ _, rfl, (unhide HE).1, (unhide HE).2⟩
/-- A Write, where what the name named has no other name. -/
theorem write_is (T : Tb) (s : ByteArray) (d : List UInt8) (z : Nat) (h : ∀ i, T.N s = some i → i ≠ z ∧ T.c i = 1) :
    (T.write s d z).N = upd T.N s (some z) ∧ (T.write s d z).D = updN T.D z d ∧ (T.write s d z).u = T.u + (d.length : Int) - (T.alone s : Int) ∧ (T.write s d z).c z = 1 ∧ ∀ i, i ≠ z → T.N s ≠ some i → (T.write s d z).c i = T.c i := by
  cases hN : T.N s with
  | none =>
    have hN' : (T.add d z).N s = none := hN
    have ha : T.alone s = 0 := by unfold Tb.alone; rw [hN]
    have e : T.write s d z = (T.add d z).set s z := by unfold Tb.write Tb.lay Tb.drop; rw [hN']
    rw [e, ha]
    refine ⟨rfl, rfl, ?_, ?_, fun i hi _ => ?_⟩
    · show T.u + (d.length : Int) = _; simp
    · show updN (updN T.c z 0) z (updN T.c z 0 z + 1) z = 1
      rw [updN_same, updN_same]; rfl
    · show updN (updN T.c z 0) z (updN T.c z 0 z + 1) i = T.c i
      rw [updN_ne _ _ hi, updN_ne _ _ hi]
  | some j =>
    obtain ⟨hj, hc⟩ := h j hN
    have hN' : (T.add d z).N s = some j := hN
    have hc' : (T.add d z).c j = 1 := by show updN T.c z 0 j = 1; rw [updN_ne _ _ hj]; exact hc
    have hd' : (T.add d z).D j = T.D j := updN_ne _ _ hj
    have ha : T.alone s = (T.D j).length := by unfold Tb.alone; rw [hN]; simp [hc]
    have e : T.write s d z = Tb.set ⟨upd T.N s none, updN T.D z d, updN (updN T.c z 0) j 0, T.u + (d.length : Int) - ((T.D j).length : Int)⟩ s z := by
      unfold Tb.write Tb.lay Tb.drop
      rw [hN']
      simp only [hc', hd']
      rfl
    rw [e, ha]
    refine ⟨?_, rfl, rfl, ?_, fun i hi hne => ?_⟩
    · show upd (upd T.N s none) s (some z) = _
      funext t
      unfold upd
      split <;> rfl
    · show updN (updN (updN T.c z 0) j 0) z (updN (updN T.c z 0) j 0 z + 1) z = 1
      rw [updN_same, updN_ne _ _ (Ne.symm hj), updN_same]; rfl
    · show updN (updN (updN T.c z 0) j 0) z (updN (updN T.c z 0) j 0 z + 1) i = T.c i
      rw [updN_ne _ _ hi, updN_ne _ _ (fun e => hne (by rw [e])), updN_ne _ _ hi]
end Go.Proofs.YtebcmicmklpflaaGreatDoor
/- A journal's bytes are laid behind the others, and last. -/
namespace Go.Proofs.YtebcmicmklpflaaGreatDoor
open Go.RowKit Go.Maps
set_option linter.unusedSimpArgs false
/-- So many things may be done. -/
def Bears (a : Option Nat) (n : Nat) : Prop := ∀ m, a = some m → n ≤ m
/-- A fuse that has burnt on. -/
def Less (a b : Option Nat) : Prop := (a = none → b = none) ∧ ∀ n, a = some n → ∃ m, b = some m
theorem Bears.mono {a : Option Nat} {n m : Nat} (h : Bears a n) (hm : m ≤ n) : Bears a m := fun k e => Nat.le_trans hm (h k e)
theorem Bears.pred {a : Option Nat} {n : Nat} (h : Bears a (n + 1)) : Bears (a.map Nat.pred) n := fun k e => by
  cases a with
  | none => cases e
  | some m =>
    have h1 := h m rfl
    injection e with e
    rw [← e, Nat.pred_eq_sub_one]; omega
theorem Bears.ne {a : Option Nat} {n : Nat} (h : Bears a (n + 1)) : a ≠ some 0 := fun e => by have := h 0 e; omega
theorem Bears.none {a : Option Nat} {n : Nat} (h : a = .none) : Bears a n := fun k e => by rw [h] at e; cases e
theorem Less.refl (a : Option Nat) : Less a a := ⟨id, fun n e => ⟨n, e⟩⟩
theorem Less.pred {a b : Option Nat} (h : Less a b) : Less a (b.map Nat.pred) := ⟨fun e => by rw [h.1 e]; rfl, fun n e => by obtain ⟨m, em⟩ := h.2 n e; exact ⟨m.pred, by rw [em]; rfl⟩⟩
/-- A file with one name alone. -/
structure Alone (T : Tb) (nm : ByteArray) (i : Nat) (d : List UInt8) : Prop where
  N : T.N nm = some i
  D : T.D i = d
  c : T.c i = 1
  one : ∀ s, s ≠ nm → T.N s ≠ some i
/-- What other names name is as it was. -/
def Others (nm : ByteArray) (T T' : Tb) : Prop := ∀ s, s ≠ nm → T'.N s = T.N s ∧ ∀ i, T.N s = some i → T'.D i = T.D i
theorem Others.refl (nm : ByteArray) (T : Tb) : Others nm T T := fun _ _ => ⟨rfl, fun _ _ => rfl⟩
theorem Others.trans {nm : ByteArray} {T T' T'' : Tb} (h : Others nm T T') (k : Others nm T' T'') : Others nm T T'' := fun s hs =>
  ⟨((k s hs).1).trans (h s hs).1, fun i hi => ((k s hs).2 i (by rw [(h s hs).1]; exact hi)).trans ((h s hs).2 i hi)⟩
theorem Alone.new {T : Tb} {nm : ByteArray} {z : Nat} (hN : T.N nm = none) (hz : ∀ s i, T.N s = some i → i < z) (d : List UInt8) : Alone (T.write nm d z) nm z d ∧ Others nm T (T.write nm d z) ∧ (T.write nm d z).u = T.u + d.length := by
  obtain ⟨h1, h2, h3, h4, h5⟩ := write_is T nm d z (fun i hi => by rw [hN] at hi; cases hi)
  have ha : T.alone nm = 0 := by unfold Tb.alone; rw [hN]
  refine ⟨⟨by rw [h1]; simp [upd], by rw [h2, updN_same], h4, fun s hs => ?_⟩, fun s hs => ⟨by rw [h1]; simp [upd, hs], fun i hi => by rw [h2, updN_ne _ _ (by have := hz s i hi; omega)]⟩, by rw [h3, ha]; simp⟩
  rw [h1]
  simp only [upd, hs, if_false]
  intro e
  have := hz s z e
  omega
theorem Alone.anew {T : Tb} {nm : ByteArray} {z i : Nat} {d0 : List UInt8} (h : Alone T nm i d0) (hz : ∀ s i, T.N s = some i → i < z) (d : List UInt8) : Alone (T.write nm d z) nm z d ∧ Others nm T (T.write nm d z) ∧ (T.write nm d z).u = T.u + d.length - d0.length := by
  have hiz := hz nm i h.N
  obtain ⟨h1, h2, h3, h4, h5⟩ := write_is T nm d z (fun k hk => by rw [h.N] at hk; cases hk; exact ⟨by omega, h.c⟩)
  have ha : T.alone nm = d0.length := by unfold Tb.alone; rw [h.N]; simp [h.c, h.D]
  refine ⟨⟨by rw [h1]; simp [upd], by rw [h2, updN_same], h4, fun s hs => ?_⟩, fun s hs => ⟨by rw [h1]; simp [upd, hs], fun i hi => by rw [h2, updN_ne _ _ (by have := hz s i hi; omega)]⟩, by rw [h3, ha]⟩
  rw [h1]
  simp only [upd, hs, if_false]
  intro e
  have := hz s z e
  omega
theorem Alone.put {T : Tb} {nm : ByteArray} {i : Nat} {d : List UInt8} (h : Alone T nm i d) (e : List UInt8) : Alone (T.put i (T.D i ++ e)) nm i (d ++ e) ∧ Others nm T (T.put i (T.D i ++ e)) ∧ (T.put i (T.D i ++ e)).u = T.u + e.length := by
  refine ⟨⟨h.N, by show updN T.D i _ i = _; rw [updN_same, h.D], h.c, h.one⟩, fun s hs => ⟨rfl, fun k hk => ?_⟩, ?_⟩
  · show updN T.D i _ k = _
    exact updN_ne _ _ (fun e => h.one s hs (by rw [hk, e]))
  · show T.u + (((T.D i ++ e).length : Int) - ((T.D i).length : Int)) = _
    rw [List.length_append]; omega
theorem row_nil (hi : Nat) (w : World) : Row hi w (.slice none 0 0) [] := ⟨none, 0, rfl, Nat.le_refl _, fun h => absurd h (Nat.lt_irrefl _)⟩
theorem FFr.undrew {O O' : Nat → Prop} {w w' : World} (h : FFr O O' w.drew w') : FFr O O' w w' := ⟨h.os, h.tape, h.output, h.size, h.rest, h.new⟩
theorem FFr.cell? {O O' : Nat → Prop} {w w' : World} (h : FFr O O' w w') {j i : Nat} {v : Value} (hO : ¬ O j) (hc : w.cell? ⟨j, i, none⟩ = some v) : w'.cell? ⟨j, i, none⟩ = some v := by
  rw [World.cell?_of_block (w := w) (a := ⟨j, i, none⟩) (h.rest j (cellLt hc) hO)]; exact hc
theorem FsIs.drew {w : World} {f : Nat} {lk : Int} {S : Fs} {O : Nat → Prop} {k : Nat} (h : FsIs w f lk S O k) : FsIs w.drew f lk S O k := h.kept (Nat.le_refl _) (fun _ _ => rfl)
set_option maxRecDepth 20000 in
set_option maxHeartbeats 1000000 in
theorem add_more (j f : Nat) (nm : ByteArray) (S : Fs) (Of : Nat → Prop) (k i : Nat) (J : Jn) (gv lv : Value) (a : Option Addr) (c : Nat) (d : List UInt8) (hi : Nat) (w : World) (h : FsIs w f 0 S Of k) (hj : w.heap[j]? = some (jnBlk f nm J gv lv)) (hOj : ¬ Of j) (hp1 : J.parts = 1) (hk : k ≤ 16000) (hf : S.fuse ≠ some 0) (hp : S.pend.length < 16383) (hs : 1 ≤ nm.size ∧ nm.size ≤ 300) (hN : S.now.N nm = some i) (hd : (S.now.D i).length + d.length ≤ 1048576) (hfit : S.now.u + (d.length : Int) ≤ (S.room : Int)) (hrow : Row hi w (.slice a d.length c) d) :
    Calls Tryz.prog 105 #[.pointer (some ⟨j, 0, none⟩), .slice a d.length c] w fun e w' => e = .returned (.int .i64 0) ∧ ∃ O', FsIs w' f 0 (S.done (S.now.put i (S.now.D i ++ d)) (.fill nm (S.now.D i ++ d))) O' (k + 3) ∧ FFr Of O' w w' := by
  have hb := hj
  unfold jnBlk at hb
  rw [hp1] at hb
  have c0 : w.cell? ⟨j, 0, none⟩ = some (.pointer (some ⟨f, 0, none⟩)) := by simp [World.cell?, hb]
  have c1 : w.cell? ⟨j, 1, none⟩ = some (.string nm) := by simp [World.cell?, hb]
  have c2 : w.cell? ⟨j, 2, none⟩ = some (.int .i64 1) := by simp [World.cell?, hb]
  have HP := hide (part_zero j nm w.drew c1)
  have HA : Hid (Calls Tryz.prog 144 #[.pointer (some ⟨f, 0, none⟩), .string nm, .slice a d.length c] w.drew fun e w' => e = .returned (.int .i64 0) ∧ w'.cell? ⟨j, 0, none⟩ = some (.pointer (some ⟨f, 0, none⟩)) ∧ w'.cell? ⟨j, 2, none⟩ = some (.int .i64 1) ∧ ∃ O', FsIs w' f 0 (S.done (S.now.put i (S.now.D i ++ d)) (.fill nm (S.now.D i ++ d))) O' (k + 3) ∧ FFr Of O' w w') :=
    (append_ok f S Of k nm i a c d hi w.drew h.drew hk hf hp hs hN hd hfit hrow).mono fun e w' ⟨e1, O', h1, h2⟩ => ⟨e1, h2.undrew.cell? hOj c0, h2.undrew.cell? hOj c2, O', h1, h2.undrew⟩
  clear h hj hb hrow hs hN hd hfit hk hp
  generalize d.length = L at *
  go_enter Tryz.func105, Tryz.ntmps105
  go_wp2_with fail
  refine wp_region_noPanic ?_
  go_region_held3 (fun W' => W'.cell? ⟨j, 0, none⟩ = some (.pointer (some ⟨f, 0, none⟩)) ∧ W'.cell? ⟨j, 2, none⟩ = some (.int .i64 1)) (go_keep) (first | (go_at_call 97; refine Calls.mono (unhide HP) ?_; rintro e w2 ⟨rfl, rfl⟩) | (go_at_call 144; refine Calls.mono (unhide HA) ?_; rintro e w2 ⟨rfl, e0, e2, hE⟩))
  all_goals
    refine NoPanic.normal ?_
    have HE := hide hE
    clear hE e0 e2 HA HP
    go_wp2_with fail
    go_ret
    exact ⟨rfl, unhide HE⟩
theorem FFr.not {O O' : Nat → Prop} {w w' : World} (h : FFr O O' w w') {j : Nat} (hO : ¬ O j) (hj : j < w.heap.size) : ¬ O' j := fun e => (h.new j e).elim hO (fun h2 => by omega)
theorem jn_parts {w : World} {j f : Nat} {nm : ByteArray} {J : Jn} {gv lv : Value} (h : w.heap[j]? = some (jnBlk f nm J gv lv)) (n : Nat) : (w.setCell ⟨j, 2, none⟩ (.int .i64 (n : Int))).heap[j]? = some (jnBlk f nm { J with parts := n } gv lv) := by
  unfold jnBlk at *
  simp [World.setCell, Array.getElem?_modify, h]
theorem FFr.plus {O O' : Nat → Prop} {w w' : World} {j : Nat} (h : FFr O O' w w') : FFr (fun q => O q ∨ q = j) (fun q => O' q ∨ q = j) w w' :=
  ⟨h.os, h.tape, h.output, h.size, fun q h1 h2 => h.rest q h1 (fun e => h2 (.inl e)), fun q o => o.elim (fun o => (h.new q o).imp .inl id) (fun e => .inl (.inr e))⟩
theorem FFr.setAt {O : Nat → Prop} (w : World) (j i : Nat) (v : Value) : FFr (fun q => O q ∨ q = j) (fun q => O q ∨ q = j) w (w.setCell ⟨j, i, none⟩ v) :=
  ⟨rfl, rfl, rfl, by rw [size_set]; exact Nat.le_refl _, fun q _ h2 => set_other _ _ _ _ _ (fun e => h2 (.inr e)), fun _ o => .inl o⟩
set_option maxRecDepth 20000 in
set_option maxHeartbeats 1000000 in
theorem add_first (j f : Nat) (nm : ByteArray) (S : Fs) (Of : Nat → Prop) (k : Nat) (J : Jn) (gv lv : Value) (a : Option Addr) (c : Nat) (d : List UInt8) (w : World) (h : FsIs w f 0 S Of k) (hj : w.heap[j]? = some (jnBlk f nm J gv lv)) (hOj : ¬ Of j) (hp1 : J.parts = 0) (hk : k ≤ 15000) (hf : Bears S.fuse 2) (hp : S.pend.length < 16000) (hs : 1 ≤ nm.size ∧ nm.size ≤ 300) (hN : S.now.N nm = none) (hd : d.length ≤ 1048576) (hfit : S.now.u + (d.length : Int) ≤ (S.room : Int)) (hrow : Row w.heap.size w (.slice a d.length c) d) (hdis : 0 < d.length → ∀ x, a = some x → ¬ Of x.block) :
    Calls Tryz.prog 105 #[.pointer (some ⟨j, 0, none⟩), .slice a d.length c] w fun e w' => e = .returned (.int .i64 0) ∧ ∃ z O', (∀ s' i, S.now.N s' = some i → i < z) ∧ FsIs w' f 0 ((S.done (S.now.write nm [] z) (.write nm [] z)).done ((S.now.write nm [] z).put z ((S.now.write nm [] z).D z ++ d)) (.fill nm ((S.now.write nm [] z).D z ++ d))) O' (k + 6) ∧ w'.heap[j]? = some (jnBlk f nm { J with parts := 1 } gv lv) ∧ FFr (fun q => Of q ∨ q = j) (fun q => O' q ∨ q = j) w w' ∧ ¬ O' j := by
  have hb := hj
  unfold jnBlk at hb
  rw [hp1] at hb
  have c0 : w.cell? ⟨j, 0, none⟩ = some (.pointer (some ⟨f, 0, none⟩)) := by simp [World.cell?, hb]
  have c1 : w.cell? ⟨j, 1, none⟩ = some (.string nm) := by simp [World.cell?, hb]
  have c2 : w.cell? ⟨j, 2, none⟩ = some (.int .i64 0) := by simp [World.cell?, hb]
  have hjl : j < w.heap.size := (Array.getElem?_eq_some_iff.1 hj).1
  have ha : S.now.alone nm = 0 := by unfold Tb.alone; rw [hN]
  have HP := hide (fun W (e : W.cell? ⟨j, 1, none⟩ = some (.string nm)) => part_zero j nm W e)
  have HWr : Hid (∀ W, FFr Of Of w W → FsIs W f 0 S Of k → Calls Tryz.prog 28 #[.pointer (some ⟨f, 0, none⟩), .string nm, .slice none 0 0] W fun e w' => e = .returned (.int .i64 0) ∧ ∃ z O', (∀ s' i, S.now.N s' = some i → i < z) ∧ FsIs w' f 0 (S.done (S.now.write nm [] z) (.write nm [] z)) O' (k + 3) ∧ FFr Of O' w w') := fun W hF hW =>
    (write_ok f S Of k nm none 0 [] 0 W hW (by omega) hf.ne (by omega) hs (by simp) (by rw [ha]; simp; omega) (row_nil _ _) (Nat.zero_le _)).mono fun e w' ⟨e1, z, O', h1, h2, h3⟩ => ⟨e1, z, O', h1, h2, hF.trans h3⟩
  have HAp : Hid (∀ W z O', (∀ s' i, S.now.N s' = some i → i < z) → FsIs W f 0 (S.done (S.now.write nm [] z) (.write nm [] z)) O' (k + 3) → FFr Of O' w W → Calls Tryz.prog 144 #[.pointer (some ⟨f, 0, none⟩), .string nm, .slice a d.length c] W fun e w' => e = .returned (.int .i64 0) ∧ ∃ O'', FsIs w' f 0 ((S.done (S.now.write nm [] z) (.write nm [] z)).done ((S.now.write nm [] z).put z ((S.now.write nm [] z).D z ++ d)) (.fill nm ((S.now.write nm [] z).D z ++ d))) O'' (k + 3 + 3) ∧ FFr Of O'' w w') := fun W z O' hz hW hF => by
    obtain ⟨hA, _, hu⟩ := Alone.new hN hz []
    refine (append_ok f _ O' (k + 3) nm z a c d w.heap.size W hW (by omega) (show S.fuse.map Nat.pred ≠ _ from hf.pred.ne) (by show (S.pend ++ [_]).length < _; simp; omega) hs hA.N ?_ ?_ ?_).mono fun e w' ⟨e1, O'', h2, h3⟩ => ⟨e1, O'', h2, hF.trans h3⟩
    · show ((S.now.write nm [] z).D z).length + d.length ≤ _
      rw [hA.D]; simp; omega
    · show (S.now.write nm [] z).u + _ ≤ (S.room : Int)
      rw [hu]; simp; omega
    · obtain ⟨a', c', e', h1', h2'⟩ := hrow
      refine ⟨a', c', e', h1', fun h0 => ?_⟩
      obtain ⟨g, o, ea, hg, hc⟩ := h2' h0
      injection e' with e1 _ _
      refine ⟨g, o, ea, hg, fun i u hi => ?_⟩
      rw [World.cell?_of_block (w := w) (a := ⟨g, o + i, none⟩) (hF.rest g hg (hdis h0 ⟨g, o, none⟩ (by rw [e1, ea])))]
      exact hc i u hi
  have HJ := hide hj
  clear hb hrow hs hN hd hfit hk hp hdis ha hj
  have hd1 : FsIs w.drew f 0 S Of k := h.drew
  have HD1 := hide (And.intro h hd1)
  clear h hd1
  generalize d.length = L at *
  go_enter Tryz.func105, Tryz.ntmps105
  go_wp2_with fail
  refine (unhide HP w c1).mono ?_
  rintro e w' ⟨rfl, rfl⟩
  go_wp2_with fail
  refine (unhide HWr w' (FFr.refl _ _) (unhide HD1).1).mono ?_
  rintro e w1 ⟨rfl, z, O1, hz, hF1, hE1⟩
  have d0 := hE1.cell? hOj c0
  have d2 := hE1.cell? hOj c2
  have HE1 := hide (And.intro hz (And.intro hF1 hE1))
  clear hz hF1 hE1
  go_wp2_with fail
  refine (unhide HAp w1 z O1 (unhide HE1).1 (unhide HE1).2.1 (unhide HE1).2.2).mono ?_
  rintro e w2 ⟨rfl, O2, hF2, hE2⟩
  have e2 := hE2.cell? hOj c2
  have hj2 : w2.heap[j]? = some (jnBlk f nm J gv lv) := (hE2.rest j hjl hOj).trans (unhide HJ)
  have hz2 : w2.frozen? ⟨j, 2, none⟩ = false := by unfold jnBlk at hj2; simp [World.frozen?, hj2]
  have hnO := hE2.not hOj hjl
  have HFin : Hid (∃ z O', (∀ s' i, S.now.N s' = some i → i < z) ∧ FsIs (w2.setCell ⟨j, 2, none⟩ (.int .i64 1)) f 0 ((S.done (S.now.write nm [] z) (.write nm [] z)).done ((S.now.write nm [] z).put z ((S.now.write nm [] z).D z ++ d)) (.fill nm ((S.now.write nm [] z).D z ++ d))) O' (k + 6) ∧ (w2.setCell ⟨j, 2, none⟩ (.int .i64 1)).heap[j]? = some (jnBlk f nm { J with parts := 1 } gv lv) ∧ FFr (fun q => Of q ∨ q = j) (fun q => O' q ∨ q = j) w' (w2.setCell ⟨j, 2, none⟩ (.int .i64 1)) ∧ ¬ O' j) :=
    ⟨z, O2, (unhide HE1).1, hF2.kept (by rw [size_set]; exact Nat.le_refl _) (fun q o => set_other _ _ _ _ _ (fun e => hnO (e ▸ o))), jn_parts hj2 1, hE2.plus.trans (FFr.setAt _ _ _ _), hnO⟩
  clear hF2 hE2 hj2 HE1 HAp HWr
  go_wp2_with fail
  go_ret
  exact ⟨rfl, unhide HFin⟩
end Go.Proofs.YtebcmicmklpflaaGreatDoor
/- lay: bytes behind the others, and they last. -/
namespace Go.Proofs.YtebcmicmklpflaaGreatDoor
open Go.RowKit Go.Maps
set_option linter.unusedSimpArgs false
/-- The journal's file: none yet, or one with these bytes. -/
def HasF (T : Tb) (nm : ByteArray) (p : Nat) (d : List UInt8) : Prop := (p = 0 ∧ T.N nm = none ∧ d = []) ∨ (p = 1 ∧ ∃ i, Alone T nm i d)
/-- A FS in which the file has these bytes now, and all lasts. -/
structure Was (S S' : Fs) (nm : ByteArray) (d : List UInt8) (n : Int) : Prop where
  room : S'.room = S.room
  fuse : Less S.fuse S'.fuse
  pend : S'.pend = []
  las : S'.las = S'.now
  al : ∃ i, Alone S'.now nm i d
  oth : Others nm S.now S'.now
  us : S'.now.u = S.now.u + n
theorem add_ok (j f : Nat) (nm : ByteArray) (S : Fs) (Of : Nat → Prop) (k : Nat) (J : Jn) (gv lv : Value) (a : Option Addr) (c : Nat) (d d0 : List UInt8) (w : World) (h : FsIs w f 0 S Of k) (hj : w.heap[j]? = some (jnBlk f nm J gv lv)) (hOj : ¬ Of j) (hk : k ≤ 15000) (hf : Bears S.fuse (3 - J.parts)) (hp : S.pend.length < 16000) (hs : 1 ≤ nm.size ∧ nm.size ≤ 300) (hH : HasF S.now nm J.parts d0) (hd : d0.length + d.length ≤ 1048576) (hfit : S.now.u + (d.length : Int) ≤ (S.room : Int)) (hrow : Row w.heap.size w (.slice a d.length c) d) (hdis : 0 < d.length → ∀ x, a = some x → ¬ Of x.block) :
    Calls Tryz.prog 105 #[.pointer (some ⟨j, 0, none⟩), .slice a d.length c] w fun e w' => e = .returned (.int .i64 0) ∧ ∃ S' O', FsIs w' f 0 S' O' (k + 6) ∧ (S'.room = S.room ∧ (Bears S'.fuse 1 ∧ Less S.fuse S'.fuse) ∧ S'.pend.length ≤ S.pend.length + 2 ∧ (∃ i, Alone S'.now nm i (d0 ++ d)) ∧ Others nm S.now S'.now ∧ S'.now.u = S.now.u + (d.length : Int)) ∧ w'.heap[j]? = some (jnBlk f nm { J with parts := 1 } gv lv) ∧ FFr (fun q => Of q ∨ q = j) (fun q => O' q ∨ q = j) w w' ∧ ¬ O' j := by
  have hjl : j < w.heap.size := (Array.getElem?_eq_some_iff.1 hj).1
  rcases hH with ⟨hp0, hN, rfl⟩ | ⟨hp1, i, hA⟩
  · have hf3 : Bears S.fuse 3 := hf.mono (by omega)
    refine (add_first j f nm S Of k J gv lv a c d w h hj hOj hp0 hk (hf3.mono (by omega)) hp hs hN (by simp at hd; omega) hfit hrow hdis).mono fun e w' ⟨e1, z, O', hz, hF, hb, hE, hn⟩ => ⟨e1, _, O', hF, ⟨rfl, (show Bears ((S.fuse.map Nat.pred).map Nat.pred) 1 ∧ Less S.fuse ((S.fuse.map Nat.pred).map Nat.pred) from ⟨hf3.pred.pred, (Less.refl _).pred.pred⟩), by show ((S.pend ++ [_]) ++ [_]).length ≤ _; simp, ?_⟩, hb, hE, hn⟩
    obtain ⟨hA, hO, hu⟩ := Alone.new hN hz []
    obtain ⟨hA2, hO2, hu2⟩ := hA.put d
    refine ⟨⟨z, hA2⟩, hO.trans hO2, ?_⟩
    show ((S.now.write nm [] z).put z _).u = _
    rw [hu2, hu]; simp
  · have hf2 : Bears S.fuse 2 := hf.mono (by omega)
    refine (add_more j f nm S Of k i J gv lv a c d w.heap.size w h hj hOj hp1 (by omega) hf2.ne (by omega) hs hA.N (by rw [hA.D]; exact hd) hfit hrow).mono fun e w' ⟨e1, O', hF, hE⟩ => ?_
    obtain ⟨hA2, hO2, hu2⟩ := hA.put d
    obtain ⟨K, n, l, pv, ps, hM, hnk, hex⟩ := hF
    refine ⟨e1, _, O', ⟨K, n, l, pv, ps, hM, by omega, hex⟩, ⟨rfl, (show Bears (S.fuse.map Nat.pred) 1 ∧ Less S.fuse (S.fuse.map Nat.pred) from ⟨hf2.pred, (Less.refl _).pred⟩), by show (S.pend ++ [_]).length ≤ _; simp, ⟨i, hA2⟩, hO2, hu2⟩, ?_, hE.plus, hE.not hOj hjl⟩
    rw [hE.rest j hjl hOj, hj]
    show some (jnBlk f nm J gv lv) = some (jnBlk f nm ⟨J.G, J.D, 1, J.dead⟩ gv lv)
    unfold jnBlk
    rw [hp1]
set_option maxRecDepth 20000 in
set_option maxHeartbeats 1000000 in
theorem lay_ok (j f : Nat) (nm : ByteArray) (S : Fs) (Of : Nat → Prop) (k : Nat) (J : Jn) (gv lv : Value) (v : Value) (d d0 : List UInt8) (OB : Nat → Prop) (w : World) (h : FsIs w f 0 S Of k) (hj : w.heap[j]? = some (jnBlk f nm J gv lv)) (hOj : ¬ Of j) (hk : k ≤ 15000) (hf : Bears S.fuse (3 - J.parts)) (hp : S.pend.length < 16000) (hs : 1 ≤ nm.size ∧ nm.size ≤ 300) (hH : HasF S.now nm J.parts d0) (hd : d0.length + d.length ≤ 1048576) (hfit : S.now.u + (d.length : Int) ≤ (S.room : Int)) (hrec : Rec w OB v d) (hdis : ∀ q, OB q → ¬ Of q) :
    Calls Tryz.prog 60 #[.pointer (some ⟨j, 0, none⟩), v] w fun e w' => e = .returned (.int .i64 0) ∧ ∃ S' O', FsIs w' f 0 S' O' (k + 6) ∧ Was S S' nm (d0 ++ d) (d.length : Int) ∧ w'.heap[j]? = some (jnBlk f nm { J with parts := 1 } gv lv) ∧ FFr (fun q => Of q ∨ q = j) (fun q => O' q ∨ q = j) w w' ∧ ¬ O' j := by
  have hrow := hrec.row
  have hdis2 : ∀ a n c, v = .slice a n c → 0 < d.length → ∀ x, a = some x → ¬ Of x.block := fun a n c ev h0 x hx => by
    obtain ⟨a', c', e, _, _, h3⟩ := hrec
    obtain ⟨g, cur, ea, ho, _⟩ := h3 h0
    rw [ev] at e
    injection e with e1 _ _
    rw [← e1, hx] at ea
    injection ea with ea
    rw [ea]
    exact hdis g ho
  obtain ⟨a, c, rfl, _⟩ := hrec
  have hjl : j < w.heap.size := (Array.getElem?_eq_some_iff.1 hj).1
  have HA := hide (add_ok j f nm S Of k J gv lv a c d d0 w h hj hOj hk hf hp hs hH hd hfit hrow (hdis2 a _ c rfl))
  have hb := hj
  unfold jnBlk at hb
  have c3 : w.cell? ⟨j, 3, none⟩ = some (.slice none 0 0) := by simp [World.cell?, hb]
  have c4 : w.cell? ⟨j, 4, none⟩ = some (.bool false) := by simp [World.cell?, hb]
  have HM := hide (mend_none j w c3 c4 (by simp [World.frozen?, hb]))
  have HF := hide (And.intro hf (And.intro hp hk))
  clear h hj hb hrow hs hH hd hfit hdis hdis2 hf hp hk
  generalize hL : d.length = L at *
  clear hL
  go_enter Tryz.func60, Tryz.ntmps60
  go_wp2_with fail
  refine (unhide HM).mono ?_
  rintro e w0 ⟨rfl, rfl⟩
  go_wp2_with fail
  refine (unhide HA).mono ?_
  rintro e w1 ⟨rfl, S1, O1, hF1, hS1, hj1, hE1, hn1⟩
  have d0' : w1.cell? ⟨j, 0, none⟩ = some (.pointer (some ⟨f, 0, none⟩)) := by unfold jnBlk at hj1; simp [World.cell?, hj1]
  obtain ⟨r1, r2, r3, r4, r5, r6⟩ := hS1
  obtain ⟨hf, hp, hk⟩ := unhide HF
  have HS : Hid (Calls Tryz.prog 29 #[.pointer (some ⟨f, 0, none⟩)] w1 fun e w' => e = .returned (.int .i64 0) ∧ ∃ S' O', FsIs w' f 0 S' O' (k + 6) ∧ Was S S' nm (d0 ++ d) (L : Int) ∧ w'.heap[j]? = some (jnBlk f nm { J with parts := 1 } gv lv) ∧ FFr (fun q => Of q ∨ q = j) (fun q => O' q ∨ q = j) w0 w' ∧ ¬ O' j) :=
    (sync_ok f S1 O1 (k + 6) w1 hF1 (by omega) r2.1.ne).mono fun e w' ⟨e1, O', h1, h2⟩ => by
      have hl1 : j < w1.heap.size := Nat.lt_of_lt_of_le hjl hE1.size
      refine ⟨e1, _, O', h1, ⟨r1, ?_, rfl, rfl, r4, r5, r6⟩, (h2.rest j hl1 hn1).trans hj1, hE1.trans h2.plus, h2.not hn1 hl1⟩
      show Less S.fuse (S1.fuse.map Nat.pred)
      exact r2.2.pred
  clear hF1 hj1 hE1 r1 r2 r3 r4 r5 r6 hf hp hk HA HM HF
  go_wp2_with fail
  refine (unhide HS).mono ?_
  rintro e w2 ⟨rfl, hE⟩
  have HE := hide hE
  clear hE HS
  go_wp2_with fail
  go_ret
  exact ⟨rfl, unhide HE⟩
end Go.Proofs.YtebcmicmklpflaaGreatDoor
/- Rows that grow by one; take. -/
namespace Go.Proofs.YtebcmicmklpflaaGreatDoor
open Go.RowKit Go.Maps
set_option linter.unusedSimpArgs false
def appG (ty : TypeId) (args : Array Value) : Sem Value := Builtin.append_ #[97, 97] ty args
@[go_sem ↓] theorem append_appG (ty : TypeId) (args : Array Value) : Builtin.append_ #[97, 97] ty args = appG ty args := rfl
def appL (ty : TypeId) (args : Array Value) : Sem Value := Builtin.append_ #[34, 34] ty args
@[go_sem ↓] theorem append_appL (ty : TypeId) (args : Array Value) : Builtin.append_ #[34, 34] ty args = appL ty args := rfl
set_option maxRecDepth 20000 in
theorem info104 : ∃ i z, Tryz.prog.info? 104 = some i ∧ i.zero = some z ∧ i.size = 1 ∧ i.bytes = 8 ∧ z.cells.size = 1 := by
  have h : (Tryz.prog.info? 104).map (fun i => (i.zero.map (fun z => z.cells.size), i.size, i.bytes)) = some (some 1, 1, 8) := by kernel_rfl
  cases hq : Tryz.prog.info? 104 with
  | none => simp [hq] at h
  | some i =>
    simp [hq] at h
    obtain ⟨⟨z, hz, h1⟩, h2, h3⟩ := h
    exact ⟨i, z, rfl, hz, h2, h3, h1⟩
set_option maxRecDepth 20000 in
theorem info39 : ∃ i z, Tryz.prog.info? 39 = some i ∧ i.zero = some z ∧ i.size = 1 ∧ i.bytes = 24 ∧ z.cells.size = 1 := by
  have h : (Tryz.prog.info? 39).map (fun i => (i.zero.map (fun z => z.cells.size), i.size, i.bytes)) = some (some 1, 1, 24) := by kernel_rfl
  cases hq : Tryz.prog.info? 39 with
  | none => simp [hq] at h
  | some i =>
    simp [hq] at h
    obtain ⟨⟨z, hz, h1⟩, h2, h3⟩ := h
    exact ⟨i, z, rfl, hz, h2, h3, h1⟩
/-- What a row is that has grown by one. -/
structure Grew (w : World) (e : TypeId) (gv : Value) (n : Nat) (xs : List Value) (x : Value) (gv' : Value) (w3 : World) : Prop where
  row : w3.ownsRow 0 e 1 gv' (n + 1) (xs ++ [x])
  gr : w.grownBy w3 gv.ownBlock
  loc : gv'.ownBlock = gv.ownBlock ∨ ∃ q, gv'.ownBlock = some q ∧ w.heap.size ≤ q
  shp : ∃ a c, gv' = .slice a (n + 1) c
theorem Grew.of {w w3 : World} {e : TypeId} {gv gv' x : Value} {n : Nat} {xs : List Value} (h1 : w3.ownsRow 0 e 1 gv' (n + 1) (xs ++ [x])) (h2 : w.grownBy w3 gv.ownBlock) (h3 : gv'.ownBlock = gv.ownBlock ∨ gv'.ownBlock = some (w.heap.size + 1)) : Grew w e gv n xs x gv' w3 :=
  ⟨h1, h2, h3.imp id (fun e => ⟨_, e, by omega⟩), by
    rcases h1.2 with ⟨_, e0⟩ | ⟨g, cap, cur, e0, _⟩
    · omega
    · exact ⟨_, _, e0⟩⟩
theorem ptr_grow {w : World} {gv : Value} {n : Nat} {xs : List Value} (h : w.ownsRow 0 104 1 gv n xs) (hn : n ≤ 100000) (x : Value) (hx : x.oneCell' = true) :
    ∃ gv' w3, (∀ ty, (appG ty #[gv, .slice (some ⟨w.heap.size, 0, none⟩) 1 1]).run Tryz.prog (w.alloc (.cells #[x] 104)) = .ok gv' w3) ∧ Grew w 104 gv n xs x gv' w3 := by
  obtain ⟨i, z, hi, hz, hsz, hby, hzs⟩ := info104
  obtain ⟨gv', w3, hr, hown, hgr, hnil, hloc⟩ := run_append_own_at (P := Tryz.prog) (w.alloc (.cells #[x] 104)) 0 97 97 104 i z 1 8 Tryz.underlying97 hi hz hsz hby hzs (by omega) gv n xs (h.alloc _) ⟨w.heap.size, 0, none⟩ 1 1 [x] rfl (cell_one_new w x 104) (fun u hu => by simp at hu; subst hu; exact hx) (by simp only [maxLen]; omega) (by omega) (Nat.zero_le _)
  exact ⟨gv', w3, fun _ => hr, Grew.of hown ((World.grownBy_alloc w _ _).trans hgr) (by rwa [World.size_alloc] at hloc)⟩
theorem rec_grow {w : World} {gv : Value} {n : Nat} {xs : List Value} (h : w.ownsRow 0 39 1 gv n xs) (hn : n ≤ 100000) (x : Value) (hx : x.oneCell' = true) :
    ∃ gv' w3, (∀ ty, (appL ty #[gv, .slice (some ⟨w.heap.size, 0, none⟩) 1 1]).run Tryz.prog (w.alloc (.cells #[x] 39)) = .ok gv' w3) ∧ Grew w 39 gv n xs x gv' w3 := by
  obtain ⟨i, z, hi, hz, hsz, hby, hzs⟩ := info39
  obtain ⟨gv', w3, hr, hown, hgr, hnil, hloc⟩ := run_append_own_at (P := Tryz.prog) (w.alloc (.cells #[x] 39)) 0 34 34 39 i z 1 24 Tryz.underlying34 hi hz hsz hby hzs (by omega) gv n xs (h.alloc _) ⟨w.heap.size, 0, none⟩ 1 1 [x] rfl (cell_one_new w x 39) (fun u hu => by simp at hu; subst hu; exact hx) (by simp only [maxLen]; omega) (by omega) (Nat.zero_le _)
  exact ⟨gv', w3, fun _ => hr, Grew.of hown ((World.grownBy_alloc w _ _).trans hgr) (by rwa [World.size_alloc] at hloc)⟩
/-- What holds groups and records stands. -/
def Tg (O : Nat → Prop) (w w' : World) : Prop := ∀ q x t, O q → w.heap[q]? = some (.cells x t (0, 0)) → (t = 5 ∨ t = 39 ∨ t = 115) → w'.heap[q]? = w.heap[q]?
theorem Rec.keptT {w w' : World} {O O' : Nat → Prop} {v : Value} {d : List UInt8} (h : Rec w O v d) (hO : ∀ q, O q → O' q) (hw : Tg O w w') : Rec w' O' v d := by
  obtain ⟨a, c, e, h1, h2, h3⟩ := h
  refine ⟨a, c, e, h1, h2, fun h0 => ?_⟩
  obtain ⟨g, cur, ea, ho, hg, hp⟩ := h3 h0
  exact ⟨g, cur, ea, hO g ho, (hw g _ _ ho hg (.inl rfl)).trans hg, hp⟩
theorem Recs.keptT {w w' : World} {O O' : Nat → Prop} {v : Value} {ds : List (List UInt8)} (h : Recs w O v ds) (hO : ∀ q, O q → O' q) (hw : Tg O w w') : Recs w' O' v ds := by
  obtain ⟨vals, h1, h2, h3⟩ := h
  refine ⟨vals, ⟨h1.1, h1.2.imp id ?_⟩, fun q e => hO q (h2 q e), fun j x d e1 e2 => (h3 j x d e1 e2).keptT hO hw⟩
  rintro ⟨g, cap, cur, e, h4, h5, h6⟩
  exact ⟨g, cap, cur, e, h4, (hw g _ _ (h2 g (by rw [e]; rfl)) h5 (.inr (.inl rfl))).trans h5, h6⟩
theorem Grp.keptT {w w' : World} {O O' : Nat → Prop} {q : Nat} {ah : Option Nat} {ds : List (List UInt8)} {prev : List UInt8} (h : Grp w O q ah ds prev) (hO : ∀ q, O q → O' q) (hw : Tg O w w') : Grp w' O' q ah ds prev := by
  obtain ⟨h1, rv, h2, h3⟩ := h
  exact ⟨hO q h1, rv, (hw q _ _ h1 h2 (.inr (.inr rfl))).trans h2, h3.keptT hO hw⟩
theorem Chain.keptT {w w' : World} {O O' : Nat → Prop} (hO : ∀ q, O q → O' q) (hw : Tg O w w') : ∀ {qs : List Nat} {gs : List (List (List UInt8))} {ah : Option Nat} {prev : List UInt8}, Chain w O ah prev qs gs → Chain w' O' ah prev qs gs := by
  intro qs
  induction qs with
  | nil => intro gs ah prev h; cases gs with
    | nil => trivial
    | cons => exact h.elim
  | cons q qs ih => intro gs ah prev h; cases gs with
    | nil => exact h.elim
    | cons g gs => exact ⟨h.1.keptT hO hw, ih h.2⟩
/-- The groups of a journal in memory: its own block j, all else in blocks of O. -/
structure GM (w : World) (j f : Nat) (nm : ByteArray) (J : Jn) (O : Nat → Prop) (gv lv : Value) (qs : List Nat) : Prop where
  blk : w.heap[j]? = some (jnBlk f nm J gv lv)
  nj : ¬ O j
  row : w.ownsRow 0 104 1 gv J.G.length (qs.map ptrV)
  rown : ∀ q, gv.ownBlock = some q → O q
  ch : Chain w O none z32 qs J.G
  lt : ∀ q, O q → q < w.heap.size
/-- Its own block is another one; the groups stand. -/
theorem GM.re {w w' : World} {j f : Nat} {nm : ByteArray} {J J' : Jn} {O : Nat → Prop} {gv lv lv' : Value} {qs : List Nat} (h : GM w j f nm J O gv lv qs) (hs : w.heap.size ≤ w'.heap.size) (hj : w'.heap[j]? = some (jnBlk f nm J' gv lv')) (hG : J'.G = J.G) (hw : ∀ q, O q → w'.heap[q]? = w.heap[q]?) : GM w' j f nm J' O gv lv' qs :=
  ⟨hj, h.nj, by rw [hG]; exact ownsRow_kept h.row (fun q e => hw q (h.rown q e)), h.rown, by rw [hG]; exact h.ch.kept (fun _ o => o) hw, fun q o => Nat.lt_of_lt_of_le (h.lt q o) hs⟩
theorem GM.kept {w w' : World} {j f : Nat} {nm : ByteArray} {J : Jn} {O : Nat → Prop} {gv lv : Value} {qs : List Nat} (h : GM w j f nm J O gv lv qs) (hs : w.heap.size ≤ w'.heap.size) (hj : w'.heap[j]? = w.heap[j]?) (hw : ∀ q, O q → w'.heap[q]? = w.heap[q]?) : GM w' j f nm J O gv lv qs := h.re hs (hj.trans h.blk) rfl hw
theorem GM.jlt {w : World} {j f : Nat} {nm : ByteArray} {J : Jn} {O : Nat → Prop} {gv lv : Value} {qs : List Nat} (h : GM w j f nm J O gv lv qs) : j < w.heap.size := (Array.getElem?_eq_some_iff.1 h.blk).1
theorem GM.below {w w' : World} {j f : Nat} {nm : ByteArray} {J : Jn} {O : Nat → Prop} {gv lv : Value} {qs : List Nat} (h : GM w j f nm J O gv lv qs) (hb : Below w.heap.size w w') : GM w' j f nm J O gv lv qs :=
  h.kept hb.size (hb.block j h.jlt) (fun q o => hb.block q (h.lt q o))
theorem jn_cells {w : World} {j f : Nat} {nm : ByteArray} {J : Jn} {gv lv : Value} (h : w.heap[j]? = some (jnBlk f nm J gv lv)) :
    w.cell? ⟨j, 0, none⟩ = some (.pointer (some ⟨f, 0, none⟩)) ∧ w.cell? ⟨j, 1, none⟩ = some (.string nm) ∧ w.cell? ⟨j, 2, none⟩ = some (.int .i64 (J.parts : Int)) ∧ w.cell? ⟨j, 6, none⟩ = some gv ∧ w.cell? ⟨j, 7, none⟩ = some (.int .i64 (wts J.G : Int)) ∧ w.cell? ⟨j, 8, none⟩ = some lv ∧ w.cell? ⟨j, 9, none⟩ = some (.int .i64 (wt J.D : Int)) ∧ w.cell? ⟨j, 10, none⟩ = some (.int .u32 (if J.dead then 1 else 0)) ∧ ∀ i, w.frozen? ⟨j, i, none⟩ = false := by
  unfold jnBlk at h
  refine ⟨?_, ?_, ?_, ?_, ?_, ?_, ?_, ?_, fun i => ?_⟩
  all_goals first | (simp [World.cell?, h]; done) | (simp [World.frozen?, h]; done)
theorem GM.shapes {w : World} {j f : Nat} {nm : ByteArray} {J : Jn} {O : Nat → Prop} {gv lv : Value} {qs : List Nat} (h : GM w j f nm J O gv lv qs) : ∃ ga gc, gv = .slice ga J.G.length gc := by
  rcases h.row.2 with ⟨e, e2⟩ | ⟨g, cap, cur, e, _⟩
  · exact ⟨none, 0, by rw [e, e2]⟩
  · exact ⟨_, _, e⟩
/-- Blocks of O, and all new ones. -/
def more (O : Nat → Prop) (w w' : World) : Nat → Prop := fun q => O q ∨ (w.heap.size ≤ q ∧ q < w'.heap.size)
theorem row_tag {w : World} {e : TypeId} {v : Value} {n : Nat} {xs : List Value} (h : w.ownsRow 0 e 1 v n xs) : ∀ b, v.ownBlock = some b → ∃ cur, w.heap[b]? = some (.cells cur e (0, 0)) := fun b eb => by
  rcases h.2 with ⟨e2, _⟩ | ⟨g, cap, cur, e2, _, hg, _⟩
  · rw [e2] at eb; simp [Value.ownBlock] at eb
  · rw [e2] at eb; simp [Value.ownBlock] at eb; subst eb; exact ⟨cur, hg⟩
theorem row_shape {w : World} {e : TypeId} {v : Value} {n : Nat} {xs : List Value} (h : w.ownsRow 0 e 1 v n xs) : ∃ a c, v = .slice a n c := by
  rcases h.2 with ⟨e1, e2⟩ | ⟨g, cap, cur, e1, _⟩
  · exact ⟨none, 0, by rw [e1, e2]⟩
  · exact ⟨_, _, e1⟩
/-- A group joins: what is left of the world. -/
theorem GM.took {w w3 : World} {j f : Nat} {nm : ByteArray} {J : Jn} {O OX : Nat → Prop} {gv gv' lv : Value} {qs : List Nat} {q : Nat} {ds : List (List UInt8)} (h : GM w j f nm J O gv lv qs) (hG : Grp w OX q (lastq qs) ds (digs z32 J.G)) (hXj : ¬ OX j) (hXl : ∀ b, OX b → b < w.heap.size) (hgw : Grew w 104 gv J.G.length (qs.map ptrV) (ptrV q) gv' w3) :
    w3.heap[j]? = some (jnBlk f nm J gv lv) ∧ GM ((w3.setCell ⟨j, 6, none⟩ gv').setCell ⟨j, 7, none⟩ (.int .i64 ((wts J.G + wt ds : Nat) : Int))) j f nm { J with G := J.G ++ [ds] } (more (fun b => O b ∨ OX b) w w3) gv' lv (qs ++ [q]) ∧
      (w.heap.size ≤ w3.heap.size) ∧ (∀ b, b < w.heap.size → ¬ O b → b ≠ j → ((w3.setCell ⟨j, 6, none⟩ gv').setCell ⟨j, 7, none⟩ (.int .i64 ((wts J.G + wt ds : Nat) : Int))).heap[b]? = w.heap[b]?) := by
  have hjl := h.jlt
  have hrowj : ∀ b, gv.ownBlock = some b → b ≠ j := fun b e e2 => h.nj (e2 ▸ h.rown b e)
  have hblk : ∀ b, b < w.heap.size → gv.ownBlock ≠ some b → w3.heap[b]? = w.heap[b]? := fun b h1 h2 => hgw.gr.block b h1 (fun e => h2 e.symm)
  have hj3 : w3.heap[j]? = some (jnBlk f nm J gv lv) := by rw [hblk j hjl (fun e => hrowj j e rfl)]; exact h.blk
  have hset : ∀ b, b ≠ j → ((w3.setCell ⟨j, 6, none⟩ gv').setCell ⟨j, 7, none⟩ (.int .i64 ((wts J.G + wt ds : Nat) : Int))).heap[b]? = w3.heap[b]? := fun b hb => by rw [set_other _ _ _ _ _ hb, set_other _ _ _ _ _ hb]
  have htag := row_tag h.row
  have hold : ∀ b, b < w.heap.size → gv.ownBlock ≠ some b → b ≠ j → ((w3.setCell ⟨j, 6, none⟩ gv').setCell ⟨j, 7, none⟩ (.int .i64 ((wts J.G + wt ds : Nat) : Int))).heap[b]? = w.heap[b]? := fun b h1 h2 h3 => by rw [hset b h3, hblk b h1 h2]
  have hTg : ∀ P : Nat → Prop, (∀ b, P b → b < w.heap.size ∧ b ≠ j) → Tg P w ((w3.setCell ⟨j, 6, none⟩ gv').setCell ⟨j, 7, none⟩ (.int .i64 ((wts J.G + wt ds : Nat) : Int))) := fun P hP b x t hb hx ht => by
    refine hold b (hP b hb).1 (fun e => ?_) (hP b hb).2
    obtain ⟨cur, hc⟩ := htag b e
    rw [hx] at hc
    injection hc with hc
    injection hc with _ hc
    rcases ht with rfl | rfl | rfl <;> exact absurd hc (by decide)
  refine ⟨hj3, ⟨?_, ?_, ?_, ?_, ?_, ?_⟩, hgw.gr.size, fun b h1 h2 h3 => hold b h1 (fun e => h2 (h.rown b e)) h3⟩
  · unfold jnBlk at hj3 ⊢
    simp only [wts_append]
    simp [World.setCell, Array.getElem?_modify, hj3, wts]
  · rintro ((o | o) | o)
    · exact h.nj o
    · exact hXj o
    · omega
  · have e1 : (J.G ++ [ds]).length = J.G.length + 1 := by simp
    have e2 : (qs ++ [q]).map ptrV = qs.map ptrV ++ [ptrV q] := by simp
    show World.ownsRow _ 0 104 1 gv' (J.G ++ [ds]).length _
    rw [e1, e2]
    refine ownsRow_kept hgw.row (fun b e => hset b (fun e2 => ?_))
    rcases hgw.loc with e3 | ⟨b', e3, h3⟩
    · rw [e3] at e; exact hrowj b e e2
    · rw [e3] at e; injection e with e; omega
  · intro b e
    rcases hgw.loc with e3 | ⟨b', e3, h3⟩
    · rw [e3] at e; exact .inl (.inl (h.rown b e))
    · rw [e3] at e; injection e with e
      subst e
      obtain ⟨cur, hc⟩ := row_tag hgw.row b' e3
      exact .inr ⟨h3, (Array.getElem?_eq_some_iff.1 hc).1⟩
  · refine Chain.snoc (h.ch.keptT (fun _ o => .inl (.inl o)) (hTg O (fun b o => ⟨h.lt b o, fun e => h.nj (e ▸ o)⟩))) ?_
    have hGk := hG.keptT (O' := more (fun b => O b ∨ OX b) w w3) (fun _ o => .inl (.inr o)) (hTg OX (fun b o => ⟨hXl b o, fun e => hXj (e ▸ o)⟩))
    by_cases hq : qs = []
    · rw [if_pos hq]
      rw [hq] at hGk
      exact hGk
    · rw [if_neg hq]; exact hGk
  · rintro b ((o | o) | o)
    · have := h.lt b o; have := hgw.gr.size; rw [size_set, size_set]; omega
    · have := hXl b o; have := hgw.gr.size; rw [size_set, size_set]; omega
    · rw [size_set, size_set]; exact o.2
set_option maxRecDepth 20000 in
set_option maxHeartbeats 1000000 in
theorem take_ok (j f : Nat) (nm : ByteArray) (J : Jn) (O OX : Nat → Prop) (gv lv : Value) (qs : List Nat) (q : Nat) (ds : List (List UInt8)) (w : World) (h : GM w j f nm J O gv lv qs) (hG : Grp w OX q (lastq qs) ds (digs z32 J.G)) (hXj : ¬ OX j) (hXO : ∀ b, OX b → ¬ O b) (hXl : ∀ b, OX b → b < w.heap.size) (hn : J.G.length ≤ 10000) (hl : ds.length ≤ 100000) (hwt : wt ds ≤ 10000000) (hws : wts J.G ≤ 10000000) :
    Calls Tryz.prog 50 #[.pointer (some ⟨j, 0, none⟩), .pointer (some ⟨q, 0, none⟩)] w fun e w' => e = .returned (.tuple #[]) ∧ ∃ gv', GM w' j f nm { J with G := J.G ++ [ds] } (more (fun b => O b ∨ OX b) w w') gv' lv (qs ++ [q]) ∧ w.heap.size ≤ w'.heap.size ∧ (∀ b, b < w.heap.size → ¬ O b → b ≠ j → w'.heap[b]? = w.heap[b]?) ∧ w'.os = w.os ∧ w'.tape = w.tape ∧ w'.output = w.output := by
  obtain ⟨gv', w3, hr, hgw⟩ := ptr_grow h.row (by omega) (ptrV q) rfl
  obtain ⟨hj3, hM, hz, hold⟩ := h.took hG hXj hXl hgw
  obtain ⟨_, _, _, c6, c7, _, _, _, cz⟩ := jn_cells h.blk
  obtain ⟨_, _, _, d6, d7, _, _, _, dz⟩ := jn_cells hj3
  have z6 := dz 6
  have z7 := dz 7
  obtain ⟨ga, gc, eg⟩ := h.shapes
  obtain ⟨ga', gc', eg'⟩ := hgw.shp
  obtain ⟨hoq, rv, hqb, hRv⟩ := hG
  have hqj : q ≠ j := fun e => hXj (e ▸ hoq)
  have hql := hXl q hoq
  have hqr : gv.ownBlock ≠ some q := fun e => hXO q hoq (h.rown q e)
  have hb4 : ∀ b, b < w.heap.size → gv.ownBlock ≠ some b → b ≠ j → (w3.setCell ⟨j, 6, none⟩ gv').heap[b]? = w.heap[b]? := fun b h1 h2 h3 => by rw [set_other _ _ _ _ _ h3]; exact hgw.gr.block b h1 (fun e => h2 e.symm)
  have HWe : Hid (∀ p, Calls Tryz.prog 100 #[.pointer (some ⟨q, 0, none⟩)] ((w3.setCell ⟨j, 6, none⟩ gv').drewN p) fun e w' => e = .returned (.int .i64 (wt ds : Int)) ∧ w' = (w3.setCell ⟨j, 6, none⟩ gv').drewN p) := fun p => by
    have hq4 : (w3.setCell ⟨j, 6, none⟩ gv').heap[q]? = some (grpBlk (lastq qs) rv 1 0 (nats (dig (digs z32 J.G) ds))) := by rw [hb4 q hql hqr hqj]; exact hqb
    exact weight_ok q OX rv ds _ (grp_cells (w := (w3.setCell ⟨j, 6, none⟩ gv').drewN p) hq4).2.1 (hRv.kept (fun _ o => o) (fun b hb => hb4 b (hXl b hb) (fun e => hXO b hb (h.rown b e)) (fun e => hXj (e ▸ hb)))) hl (by omega)
  have HE : Hid (∀ p, ∃ gv'', GM (((w3.setCell ⟨j, 6, none⟩ gv').drewN p).setCell ⟨j, 7, none⟩ (.int .i64 ((wts J.G + wt ds : Nat) : Int))) j f nm { J with G := J.G ++ [ds] } (more (fun b => O b ∨ OX b) w (((w3.setCell ⟨j, 6, none⟩ gv').drewN p).setCell ⟨j, 7, none⟩ (.int .i64 ((wts J.G + wt ds : Nat) : Int)))) gv'' lv (qs ++ [q]) ∧ w.heap.size ≤ (((w3.setCell ⟨j, 6, none⟩ gv').drewN p).setCell ⟨j, 7, none⟩ (.int .i64 ((wts J.G + wt ds : Nat) : Int))).heap.size ∧ (∀ b, b < w.heap.size → ¬ O b → b ≠ j → (((w3.setCell ⟨j, 6, none⟩ gv').drewN p).setCell ⟨j, 7, none⟩ (.int .i64 ((wts J.G + wt ds : Nat) : Int))).heap[b]? = w.heap[b]?) ∧ (((w3.setCell ⟨j, 6, none⟩ gv').drewN p).setCell ⟨j, 7, none⟩ (.int .i64 ((wts J.G + wt ds : Nat) : Int))).os = w.os ∧ (((w3.setCell ⟨j, 6, none⟩ gv').drewN p).setCell ⟨j, 7, none⟩ (.int .i64 ((wts J.G + wt ds : Nat) : Int))).tape = w.tape ∧ (((w3.setCell ⟨j, 6, none⟩ gv').drewN p).setCell ⟨j, 7, none⟩ (.int .i64 ((wts J.G + wt ds : Nat) : Int))).output = w.output) := fun p => by
    refine ⟨gv', ?_, ?_, hold, hgw.gr.os, hgw.gr.tape, hgw.gr.output⟩
    · have hmo : more (fun b => O b ∨ OX b) w (((w3.setCell ⟨j, 6, none⟩ gv').drewN p).setCell ⟨j, 7, none⟩ (.int .i64 ((wts J.G + wt ds : Nat) : Int))) = more (fun b => O b ∨ OX b) w w3 := by
        unfold more
        rw [size_set]
        show (fun q => _ ∨ (_ ∧ q < (w3.setCell ⟨j, 6, none⟩ gv').heap.size)) = _
        rw [size_set]
      rw [hmo]
      exact hM.kept (by simp only [size_set]; show w3.heap.size ≤ (w3.setCell ⟨j, 6, none⟩ gv').heap.size; rw [size_set]; exact Nat.le_refl _) rfl (fun _ _ => rfl)
    · rw [size_set]
      show _ ≤ (w3.setCell ⟨j, 6, none⟩ gv').heap.size
      rw [size_set]; exact hz
  have hD : IntKind.i64.wrap ((wts J.G : Int) + (wt ds : Int)) = (wts J.G : Int) + (wt ds : Int) := IntWalk.i64_in _ (by omega)
  have hc7 : (w3.setCell ⟨j, 6, none⟩ gv').cell? ⟨j, 7, none⟩ = some (.int .i64 (wts J.G : Int)) := by rw [World.cell?_setCell_other _ ⟨j, 6, none⟩ ⟨j, 7, none⟩ _ (by simp)]; exact d7
  have HP : Hid (((wts J.G + wt ds : Nat) : Int) = (wts J.G : Int) + (wt ds : Int)) := Int.natCast_add _ _
  subst eg eg'
  unfold ptrV at hr
  clear h hM hgw hqb hRv hold hb4 hj3 dz cz hws hwt hl hn hqr hXO hXl hXj hoq
  generalize hA : wts J.G = A at *
  generalize hB : wt ds = B at *
  generalize hNG : J.G.length = NG at *
  clear hA hB
  have hz7 : (w3.setCell ⟨j, 6, none⟩ (.slice ga' (NG + 1) gc')).frozen? ⟨j, 7, none⟩ = false := by rw [World.frozen?_setCell]; exact z7
  obtain ⟨W4, hW4⟩ : ∃ W4, W4 = w3.setCell ⟨j, 6, none⟩ (.slice ga' (NG + 1) gc') := ⟨_, rfl⟩
  rw [← hW4] at HWe HE hc7 hz7
  have hc7d : W4.drew.cell? ⟨j, 7, none⟩ = some (.int .i64 (A : Int)) := hc7
  have hz7d : W4.drew.frozen? ⟨j, 7, none⟩ = false := hz7
  have HW4 := hide hW4
  clear hW4
  go_enter Tryz.func50, Tryz.ntmps50
  go_wp2_with fail
  rw [← unhide HW4]
  refine wp_region_noPanic ?_
  go_region_with ((go_at_call 100; refine Calls.mono (unhide HWe 1) ?_; rintro e w5 ⟨rfl, rfl⟩))
  all_goals
    refine NoPanic.normal ?_
    go_wp2_with fail
    go_end0
    have := unhide HE 1
    rw [unhide HP] at this
    exact ⟨rfl, this⟩
end Go.Proofs.YtebcmicmklpflaaGreatDoor
/- Commit, where it is done. -/
namespace Go.Proofs.YtebcmicmklpflaaGreatDoor
open Go.RowKit Go.Maps
set_option linter.unusedSimpArgs false
/-- A journal in memory: groups in O, what is laid down in OL. -/
structure JnM (w : World) (j f : Nat) (nm : ByteArray) (J : Jn) (O OL : Nat → Prop) (gv lv : Value) (qs : List Nat) : Prop where
  gm : GM w j f nm J O gv lv qs
  laid : Recs w OL lv J.D
  dis : ∀ q, O q → ¬ OL q
  nl : ¬ OL j
  ltl : ∀ q, OL q → q < w.heap.size
/-- A FS and a journal on it. -/
def JS (w : World) (f j : Nat) (nm : ByteArray) (S : Fs) (J : Jn) (U : Nat → Prop) (k : Nat) : Prop :=
  ∃ Of O OL gv lv qs, FsIs w f 0 S Of k ∧ JnM w j f nm J O OL gv lv qs ∧ (∀ q, Of q → ¬ O q ∧ ¬ OL q ∧ q ≠ j) ∧ (∀ q, Of q → U q) ∧ (∀ q, O q → U q) ∧ (∀ q, OL q → U q) ∧ U j ∧ ∀ q, U q → q < w.heap.size
theorem FsIs.lt {w : World} {f : Nat} {lk : Int} {S : Fs} {O : Nat → Prop} {k : Nat} (h : FsIs w f lk S O k) : ∀ q, O q → q < w.heap.size := by
  obtain ⟨K, n, l, pv, ps, hM, _⟩ := h
  exact hM.lt
theorem chain_last {w : World} {O : Nat → Prop} {qs : List Nat} {gs : List (List (List UInt8))} (h : Chain w O none z32 qs gs) : AhIs w (lastq qs) (digs z32 gs) := by
  refine ⟨digs_len (by simp [z32]) gs, ?_⟩
  cases hq : lastq qs with
  | none =>
    have : qs = [] := List.getLast?_eq_none_iff.1 hq
    subst this
    cases gs with
    | nil => simp only [digs]
    | cons => exact h.elim
  | some q =>
    obtain ⟨rv, ah', h1, _⟩ := h.last q hq
    exact ⟨ah', rv, h1⟩
theorem chain_last_own {w : World} {O : Nat → Prop} {qs : List Nat} {gs : List (List (List UInt8))} (h : Chain w O none z32 qs gs) : ∀ q, lastq qs = some q → O q := fun q e => by
  obtain ⟨_, _, _, h1⟩ := h.last q e
  exact h1
set_option maxRecDepth 20000 in
theorem last_ok (gv : Value) (qs : List Nat) (w : World) (h : w.ownsRow 0 104 1 gv qs.length (qs.map ptrV)) (hn : qs.length ≤ 100000) : Calls Tryz.prog 59 #[gv] w fun e w' => e = .returned (.pointer ((lastq qs).map fun q => ⟨q, 0, none⟩)) ∧ w' = w := by
  by_cases hq : qs = []
  · subst hq
    obtain ⟨a, c, rfl⟩ := row_shape h
    exact last_nil a c w
  · have hne : 0 < qs.length := List.length_pos_iff.2 hq
    rcases h.2 with ⟨_, e⟩ | ⟨g, cap, cur, e, _, hg, hl, hm, hs, ht⟩
    · omega
    · rw [e]
      obtain ⟨n, hnn⟩ : ∃ n, qs.length = n + 1 := ⟨qs.length - 1, by omega⟩
      have hlast : lastq qs = some (qs[n]) := by
        unfold lastq
        rw [List.getLast?_eq_getElem?, show qs.length - 1 = n by omega, List.getElem?_eq_getElem (by omega)]
      rw [hnn, hlast]
      refine last_some g n cap _ w (by omega) ?_
      have hc : cur.toList[n]? = some (ptrV qs[n]) := by
        have : (cur.toList.take (qs.length * 1))[n]? = some (ptrV qs[n]) := by
          rw [ht, List.getElem?_map, List.getElem?_eq_getElem (by omega)]; rfl
        rwa [List.getElem?_take_of_lt (by omega)] at this
      simp only [World.cell?, hg]
      rw [← Array.getElem?_toList]
      exact hc
/-- What a Commit wants of the file system and the journal. -/
structure CanCommit (S : Fs) (nm : ByteArray) (J : Jn) (k : Nat) : Prop where
  hk : k ≤ 15000
  fuse : Bears S.fuse (3 - J.parts)
  pend : S.pend.length < 16000
  hnm : 1 ≤ nm.size ∧ nm.size ≤ 300
  has : HasF S.now nm J.parts (encs z32 J.G)
  len : (encs z32 J.G).length + (enc (digs z32 J.G) J.D).length ≤ 1048576
  fit : S.now.u + ((enc (digs z32 J.G) J.D).length : Int) ≤ (S.room : Int)
  g : J.G.length ≤ 10000
  d : J.D.length ≤ 100000
  wd : wt J.D ≤ 10000000
  wg : wts J.G < 524288
  alive : J.dead = false
  ne : J.D ≠ []
def Jn.commit (J : Jn) : Jn := ⟨J.G ++ [J.D], [], 1, J.dead⟩
/-- What stands behind lay: the group is told, its bytes last. -/
def ComP (w W : World) (f j : Nat) (nm : ByteArray) (S : Fs) (J : Jn) (O OL Of : Nat → Prop) (gv lv : Value) (qs : List Nat) (k : Nat) : Prop :=
  ∃ S' O', FsIs W f 0 S' O' (k + 6) ∧ Was S S' nm (encs z32 (J.G ++ [J.D])) ((enc (digs z32 J.G) J.D).length : Int) ∧ GM W j f nm { J with parts := 1 } O gv lv qs ∧ Grp W (fun b => b = w.heap.size ∨ OL b) w.heap.size (lastq qs) J.D (digs z32 J.G) ∧ (∀ q, O' q → Of q ∨ w.heap.size < q) ∧ ¬ O' j ∧ w.heap.size < W.heap.size ∧ (∀ b, b < w.heap.size → ¬ Of b → b ≠ j → W.heap[b]? = w.heap[b]?) ∧ (W.os = w.os ∧ W.tape = w.tape ∧ W.output = w.output) ∧ ∀ q, O' q → q < W.heap.size
theorem jn_drop {w : World} {j f : Nat} {nm : ByteArray} {J : Jn} {gv lv : Value} (h : w.heap[j]? = some (jnBlk f nm J gv lv)) : ((w.setCell ⟨j, 8, none⟩ (.slice none 0 0)).setCell ⟨j, 9, none⟩ (.int .i64 0)).heap[j]? = some (jnBlk f nm { J with D := [] } gv (.slice none 0 0)) := by
  unfold jnBlk at *
  simp [World.setCell, Array.getElem?_modify, h, wt]
theorem com_fin {w : World} {f j : Nat} {nm : ByteArray} {S : Fs} {J : Jn} {O OL Of U : Nat → Prop} {gv lv : Value} {qs : List Nat} {k : Nat} (hJ : JnM w j f nm J O OL gv lv qs) (hdis : ∀ q, Of q → ¬ O q ∧ ¬ OL q ∧ q ≠ j) (u1 : ∀ q, Of q → U q) (u2 : ∀ q, O q → U q) (u3 : ∀ q, OL q → U q) (u4 : U j) (u5 : ∀ q, U q → q < w.heap.size) (hC : CanCommit S nm J k) :
    ∀ W3, ComP w W3 f j nm S J O OL Of gv lv qs k → Calls Tryz.prog 50 #[.pointer (some ⟨j, 0, none⟩), .pointer (some ⟨w.heap.size, 0, none⟩)] W3 fun e W4 => e = .returned (.tuple #[]) ∧ (∃ x, W4.cell? ⟨j, 8, none⟩ = some x) ∧ (∃ y, W4.cell? ⟨j, 9, none⟩ = some y) ∧ (∀ i, W4.frozen? ⟨j, i, none⟩ = false) ∧ ∃ S' U', JS ((W4.setCell ⟨j, 8, none⟩ (.slice none 0 0)).setCell ⟨j, 9, none⟩ (.int .i64 0)) f j nm S' J.commit U' (k + 6) ∧ Was S S' nm (encs z32 (J.G ++ [J.D])) ((enc (digs z32 J.G) J.D).length : Int) ∧ FFr U U' w ((W4.setCell ⟨j, 8, none⟩ (.slice none 0 0)).setCell ⟨j, 9, none⟩ (.int .i64 0)) := by
  rintro W3 ⟨S', O', h1, h2, h3, h4, h5, h6, h7, h8, ⟨h9, h10, h11⟩, h12⟩
  have hjl := hJ.gm.jlt
  refine (take_ok j f nm { J with parts := 1 } O (fun b => b = w.heap.size ∨ OL b) gv lv qs w.heap.size J.D W3 h3 h4 ?_ ?_ ?_ hC.g hC.d hC.wd (by have := hC.wg; show wts J.G ≤ _; omega)).mono ?_
  · rintro (e | o)
    · omega
    · exact hJ.nl o
  · rintro b (rfl | o) o2
    · have := hJ.gm.lt _ o2; omega
    · exact hJ.dis b o2 o
  · rintro b (rfl | o)
    · exact h7
    · have := hJ.ltl b o; omega
  rintro e W4 ⟨e1, gv', hG, hz, hold, t1, t2, t3⟩
  obtain ⟨_, _, _, _, _, d8, d9, _, dz⟩ := jn_cells hG.blk
  refine ⟨e1, ⟨_, d8⟩, ⟨_, d9⟩, dz, S', fun q => U q ∨ (w.heap.size ≤ q ∧ q < W4.heap.size), ?_, h2, ?_⟩
  · have hset : ∀ b, b ≠ j → ((W4.setCell ⟨j, 8, none⟩ (.slice none 0 0)).setCell ⟨j, 9, none⟩ (.int .i64 0)).heap[b]? = W4.heap[b]? := fun b hb => by rw [set_other _ _ _ _ _ hb, set_other _ _ _ _ _ hb]
    have hOO : ∀ q, O' q → ¬ O q ∧ ¬ (q = w.heap.size ∨ OL q) ∧ q ≠ j ∧ q < W3.heap.size := fun q o => by
      rcases h5 q o with o2 | o2
      · have hl := u5 q (u1 q o2)
        exact ⟨(hdis q o2).1, fun e => e.elim (fun e => by omega) (hdis q o2).2.1, (hdis q o2).2.2, h12 q o⟩
      · exact ⟨fun o3 => by have := hJ.gm.lt q o3; omega, fun e => e.elim (fun e => by omega) (fun o3 => by have := hJ.ltl q o3; omega), by omega, h12 q o⟩
    refine ⟨O', more (fun b => O b ∨ (b = w.heap.size ∨ OL b)) W3 W4, fun _ => False, gv', .slice none 0 0, qs ++ [w.heap.size], ?_, ⟨?_, Recs.nil _ _, fun _ _ h => h, fun h => h, fun _ h => h.elim⟩, ?_, ?_, ?_, fun _ h => h.elim, .inl u4, ?_⟩
    · exact h1.kept (by simp only [size_set]; exact hz) (fun q o => by
        obtain ⟨p1, p2, p3, p4⟩ := hOO q o
        rw [hset q p3, hold q p4 p1 p3])
    · refine (hG.re (J' := J.commit) (lv' := .slice none 0 0) (by simp only [size_set]; exact Nat.le_refl _) (jn_drop hG.blk) rfl (fun q o => hset q (fun e => hG.nj (e ▸ o))))
    · intro q o
      obtain ⟨p1, p2, p3, p4⟩ := hOO q o
      refine ⟨?_, id, p3⟩
      rintro ((o2 | o2) | o2)
      · exact p1 o2
      · exact p2 o2
      · omega
    · intro q o
      rcases h5 q o with o2 | o2
      · exact .inl (u1 q o2)
      · exact .inr ⟨by omega, by have := h12 q o; omega⟩
    · rintro q ((o | rfl | o) | o)
      · exact .inl (u2 q o)
      · exact .inr ⟨Nat.le_refl _, by omega⟩
      · exact .inl (u3 q o)
      · exact .inr ⟨by omega, o.2⟩
    · simp only [size_set]
      rintro q (o | o)
      · have := u5 q o; omega
      · exact o.2
  · refine ⟨t1.trans h9, t2.trans h10, t3.trans h11, by simp only [size_set]; omega, fun q p1 p2 => ?_, fun q o => o.imp id (fun o => o.1)⟩
    have hj : q ≠ j := fun e => p2 (e ▸ u4)
    rw [set_other _ _ _ _ _ hj, set_other _ _ _ _ _ hj, hold q (by omega) (fun o => p2 (u2 q o)) hj]
    exact h8 q p1 (fun o => p2 (u1 q o)) hj
set_option maxRecDepth 20000 in
set_option maxHeartbeats 2000000 in
theorem commit_ok (w : World) (f j : Nat) (nm : ByteArray) (S : Fs) (J : Jn) (U : Nat → Prop) (k : Nat) (h : JS w f j nm S J U k) (hC : CanCommit S nm J k) :
    Calls Tryz.prog 24 #[.pointer (some ⟨j, 0, none⟩)] w fun e w' => e = .returned (.int .i64 0) ∧ ∃ S' U', JS w' f j nm S' J.commit U' (k + 6) ∧ Was S S' nm (encs z32 (J.G ++ [J.D])) ((enc (digs z32 J.G) J.D).length : Int) ∧ FFr U U' w w' := by
  obtain ⟨Of, O, OL, gv, lv, qs, hF, hJ, hdis, u1, u2, u3, u4, u5⟩ := h
  obtain ⟨c0, c1, c2, c6, c7, c8, c9, c10, cz⟩ := jn_cells hJ.gm.blk
  rw [hC.alive] at c10
  have HR := hide (refusal_ok j w c10)
  have hql := hJ.gm.ch.len
  have HL := hide (last_ok gv qs w.drew (by rw [hql]; exact hJ.gm.row) (by rw [hql]; have := hC.g; omega))
  obtain ⟨la, lc, el⟩ := hJ.laid.shape
  obtain ⟨ga, gc, eg⟩ := hJ.gm.shapes
  have hD0 : ¬ ((J.D.length : Int) = 0) := by have := List.length_pos_iff.2 hC.ne; omega
  obtain ⟨WG, hWG⟩ : ∃ WG : Int, WG = (wts J.G : Int) := ⟨_, rfl⟩
  have hW : WG < 524288 := by have := hC.wg; omega
  rw [← hWG] at c7
  have HWG := hide hWG
  clear hWG
  go_enter Tryz.func24, Tryz.ntmps24
  go_wp2_with fail
  refine (unhide HR).mono ?_
  rintro e w' ⟨rfl, rfl⟩
  subst el eg
  obtain ⟨ND, hND⟩ : ∃ ND, ND = J.D.length := ⟨_, rfl⟩
  obtain ⟨NG, hNG⟩ : ∃ NG, NG = J.G.length := ⟨_, rfl⟩
  rw [← hND] at c8 hD0
  rw [← hNG] at c6 HL
  have HJ := hide (And.intro hJ (And.intro hF (And.intro hdis (And.intro hC (And.intro hND hNG)))))
  clear hJ hF hC hql hND hNG hdis c0 c1 c2 c9
  have e8 : w'.drew.cell? ⟨j, 8, none⟩ = some (.slice la ND lc) := c8
  have e6 : w'.drew.cell? ⟨j, 6, none⟩ = some (.slice ga NG gc) := c6
  go_wp2_with fail
  apply one_way
  case go =>
    intro key
    refine wp_region_noPanic ?_
    go_region_with ((go_at_call 59; refine Calls.mono (unhide HL) ?_; rintro e w5 ⟨rfl, rfl⟩))
    all_goals
      refine NoPanic.normal ?_
      exact unhide key
  case all =>
    change Exit.then _ _ _ _ (w'.alloc (grpBlk (lastq qs) (.slice la ND lc) 0 0 (Dg.zs 32))).drew
    obtain ⟨W1, hW1⟩ : ∃ W1, W1 = (w'.alloc (grpBlk (lastq qs) (.slice la ND lc) 0 0 (Dg.zs 32))).drew := ⟨_, rfl⟩
    rw [← hW1]
    have hb1 : Below w'.heap.size w' W1 := by rw [hW1]; exact ((Below.refl _ _).alloc (Nat.le_refl _) _).drew
    have hq1 : W1.heap[w'.heap.size]? = some (grpBlk (lastq qs) (.slice la ND lc) 0 0 (Dg.zs 32)) := by rw [hW1]; exact heap_alloc_new _ _
    have hz1 : W1.heap.size = w'.heap.size + 1 := by rw [hW1]; show (w'.alloc _).heap.size = _; simp
    obtain ⟨hJ, hF, hdis, hC, hND, hNG⟩ := unhide HJ
    rw [hND] at hq1
    have hjl := hJ.gm.jlt
    have hOl := hJ.gm.lt
    have hJ1 : GM W1 j f nm J O (.slice ga J.G.length gc) (.slice la J.D.length lc) qs := hJ.gm.below hb1
    have hL1 : Recs W1 OL (.slice la J.D.length lc) J.D := hJ.laid.kept (fun _ o => o) (fun q o => hb1.block q (hJ.ltl q o))
    have hA1 := chain_last hJ1.ch
    have HEn := hide (encoded_ok w'.heap.size (lastq qs) (.slice la J.D.length lc) (Dg.zs 32) OL J.D (digs z32 J.G) W1.drew hq1 (by simp) hL1 (fun b o => by have := hJ.ltl b o; show b < W1.heap.size; omega) (fun o => by have := hJ.ltl _ o; omega) hA1 (fun e => by have := hOl _ (chain_last_own hJ1.ch _ e); omega) hC.d hC.wd)
    have hF1 : FsIs W1 f 0 S Of k := hF.kept hb1.size (fun q o => hb1.block q (hF.lt q o))
    obtain ⟨Q0, hQ0⟩ : ∃ Q0, Q0 = w'.heap.size := ⟨_, rfl⟩
    have HLay : Hid (∀ v W2, Rec W2 (fun b => W1.drew.heap.size ≤ b) v (enc (digs z32 J.G) J.D) → W2.heap[w'.heap.size]? = some (grpBlk (lastq qs) (.slice la J.D.length lc) 1 0 (nats (dig (digs z32 J.G) J.D))) → Dg.Sole w'.heap.size W1.drew W2 → Calls Tryz.prog 60 #[.pointer (some ⟨j, 0, none⟩), v] W2 fun e W3 => e = .returned (.int .i64 0) ∧ ComP w' W3 f j nm S J O OL Of (.slice ga J.G.length gc) (.slice la J.D.length lc) qs k) := fun v W2 hv hq2 hs2 => by
      have hs2z : W1.heap.size ≤ W2.heap.size := hs2.size
      have hb2 : ∀ b, b < W1.heap.size → b ≠ w'.heap.size → W2.heap[b]? = W1.heap[b]? := fun b h1 h2 => hs2.block b h1 h2
      have hF2 : FsIs W2 f 0 S Of k := hF1.kept hs2z (fun q o => hb2 q (hF1.lt q o) (by have := hF.lt q o; omega))
      have hj2 : W2.heap[j]? = some (jnBlk f nm J (.slice ga J.G.length gc) (.slice la J.D.length lc)) := by rw [hb2 j (by omega) (by omega)]; exact hJ1.blk
      have hOfj : ¬ Of j := fun o => (hdis j o).2.2 rfl
      refine (lay_ok j f nm S Of k J _ _ v (enc (digs z32 J.G) J.D) (encs z32 J.G) _ W2 hF2 hj2 hOfj hC.hk hC.fuse hC.pend hC.hnm hC.has hC.len hC.fit hv (fun q o o2 => by have h1 : W1.heap.size ≤ q := o; have := hF.lt q o2; omega)).mono fun e W3 ⟨e1, S', O', h1, h2, h3, h4, h5⟩ => ⟨e1, ?_⟩
      have hold : ∀ b, b < W1.heap.size → ¬ Of b → b ≠ j → W3.heap[b]? = W2.heap[b]? := fun b hb h6 h7 => h4.rest b (by omega) (fun e => e.elim h6 h7)
      have hGk : ∀ P : Nat → Prop, (∀ b, P b → b < w'.heap.size ∧ ¬ Of b ∧ b ≠ j) → ∀ b, P b → W3.heap[b]? = W1.heap[b]? := fun P hP b hb => by
        obtain ⟨p1, p2, p3⟩ := hP b hb
        rw [hold b (by omega) p2 p3, hb2 b (by omega) (by omega)]
      have hq3 : W3.heap[w'.heap.size]? = some (grpBlk (lastq qs) (.slice la J.D.length lc) 1 0 (nats (dig (digs z32 J.G) J.D))) := by
        rw [hold _ (by omega) (fun o => by have := hF.lt _ o; omega) (by omega)]; exact hq2
      have hz3 := h4.size
      refine ⟨S', O', h1, ?_, ?_, ⟨.inl rfl, _, hq3, ?_⟩, ?_, ?_, ?_, ?_, ?_, ?_⟩
      · rw [encs_snoc]; exact h2
      · exact hJ1.re (by omega) h3 rfl (hGk O (fun b o => ⟨hOl b o, fun o2 => (hdis b o2).1 o, fun e => hJ.gm.nj (e ▸ o)⟩))
      · exact hL1.kept (fun _ o => .inr o) (hGk OL (fun b o => ⟨hJ.ltl b o, fun o2 => (hdis b o2).2.1 o, fun e => hJ.nl (e ▸ o)⟩))
      · intro q o
        rcases h4.new q (.inl o) with (h6 | h6) | h6
        · exact .inl h6
        · exact absurd (h6 ▸ o) h5
        · exact .inr (by omega)
      · exact h5
      · show w'.heap.size < W3.heap.size
        omega
      · intro b p1 p2 p3
        rw [hold b (by omega) p2 p3, hb2 b (by omega) (by omega), hb1.block b p1]
      · exact ⟨h4.os.trans (hs2.os.trans hb1.os), h4.tape.trans (hs2.tape.trans hb1.tape), h4.output.trans (hs2.output.trans hb1.output)⟩
      · exact h1.lt
    have HFin := hide (com_fin hJ hdis u1 u2 u3 u4 u5 hC)
    clear hJ hF hC hND hNG hJ1 hL1 hA1 hF1 hq1 hb1 hW1 hdis HL e6 e8 c6 c7 c8 c10 cz hQ0 hOl u1 u2 u3 u4 u5
    simp only [Act.put, List.getElem_toArray, List.getElem_cons_zero, List.getElem_cons_succ, List.setIfInBounds_toArray, List.set_cons_zero, List.set_cons_succ]
    go_wp2_with fail
    apply one_way
    case go =>
      intro key
      refine wp_region_noPanic ?_
      go_region_with (first | (go_at_call 61; refine Calls.mono (unhide HEn) ?_; rintro e W2 ⟨v, rfl, hv, hq2, hs2⟩) | (go_at_call 60; refine Calls.mono (unhide HLay v W2 hv hq2 hs2) ?_; rintro e W3 ⟨rfl, hP⟩))
      all_goals
        refine NoPanic.normal ?_
        revert W3
        revert W2 v
        exact unhide key
    case all =>
      intro W2 v _ _ _ W3 hP
      have HT := hide (unhide HFin W3 hP)
      clear hP HFin HLay HEn
      simp only [Act.put, List.getElem_toArray, List.getElem_cons_zero, List.getElem_cons_succ, List.setIfInBounds_toArray, List.set_cons_zero, List.set_cons_succ]
      go_wp2_with fail
      refine (unhide HT).mono ?_
      rintro e W4 ⟨rfl, ⟨x, d8⟩, ⟨y, d9⟩, dz, hE⟩
      have HDr := hide (drop_cell j x y W4 d8 d9 dz)
      have HE := hide hE
      clear hE HT
      go_wp2_with fail
      refine (unhide HDr).mono ?_
      rintro e W5 ⟨rfl, rfl⟩
      go_wp2_with fail
      go_ret
      exact ⟨rfl, unhide HE⟩
end Go.Proofs.YtebcmicmklpflaaGreatDoor
/- Numbers and records at the head of bytes. -/
namespace Go.Proofs.YtebcmicmklpflaaGreatDoor
open Go.RowKit Go.Maps
set_option linter.unusedSimpArgs false
set_option maxRecDepth 20000 in
theorem cut_short (a : Option Addr) (n c : Nat) (hn : n < 3) (w : World) : Calls Tryz.prog 178 #[.slice a n c] w fun e w' => e = .returned (.tuple #[.int .i64 0, .slice none 0 0, .bool false]) ∧ w' = w := by
  have h1 : (n : Int) < 3 := by omega
  go_enter Tryz.func178, Tryz.ntmps178
  go_wp2_with fail
  exact bodyPost_ret (by simp [results, Tryz.results178]) rfl ⟨rfl, rfl⟩
theorem or_up (A B : Nat) (hA : A < 65536) (hB : B < 256) : Value.int IntKind.i64 (bits BinOp.or IntKind.i64 (Go.RowKit.wrap64 ((A : Int) * 256)) (Go.RowKit.wrap64 (B : Int))) = Value.int IntKind.i64 ((A * 256 + B : Nat) : Int) := by
  have e1 : Go.RowKit.wrap64 ((A : Int) * 256) = ((A * 256 : Nat) : Int) := by unfold Go.RowKit.wrap64; omega
  have e2 : Go.RowKit.wrap64 (B : Int) = ((B : Nat) : Int) := by unfold Go.RowKit.wrap64; omega
  have h := (bits_nat .i64 62 (by decide) (fun n h0 h1 => by rw [IntKind.wrap_i64]; omega) (A * 256) B (by omega) (by omega)).2
  rw [e1, e2, h]
  have := Nat.shiftLeft_add_eq_or_of_lt (b := B) (i := 8) (by omega) A
  rw [Nat.shiftLeft_eq] at this
  rw [← this]
/-- The number that the first bytes are. -/
def V3 (n : Nat) : Nat → Nat
  | 0 => 0
  | 1 => n / 65536
  | 2 => n / 256
  | _ => n
set_option maxRecDepth 20000 in
set_option maxHeartbeats 1000000 in
theorem cut_number (g o m c : Nat) (n : Nat) (hm : 0 < m) (hc : 3 + m ≤ c) (hcm : c ≤ 9223372036854775807) (hn : n < 16777216) (w : World) (h0 : w.cell? ⟨g, o, none⟩ = some (.int .u8 ((n / 65536 : Nat) : Int))) (h1 : w.cell? ⟨g, o + 1, none⟩ = some (.int .u8 ((n / 256 % 256 : Nat) : Int))) (h2 : w.cell? ⟨g, o + 2, none⟩ = some (.int .u8 ((n % 256 : Nat) : Int))) :
    Calls Tryz.prog 178 #[.slice (some ⟨g, o, none⟩) (3 + m) c] w fun e w' => e = .returned (.tuple #[.int .i64 (n : Int), .slice (some ⟨g, o + 3, none⟩) m (c - 3), .bool true]) ∧ ∃ p, w' = w.drewN p := by
  have HV : Hid (∀ k, k < 3 → ∃ A B A' : Nat, A < 65536 ∧ B < 256 ∧ A' = A * 256 + B ∧ V3 n k = A ∧ V3 n (k + 1) = A' ∧ w.cell? ⟨g, o + k, none⟩ = some (.int .u8 (B : Int))) := fun k hk => by
    match k, hk with
    | 0, _ => exact ⟨_, _, _, by show 0 < _; omega, by omega, rfl, rfl, by show n / 65536 = _; simp [V3], h0⟩
    | 1, _ => exact ⟨_, _, _, by show n / 65536 < _; omega, Nat.mod_lt _ (by omega), rfl, rfl, by show n / 256 = _; simp only [V3]; omega, h1⟩
    | 2, _ => exact ⟨_, _, _, by show n / 256 < _; omega, Nat.mod_lt _ (by omega), rfl, rfl, by show n = _; simp only [V3]; omega, h2⟩
  obtain ⟨N, hN⟩ : ∃ N, N = 3 + m := ⟨_, rfl⟩
  have HN := hide hN
  have hN3 : ¬ ((N : Int) < 3) := by omega
  have hc3 : (3 : Int) ≤ (c : Int) := by omega
  have hNc : (N : Int) ≤ (c : Int) := by omega
  have hcc : (c : Int) ≤ 9223372036854775807 := by omega
  have hcne : ¬ (c = 3) := by omega
  rw [← hN]
  clear hN h0 h1 h2 hm hc
  go_enter Tryz.func178, Tryz.ntmps178
  go_wp2_with fail
  go_loop [13, 2] (fun i s => ∃ k : Nat, k ≤ 3 ∧ i = .int .i64 k ∧ s = .int .i64 ((V3 n k : Nat) : Int)) (fun i _ => 3 - (intOf i).toNat)
  case atStart => exact ⟨0, by omega, rfl, rfl⟩
  case round =>
    obtain ⟨k, hk, rfl, rfl⟩ := hrel
    by_cases hlt : k < 3
    · obtain ⟨A, B, A', hA, hB, hA', e1, e2, hcell⟩ := unhide HV k hlt
      rw [e1]
      obtain ⟨a, ha⟩ : ∃ a : Int, a = (A : Int) := ⟨_, rfl⟩
      obtain ⟨b, hb⟩ : ∃ b : Int, b = (B : Int) := ⟨_, rfl⟩
      rw [← hb] at hcell
      rw [← ha]
      have HAB := hide (And.intro hA (And.intro hB (And.intro hA' (And.intro e2 (And.intro ha hb)))))
      have hlt2 : (k : Int) < 3 := by omega
      clear HV hA hB hA' e1 e2 ha hb hcm hn hlt hk
      go_wp2_with fail
      obtain ⟨hA, hB, hA', e2, rfl, rfl⟩ := unhide HAB
      refine ⟨⟨k + 1, by omega, by go_num, ?_⟩, by simp [intOf]; omega⟩
      rw [e2, or_up A B hA hB, hA']
    · obtain rfl : k = 3 := by omega
      have hv : V3 n 3 = n := rfl
      rw [hv]
      have e3 : c - 3 = c - 3 := rfl
      have hN4 : N - 3 = m := by have := unhide HN; omega
      clear HV hcm hn hk hlt hv
      go_wp2_with fail
      refine wp_region_noPanic ?_
      go_region_with fail
      all_goals
        refine NoPanic.normal ?_
        go_wp2_with fail
        simp only [Act.put, List.getElem_toArray, List.getElem_cons_zero, List.getElem_cons_succ, List.setIfInBounds_toArray, List.set_cons_zero, List.set_cons_succ, hN4]
        exact bodyPost_ret (by simp [results, Tryz.results178]) rfl ⟨rfl, 1, rfl⟩
set_option maxRecDepth 20000 in
set_option maxHeartbeats 1000000 in
theorem cut_record (g o n m c : Nat) (hm : 0 < m) (hn : n < 16777216) (hc : 3 + (n + m) ≤ c) (hcm : c ≤ 9223372036854775807) (w : World) (h0 : w.cell? ⟨g, o, none⟩ = some (.int .u8 ((n / 65536 : Nat) : Int))) (h1 : w.cell? ⟨g, o + 1, none⟩ = some (.int .u8 ((n / 256 % 256 : Nat) : Int))) (h2 : w.cell? ⟨g, o + 2, none⟩ = some (.int .u8 ((n % 256 : Nat) : Int))) :
    Calls Tryz.prog 179 #[.slice (some ⟨g, o, none⟩) (3 + (n + m)) c] w fun e w' => e = .returned (.tuple #[.slice (some ⟨g, o + 3, none⟩) n (c - 3), .slice (some ⟨g, o + 3 + n, none⟩) m (c - 3 - n), .bool true]) ∧ ∃ p, w' = w.drewN p := by
  have HC := hide (cut_number g o (n + m) c n (by omega) hc hcm hn w h0 h1 h2)
  obtain ⟨C, hC⟩ : ∃ C, C = c - 3 := ⟨_, rfl⟩
  obtain ⟨M, hM⟩ : ∃ M, M = n + m := ⟨_, rfl⟩
  have hCM : (M : Int) ≤ (C : Int) := by omega
  have hnM : ¬ ((M : Int) < (n : Int)) := by omega
  have hnM2 : (n : Int) ≤ (M : Int) := by omega
  have hnC : (n : Int) ≤ (C : Int) := by omega
  have hCb : (C : Int) ≤ 9223372036854775807 := by omega
  have hCn : ¬ (C = n) := by omega
  have hMn : M - n = m := by omega
  rw [← hC] at HC ⊢
  rw [← hM] at HC ⊢
  clear hC hM h0 h1 h2 hm hc hcm hn
  go_enter Tryz.func179, Tryz.ntmps179
  go_wp2_with fail
  refine (unhide HC).mono ?_
  rintro e w' ⟨rfl, p, rfl⟩
  go_wp2_with fail
  refine wp_region_noPanic ?_
  go_region_with fail
  all_goals
    refine NoPanic.normal ?_
    go_wp2_with fail
    simp only [Act.put, List.getElem_toArray, List.getElem_cons_zero, List.getElem_cons_succ, List.setIfInBounds_toArray, List.set_cons_zero, List.set_cons_succ, hMn]
    exact bodyPost_ret (by simp [results, Tryz.results179]) rfl ⟨rfl, p + 1, rfl⟩
end Go.Proofs.YtebcmicmklpflaaGreatDoor
