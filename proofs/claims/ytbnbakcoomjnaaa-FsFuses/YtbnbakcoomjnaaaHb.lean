/- Append, where it is done. -/
import Derived.Test.YtbnbakcoomjnaaaHa
namespace Go.Proofs.Ytbnbakcoomjnaaa
open Go.RowKit Go.Maps
set_option linter.unusedSimpArgs false
theorem FFr.setRow {w : World} {O : Nat → Prop} {g : Nat} (hg : O g) (nc : Array Value) : FFr O O w (w.setRow g nc) :=
  ⟨rfl, rfl, rfl, by simp [World.setRow], fun q _ h2 => setRow_other w g q nc (fun e => h2 (by rw [e]; exact hg)), fun _ o => .inl o⟩
set_option maxHeartbeats 1000000 in
/-- What Append plans makes it ready. -/
theorem plan_append_ready {w1 : World} {f : Nat} {S : Fs} {O : Nat → Prop} {K : Nat → Option (List UInt8)} {n l : Lie} {pv : Value} {ps : List Value} {k : Nat} (h : FsM w1 f 1 S S.pend O K n l pv ps) (he : ∀ i, ¬ n.e i) (hk : n.k ≤ k) (hk2 : k ≤ 16000) (bf bn bb : Nat) (s : ByteArray) (i : Nat) (a : Option Addr) (c : Nat) (d : List UInt8) (hi : Nat)
    (hs : s.size ≤ 300) (hN : S.now.N s = some i) (hd : (S.now.D i).length + d.length ≤ 1048576) (hfit : S.now.u + (d.length : Int) ≤ (S.room : Int)) (hrow : Row hi w1 (.slice a d.length c) d)
    (h2 : w1.cell? ⟨bf, 0, none⟩ = some (.pointer (some ⟨f, 0, none⟩))) (h3 : w1.cell? ⟨bn, 0, none⟩ = some (.string s)) (h1 : w1.cell? ⟨bb, 0, none⟩ = some (.slice a d.length c)) (hb3 : w1.heap[bn]? = some (.cells #[.string s] 9 (0, 0))) (hb1 : w1.heap[bb]? = some (.cells #[.slice a d.length c] 22 (0, 0))) :
    Calls Try.prog 57 #[.pointer (some ⟨bf, 0, none⟩), .pointer (some ⟨bn, 0, none⟩), .pointer (some ⟨bb, 0, none⟩)] w1 fun e w2 => ∃ fn x y, e = .returned (.tuple #[.func (.func fn) #[] #[x, y], .int .i64 0]) ∧ Ready f S O (S.now.put i (S.now.D i ++ d)) (.fill s (S.now.D i ++ d)) k w1 w2 fn x y := by
  have hFi := h.now.tab.live s i hN
  have hdat := h.now.tab.data i hFi
  obtain ⟨a0, c0, hh⟩ := hdat.len
  obtain ⟨_, k2, k3, k4, _⟩ := h.cells
  have hdl : (S.now.D i ++ d).length = (S.now.D i).length + d.length := List.length_append ..
  have hcc : (S.now.D i).length ≤ c0 := by
    obtain ⟨a', c', e, hle, _⟩ := hdat
    rw [hh] at e
    injection e with _ _ e
    omega
  by_cases hd0 : d.length = 0
  · obtain rfl : d = [] := List.eq_nil_of_length_eq_zero hd0
    refine (plan_append_gen f bf bn bb K n.m n.n n.k S.now n.F n.b n.h s i a a0 c c0 0 (S.now.D i).length S.room w1 k2 k3 k4 h.now.tab h.now.ok (by omega) hs hN hh (by omega) (by omega) (by simpa using hfit) h.room h2 h3 h1 w1 (fun L v => L = [] ∧ v = .slice a0 (S.now.D i).length c0) (fun L v e => by rw [e.1]; intro z hz; cases hz) h1 h3 (fun W L hI => ⟨a0, c0, [], W, fun ty => run_append_none a0 a _ c0 c hcc ty W, ⟨rfl, rfl⟩, hI.an⟩)).mono ?_
    rintro e w2 ⟨pn, pd, a', c', L, e1, ⟨rfl, e2⟩, hI⟩
    refine ⟨58, _, _, e1, ready_fill hk hk2 (v := .slice a' ((S.now.D i).length + 0) c') (fun j _ => he j) hs (by rw [hdl]; exact hd) hN (FFr.refl _ _) hI ⟨K, h.grew hI.size (fun q hq => hI.blk q hq id), ?_, ?_, fun j hj hne => ?_⟩⟩
    · rw [List.append_nil, e2, ← hh]; exact hdat
    · rw [e2, ← hh]
      exact (h.rm i hFi (he i)).kept (fun g x hg => hI.blk g (h.lt g (h.oK g x hg)) id)
    · rw [e2, ← hh]
      exact ⟨h.ap i j hFi hj (he i) (he j) (Ne.symm hne), h.ap j i hj hFi (he j) (he i) hne⟩
  · by_cases hroom : (S.now.D i).length + d.length ≤ c0
    · have hg : ∃ g, a0 = some ⟨g, 0, none⟩ := by
        obtain ⟨a', c', e, _, _, h3⟩ := hdat
        rw [hh] at e
        injection e with e1 _ e3
        rcases h3 with ⟨_, e⟩ | ⟨g, _, e, _⟩
        · omega
        · exact ⟨g, e1.trans e⟩
      obtain ⟨g, rfl⟩ := hg
      obtain ⟨cur, hgc, hsz, _, hM, hD, hR, hA⟩ := h.inplace he hFi hh d (by omega) hroom
      have hgl : g < w1.heap.size := (Array.getElem?_eq_some_iff.1 hgc).1
      have hOg : O g := by
        obtain ⟨a', c', e, _, _, h3⟩ := hdat
        rw [hh] at e
        injection e with e1 _ e3
        rcases h3 with ⟨_, e⟩ | ⟨g', x, e, hk, _⟩
        · omega
        · rw [e] at e1
          injection e1 with e1
          injection e1 with e1
          subst e1
          exact h.oK _ _ hk
      refine (plan_append_gen f bf bn bb K n.m n.n n.k S.now n.F n.b n.h s i a (some ⟨g, 0, none⟩) c c0 d.length (S.now.D i).length S.room w1 k2 k3 k4 h.now.tab h.now.ok (by omega) hs hN hh (by omega) (by omega) hfit h.room h2 h3 h1 (w1.setRow g (cur.toList.take (S.now.D i).length ++ byteVals d ++ cur.toList.drop ((S.now.D i).length + d.length)).toArray) (fun L v => L = [] ∧ v = .slice (some ⟨g, 0, none⟩) ((S.now.D i).length + d.length) c0) (fun L v e => by rw [e.1]; intro z hz; cases hz)
        (by rw [cell_setRow_other _ _ _ _ (tag_ne hb1 hgc (by decide))]; exact h1) (by rw [cell_setRow_other _ _ _ _ (tag_ne hb3 hgc (by decide))]; exact h3)
        (fun W L hI => ⟨_, c0, [], _, fun ty => app_room hI hgc hsz hroom (by omega) hrow ty, ⟨rfl, rfl⟩, (hI.setRow hgl hgc).an⟩)).mono ?_
      rintro e w2 ⟨pn, pd, a', c', L, e1, ⟨rfl, e2⟩, hI⟩
      refine ⟨58, _, _, e1, ready_fill (n := { n with e := fun j => j = i }) hk hk2 (v := .slice a' ((S.now.D i).length + d.length) c') (fun j hj => hj) hs (by rw [hdl]; exact hd) hN (FFr.setRow hOg _) hI ⟨_, hM.grew hI.size (fun q hq => hI.blk q hq id), ?_, ?_, fun j hj hne => ?_⟩⟩
      · rw [e2]; exact hD
      · rw [e2]; exact hR.kept (fun g x hg => hI.blk g (hM.lt g (hM.oK g x hg)) id)
      · rw [e2]; exact hA j hj hne
    · refine (plan_append_gen f bf bn bb K n.m n.n n.k S.now n.F n.b n.h s i a a0 c c0 d.length (S.now.D i).length S.room w1 k2 k3 k4 h.now.tab h.now.ok (by omega) hs hN hh (by omega) (by omega) hfit h.room h2 h3 h1 w1 (fun L v => NewData w1.heap.size L v (S.now.D i ++ d)) (fun L v e => e.bytes) h1 h3 (fun W L hI => app_grow hI h.kok (hh ▸ hdat) rfl (by omega) (by omega) hd hrow)).mono ?_
      rintro e w2 ⟨pn, pd, a', c', L, e1, hND, hI⟩
      obtain ⟨K', hM, hD, hR, hA⟩ := h.ext hI hND (fun z hz => List.mem_cons_of_mem _ (List.mem_cons_of_mem _ hz))
      exact ⟨58, _, _, e1, ready_fill hk hk2 (fun j _ => he j) hs (by rw [hdl]; exact hd) hN (FFr.refl _ _) hI ⟨K', hM, hD, hR, fun j hj _ => hA j hj⟩⟩
set_option maxRecDepth 20000 in
set_option maxHeartbeats 2000000 in
theorem append_ok (f : Nat) (S : Fs) (O : Nat → Prop) (k : Nat) (s : ByteArray) (i : Nat) (a : Option Addr) (c : Nat) (d : List UInt8) (hi : Nat) (w : World) (h : FsIs w f 0 S O k) (hk : k ≤ 16000) (hf : S.fuse ≠ some 0) (hp : S.pend.length < 16383) (hs : 1 ≤ s.size ∧ s.size ≤ 300) (hN : S.now.N s = some i) (hd : (S.now.D i).length + d.length ≤ 1048576) (hfit : S.now.u + (d.length : Int) ≤ (S.room : Int)) (hrow : Row hi w (.slice a d.length c) d) :
    Calls Try.prog 20 #[.pointer (some ⟨f, 0, none⟩), .string s, .slice a d.length c] w fun e w' => e = .returned (.int .i64 0) ∧ ∃ O', FsIs w' f 0 (S.done (S.now.put i (S.now.D i ++ d)) (.fill s (S.now.D i ++ d))) O' (k + 3) ∧ FFr O O' w w' := by
  obtain ⟨K, n, l, pv, ps, hM, hnk, hex⟩ := h
  obtain ⟨w0, hw0⟩ : ∃ w0, w0 = (((w.alloc (.cells #[.pointer (some ⟨f, 0, none⟩)] 26)).alloc (.cells #[.string s] 9)).alloc (.cells #[.slice a d.length c] 22)).alloc (.cells #[.string s] 9) := ⟨_, rfl⟩
  have hI0 : Inv (fun _ => False) w w0 ((w.heap.size + 3, .cells #[.string s] 9 (0, 0)) :: (w.heap.size + 2, .cells #[.slice a d.length c] 22 (0, 0)) :: (w.heap.size + 1, .cells #[.string s] 9 (0, 0)) :: (w.heap.size, .cells #[.pointer (some ⟨f, 0, none⟩)] 26 (0, 0)) :: []) := by
    have h1 := (((((Inv.refl (fun _ => False) w).alloc (.cells #[.pointer (some ⟨f, 0, none⟩)] 26)).alloc (.cells #[.string s] 9)).alloc (.cells #[.slice a d.length c] 22)).alloc (.cells #[.string s] 9))
    simp only [World.size_alloc] at h1
    rw [hw0]
    exact h1
  have hM0 : FsM w0 f 0 S S.pend O K n l pv ps := hM.kept hI0.size (fun q o => hI0.blk q (hM.lt q o) id)
  have hfl : f < w.heap.size := hM.lt f hM.of
  obtain ⟨w1, hw1⟩ : ∃ w1, w1 = w0.setCell ⟨f, 0, none⟩ (.int .i32 1) := ⟨_, rfl⟩
  have hM1 : FsM w1 f 1 S S.pend O K n l pv ps := by rw [hw1]; exact hM0.lock 1
  have h00 := hM0.cells.1
  have hother : ∀ b v, b ≠ f → w0.cell? ⟨b, 0, none⟩ = some v → w1.cell? ⟨b, 0, none⟩ = some v := fun b v hb hc => by rw [hw1, World.cell?_setCell_other _ ⟨f, 0, none⟩ ⟨b, 0, none⟩ _ (by simp [Ne.symm hb])]; exact hc
  have hrow1 : Row hi w1 (.slice a d.length c) d := by rw [hw1]; exact Row.set (hrow.inv hI0 (fun _ _ => id)) h00 (fun z => by simp) _
  have q1 := hI0.held _ (List.mem_cons_of_mem _ (List.mem_cons_self ..))
  have q2 := hI0.held _ (List.mem_cons_of_mem _ (List.mem_cons_of_mem _ (List.mem_cons_self ..)))
  simp only at q1 q2
  have HP := plan_append_ready hM1 hex hnk hk w.heap.size (w.heap.size + 1) (w.heap.size + 2) s i a c d hi hs.2 hN hd hfit hrow1
    (hother _ _ (by omega) (hI0.bx (List.mem_cons_of_mem _ (List.mem_cons_of_mem _ (List.mem_cons_of_mem _ (List.mem_cons_self ..))))).1) (hother _ _ (by omega) (hI0.bx (List.mem_cons_of_mem _ (List.mem_cons_of_mem _ (List.mem_cons_self ..)))).1) (hother _ _ (by omega) (hI0.bx (List.mem_cons_of_mem _ (List.mem_cons_self ..))).1)
    (by rw [hw1, set_other _ _ _ _ _ (by omega)]; exact q2) (by rw [hw1, set_other _ _ _ _ _ (by omega)]; exact q1)
  rw [hw1] at HP
  have HC := change_ok f S O K n l pv ps w0 hM0 hf hp 57 (.pointer (some ⟨w.heap.size, 0, none⟩)) (.pointer (some ⟨w.heap.size + 1, 0, none⟩)) (.pointer (some ⟨w.heap.size + 2, 0, none⟩)) (w.heap.size + 3) [s] 1 (fun x hx => by simp at hx; subst hx; exact hs) (by simp) (fun j x hj => by
      cases j with
      | zero => simp at hj; subst hj; exact (hI0.bx (List.mem_cons_self ..)).1
      | succ j => simp at hj) (by omega) _ _ k enters57 HP
  have HC := hide (HC.mono fun e w' ⟨e1, O', h1, h2⟩ => (⟨e1, O', h1, (FFr.below ⟨hI0.os, hI0.tape, hI0.output, hI0.size, fun q hq => hI0.blk q hq id⟩).trans h2⟩ : e = Ending.returned (.int .i64 0) ∧ ∃ O', FsIs w' f 0 (S.done (S.now.put i (S.now.D i ++ d)) (.fill s (S.now.D i ++ d))) O' (k + 3) ∧ FFr O O' w w'))
  rw [hw0] at HC
  clear hI0 hM0 hM1 hM hrow hrow1 hother HP hw0 hw1 h00 q1 q2
  simp only [List.length_singleton] at HC
  generalize S.now.D i ++ d = dd at *
  generalize d.length = N at *
  go_enter Try.func20, Try.ntmps20
  go_wp2_with fail
  refine (unhide HC).mono ?_
  rintro e w9 ⟨rfl, hE⟩
  have HE := hide hE
  clear hE
  go_wp2_with fail
  go_ret
  exact ⟨rfl, unhide HE⟩
end Go.Proofs.Ytbnbakcoomjnaaa
