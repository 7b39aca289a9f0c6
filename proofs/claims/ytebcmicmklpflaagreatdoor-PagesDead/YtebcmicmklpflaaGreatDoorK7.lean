import Derived.Test.YtebcmicmklpflaaGreatDoorK6
import Derived.LoopN
import Derived.Test.YtebcmicmklpflaaGreatDoorK5
import Derived.Maps.RangeWalk
import Derived.Sort.KeysCollected
import Derived.LaidEqlPtr
import Derived.Deep.RegionHeld3
import Derived.Test.YtebcmicmklpflaaGreatDoorK3
/- settle: all that is pending lasts. -/
namespace Go.Proofs.YtebcmicmklpflaaGreatDoor
open Go.RowKit Go.Maps
set_option linter.unusedSimpArgs false
/-- Nothing is pending any more. -/
theorem FsM.cleared {w : World} {f : Nat} {lk : Int} {S : Fs} {O : Nat → Prop} {K : Nat → Option (List UInt8)} {n l : Lie} {pv : Value} {ps : List Value} (h : FsM w f lk S [] O K n l pv ps) : FsM (w.setCell ⟨f, 7, none⟩ (.slice none 0 0)) f lk { S with pend := [] } [] O K n l (.slice none 0 0) [] := by
  have keep : ∀ q, O q → q ≠ f → (w.setCell ⟨f, 7, none⟩ (.slice none 0 0)).heap[q]? = w.heap[q]? := fun q _ hne => set_other _ _ _ _ _ hne
  have hTL : ∀ {T : Tb} {a : Lie}, TabL w K O T a → TabL (w.setCell ⟨f, 7, none⟩ (.slice none 0 0)) K O T a := fun hT => ⟨hT.tab.kept (fun q e => keep q (hT.om q e) (h.mne hT q e)) (fun i hi => keep _ (hT.ob i hi) (h.bne hT i hi)), hT.ok, hT.nk, hT.om, hT.ob, hT.st⟩
  have hK : ∀ g x, K g = some x → (w.setCell ⟨f, 7, none⟩ (.slice none 0 0)).heap[g]? = w.heap[g]? := fun g x hg => by
    obtain ⟨cur, hc, _⟩ := h.kok g x hg
    exact keep g (h.oK g x hg) (tag_ne hc h.blk (by decide))
  refine ⟨?_, hTL h.now, hTL h.las, h.dis, h.mdis, fun g x hg => ?_, fun i hi hx => (h.rm i hi hx).kept hK, h.ap, World.ownsRow_nil _ _ _ _, fun j v t e1 e2 => (by simp at e1), h.run, h.kb, h.nb, Nat.zero_le _, h.room, h.fz, h.of, h.oK, fun q e => (by simp [Value.ownBlock] at e), fun q o => by rw [size_set]; exact h.lt q o⟩
  · have := h.blk
    simp [World.setCell, Array.getElem?_modify, this, fsBlk]
  · obtain ⟨cur, hc, hp⟩ := h.kok g x hg
    exact ⟨cur, by rw [hK g x hg]; exact hc, hp⟩
theorem add0 (g j : Nat) : (⟨g, 0, none⟩ : Addr).add j = ⟨g, j, none⟩ := by unfold Addr.add; split <;> simp_all
/-- What settle leaves where all lasts. -/
def Settled (f : Nat) (lk : Int) (S : Fs) (O : Nat → Prop) (K : Nat → Option (List UInt8)) (n : Lie) (w w' : World) : Prop := ∃ O' l', FsM w' f lk { S with las := S.now, pend := [] } [] O' K n l' (.slice none 0 0) [] ∧ FFr O O' w w'
/-- Between the rounds of settle. -/
def SetR (w : World) (f : Nat) (lk : Int) (S : Fs) (O : Nat → Prop) (K : Nat → Option (List UInt8)) (n : Lie) (pv : Value) (ps : List Value) (x : Value) (wr : World) : Prop :=
  ∃ j : Nat, j ≤ S.pend.length ∧ x = .int .i64 (j : Int) ∧ ∃ T' O' l', FsM wr f lk { S with las := T' } (S.pend.drop j) O' K n l' pv ps ∧ FFr O O' w wr
set_option maxRecDepth 20000 in
set_option maxHeartbeats 2000000 in
theorem settle_all {w : World} {f : Nat} {lk : Int} {S : Fs} {O : Nat → Prop} {K : Nat → Option (List UInt8)} {n l : Lie} {pv : Value} {ps : List Value} (h : FsM w f lk S S.pend O K n l pv ps) (hk : n.k ≤ 16000) :
    Calls Tryz.prog 64 #[.pointer (some ⟨f, 0, none⟩), .int .i64 (S.pend.length : Int)] w fun e w' => e = .returned (.tuple #[]) ∧ Settled f lk S O K n w w' := by
  obtain ⟨_, _, _, _, _, _, h7, _, _, _⟩ := h.cells
  have hpl := h.pl
  have hpv : ∃ a c, pv = .slice a S.pend.length c ∧ S.pend.length ≤ c ∧ (0 < S.pend.length → ∃ g, a = some ⟨g, 0, none⟩) := by
    rcases h.row.2 with ⟨e, e2⟩ | ⟨g, cap, cur, e, _, _, h1, _⟩
    · exact ⟨none, 0, by rw [e, e2], by omega, fun hp => by omega⟩
    · exact ⟨_, _, e, h1, fun _ => ⟨g, rfl⟩⟩
  obtain ⟨pa, pc, rfl, hpc, hpa⟩ := hpv
  have H0 : Hid (SetR w f lk S O K n (.slice pa S.pend.length pc) ps (.int .i64 0) w) := ⟨0, Nat.zero_le _, rfl, S.las, O, l, h, FFr.refl _ _⟩
  have HA := hide hpa
  clear h hpa
  have hIc : (S.pend.length : Int) ≤ (pc : Int) := by omega
  generalize hPL : S.pend.length = PL at *
  have HPL := hide hPL
  clear hPL
  go_enter Tryz.func64, Tryz.ntmps64
  go_wp2_with fail
  go_loopw [13] (fun x wr => SetR w f lk S O K n (.slice pa PL pc) ps x wr) (fun x _ => PL - (intOf x).toNat)
  case atStart => exact unhide H0
  case round =>
    obtain ⟨j, hj, rfl, T', O', l', hM, hF⟩ := hrel
    rw [unhide HPL] at hj
    by_cases hlt : j < PL
    · obtain ⟨g, rfl⟩ := unhide HA (by omega)
      have hlen : j < S.pend.length := by rw [unhide HPL]; exact hlt
      have hps : ps.length = S.pend.length := by have := hM.row.1; simp at this; exact this
      have hd : S.pend.drop j = S.pend[j] :: S.pend.drop (j + 1) := List.drop_eq_getElem_cons hlen
      have hth : ThIs wr K O' ps[j] S.pend[j] := hM.ths j _ _ (List.getElem?_eq_getElem (by omega)) (List.getElem?_eq_getElem hlen)
      have hcell : wr.cell? ⟨g, j, none⟩ = some ps[j] := by
        have := hM.row.cells (g := g) rfl j ps[j] (List.getElem?_eq_getElem (by omega))
        rwa [add0] at this
      rw [hd] at hM
      have hnext : ∀ w', LasDone f lk { S with las := T' } (S.pend.drop (j + 1)) O' K n (.slice (some ⟨g, 0, none⟩) PL pc) ps wr w' → SetR w f lk S O K n (.slice (some ⟨g, 0, none⟩) PL pc) ps (.int .i64 ((j : Int) + 1)) w' := fun w' ⟨T2, l2, h1, h2⟩ => ⟨j + 1, by omega, by go_num, T2, _, l2, h1, hF.trans h2⟩
      have HNX := hide hnext
      rcases do_las hM hk hth with ⟨fn, ca, cb, e, hen, hcall⟩ | ⟨fn, ca, e, hen, hcall⟩
      · rw [e] at hcell
        have HC := hide hcall
        clear hM hF hth hd hcall hnext e hps hlen
        unfold Enters at hen
        go_wp2_with fail
        refine (unhide HC).mono ?_
        rintro e w' ⟨rfl, hL⟩
        have HS := hide (unhide HNX w' hL)
        clear hL
        go_wp2_with fail
        go_roundw
        case rel => exact unhide HS
        case measure => simp [intOf]; omega
      · rw [e] at hcell
        have HC := hide hcall
        clear hM hF hth hd hcall hnext e hps hlen
        unfold Enters at hen
        go_wp2_with fail
        refine (unhide HC).mono ?_
        rintro e w' ⟨rfl, hL⟩
        have HS := hide (unhide HNX w' hL)
        clear hL
        go_wp2_with fail
        go_roundw
        case rel => exact unhide HS
        case measure => simp [intOf]; omega
    · obtain rfl : j = PL := by omega
      have hd : S.pend.drop j = [] := List.drop_of_length_le (by rw [unhide HPL]; exact Nat.le_refl _)
      rw [hd] at hM
      have hrun := hM.run
      simp only [runs, Option.some.injEq, Prod.mk.injEq] at hrun
      obtain ⟨hT, _⟩ := hrun
      have hT' : T' = S.now := hT
      subst hT'
      obtain ⟨_, _, _, _, _, _, c7, _, _, hz⟩ := hM.cells
      have z7 := hz 7
      have HE : Hid (Settled f lk S O K n w (wr.setCell ⟨f, 7, none⟩ (.slice none 0 0))) :=
        ⟨O', l', hM.cleared, hF.trans ⟨rfl, rfl, rfl, by rw [size_set]; exact Nat.le_refl _, fun q _ hq => set_other _ _ _ _ _ (fun e => hq (by rw [e]; exact hM.of)), fun _ o => .inl o⟩⟩
      clear hM hF hz hd
      go_wp2_with fail
      go_end0
      exact ⟨rfl, unhide HE⟩
end Go.Proofs.YtebcmicmklpflaaGreatDoor
/- first: the least name of a file. -/
namespace Go.Proofs.YtebcmicmklpflaaGreatDoor
open Go.RowKit Go.Maps
set_option linter.unusedSimpArgs false
theorem fileElem_shape (v : Value) (y : DataW Unit × List MemPlace) (h : fileElem v = some y) : ∃ c, v = ptr c := by
  unfold fileElem at h
  split at h
  · exact ⟨none, rfl⟩
  · rename_i g
    exact ⟨some g, rfl⟩
  · cases h
theorem ptrD_inj {a b : Option Nat} (h : ptrD a = ptrD b) : a = b := by
  cases a with
  | none =>
    cases b with
    | none => rfl
    | some g => simp [ptrD] at h
  | some g =>
    cases b with
    | none => simp [ptrD] at h
    | some g' =>
      simp [ptrD] at h
      have : g = g' := by omega
      rw [this]
theorem info94 : ∃ j, Tryz.prog.info? 129 = some j ∧ j.size ≠ 0 := by
  have h : (Tryz.prog.info? 129).map (fun i => i.size) = some 2 := by kernel_rfl
  cases hq : Tryz.prog.info? 129 with
  | none => simp [hq] at h
  | some i => simp [hq] at h; exact ⟨i, rfl, by omega⟩
theorem eq95_nil (a : Addr) (w : World) : (binOp BinOp.eql 130 (.pointer none) (.pointer (some a))).run Tryz.prog w = .ok (.bool false) w := by
  obtain ⟨j, hj, _⟩ := info94
  have h : ∀ d : Nat, (Op.equalIn (d + 1) 130 (.pointer none) (.pointer (some a))).run Tryz.prog w = .ok false w := fun d => by
    simp [Op.equalIn, run_underlying Tryz.underlying130]
  simp only [binOp]
  simp [Op.equal, Op.maxDepth, h 9999]
theorem eq95_same (a : Addr) (w : World) : (binOp BinOp.eql 130 (.pointer (some a)) (.pointer (some a))).run Tryz.prog w = .ok (.bool true) w := by
  obtain ⟨j, hj, _⟩ := info94
  exact run_eql_ptr_same w a Tryz.underlying130 hj
theorem eq95_other {g g' : Nat} {x y : Array Value} {w : World} (hne : g ≠ g') (h1 : w.heap[g]? = some (.cells x 129 (0, 0))) (h2 : w.heap[g']? = some (.cells y 129 (0, 0))) : (binOp BinOp.eql 130 (.pointer (some ⟨g, 0, none⟩)) (.pointer (some ⟨g', 0, none⟩))).run Tryz.prog w = .ok (.bool false) w := by
  obtain ⟨j, hj, hs⟩ := info94
  exact run_eql_ptr_other w Tryz.underlying130 hj hs (by simp [hne]) h1 h2
theorem less_irr : ∀ a : List UInt8, Op.bytesLess a a = false
  | [] => rfl
  | x :: a => by simp [Op.bytesLess, less_irr a]
theorem less_trans : ∀ (a b c : List UInt8), Op.bytesLess a b = true → Op.bytesLess b c = true → Op.bytesLess a c = true
  | _, b, [], _, h => by cases b <;> simp [Op.bytesLess] at h
  | [], _, _ :: _, _, _ => by simp [Op.bytesLess]
  | _ :: _, [], _ :: _, h, _ => by simp [Op.bytesLess] at h
  | x :: a, y :: b, z :: c, h, k => by
    simp [Op.bytesLess] at h k ⊢
    rcases h with h | ⟨rfl, h⟩ <;> rcases k with k | ⟨rfl, k⟩
    · exact .inl (UInt8.lt_trans h k)
    · exact .inl h
    · exact .inl k
    · exact .inr ⟨rfl, less_trans a b c h k⟩
theorem toList_data (s : ByteArray) : s.toList = s.data.toList := ByteArray.toList_eq s
theorem bytes_eq {s t : ByteArray} (h : s.data.toList = t.data.toList) : s = t := by
  cases s; cases t
  simp at h
  rw [h]
/-- r is the least name that was met of a file. -/
def Least (T : Tb) (i : Nat) (left : Lit → Bool) (r : ByteArray) : Prop := T.N r = some i ∧ ∀ s', T.N s' = some i → s'.size ≤ maxLen → left (.string s'.data.toList) = false → Op.bytesLess s'.toList r.toList = false
theorem Least.skip {T : Tb} {i : Nat} {left : Lit → Bool} {r q : ByteArray} (h : Least T i left r) (hq : T.N q ≠ some i ∨ Op.bytesLess q.toList r.toList = false) : Least T i (fun z => left z && !z.sameKey (.string q.data.toList)) r :=
  ⟨h.1, fun s' h1 h2 h3 => by
    simp only [Bool.and_eq_false_iff, Bool.not_eq_false'] at h3
    rcases h3 with h3 | h3
    · exact h.2 s' h1 h2 h3
    · have e := WideAt.sameKey_eq h3
      injection e with e
      have e2 := bytes_eq e
      subst e2
      rcases hq with hq | hq
      · exact absurd h1 hq
      · exact hq⟩
theorem Least.take {T : Tb} {i : Nat} {left : Lit → Bool} {r q : ByteArray} (h : Least T i left r) (hN : T.N q = some i) (hq : Op.bytesLess q.toList r.toList = true) : Least T i (fun z => left z && !z.sameKey (.string q.data.toList)) q :=
  ⟨hN, fun s' h1 h2 h3 => by
    simp only [Bool.and_eq_false_iff, Bool.not_eq_false'] at h3
    rcases h3 with h3 | h3
    · have h4 := h.2 s' h1 h2 h3
      cases h5 : Op.bytesLess s'.toList q.toList with
      | false => rfl
      | true => rw [less_trans _ _ _ h5 hq] at h4; cases h4
    · have e := WideAt.sameKey_eq h3
      injection e with e
      have e2 := bytes_eq e
      subst e2
      exact less_irr _⟩
/-- A key at which something stands is there. -/
theorem has_of {w : World} {mb n : Nat} {D : DataW Unit} (ho : w.ownsMap Tryz.prog 9 fileElem mb n D) {s : ByteArray} {o : Option Nat} (h : D.atKey (.string s.data.toList) .nil = ptrD o) (hn : o.isSome = true) : Maps.has D (.string s.data.toList) = true := by
  have hm : ∃ E, D = .map E := by
    obtain ⟨es, cl, hb, _, _, e⟩ := ho
    exact ⟨_, e⟩
  obtain ⟨E, rfl⟩ := hm
  simp only [DataW.atKey] at h
  rw [Maps.has_eq]
  cases hf : List.find? (fun p => p.1.sameKey (Lit.string s.data.toList)) E with
  | none =>
    rw [hf] at h
    cases o with
    | none => cases hn
    | some g => simp [ptrD] at h
  | some p =>
    have h2 := List.find?_some hf
    exact List.any_eq_true.2 ⟨p, List.mem_of_find?_eq_some hf, h2⟩
def FirstR (mb n : Nat) (D : DataW Unit) (T : Tb) (i : Nat) (w' : World) (x : Value) (wr : World) : Prop :=
  ∃ (r : ByteArray) (left : Lit → Bool) (cnt : Nat), x = .string r ∧ r.size ≤ maxLen ∧ Least T i left r ∧ wr.ranges Tryz.prog 9 fileElem mb w'.heap.size n D left cnt ∧ Below w'.heap.size w' wr
end Go.Proofs.YtebcmicmklpflaaGreatDoor
/- New, Used, Read and Node of a FS. -/
namespace Go.Proofs.YtebcmicmklpflaaGreatDoor
open Go.RowKit Go.Maps
set_option linter.unusedSimpArgs false
/-- A table of nothing. -/
def Tb.none : Tb := ⟨fun _ => Option.none, fun _ => [], fun _ => 0, 0⟩
def Fs.new (r : Nat) : Fs := ⟨r, Tb.none, Tb.none, [], Option.none⟩
theorem Tb.none_ok : Tb.none.Ok 0 := ⟨fun _ => by simp [Tb.none], by simp [Tb.none], fun _ => by simp [Tb.none]⟩
theorem new_ok (r : Nat) (w : World) (hr : r ≤ 1073741824) : Calls Tryz.prog 15 #[.int .i64 (r : Int)] w fun e w' => e = .returned (.tuple #[.pointer (some ⟨w.heap.size, 0, none⟩), .int .i64 0]) ∧ FsIs w' w.heap.size 0 (Fs.new r) (fun q => q = w.heap.size) 0 ∧ Below w.heap.size w w' := by
  refine (new_any r w hr).mono ?_
  rintro e w' ⟨rfl, rfl⟩
  refine ⟨rfl, ?_, (Below.refl _ _).alloc (Nat.le_refl _) _⟩
  have hnew : (w.alloc (.cells #[.int .i32 0, .int .u32 0, .int .i64 (r : Int), .map Option.none, .int .i64 0, .map Option.none, .int .i64 0, .slice Option.none 0 0, .bool false, .int .i64 0] 92)).heap[w.heap.size]? = some (.cells #[.int .i32 0, .int .u32 0, .int .i64 (r : Int), .map Option.none, .int .i64 0, .map Option.none, .int .i64 0, .slice Option.none 0 0, .bool false, .int .i64 0] 92 (0, 0)) := heap_alloc_new w _
  generalize (w.alloc (.cells #[.int .i32 0, .int .u32 0, .int .i64 (r : Int), .map Option.none, .int .i64 0, .map Option.none, .int .i64 0, .slice Option.none 0 0, .bool false, .int .i64 0] 92)) = W at *
  have hT : TabL W (fun _ => Option.none) (fun q => q = w.heap.size) Tb.none ⟨Option.none, 0, fun _ => False, id, fun _ => .slice Option.none 0 0, 0, 0, fun _ => False⟩ := ⟨⟨fun _ => rfl, fun _ => rfl, fun _ _ h => (by cases h), fun _ h => h.elim, fun _ _ h => h.elim, fun _ h => h.elim⟩, Tb.none_ok, Nat.le_refl _, fun _ h => (by cases h), fun _ h => h.elim, fun _ h => h.elim⟩
  exact ⟨fun _ => Option.none, ⟨Option.none, 0, fun _ => False, id, fun _ => .slice Option.none 0 0, 0, 0, fun _ => False⟩, ⟨Option.none, 0, fun _ => False, id, fun _ => .slice Option.none 0 0, 0, 0, fun _ => False⟩, .slice Option.none 0 0, [], ⟨hnew, hT, hT, fun _ _ h => h.elim, fun _ h => (by cases h), fun _ _ h => (by cases h), fun _ h => h.elim, fun _ _ h => h.elim, World.ownsRow_nil _ _ _ _, fun j v t h => (by simp at h), rfl, Nat.le_refl _, Nat.le_refl _, Nat.zero_le _, hr, Nat.zero_le _, rfl, fun _ _ h => (by cases h), fun _ h => (by simp [Value.ownBlock] at h), fun q e => by rw [e]; exact (Array.getElem?_eq_some_iff.1 hnew).1⟩, Nat.le_refl _, fun _ => id⟩
/-- Behind what only lays new blocks, the lock let go. -/
theorem FsM.back {w W : World} {f : Nat} {S : Fs} {O : Nat → Prop} {K : Nat → Option (List UInt8)} {n l : Lie} {pv : Value} {ps : List Value} {L : List (Nat × Obj)} (h : FsM w f 0 S S.pend O K n l pv ps) (hI : Inv (fun _ => False) (w.setCell ⟨f, 0, none⟩ (.int .i32 1)) W L) :
    FsM (W.setCell ⟨f, 0, none⟩ (.int .i32 0)) f 0 S S.pend O K n l pv ps ∧ Below w.heap.size w (W.setCell ⟨f, 0, none⟩ (.int .i32 0)) ∧ W.cell? ⟨f, 0, none⟩ = some (.int .i32 1) ∧ W.frozen? ⟨f, 0, none⟩ = false := by
  have hM1 := h.lock 1
  have hMW : FsM W f 1 S S.pend O K n l pv ps := hM1.kept hI.size (fun q o => hI.blk q (hM1.lt q o) id)
  refine ⟨hMW.lock 0, below_two h.cells.1 ⟨hI.os, hI.tape, hI.output, hI.size, fun q hq => hI.blk q (by rw [size_set]; exact hq) id⟩, hMW.cells.1, hMW.cells.2.2.2.2.2.2.2.2.2 0⟩
set_option maxRecDepth 20000 in
set_option maxHeartbeats 1000000 in
theorem read_ok (f : Nat) (S : Fs) (O : Nat → Prop) (k : Nat) (s : ByteArray) (i : Nat) (w : World) (h : FsIs w f 0 S O k) (hs : s.size ≤ maxLen) (hN : S.now.N s = some i) :
    Calls Tryz.prog 30 #[.pointer (some ⟨f, 0, none⟩), .string s] w fun e w' => ∃ a c L, e = .returned (.tuple #[.slice a (S.now.D i).length c, .int .i64 0]) ∧ NewData w.heap.size L (.slice a (S.now.D i).length c) (S.now.D i) ∧ (∀ p ∈ L, w'.heap[p.1]? = some p.2) ∧ FsIs w' f 0 S O k ∧ Below w.heap.size w w' := by
  obtain ⟨K, n, l, pv, ps, hM, hnk⟩ := h
  obtain ⟨h0, _, _, _, _, _, _, _, _, hz⟩ := hM.cells
  have hfl : f < w.heap.size := hM.lt f hM.of
  obtain ⟨W1, hW1⟩ : ∃ W1, W1 = w.setCell ⟨f, 0, none⟩ (.int .i32 1) := ⟨_, rfl⟩
  have hs1 : W1.heap.size = w.heap.size := by rw [hW1, size_set]
  have hM1 : FsM W1 f 1 S S.pend O K n l pv ps := by rw [hW1]; exact hM.lock 1
  obtain ⟨_, _, t3, _⟩ := hM1.cells
  have hFi := hM1.now.tab.live s i hN
  have hfi := hM1.now.tab.file i hFi
  have hdat := hM1.now.tab.data i hFi
  obtain ⟨a0, c0, hh⟩ := hdat.len
  have tg : W1.cell? ⟨n.b i, 0, none⟩ = some (.slice a0 (S.now.D i).length c0) := by simp [World.cell?, hfi, hh]
  have HH := hide (has_tab f 3 K n.m n.n S.now n.F n.b n.h s W1 t3 hM1.now.tab hs)
  rw [hN] at HH
  have hlk := tab_look hM1.now.tab.tab hs
  simp only [hN, Option.map_some] at hlk
  unfold ptr at hlk
  have HL0 := hide (lock_free ⟨f, 0, none⟩ w h0 (hz 0))
  rw [← hW1] at HL0
  have hrow : Row W1.heap.size W1 (.slice a0 (S.now.D i).length c0) (S.now.D i) := by
    obtain ⟨a', c', e, hle, _, h3⟩ := hdat
    rw [hh] at e
    injection e with e1 _ e3
    refine ⟨a0, c0, rfl, by omega, fun hpos => ?_⟩
    rcases h3 with ⟨_, e⟩ | ⟨g, x, e, hk, hp⟩
    · omega
    · obtain ⟨cur, hc, hpc⟩ := hM1.kok g x hk
      refine ⟨g, 0, e1.trans e, (Array.getElem?_eq_some_iff.1 hc).1, fun j u hj => ?_⟩
      have hp2 : byteVals (S.now.D i) <+: cur.toList := by
        obtain ⟨t, ht⟩ := hp
        have : byteVals (S.now.D i) <+: byteVals x := by rw [← ht]; unfold byteVals; rw [List.map_append]; exact List.prefix_append _ _
        exact this.trans hpc
      obtain ⟨t, ht⟩ := hp2
      have hj2 := (List.getElem?_eq_some_iff.1 hj).1
      simp only [World.cell?, hc, Nat.zero_add]
      rw [← Array.getElem?_toList, ← ht, List.getElem?_append_left hj2]
      simpa using hj
  have hdl := hM1.now.ok.dl i
  have HB := hide (bclone_new W1.heap.size a0 (S.now.D i).length c0 (S.now.D i) W1 hrow rfl (Nat.le_refl _) (by omega))
  have HE : Hid (∀ (W : World) (L : List (Nat × Obj)), Below W1.heap.size W1 W → (∀ p ∈ L, W.heap[p.1]? = some p.2) → (∀ p ∈ L, w.heap.size ≤ p.1) → (∀ p ∈ L, (W.setCell ⟨f, 0, none⟩ (.int .i32 0)).heap[p.1]? = some p.2) ∧ FsIs (W.setCell ⟨f, 0, none⟩ (.int .i32 0)) f 0 S O k ∧ Below w.heap.size w (W.setCell ⟨f, 0, none⟩ (.int .i32 0)) ∧ W.cell? ⟨f, 0, none⟩ = some (.int .i32 1) ∧ W.frozen? ⟨f, 0, none⟩ = false) := fun W L hb hL hn => by
    have hI : Inv (fun _ => False) (w.setCell ⟨f, 0, none⟩ (.int .i32 1)) W [] := by
      rw [← hW1]
      exact ⟨hb.os, hb.tape, hb.output, hb.size, fun q h1 _ => hb.block q h1, fun _ h => (by cases h), fun _ h => (by cases h)⟩
    obtain ⟨b1, b2, b3, b4⟩ := hM.back hI
    exact ⟨fun p hp => by rw [set_other _ _ _ _ _ (by have := hn p hp; omega)]; exact hL p hp, ⟨K, n, l, pv, ps, b1, hnk⟩, b2, b3, b4⟩
  rw [hs1] at HB
  clear hM hM1 hrow hdat hh hfi hFi hW1 hN hdl hz
  generalize (S.now.D i) = dd at *
  generalize hNN : dd.length = N at *
  clear hNN
  go_enter_defers Tryz.func30, Tryz.ntmps30
  go_wp2_with fail
  refine (unhide HL0).mono ?_
  rintro e w' ⟨rfl, rfl⟩
  go_wp2_with fail
  refine (unhide HH).mono ?_
  rintro e w'' ⟨rfl, rfl⟩
  go_wp2_with fail
  refine (unhide HB).mono ?_
  rintro e w2 ⟨a', c', L, rfl, hND, hb2, hL⟩
  have hnw : ∀ p ∈ L, w.heap.size ≤ p.1 := by
    rcases hND with ⟨rfl, _⟩ | ⟨g, cap, cur, rfl, _, hlo, _⟩
    · intro p hp; cases hp
    · intro p hp
      simp only [List.mem_singleton] at hp
      rw [hp]; exact hlo
  obtain ⟨q1, q2, q3, c2, z2⟩ := unhide HE w2 L (by rw [hs1]; exact hb2) hL hnw
  have HR := hide (And.intro hND (And.intro q1 (And.intro q2 q3)))
  clear hND q1 q2 q3 hb2 hL hnw
  go_wp2_with fail
  refine leaves_cons (f := 55) (args := #[.pointer (some ⟨f, 0, none⟩)]) (by simp) (by simp [go_sem]) ?_
  refine (unlock_deferred ⟨f, 0, none⟩ .returning _ c2 z2).mono ?_
  rintro e u' w3 ⟨rfl, rfl, rfl⟩
  exact ⟨_, results_tmp2 rfl _ _ _, a', c', L, rfl, (unhide HR).1, (unhide HR).2.1, (unhide HR).2.2.1, (unhide HR).2.2.2⟩
end Go.Proofs.YtebcmicmklpflaaGreatDoor
/- Sync, Crash that keeps all, Fuse; and a Write behind a burnt fuse. -/
namespace Go.Proofs.YtebcmicmklpflaaGreatDoor
open Go.RowKit Go.Maps
set_option linter.unusedSimpArgs false
/-- A FS whose things last. -/
def Fs.lasts (S : Fs) (fu : Option Nat) : Fs := ⟨S.room, S.now, S.now, [], fu⟩
theorem FFr.cell {O : Nat → Prop} {w : World} {f : Nat} (h : O f) (j : Nat) (v : Value) : FFr O O w (w.setCell ⟨f, j, none⟩ v) :=
  ⟨rfl, rfl, rfl, by rw [size_set]; exact Nat.le_refl _, fun q _ hq => set_other _ _ _ _ _ (fun e => hq (by rw [e]; exact h)), fun _ o => .inl o⟩
set_option maxRecDepth 20000 in
set_option maxHeartbeats 2000000 in
theorem sync_ok (f : Nat) (S : Fs) (O : Nat → Prop) (k : Nat) (w : World) (h : FsIs w f 0 S O k) (hk : k ≤ 16000) (hf : S.fuse ≠ some 0) :
    Calls Tryz.prog 29 #[.pointer (some ⟨f, 0, none⟩)] w fun e w' => e = .returned (.int .i64 0) ∧ ∃ O', FsIs w' f 0 (S.lasts (S.fuse.map Nat.pred)) O' k ∧ FFr O O' w w' := by
  obtain ⟨K, n, l, pv, ps, hM, hnk, hex⟩ := h
  obtain ⟨h0, _, _, _, _, _, _, _, _, hz⟩ := hM.cells
  obtain ⟨W1, hW1⟩ : ∃ W1, W1 = w.setCell ⟨f, 0, none⟩ (.int .i32 1) := ⟨_, rfl⟩
  have hM1 : FsM W1 f 1 S S.pend O K n l pv ps := by rw [hW1]; exact hM.lock 1
  have HF1 : Hid (FFr O O w W1) := by rw [hW1]; exact FFr.cell hM.of _ _
  have HL0 := hide (lock_free ⟨f, 0, none⟩ w h0 (hz 0))
  rw [← hW1] at HL0
  have HD := hide (dead_not hM1 hf)
  have HS := hide (settle_all hM1 (by omega))
  obtain ⟨_, _, _, _, _, _, c7, _, _, _⟩ := hM1.cells
  have hpv : ∃ a c, pv = .slice a S.pend.length c := by
    rcases hM1.row.2 with ⟨e, e2⟩ | ⟨g, cap, cur, e, _⟩
    · exact ⟨none, 0, by rw [e, e2]⟩
    · exact ⟨_, _, e⟩
  obtain ⟨pa, pc, rfl⟩ := hpv
  clear hM hM1 hz hW1
  generalize hPL : S.pend.length = PL at *
  clear hPL
  go_enter_defers Tryz.func29, Tryz.ntmps29
  go_wp2_with fail
  refine (unhide HL0).mono ?_
  rintro e w' ⟨rfl, rfl⟩
  go_wp2_with fail
  refine (unhide HD).mono ?_
  rintro e w'' ⟨rfl, rfl⟩
  go_wp2_with fail
  refine (unhide HS).mono ?_
  rintro e w2 ⟨rfl, O2, l2, hM2, hF2⟩
  obtain ⟨w3, hB3, hM3, hF3⟩ := hM2.burnt hf
  obtain ⟨g0, _, _, _, _, _, _, _, _, gz⟩ := hM3.cells
  have gz0 := gz 0
  have HE : Hid (∃ O', FsIs (w3.setCell ⟨f, 0, none⟩ (.int .i32 0)) f 0 (S.lasts (S.fuse.map Nat.pred)) O' k ∧ FFr O O' w (w3.setCell ⟨f, 0, none⟩ (.int .i32 0))) :=
    ⟨O2, ⟨K, n, l2, _, _, hM3.lock 0, hnk, hex⟩, (unhide HF1).trans (hF2.trans (hF3.trans (FFr.cell hM3.of _ _)))⟩
  have HB := hide hB3
  clear hM2 hF2 hB3 hM3 hF3 gz
  go_wp2_with fail
  refine (unhide HB).mono ?_
  rintro e w4 ⟨rfl, rfl⟩
  go_wp2_with fail
  refine leaves_cons (f := 55) (args := #[.pointer (some ⟨f, 0, none⟩)]) (by simp) (by simp [go_sem]) ?_
  refine (unlock_deferred ⟨f, 0, none⟩ .returning _ g0 gz0).mono ?_
  rintro e u' w7 ⟨rfl, rfl, rfl⟩
  exact ⟨_, results_tmp rfl _ _ _, rfl, unhide HE⟩
set_option maxRecDepth 20000 in
set_option maxHeartbeats 2000000 in
theorem sync_dead (f : Nat) (S : Fs) (O : Nat → Prop) (k : Nat) (w : World) (h : FsIs w f 0 S O k) (hf : S.fuse = some 0) :
    Calls Tryz.prog 29 #[.pointer (some ⟨f, 0, none⟩)] w fun e w' => e = .returned (.int .i64 26) ∧ FsIs w' f 0 S O k ∧ Below w.heap.size w w' := by
  obtain ⟨K, n, l, pv, ps, hM, hnk⟩ := h
  obtain ⟨h0, _, _, _, _, _, _, _, _, hz⟩ := hM.cells
  obtain ⟨W1, hW1⟩ : ∃ W1, W1 = w.setCell ⟨f, 0, none⟩ (.int .i32 1) := ⟨_, rfl⟩
  have hM1 : FsM W1 f 1 S S.pend O K n l pv ps := by rw [hW1]; exact hM.lock 1
  have HL0 := hide (lock_free ⟨f, 0, none⟩ w h0 (hz 0))
  rw [← hW1] at HL0
  have HD := hide (dead_yes hM1 hf)
  obtain ⟨b1, b2, c2, z2⟩ := hM.back (Inv.refl _ _)
  rw [← hW1] at b1 b2 c2 z2
  have HE : Hid (FsIs (W1.setCell ⟨f, 0, none⟩ (.int .i32 0)) f 0 S O k ∧ Below w.heap.size w (W1.setCell ⟨f, 0, none⟩ (.int .i32 0))) := ⟨⟨K, n, l, pv, ps, b1, hnk⟩, b2⟩
  clear hM hM1 hW1 hz b1 b2
  go_enter_defers Tryz.func29, Tryz.ntmps29
  go_wp2_with fail
  refine (unhide HL0).mono ?_
  rintro e w' ⟨rfl, rfl⟩
  go_wp2_with fail
  refine (unhide HD).mono ?_
  rintro e w'' ⟨rfl, rfl⟩
  go_wp2_with fail
  refine leaves_cons (f := 55) (args := #[.pointer (some ⟨f, 0, none⟩)]) (by simp) (by simp [go_sem]) ?_
  refine (unlock_deferred ⟨f, 0, none⟩ .returning _ c2 z2).mono ?_
  rintro e u' w3 ⟨rfl, rfl, rfl⟩
  exact ⟨_, results_tmp rfl _ _ _, rfl, (unhide HE).1, (unhide HE).2⟩
/-- The fuse is set. -/
theorem FsM.fuse {w : World} {f : Nat} {lk : Int} {S : Fs} {X : List Th} {O : Nat → Prop} {K : Nat → Option (List UInt8)} {n l : Lie} {pv : Value} {ps : List Value} (h : FsM w f lk S X O K n l pv ps) (fu : Option Nat) (hb : fu.getD 0 ≤ 9223372036854775807) : FsM ((w.setCell ⟨f, 8, none⟩ (.bool fu.isSome)).setCell ⟨f, 9, none⟩ (.int .i64 ((fu.getD 0 : Nat) : Int))) f lk { S with fuse := fu } X O K n l pv ps := by
  refine h.reset rfl rfl rfl rfl hb (by rw [size_set, size_set]; exact Nat.le_refl _) ?_ (fun q _ hne => by rw [set_other _ _ _ _ _ hne, set_other _ _ _ _ _ hne])
  have := h.blk
  simp [World.setCell, Array.getElem?_modify, this, fsBlk]
set_option maxRecDepth 20000 in
set_option maxHeartbeats 2000000 in
theorem fuse_ok (f : Nat) (S : Fs) (O : Nat → Prop) (k : Nat) (m : Nat) (w : World) (h : FsIs w f 0 S O k) (hm : m ≤ 1000000) :
    Calls Tryz.prog 21 #[.pointer (some ⟨f, 0, none⟩), .int .i64 (m : Int)] w fun e w' => e = .returned (.tuple #[]) ∧ FsIs w' f 0 { S with fuse := some m } O k ∧ FFr O O w w' := by
  obtain ⟨K, n, l, pv, ps, hM, hnk⟩ := h
  obtain ⟨h0, _, _, _, _, _, _, _, _, hz⟩ := hM.cells
  obtain ⟨W1, hW1⟩ : ∃ W1, W1 = w.setCell ⟨f, 0, none⟩ (.int .i32 1) := ⟨_, rfl⟩
  have hM1 : FsM W1 f 1 S S.pend O K n l pv ps := by rw [hW1]; exact hM.lock 1
  have hM2 := hM1.fuse (some m) (by simp; omega)
  simp only [Option.isSome_some, Option.getD_some] at hM2
  have HL0 := hide (lock_free ⟨f, 0, none⟩ w h0 (hz 0))
  rw [← hW1] at HL0
  have HF : Hid (FFr O O w W1) := by rw [hW1]; exact FFr.cell hM.of _ _
  obtain ⟨g0, _, _, _, _, _, _, _, _, gz⟩ := hM2.cells
  have gz0 := gz 0
  obtain ⟨_, _, _, _, _, _, _, d8, d9, dz⟩ := hM1.cells
  have z8 := dz 8
  have z9 := dz 9
  have HE : Hid (FsIs (((W1.setCell ⟨f, 8, none⟩ (.bool true)).setCell ⟨f, 9, none⟩ (.int .i64 (m : Int))).setCell ⟨f, 0, none⟩ (.int .i32 0)) f 0 { S with fuse := some m } O k ∧ FFr O O w (((W1.setCell ⟨f, 8, none⟩ (.bool true)).setCell ⟨f, 9, none⟩ (.int .i64 (m : Int))).setCell ⟨f, 0, none⟩ (.int .i32 0))) :=
    ⟨⟨K, n, l, pv, ps, hM2.lock 0, hnk⟩, (unhide HF).trans ((FFr.cell hM.of _ _).trans ((FFr.cell hM.of _ _).trans (FFr.cell hM.of _ _)))⟩
  clear hM hM1 hM2 hz gz dz hW1
  have hm0 : (0 : Int) ≤ (m : Int) := by omega
  go_enter_defers Tryz.func21, Tryz.ntmps21
  go_wp2_with fail
  refine (unhide HL0).mono ?_
  rintro e w' ⟨rfl, rfl⟩
  go_wp2_with fail
  refine leaves_cons (f := 55) (args := #[.pointer (some ⟨f, 0, none⟩)]) (by simp) (by simp [go_sem]) ?_
  refine (unlock_deferred ⟨f, 0, none⟩ .returning _ g0 gz0).mono ?_
  rintro e u' w3 ⟨rfl, rfl, rfl⟩
  exact ⟨_, results_none rfl _ _ _, rfl, (unhide HE).1, (unhide HE).2⟩
set_option maxRecDepth 20000 in
set_option maxHeartbeats 2000000 in
theorem crash_all (f : Nat) (S : Fs) (O : Nat → Prop) (k : Nat) (w : World) (h : FsIs w f 0 S O k) (hk : k ≤ 16000) :
    Calls Tryz.prog 27 #[.pointer (some ⟨f, 0, none⟩), .int .i64 1048576] w fun e w' => e = .returned (.tuple #[]) ∧ ∃ O', FsIs w' f 0 (S.lasts none) O' k ∧ FFr O O' w w' := by
  obtain ⟨K, n, l, pv, ps, hM, hnk, hex⟩ := h
  obtain ⟨h0, _, _, _, _, _, _, _, _, hz⟩ := hM.cells
  obtain ⟨W1, hW1⟩ : ∃ W1, W1 = w.setCell ⟨f, 0, none⟩ (.int .i32 1) := ⟨_, rfl⟩
  have hM1 : FsM W1 f 1 S S.pend O K n l pv ps := by rw [hW1]; exact hM.lock 1
  have HF1 : Hid (FFr O O w W1) := by rw [hW1]; exact FFr.cell hM.of _ _
  have HL0 := hide (lock_free ⟨f, 0, none⟩ w h0 (hz 0))
  rw [← hW1] at HL0
  have HS := hide (settle_all hM1 (by omega))
  obtain ⟨_, _, _, _, _, _, c7, _, _, _⟩ := hM1.cells
  have hpv : ∃ a c, pv = .slice a S.pend.length c := by
    rcases hM1.row.2 with ⟨e, e2⟩ | ⟨g, cap, cur, e, _⟩
    · exact ⟨none, 0, by rw [e, e2]⟩
    · exact ⟨_, _, e⟩
  obtain ⟨pa, pc, rfl⟩ := hpv
  have hpl := hM.pl
  clear hM hM1 hz hW1
  generalize hPL : S.pend.length = PL at *
  clear hPL
  have hp1 : (PL : Int) ≤ 16383 := by omega
  have HMin : Hid (min (max (1048576 : Int) 0) (PL : Int) = (PL : Int)) := by show min (max (1048576 : Int) 0) (PL : Int) = (PL : Int); omega
  go_enter_defers Tryz.func27, Tryz.ntmps27
  go_wp2_with fail
  refine (unhide HL0).mono ?_
  rintro e w' ⟨rfl, rfl⟩
  go_wp2_with fail
  rw [unhide HMin]
  refine (unhide HS).mono ?_
  rintro e w2 ⟨rfl, O2, l2, hM2, hF2⟩
  have hM3 := hM2.fuse none (by simp)
  simp only [Option.isSome_none, Option.getD_none] at hM3
  obtain ⟨g0, _, _, _, _, _, _, _, _, gz⟩ := hM3.cells
  have gz0 := gz 0
  obtain ⟨_, _, _, _, _, _, _, d8, d9, dz⟩ := hM2.cells
  have z8 := dz 8
  have z9 := dz 9
  have HE : Hid (∃ O', FsIs (((w2.setCell ⟨f, 8, none⟩ (.bool false)).setCell ⟨f, 9, none⟩ (.int .i64 ((0 : Nat) : Int))).setCell ⟨f, 0, none⟩ (.int .i32 0)) f 0 (S.lasts none) O' k ∧ FFr O O' w (((w2.setCell ⟨f, 8, none⟩ (.bool false)).setCell ⟨f, 9, none⟩ (.int .i64 ((0 : Nat) : Int))).setCell ⟨f, 0, none⟩ (.int .i32 0))) :=
    ⟨O2, ⟨K, n, l2, _, _, hM3.lock 0, hnk, hex⟩, (unhide HF1).trans (hF2.trans ((FFr.cell hM2.of _ _).trans ((FFr.cell hM2.of _ _).trans (FFr.cell hM2.of _ _))))⟩
  clear hM2 hF2 hM3 gz dz
  go_wp2_with fail
  refine leaves_cons (f := 55) (args := #[.pointer (some ⟨f, 0, none⟩)]) (by simp) (by simp [go_sem]) ?_
  refine (unlock_deferred ⟨f, 0, none⟩ .returning _ g0 gz0).mono ?_
  rintro e u' w3 ⟨rfl, rfl, rfl⟩
  exact ⟨_, results_none rfl _ _ _, rfl, unhide HE⟩
set_option maxRecDepth 20000 in
set_option maxHeartbeats 2000000 in
theorem change_dead (f : Nat) (S : Fs) (O : Nat → Prop) (k : Nat) (v u : Value) (w : World) (h : FsIs w f 0 S O k) (hf : S.fuse = some 0) :
    Calls Tryz.prog 65 #[.pointer (some ⟨f, 0, none⟩), v, u] w fun e w' => e = .returned (.int .i64 26) ∧ FsIs w' f 0 S O k ∧ Below w.heap.size w w' := by
  obtain ⟨K, n, l, pv, ps, hM, hnk⟩ := h
  obtain ⟨h0, _, _, _, _, _, _, _, _, hz⟩ := hM.cells
  obtain ⟨W1, hW1⟩ : ∃ W1, W1 = w.setCell ⟨f, 0, none⟩ (.int .i32 1) := ⟨_, rfl⟩
  have hM1 : FsM W1 f 1 S S.pend O K n l pv ps := by rw [hW1]; exact hM.lock 1
  have HL0 := hide (lock_free ⟨f, 0, none⟩ w h0 (hz 0))
  rw [← hW1] at HL0
  have HD := hide (dead_yes hM1 hf)
  obtain ⟨b1, b2, c2, z2⟩ := hM.back (Inv.refl _ _)
  rw [← hW1] at b1 b2 c2 z2
  have HE : Hid (FsIs (W1.setCell ⟨f, 0, none⟩ (.int .i32 0)) f 0 S O k ∧ Below w.heap.size w (W1.setCell ⟨f, 0, none⟩ (.int .i32 0))) := ⟨⟨K, n, l, pv, ps, b1, hnk⟩, b2⟩
  clear hM hM1 hW1 hz b1 b2
  go_enter_defers Tryz.func65, Tryz.ntmps65
  go_wp2_with fail
  refine (unhide HL0).mono ?_
  rintro e w' ⟨rfl, rfl⟩
  go_wp2_with fail
  refine (unhide HD).mono ?_
  rintro e w'' ⟨rfl, rfl⟩
  go_wp2_with fail
  refine leaves_cons (f := 55) (args := #[.pointer (some ⟨f, 0, none⟩)]) (by simp) (by simp [go_sem]) ?_
  refine (unlock_deferred ⟨f, 0, none⟩ .returning _ c2 z2).mono ?_
  rintro e u' w3 ⟨rfl, rfl, rfl⟩
  exact ⟨_, results_tmp rfl _ _ _, rfl, (unhide HE).1, (unhide HE).2⟩
set_option maxRecDepth 20000 in
theorem write_dead (f : Nat) (S : Fs) (O : Nat → Prop) (k : Nat) (s : ByteArray) (a : Option Addr) (n c : Nat) (w : World) (h : FsIs w f 0 S O k) (hf : S.fuse = some 0) :
    Calls Tryz.prog 28 #[.pointer (some ⟨f, 0, none⟩), .string s, .slice a n c] w fun e w' => e = .returned (.int .i64 26) ∧ FsIs w' f 0 S O k ∧ Below w.heap.size w w' := by
  have hb : Below w.heap.size w ((((w.alloc (.cells #[.pointer (some ⟨f, 0, none⟩)] 25)).alloc (.cells #[.string s] 9)).alloc (.cells #[.slice a n c] 39)).alloc (.cells #[.string s] 9)) := ((((Below.refl _ _).alloc (Nat.le_refl _) _).alloc (by simp) _).alloc (by simp; omega) _).alloc (by simp; omega) _
  have h1 : FsIs ((((w.alloc (.cells #[.pointer (some ⟨f, 0, none⟩)] 25)).alloc (.cells #[.string s] 9)).alloc (.cells #[.slice a n c] 39)).alloc (.cells #[.string s] 9)) f 0 S O k := by
    obtain ⟨K, n, l, pv, ps, hM, hk⟩ := h
    exact ⟨K, n, l, pv, ps, hM.below hb, hk⟩
  have HC := hide (fun v u => (change_dead f S O k v u _ h1 hf).mono fun e w' ⟨e1, h2, h3⟩ => (⟨e1, h2, hb.trans (h3.mono hb.size)⟩ : e = Ending.returned (.int .i64 26) ∧ FsIs w' f 0 S O k ∧ Below w.heap.size w w'))
  clear hb h1 h
  go_enter Tryz.func28, Tryz.ntmps28
  go_wp2_with fail
  refine (unhide HC _ _).mono ?_
  rintro e w9 ⟨rfl, hE⟩
  have HE := hide hE
  clear hE
  go_wp2_with fail
  go_ret
  exact ⟨rfl, unhide HE⟩
end Go.Proofs.YtebcmicmklpflaaGreatDoor
/- What Append plans. -/
namespace Go.Proofs.YtebcmicmklpflaaGreatDoor
open Go.RowKit Go.Maps
set_option linter.unusedSimpArgs false
theorem step_app {P : Program} {ops : Array Oper} {o : Oper} {a : Act} {w : World} {K : Act → World → Prop} {Q : Exit → Act → World → Prop} {E : Prop} (hg : o.guard = none) (s x : Operand) (hop : o.op = Op.call { callee := Callee.builtin Builtin.append, args := #[s, x], argTypes := #[39, 39] })
    (v0 vx v' : Value) (w' : World) (hs : a.eval s = v0) (hx : a.eval x = vx) (hrun : (Builtin.append_ #[39, 39] o.type #[v0, vx]).run P w = .ok v' w') (hK : K (a.put o.dst v') w') :
    if Region.wanted o (yielded ops a.tmps) = true then Oper.wp P o a w K Q else E := by
  have hw : Region.wanted o (yielded ops a.tmps) = true := by simp [Region.wanted, hg]
  rw [if_pos hw]
  unfold Oper.wp
  have hrun' : (app22 o.type #[v0, vx]).run P w = .ok v' w' := hrun
  simp [execOp, hop, resolve, invoke, builtin, hs, hx, hrun', append_app22, Result.andThen]
  exact hK
set_option maxRecDepth 20000 in
set_option maxHeartbeats 4000000 in
theorem plan_append_gen (f bf bn bb : Nat) (K : Nat → Option (List UInt8)) (m : Option Nat) (n k : Nat) (T : Tb) (F : Nat → Prop) (b : Nat → Nat) (h : Nat → Value) (s : ByteArray) (i : Nat) (a a0 : Option Addr) (c c0 N D0 : Nat) (room : Nat) (w : World)
    (hr : w.cell? ⟨f, 2, none⟩ = some (.int .i64 (room : Int))) (hc : w.cell? ⟨f, 3, none⟩ = some (.map m)) (hu : w.cell? ⟨f, 4, none⟩ = some (.int .i64 T.u))
    (hT : TabM w K m n T F b h) (hok : T.Ok k) (hk : k ≤ 100000) (hs : s.size ≤ 300) (hN : T.N s = some i) (hh : h i = .slice a0 D0 c0) (hD : D0 ≤ 1048576) (hd : N + D0 ≤ 1048576) (hb : T.u + (N : Int) ≤ (room : Int)) (hroom : room ≤ 1073741824)
    (h2 : w.cell? ⟨bf, 0, none⟩ = some (.pointer (some ⟨f, 0, none⟩))) (h3 : w.cell? ⟨bn, 0, none⟩ = some (.string s)) (h1 : w.cell? ⟨bb, 0, none⟩ = some (.slice a N c))
    (B : World) (Q : List (Nat × Obj) → Value → Prop) (hQ : ∀ L v, Q L v → Bytes L) (h1B : B.cell? ⟨bb, 0, none⟩ = some (.slice a N c)) (h3B : B.cell? ⟨bn, 0, none⟩ = some (.string s))
    (hAp : ∀ (W : World) (L : List (Nat × Obj)), Inv (fun _ => False) w W L → ∃ a' c' L' w', (∀ ty, (Builtin.append_ #[39, 39] ty #[.slice a0 D0 c0, .slice a N c]).run Tryz.prog W = .ok (.slice a' (D0 + N) c') w') ∧ Q L' (.slice a' (D0 + N) c') ∧ Inv (fun _ => False) B w' (L ++ L')) :
    Calls Tryz.prog 192 #[.pointer (some ⟨bf, 0, none⟩), .pointer (some ⟨bn, 0, none⟩), .pointer (some ⟨bb, 0, none⟩)] w fun e w' => ∃ pn pd a' c' L, e = .returned (.tuple #[.func (.func 193) #[] #[.pointer (some ⟨pn, 0, none⟩), .pointer (some ⟨pd, 0, none⟩)], .int .i64 0]) ∧ Q L (.slice a' (D0 + N) c') ∧ Inv (fun _ => False) B w' ((pd, .cells #[.slice a' (D0 + N) c'] 39 (0, 0)) :: (pn, .cells #[.string s] 9 (0, 0)) :: L) := by
  have HAp := hide hAp
  have HN := hide (fun (W : World) (L : List (Nat × Obj)) (hI : Inv (fun _ => False) w W L) => clone_inv s W (by omega) hI)
  have HQ := hide hQ
  clear hAp hQ
  generalize D0 + N = M at *
  have hs2 : s.size ≤ maxLen := by simp only [maxLen]; omega
  have hi := hT.live s i hN
  have hfi := hT.file i hi
  have hTW : ∀ W : World, W.heap = w.heap → TabM W K m n T F b h := fun W hW => hT.kept (fun _ _ => by rw [hW]) (fun _ _ => by rw [hW])
  have hC : ∀ W : World, W.heap = w.heap → W.cell? ⟨f, 3, none⟩ = some (.map m) := fun W hW => by rw [World.cell?_of_block (w := w) (a := ⟨f, 3, none⟩) (by rw [hW])]; exact hc
  have HH := hide (fun W (hW : W.heap = w.heap) => has_tab f 3 K m n T F b h s W (hC W hW) (hTW W hW) hs2)
  rw [hN] at HH
  have HK := hide (fun W (hW : W.heap = w.heap) => tab_look (hTW W hW).tab hs2)
  simp only [hN, Option.map_some] at HK
  unfold ptr at HK
  have hg0 : w.cell? ⟨b i, 0, none⟩ = some (.slice a0 D0 c0) := by simp [World.cell?, hfi, hh]
  have hub := hok.ub
  clear hTW hC hT hfi hi hN hh
  generalize b i = g0 at *
  generalize T.u = u at *
  go_enter Tryz.func192, Tryz.ntmps192
  go_wp2_with fail
  go_quiet (first | (go_at_call 67; exact Calls.quiet_of_same (unhide HH _ rfl)))
  obtain ⟨W1, hW1, hx1⟩ : ∃ W1 : World, W1.heap = w.heap ∧ W1 = w.drewN nq := ⟨w.drewN nq, rfl, rfl⟩
  have hI1 : Inv (fun _ => False) w W1 [] := by rw [hx1]; exact (Inv.refl _ _).drewN _
  have e1 : W1.cell? ⟨bb, 0, none⟩ = some (.slice a N c) := hI1.cell h1 id
  have e2 : W1.cell? ⟨bf, 0, none⟩ = some (.pointer (some ⟨f, 0, none⟩)) := hI1.cell h2 id
  have e3 : W1.cell? ⟨bn, 0, none⟩ = some (.string s) := hI1.cell h3 id
  have e4 : W1.cell? ⟨f, 4, none⟩ = some (.int .i64 u) := hI1.cell hu id
  have e5 : W1.cell? ⟨f, 2, none⟩ = some (.int .i64 (room : Int)) := hI1.cell hr id
  have e6 : W1.cell? ⟨f, 3, none⟩ = some (.map m) := hI1.cell hc id
  have e7 : W1.cell? ⟨g0, 0, none⟩ = some (.slice a0 D0 c0) := hI1.cell hg0 id
  have hlk : ∀ q, (Instr.lookup 87 (.map m) (.string s) false).run Tryz.prog (W1.drewN q) = .ok (.pointer (some ⟨g0, 0, none⟩)) (W1.drewN q) := fun q => unhide HK (W1.drewN q) hW1
  have hlk0 : (Instr.lookup 87 (.map m) (.string s) false).run Tryz.prog W1 = .ok (.pointer (some ⟨g0, 0, none⟩)) W1 := unhide HK W1 hW1
  rw [← hx1]
  have hw1 : IntKind.i64.wrap (1048576 - (D0 : Int)) = 1048576 - (D0 : Int) := wrap64 (by omega)
  have hw2 : IntKind.i64.wrap ((room : Int) - u) = (room : Int) - u := wrap64 (by omega)
  have hbI : ¬ ((room : Int) - u < (N : Int)) := by omega
  have hbJ : ¬ (1048576 - (D0 : Int) < (N : Int)) := by omega
  have HI1 := hide hI1
  clear hx1 hW1 hI1 HH HK
  go_wp2_with fail
  go_quiet (fail)
  obtain ⟨W2, hx2⟩ : ∃ W2 : World, W2 = W1.drewN nq := ⟨W1.drewN nq, rfl⟩
  have hst : Inv (fun _ => False) w W2 [] := by rw [hx2]; exact (unhide HI1).drewN _
  rw [← hx2]
  clear hx2 e1 e2 e3 e4 e5 e6 e7 hlk hlk0 HI1
  have k1 : W2.cell? ⟨bb, 0, none⟩ = some (.slice a N c) := hst.cell h1 id
  have k2 : W2.cell? ⟨bf, 0, none⟩ = some (.pointer (some ⟨f, 0, none⟩)) := hst.cell h2 id
  have k4 : W2.cell? ⟨f, 4, none⟩ = some (.int .i64 u) := hst.cell hu id
  have k5 : W2.cell? ⟨f, 2, none⟩ = some (.int .i64 (room : Int)) := hst.cell hr id
  have HI2 := hide hst
  clear hst
  go_wp2_with fail
  go_quiet (fail)
  obtain ⟨W3, hx3⟩ : ∃ W3 : World, W3 = W2.drewN nq := ⟨W2.drewN nq, rfl⟩
  have hst : Inv (fun _ => False) w W3 [] := by rw [hx3]; exact (unhide HI2).drewN _
  rw [← hx3]
  clear hx3 k1 k2 k4 k5 HI2
  have k1 : W3.cell? ⟨bb, 0, none⟩ = some (.slice a N c) := hst.cell h1 id
  have k3 : W3.cell? ⟨bn, 0, none⟩ = some (.string s) := hst.cell h3 id
  have kl1 := hst.clt h1
  have kl3 := hst.clt h3
  go_wp2_with fail
  go_region_held3 (fun W' => W'.cell? ⟨bb, 0, none⟩ = some (.slice a N c) ∧ W'.cell? ⟨bn, 0, none⟩ = some (.string s)) (go_keep) (first | (go_at_call 48; refine Calls.mono (unhide HN _ ?_ ?_) ?_; rotate_left; (first | exact hst | exact hst.drew | exact hst.alloc _ | exact hst.dalloc _ | exact hst.alloc2 _ _ | exact hst.dalloc2 _ _); rintro e w2 ⟨rfl, hst⟩; have kc1 := hst.cell h1 id; have kc3 := hst.cell h3 id; have kl1 := hst.clt h1; have kl3 := hst.clt h3; (try (obtain ⟨bx1, bz1, bl1, bm1, bo1⟩ := hst.bx (List.mem_cons_self ..); obtain ⟨nb1, nc1⟩ := hst.bne (List.mem_cons_self ..) h1; obtain ⟨nd1, ne1⟩ := hst.bne (List.mem_cons_self ..) h3)); (try (obtain ⟨bx2, bz2, bl2, bm2, bo2⟩ := hst.bx (List.mem_cons_of_mem _ (List.mem_cons_self ..)); obtain ⟨nb2, nc2⟩ := hst.bne (List.mem_cons_of_mem _ (List.mem_cons_self ..)) h1; obtain ⟨nd2, ne2⟩ := hst.bne (List.mem_cons_of_mem _ (List.mem_cons_self ..)) h3))) | ((first | (obtain ⟨av, cv, L3, w3, hrun, hND, hst⟩ := unhide HAp _ _ hst; refine step_app (by rfl) _ _ (by rfl) _ _ _ _ (by rfl) (by rfl) (hrun _) ?_) | (obtain ⟨av, cv, L3, w3, hrun, hND, hst⟩ := unhide HAp _ _ (hst.alloc _); refine step_app (by rfl) _ _ (by rfl) _ _ _ _ (by rfl) (by rfl) (hrun _) ?_) | (obtain ⟨av, cv, L3, w3, hrun, hND, hst⟩ := unhide HAp _ _ (hst.alloc2 _ _); refine step_app (by rfl) _ _ (by rfl) _ _ _ _ (by rfl) (by rfl) (hrun _) ?_)); clear hrun; have kc1 := hst.cell h1B id; have kc3 := hst.cell h3B id; have kl1 := hst.clt h1B; have kl3 := hst.clt h3B; (try (obtain ⟨bx1, bz1, bl1, bm1, bo1⟩ := hst.bx (List.mem_append_left _ (List.mem_cons_self ..)); obtain ⟨nb1, nc1⟩ := hst.bne (List.mem_append_left _ (List.mem_cons_self ..)) h1B; obtain ⟨nd1, ne1⟩ := hst.bne (List.mem_append_left _ (List.mem_cons_self ..)) h3B)); (try (obtain ⟨bx2, bz2, bl2, bm2, bo2⟩ := hst.bx (List.mem_append_left _ (List.mem_cons_of_mem _ (List.mem_cons_self ..))); obtain ⟨nb2, nc2⟩ := hst.bne (List.mem_append_left _ (List.mem_cons_of_mem _ (List.mem_cons_self ..))) h1B; obtain ⟨nd2, ne2⟩ := hst.bne (List.mem_append_left _ (List.mem_cons_of_mem _ (List.mem_cons_self ..))) h3B; obtain ⟨tn1, tn2⟩ := hst.tne (List.mem_append_left _ (List.mem_cons_self ..)) (List.mem_append_left _ (List.mem_cons_of_mem _ (List.mem_cons_self ..))) rfl))))
  all_goals
    have HST := hide hst
    have HND := hide hND
    clear hst hND
    go_wp2_with fail
    go_ret2
    have hst := unhide HST
    have hB := unhide HQ _ _ (unhide HND)
    refine ⟨_, _, av, cv, L3, rfl, unhide HND, ?_⟩
    first
      | exact hst.finA
      | exact hst.finB
      | exact hst.finC hB rfl
      | exact hst.finD hB rfl
      | exact hst.finE (List.mem_cons_self ..) (List.mem_cons_of_mem _ (List.mem_cons_self ..)) (by omega) hB rfl rfl
      | exact hst.finE (List.mem_cons_of_mem _ (List.mem_cons_self ..)) (List.mem_cons_self ..) (by omega) hB rfl rfl
end Go.Proofs.YtebcmicmklpflaaGreatDoor
/- What Link plans. -/
namespace Go.Proofs.YtebcmicmklpflaaGreatDoor
open Go.RowKit Go.Maps
end Go.Proofs.YtebcmicmklpflaaGreatDoor
/- Link, where it is done. -/
namespace Go.Proofs.YtebcmicmklpflaaGreatDoor
open Go.RowKit Go.Maps
end Go.Proofs.YtebcmicmklpflaaGreatDoor
/- Append, where it is done. -/
namespace Go.Proofs.YtebcmicmklpflaaGreatDoor
open Go.RowKit Go.Maps
set_option linter.unusedSimpArgs false
/-- A data block is another one, all else stands. -/
theorem FsM.redata {w w' : World} {f : Nat} {lk : Int} {S : Fs} {X : List Th} {O : Nat → Prop} {K K' : Nat → Option (List UInt8)} {n l : Lie} {pv : Value} {ps : List Value} (h : FsM w f lk S X O K n l pv ps) {g : Nat} {cur : Array Value} (hs : w'.heap.size = w.heap.size) (hw : ∀ q, q ≠ g → w'.heap[q]? = w.heap[q]?) (hgw : w.heap[g]? = some (.cells cur 5 (0, 0)))
    (hK : Kle K K') (hk : KOK w' K') (hO : ∀ g x, K' g = some x → O g) (e' : Nat → Prop) (hr : ∀ i, n.F i → ¬ e' i → Rm w' K' (n.h i)) (hx : ∀ i, n.e i → e' i) : FsM w' f lk S X O K' { n with e := e' } l pv ps := by
  have keep : ∀ (q : Nat) (x : Array Value) (ty : TypeId) (z : Nat × Nat), w.heap[q]? = some (Obj.cells x ty z) → ty ≠ 5 → w'.heap[q]? = w.heap[q]? := fun q x ty z hq h1 => hw q (tag_ne hq hgw h1)
  have keepm : ∀ {T : Tb} {a : Lie}, TabL w K O T a → ∀ q, a.m = some q → w'.heap[q]? = w.heap[q]? := fun hT q e => hw q (by
    have := hT.tab.tab
    rw [e] at this
    exact map_ne this hgw)
  have hTL : ∀ {T : Tb} {a : Lie}, TabL w K O T a → TabL w' K' O T a := fun hT => ⟨(hT.tab.kept (keepm hT) (fun i hi => keep _ _ _ _ (hT.tab.file i hi) (by decide))).learnt hK, hT.ok, hT.nk, hT.om, hT.ob, hT.st⟩
  have hrow : w'.ownsRow 0 120 1 pv S.pend.length ps := by
    refine ⟨h.row.1, h.row.2.imp id ?_⟩
    rintro ⟨g', cap, cur', e, h1, h2, h3⟩
    exact ⟨g', cap, cur', e, h1, by rw [keep _ _ _ _ h2 (by decide)]; exact h2, h3⟩
  have hn := hTL h.now
  exact ⟨(keep _ _ _ _ h.blk (by decide)).trans h.blk, ⟨hn.tab, hn.ok, hn.nk, hn.om, hn.ob, hn.st⟩, hTL h.las, h.dis, h.mdis, hk, hr, fun i j hi hj h1 h2 => h.ap i j hi hj (fun e => h1 (hx i e)) (fun e => h2 (hx j e)), hrow, fun j v t e1 e2 => (h.ths j v t e1 e2).mono hK (fun _ o => o) (fun q x ty _ hq ht => keep q _ _ _ hq (by rcases ht with rfl | rfl <;> decide)), h.run, h.kb, h.nb, h.pl, h.room, h.fz, h.of, hO, h.op, fun q o => by rw [hs]; exact h.lt q o⟩
theorem prefix_eq {a b : List UInt8} (h : a <+: b) (hl : a.length = b.length) : a = b := h.eq_of_length hl
theorem byteVals_append (a b : List UInt8) : byteVals (a ++ b) = byteVals a ++ byteVals b := by simp [byteVals]
theorem byteVals_len (a : List UInt8) : (byteVals a).length = a.length := by simp [byteVals]
/-- The room behind a file's bytes is filled. -/
theorem FsM.inplace {w : World} {f : Nat} {lk : Int} {S : Fs} {X : List Th} {O : Nat → Prop} {K : Nat → Option (List UInt8)} {n l : Lie} {pv : Value} {ps : List Value} (h : FsM w f lk S X O K n l pv ps) (he : ∀ i, ¬ n.e i) {i g D0 c0 : Nat} (hi : n.F i) (hh : n.h i = .slice (some ⟨g, 0, none⟩) D0 c0) (d : List UInt8) (hd : 0 < d.length) (hfit : D0 + d.length ≤ c0) :
    ∃ cur, w.heap[g]? = some (.cells cur 5 (0, 0)) ∧ cur.size = c0 ∧ (S.now.D i).length = D0 ∧
      FsM (w.setRow g (cur.toList.take D0 ++ byteVals d ++ cur.toList.drop (D0 + d.length)).toArray) f lk S X O (learn K g (S.now.D i ++ d)) { n with e := fun j => j = i } l pv ps ∧
      DataIs (learn K g (S.now.D i ++ d)) (.slice (some ⟨g, 0, none⟩) (D0 + d.length) c0) (S.now.D i ++ d) ∧
      Rm (w.setRow g (cur.toList.take D0 ++ byteVals d ++ cur.toList.drop (D0 + d.length)).toArray) (learn K g (S.now.D i ++ d)) (.slice (some ⟨g, 0, none⟩) (D0 + d.length) c0) ∧
      ∀ j, n.F j → j ≠ i → Apart (.slice (some ⟨g, 0, none⟩) (D0 + d.length) c0) (n.h j) ∧ Apart (n.h j) (.slice (some ⟨g, 0, none⟩) (D0 + d.length) c0) := by
  obtain ⟨l0, cur, hK, hl, hg, hsz⟩ := h.rm i hi (he i) g D0 c0 hh (by omega)
  have hdat := h.now.tab.data i hi
  have hlen : (S.now.D i).length = D0 := by
    obtain ⟨a, c, e, _⟩ := hdat
    rw [hh] at e
    injection e with _ e
    exact e.symm
  have hcm : c0 ≤ maxLen := by
    obtain ⟨a, c, e, _, hm, _⟩ := hdat
    rw [hh] at e
    injection e with _ _ e
    rw [e]; exact hm
  have hpre : S.now.D i <+: l0 := by
    obtain ⟨a, c, e, _, _, h3⟩ := hdat
    rw [hh] at e
    injection e with e
    rcases h3 with ⟨ea, _⟩ | ⟨g', l', ea, hk, hp⟩
    · rw [ea] at e; cases e
    · rw [ea] at e
      injection e with e
      injection e with e
      subst e
      rw [hK] at hk
      injection hk with hk
      subst hk
      exact hp
  have hEq : S.now.D i = l0 := prefix_eq hpre (by omega)
  obtain ⟨cur2, hg2, hp2⟩ := h.kok g l0 hK
  have hcur : cur2 = cur := by
    rw [hg] at hg2
    injection hg2 with hg2
    injection hg2 with hg2
    exact hg2.symm
  subst hcur
  have htake : cur2.toList.take D0 = byteVals (S.now.D i) := by
    have := List.prefix_iff_eq_take.1 hp2
    rw [byteVals_len, hl] at this
    rw [hEq]; exact this.symm
  have hnew := setRow_heap w g cur2 (cur2.toList.take D0 ++ byteVals d ++ cur2.toList.drop (D0 + d.length)).toArray 5 (0, 0) hg
  have hother : ∀ q, q ≠ g → (w.setRow g (cur2.toList.take D0 ++ byteVals d ++ cur2.toList.drop (D0 + d.length)).toArray).heap[q]? = w.heap[q]? := fun q hq => setRow_other w g q _ hq
  have hle : Kle K (learn K g (S.now.D i ++ d)) := Kle.learn fun x e => by
    rw [hK] at e
    injection e with e
    subst e
    rw [hEq]
    exact List.prefix_append _ _
  have hap : ∀ j, n.F j → j ≠ i → ∀ m c, n.h j = .slice (some ⟨g, 0, none⟩) m c → m < c → False := fun j hj hne m c e hlt => h.ap i j hi hj (he i) (he j) (Ne.symm hne) g D0 c0 m c hh e (by omega) hlt
  have hns : (cur2.toList.take D0 ++ byteVals d ++ cur2.toList.drop (D0 + d.length)).toArray.size = c0 := by
    simp [byteVals_len]
    omega
  refine ⟨cur2, hg, hsz, hlen, h.redata (g := g) (by simp [World.setRow]) hother hg hle ?_ ?_ _ ?_ (fun j e => absurd e (he j)), ⟨some ⟨g, 0, none⟩, c0, ?_, ?_, hcm, .inr ⟨g, _, rfl, learn_same, List.prefix_refl _⟩⟩, ?_, fun j hj hne => ⟨?_, ?_⟩⟩
  · intro q x e
    by_cases eq : q = g
    · subst eq
      rw [learn_same] at e
      injection e with e
      subst e
      refine ⟨_, hnew, ?_⟩
      rw [byteVals_append, htake]
      simp
    · rw [learn_ne eq] at e
      rw [hother q eq]
      exact h.kok q x e
  · intro q x e
    by_cases eq : q = g
    · subst eq; exact h.oK q l0 hK
    · rw [learn_ne eq] at e; exact h.oK q x e
  · intro j hj hne q m c e hlt
    have hq : q ≠ g := fun eq => by subst eq; exact hap j hj hne m c e hlt
    obtain ⟨l', cur', k1, k2, k3, k4⟩ := h.rm j hj (he j) q m c e hlt
    exact ⟨l', cur', by rw [learn_ne hq]; exact k1, k2, by rw [hother q hq]; exact k3, k4⟩
  · rw [List.length_append, hlen]
  · rw [List.length_append, hlen]; exact hfit
  · intro q m c e _
    injection e with e1 e2 e3
    injection e1 with e1
    injection e1 with e1
    subst e1 e2 e3
    exact ⟨_, _, learn_same, by rw [List.length_append, hlen], hnew, hns⟩
  · intro q m c m' c' e e' _ hlt
    injection e with e1
    injection e1 with e1
    injection e1 with e1
    subst e1
    exact hap j hj hne m' c' e' hlt
  · intro q m c m' c' e e' hlt _
    injection e' with e1
    injection e1 with e1
    injection e1 with e1
    subst e1
    exact hap j hj hne m c e hlt
/-- What Append does behind its plan, whatever the plan was. -/
theorem ready_fill {w1 B w2 : World} {f : Nat} {S : Fs} {O : Nat → Prop} {n l : Lie} {pv : Value} {ps : List Value} {k : Nat} (hk : n.k ≤ k) (hk2 : k ≤ 16000) {s : ByteArray} {d : List UInt8} {v : Value} {i : Nat} {L : List (Nat × Obj)} {pn pd : Nat} (he : ∀ j, j ≠ i → ¬ n.e j) (hs : s.size ≤ 300) (hd : d.length ≤ 1048576) (hN : S.now.N s = some i)
    (hF : FFr O O w1 B) (hI : Inv (fun _ => False) B w2 ((pd, .cells #[v] 39 (0, 0)) :: (pn, .cells #[.string s] 9 (0, 0)) :: L))
    (hX : ∃ K', FsM w2 f 1 S S.pend (grow O B w2) K' n l pv ps ∧ DataIs K' v d ∧ Rm w2 K' v ∧ ∀ j, n.F j → j ≠ i → Apart v (n.h j) ∧ Apart (n.h j) v) :
    Ready f S O (S.now.put i d) (.fill s d) k w1 w2 193 (.pointer (some ⟨pn, 0, none⟩)) (.pointer (some ⟨pd, 0, none⟩)) := by
  obtain ⟨K', hM, hD, hR, hA⟩ := hX
  have m1 : (pn, Obj.cells #[.string s] 9 (0, 0)) ∈ ((pd, Obj.cells #[v] 39 (0, 0)) :: (pn, Obj.cells #[.string s] 9 (0, 0)) :: L) := List.mem_cons_of_mem _ (List.mem_cons_self ..)
  have m2 : (pd, Obj.cells #[v] 39 (0, 0)) ∈ ((pd, Obj.cells #[v] 39 (0, 0)) :: (pn, Obj.cells #[.string s] 9 (0, 0)) :: L) := List.mem_cons_self ..
  have b1 := hI.held _ m1
  have b2 := hI.held _ m2
  have l1 := hI.lt m1
  have l2 := hI.lt m2
  have g1 := hI.new _ m1
  have g2 := hI.new _ m2
  simp only at b1 b2 l1 l2 g1 g2
  have hT : ThIs w2 K' (grow O B w2) (.func (.func 193) #[] #[.pointer (some ⟨pn, 0, none⟩), .pointer (some ⟨pd, 0, none⟩)]) (.fill s d) := ⟨pn, pd, v, rfl, .inr ⟨g1, l1⟩, .inr ⟨g2, l2⟩, b1, b2, hD, hs, hd⟩
  refine ⟨enters58, grow O B w2, K', n, l, pv, ps, hM, hk, hF.trans (FFr.of_inv hI), hT, ?_⟩
  obtain ⟨_, _, h3, h4, _, _, _, _, _, hz⟩ := hM.cells
  have hnk := hM.now.nk
  refine (do_fill_any f 3 pn pd K' n.m n.n n.k S.now n.F n.b n.h s d v i w2 h3 h4 hz hM.now.tab hM.now.ok (by omega) (by simp only [maxLen]; omega) (hM.bne hM.now) hN hD hd (hI.bx m1).1 (hI.bx m2).1).mono ?_
  rintro e w3 ⟨rfl, hTb, hDn⟩
  exact ⟨rfl, _, by show n.k + 3 ≤ k + 3; omega, fun _ => id, hM.filled hN hd hTb hDn hR hA he, FFr.of_tfr hM hDn.fr, hT.tagged hM hDn.fr (fun _ o => .inl o)⟩
/-- Nothing is laid behind a slice. -/
theorem run_append_none (a0 a : Option Addr) (D0 c0 c : Nat) (h : D0 ≤ c0) (ty : TypeId) (W : World) : (Builtin.append_ #[39, 39] ty #[.slice a0 D0 c0, .slice a 0 c]).run Tryz.prog W = .ok (.slice a0 (D0 + 0) c0) W := by
  obtain ⟨i, hi', hz, hsz, hby⟩ := info5
  have hn : D0 + 0 ≤ c0 := h
  cases a0 <;> cases a <;> simp [Builtin.append_, run_underlying Tryz.underlying39, sizeOf, typeInfo, hi', Builtin.lenOf, Builtin.firstCells, loadCells, loadCellsFrom, storeCells, h]
end Go.Proofs.YtebcmicmklpflaaGreatDoor
/- Append, where it is done: three ways of its bytes. -/
namespace Go.Proofs.YtebcmicmklpflaaGreatDoor
open Go.RowKit Go.Maps
set_option linter.unusedSimpArgs false
theorem Inv.setRow {w W : World} {L : List (Nat × Obj)} (h : Inv (fun _ => False) w W L) {g : Nat} (hg : g < w.heap.size) {cur nc : Array Value} (hw : w.heap[g]? = some (.cells cur 5 (0, 0))) : Inv (fun _ => False) (w.setRow g nc) (W.setRow g nc) L := by
  have hW : W.heap[g]? = some (.cells cur 5 (0, 0)) := (h.blk g hg id).trans hw
  refine ⟨h.os, h.tape, h.output, by simp [World.setRow]; exact h.size, fun q h1 _ => ?_, fun p hp => ?_, fun p hp => by simp [World.setRow]; exact h.new p hp⟩
  · by_cases e : q = g
    · rw [e, setRow_heap W g cur nc 5 (0, 0) hW, setRow_heap w g cur nc 5 (0, 0) hw]
    · rw [setRow_other W g q nc e, setRow_other w g q nc e]
      exact h.blk q (by simpa [World.setRow] using h1) id
  · rw [setRow_other W g p.1 nc (by have := h.new p hp; omega)]
    exact h.held p hp
theorem Row.src {hi : Nat} {w : World} {a : Option Addr} {c : Nat} {d : List UInt8} (h : Row hi w (.slice a d.length c) d) (hd : 0 < d.length) : ∃ g o, a = some ⟨g, o, none⟩ ∧ g < hi ∧ ∀ j u, (byteVals d)[j]? = some u → w.cell? ((⟨g, o, none⟩ : Addr).add j) = some u := by
  obtain ⟨a', c', e, _, hx⟩ := h
  obtain ⟨g, o, ea, hg, hcell⟩ := hx hd
  injection e with e1
  refine ⟨g, o, e1.trans ea, hg, fun j u hj => ?_⟩
  rw [show (⟨g, o, none⟩ : Addr).add j = ⟨g, o + j, none⟩ from by unfold Addr.add; split <;> simp_all]
  exact hcell j u hj
theorem byte_one {d : List UInt8} : ∀ u ∈ byteVals d, u.oneCell' = true := fun u hu => by obtain ⟨b, -, rfl⟩ := List.mem_map.1 hu; rfl
/-- Bytes behind bytes, where there is room. -/
theorem app_room {w W : World} {L : List (Nat × Obj)} (hI : Inv (fun _ => False) w W L) {hi g D0 c0 c : Nat} {a : Option Addr} {d : List UInt8} {cur : Array Value} (hg : w.heap[g]? = some (.cells cur 5 (0, 0))) (hsz : cur.size = c0) (hfit : D0 + d.length ≤ c0) (hd : 0 < d.length) (hrow : Row hi w (.slice a d.length c) d) (ty : TypeId) :
    (Builtin.append_ #[39, 39] ty #[.slice (some ⟨g, 0, none⟩) D0 c0, .slice a d.length c]).run Tryz.prog W = .ok (.slice (some ⟨g, 0, none⟩) (D0 + d.length) c0) (W.setRow g (cur.toList.take D0 ++ byteVals d ++ cur.toList.drop (D0 + d.length)).toArray) := by
  obtain ⟨i, hi', hz, hs, hby⟩ := info5
  obtain ⟨gs, o, rfl, _, hcell⟩ := Row.src (hrow.inv hI (fun _ _ => id)) hd
  have hgl : g < w.heap.size := (Array.getElem?_eq_some_iff.1 hg).1
  have := run_append_room (P := Tryz.prog) W 39 ty 5 i Tryz.underlying39 hi' g D0 c0 cur ((hI.blk g hgl id).trans hg) ⟨gs, o, none⟩ d.length c (byteVals d) (by rw [byteVals_len, hs]; omega) hcell byte_one hfit (by rw [byteVals_len, hs]; omega)
  rw [hs, byteVals_len, Nat.mul_one] at this
  exact this
theorem zeros_len (z : Value) (h : z.cells.size = 1) (n : Nat) : (Builtin.zeroCells z.cells n).size = n := by rw [size_zeroCells, h, Nat.mul_one]
/-- Bytes behind bytes, where there is no room. -/
theorem app_grow {w W : World} {L : List (Nat × Obj)} (hI : Inv (fun _ => False) w W L) {K : Nat → Option (List UInt8)} (hK : KOK w K) {hi D0 c0 c : Nat} {a0 a : Option Addr} {d0 d : List UInt8} (hdat : DataIs K (.slice a0 D0 c0) d0) (hD0 : d0.length = D0) (hno : c0 < D0 + d.length) (hd : 0 < d.length) (hmax : D0 + d.length ≤ 1048576) (hrow : Row hi w (.slice a d.length c) d) :
    ∃ a' c' L' w', (∀ ty, (Builtin.append_ #[39, 39] ty #[.slice a0 D0 c0, .slice a d.length c]).run Tryz.prog W = .ok (.slice a' (D0 + d.length) c') w') ∧ NewData w.heap.size L' (.slice a' (D0 + d.length) c') (d0 ++ d) ∧ Inv (fun _ => False) w w' (L ++ L') := by
  obtain ⟨i, hi', hz, hs, hby⟩ := info5
  obtain ⟨gs, o, rfl, _, hcell⟩ := Row.src (hrow.inv hI (fun _ _ => id)) hd
  have hlen : (d0 ++ d).length = D0 + d.length := by rw [List.length_append, hD0]
  have key : ∀ old : Nat, Inv (fun _ => False) w (W.drew.alloc (.cells ((byteVals d0).toArray ++ (byteVals d).toArray ++ Builtin.zeroCells (Value.int .u8 0).cells (grownCap W (D0 + d.length) old 5 - (D0 + d.length))) 5)) (L ++ [(W.heap.size, .cells ((byteVals d0).toArray ++ (byteVals d).toArray ++ Builtin.zeroCells (Value.int .u8 0).cells (grownCap W (D0 + d.length) old 5 - (D0 + d.length))) 5 (0, 0))]) ∧
      NewData w.heap.size [(W.heap.size, .cells ((byteVals d0).toArray ++ (byteVals d).toArray ++ Builtin.zeroCells (Value.int .u8 0).cells (grownCap W (D0 + d.length) old 5 - (D0 + d.length))) 5 (0, 0))] (.slice (some ⟨W.heap.size, 0, none⟩) (D0 + d.length) (grownCap W (D0 + d.length) old 5)) (d0 ++ d) := fun old => by
    have hge := grownCap_ge W (D0 + d.length) old 5
    have hcm : grownCap W (D0 + d.length) old 5 ≤ maxLen := grownCap_le_maxLen W (D0 + d.length) old 5 (by simp only [maxLen]; omega)
    refine ⟨(hI.dalloc _).sub fun z hz => ?_, .inr ⟨W.heap.size, _, _, rfl, by rw [hlen], hI.size, by rw [hlen]; exact hge, hcm, ?_, ?_⟩⟩
    · rcases List.mem_append.1 hz with hz | hz
      · exact List.mem_cons_of_mem _ hz
      · simp only [List.mem_singleton] at hz
        rw [hz]; exact List.mem_cons_self ..
    · have hb : (byteVals (d0 ++ d)).length = D0 + d.length := by rw [byteVals_len, hlen]
      rw [byteVals_append, List.length_append, byteVals_len, byteVals_len] at hb
      simp only [Array.size_append, List.size_toArray, byteVals_len, zeros_len (.int .u8 0) rfl]
      omega
    · rw [hlen]
      simp only [Array.toList_append, List.toList_toArray, ← byteVals_append]
      rw [List.take_append_of_le_length (by rw [byteVals_len, hlen]; exact Nat.le_refl _)]
      rw [List.take_of_length_le (by rw [byteVals_len, hlen]; exact Nat.le_refl _)]
  cases a0 with
  | none =>
    obtain ⟨a', c', e, hle, _, h3⟩ := hdat
    injection e with e1 e2 e3
    have hc0 : c0 = 0 := by
      rcases h3 with ⟨_, e⟩ | ⟨g, l, e, _⟩
      · rw [e3]; exact e
      · rw [e] at e1; cases e1
    have hD : D0 = 0 := by omega
    subst hc0
    subst hD
    obtain rfl : d0 = [] := List.eq_nil_of_length_eq_zero hD0
    obtain ⟨k1, k2⟩ := key 0
    refine ⟨_, _, _, _, fun ty => ?_, k2, k1⟩
    have := run_append_nil (P := Tryz.prog) W 39 ty 5 i (.int .u8 0) Tryz.underlying39 hi' hz ⟨gs, o, none⟩ d.length c (byteVals d) (by rw [byteVals_len, hs]; omega) hcell hd (by omega) (by rw [hby]; omega)
    simpa [byteVals] using this
  | some b0 =>
    have hb0 : ∃ g, b0 = ⟨g, 0, none⟩ ∧ ∀ j u, (byteVals d0)[j]? = some u → W.cell? ((⟨g, 0, none⟩ : Addr).add j) = some u := by
      obtain ⟨a', c', e, hle, _, h3⟩ := hdat
      injection e with e1 e2 e3
      rcases h3 with ⟨e, _⟩ | ⟨g, l, e, hk, hp⟩
      · rw [e] at e1; cases e1
      · rw [e] at e1
        injection e1 with e1
        refine ⟨g, e1, fun j u hj => ?_⟩
        obtain ⟨cur, hc, hpc⟩ := hK g l hk
        have hgl : g < w.heap.size := (Array.getElem?_eq_some_iff.1 hc).1
        rw [show (⟨g, 0, none⟩ : Addr).add j = ⟨g, j, none⟩ from by unfold Addr.add; split <;> simp_all]
        have hW : W.heap[g]? = some (.cells cur 5 (0, 0)) := (hI.blk g hgl id).trans hc
        have hp2 : byteVals d0 <+: cur.toList := by
          obtain ⟨t, ht⟩ := hp
          rw [← ht, byteVals_append] at hpc
          exact (List.prefix_append _ _).trans hpc
        obtain ⟨t, ht⟩ := hp2
        have hj2 := (List.getElem?_eq_some_iff.1 hj).1
        simp only [World.cell?, hW]
        rw [← Array.getElem?_toList, ← ht, List.getElem?_append_left hj2]
        simpa using hj
    obtain ⟨g, rfl, hold⟩ := hb0
    obtain ⟨k1, k2⟩ := key c0
    refine ⟨_, _, _, _, fun ty => ?_, k2, k1⟩
    have := run_append_grow (P := Tryz.prog) W 39 ty 5 i (.int .u8 0) Tryz.underlying39 hi' hz ⟨g, 0, none⟩ D0 c0 (byteVals d0) (by rw [byteVals_len, hs]; omega) hold ⟨gs, o, none⟩ d.length c (byteVals d) (by rw [byteVals_len, hs]; omega) hcell hno (by omega) (growslice_fits (by omega) (by rw [hby]; omega))
    exact this
end Go.Proofs.YtebcmicmklpflaaGreatDoor
/- Append, where it is done. -/
namespace Go.Proofs.YtebcmicmklpflaaGreatDoor
open Go.RowKit Go.Maps
set_option linter.unusedSimpArgs false
theorem FFr.setRow {w : World} {O : Nat → Prop} {g : Nat} (hg : O g) (nc : Array Value) : FFr O O w (w.setRow g nc) :=
  ⟨rfl, rfl, rfl, by simp [World.setRow], fun q _ h2 => setRow_other w g q nc (fun e => h2 (by rw [e]; exact hg)), fun _ o => .inl o⟩
set_option maxHeartbeats 1000000 in
/-- What Append plans makes it ready. -/
theorem plan_append_ready {w1 : World} {f : Nat} {S : Fs} {O : Nat → Prop} {K : Nat → Option (List UInt8)} {n l : Lie} {pv : Value} {ps : List Value} {k : Nat} (h : FsM w1 f 1 S S.pend O K n l pv ps) (he : ∀ i, ¬ n.e i) (hk : n.k ≤ k) (hk2 : k ≤ 16000) (bf bn bb : Nat) (s : ByteArray) (i : Nat) (a : Option Addr) (c : Nat) (d : List UInt8) (hi : Nat)
    (hs : s.size ≤ 300) (hN : S.now.N s = some i) (hd : (S.now.D i).length + d.length ≤ 1048576) (hfit : S.now.u + (d.length : Int) ≤ (S.room : Int)) (hrow : Row hi w1 (.slice a d.length c) d)
    (h2 : w1.cell? ⟨bf, 0, none⟩ = some (.pointer (some ⟨f, 0, none⟩))) (h3 : w1.cell? ⟨bn, 0, none⟩ = some (.string s)) (h1 : w1.cell? ⟨bb, 0, none⟩ = some (.slice a d.length c)) (hb3 : w1.heap[bn]? = some (.cells #[.string s] 9 (0, 0))) (hb1 : w1.heap[bb]? = some (.cells #[.slice a d.length c] 39 (0, 0))) :
    Calls Tryz.prog 192 #[.pointer (some ⟨bf, 0, none⟩), .pointer (some ⟨bn, 0, none⟩), .pointer (some ⟨bb, 0, none⟩)] w1 fun e w2 => ∃ fn x y, e = .returned (.tuple #[.func (.func fn) #[] #[x, y], .int .i64 0]) ∧ Ready f S O (S.now.put i (S.now.D i ++ d)) (.fill s (S.now.D i ++ d)) k w1 w2 fn x y := by
  have hFi := h.now.tab.live s i hN
  have hdat := h.now.tab.data i hFi
  obtain ⟨a0, c0, hh⟩ := hdat.len
  obtain ⟨_, k2, k3, k4, _⟩ := h.cells
  have hdl : (S.now.D i ++ d).length = (S.now.D i).length + d.length := List.length_append ..
  have hcc : (S.now.D i).length ≤ c0 := by
    obtain ⟨a', c', e, hle, _⟩ := hdat
    rw [hh] at e
    injection e with _ _ e
    omega
  by_cases hd0 : d.length = 0
  · obtain rfl : d = [] := List.eq_nil_of_length_eq_zero hd0
    refine (plan_append_gen f bf bn bb K n.m n.n n.k S.now n.F n.b n.h s i a a0 c c0 0 (S.now.D i).length S.room w1 k2 k3 k4 h.now.tab h.now.ok (by omega) hs hN hh (by omega) (by omega) (by simpa using hfit) h.room h2 h3 h1 w1 (fun L v => L = [] ∧ v = .slice a0 (S.now.D i).length c0) (fun L v e => by rw [e.1]; intro z hz; cases hz) h1 h3 (fun W L hI => ⟨a0, c0, [], W, fun ty => run_append_none a0 a _ c0 c hcc ty W, ⟨rfl, rfl⟩, hI.an⟩)).mono ?_
    rintro e w2 ⟨pn, pd, a', c', L, e1, ⟨rfl, e2⟩, hI⟩
    refine ⟨193, _, _, e1, ready_fill hk hk2 (v := .slice a' ((S.now.D i).length + 0) c') (fun j _ => he j) hs (by rw [hdl]; exact hd) hN (FFr.refl _ _) hI ⟨K, h.grew hI.size (fun q hq => hI.blk q hq id), ?_, ?_, fun j hj hne => ?_⟩⟩
    · rw [List.append_nil, e2, ← hh]; exact hdat
    · rw [e2, ← hh]
      exact (h.rm i hFi (he i)).kept (fun g x hg => hI.blk g (h.lt g (h.oK g x hg)) id)
    · rw [e2, ← hh]
      exact ⟨h.ap i j hFi hj (he i) (he j) (Ne.symm hne), h.ap j i hj hFi (he j) (he i) hne⟩
  · by_cases hroom : (S.now.D i).length + d.length ≤ c0
    · have hg : ∃ g, a0 = some ⟨g, 0, none⟩ := by
        obtain ⟨a', c', e, _, _, h3⟩ := hdat
        rw [hh] at e
        injection e with e1 _ e3
        rcases h3 with ⟨_, e⟩ | ⟨g, _, e, _⟩
        · omega
        · exact ⟨g, e1.trans e⟩
      obtain ⟨g, rfl⟩ := hg
      obtain ⟨cur, hgc, hsz, _, hM, hD, hR, hA⟩ := h.inplace he hFi hh d (by omega) hroom
      have hgl : g < w1.heap.size := (Array.getElem?_eq_some_iff.1 hgc).1
      have hOg : O g := by
        obtain ⟨a', c', e, _, _, h3⟩ := hdat
        rw [hh] at e
        injection e with e1 _ e3
        rcases h3 with ⟨_, e⟩ | ⟨g', x, e, hk, _⟩
        · omega
        · rw [e] at e1
          injection e1 with e1
          injection e1 with e1
          subst e1
          exact h.oK _ _ hk
      refine (plan_append_gen f bf bn bb K n.m n.n n.k S.now n.F n.b n.h s i a (some ⟨g, 0, none⟩) c c0 d.length (S.now.D i).length S.room w1 k2 k3 k4 h.now.tab h.now.ok (by omega) hs hN hh (by omega) (by omega) hfit h.room h2 h3 h1 (w1.setRow g (cur.toList.take (S.now.D i).length ++ byteVals d ++ cur.toList.drop ((S.now.D i).length + d.length)).toArray) (fun L v => L = [] ∧ v = .slice (some ⟨g, 0, none⟩) ((S.now.D i).length + d.length) c0) (fun L v e => by rw [e.1]; intro z hz; cases hz)
        (by rw [cell_setRow_other _ _ _ _ (tag_ne hb1 hgc (by decide))]; exact h1) (by rw [cell_setRow_other _ _ _ _ (tag_ne hb3 hgc (by decide))]; exact h3)
        (fun W L hI => ⟨_, c0, [], _, fun ty => app_room hI hgc hsz hroom (by omega) hrow ty, ⟨rfl, rfl⟩, (hI.setRow hgl hgc).an⟩)).mono ?_
      rintro e w2 ⟨pn, pd, a', c', L, e1, ⟨rfl, e2⟩, hI⟩
      refine ⟨193, _, _, e1, ready_fill (n := { n with e := fun j => j = i }) hk hk2 (v := .slice a' ((S.now.D i).length + d.length) c') (fun j hj => hj) hs (by rw [hdl]; exact hd) hN (FFr.setRow hOg _) hI ⟨_, hM.grew hI.size (fun q hq => hI.blk q hq id), ?_, ?_, fun j hj hne => ?_⟩⟩
      · rw [e2]; exact hD
      · rw [e2]; exact hR.kept (fun g x hg => hI.blk g (hM.lt g (hM.oK g x hg)) id)
      · rw [e2]; exact hA j hj hne
    · refine (plan_append_gen f bf bn bb K n.m n.n n.k S.now n.F n.b n.h s i a a0 c c0 d.length (S.now.D i).length S.room w1 k2 k3 k4 h.now.tab h.now.ok (by omega) hs hN hh (by omega) (by omega) hfit h.room h2 h3 h1 w1 (fun L v => NewData w1.heap.size L v (S.now.D i ++ d)) (fun L v e => e.bytes) h1 h3 (fun W L hI => app_grow hI h.kok (hh ▸ hdat) rfl (by omega) (by omega) hd hrow)).mono ?_
      rintro e w2 ⟨pn, pd, a', c', L, e1, hND, hI⟩
      obtain ⟨K', hM, hD, hR, hA⟩ := h.ext hI hND (fun z hz => List.mem_cons_of_mem _ (List.mem_cons_of_mem _ hz))
      exact ⟨193, _, _, e1, ready_fill hk hk2 (fun j _ => he j) hs (by rw [hdl]; exact hd) hN (FFr.refl _ _) hI ⟨K', hM, hD, hR, fun j hj _ => hA j hj⟩⟩
set_option maxRecDepth 20000 in
set_option maxHeartbeats 2000000 in
theorem append_ok (f : Nat) (S : Fs) (O : Nat → Prop) (k : Nat) (s : ByteArray) (i : Nat) (a : Option Addr) (c : Nat) (d : List UInt8) (hi : Nat) (w : World) (h : FsIs w f 0 S O k) (hk : k ≤ 16000) (hf : S.fuse ≠ some 0) (hp : S.pend.length < 16383) (hs : 1 ≤ s.size ∧ s.size ≤ 300) (hN : S.now.N s = some i) (hd : (S.now.D i).length + d.length ≤ 1048576) (hfit : S.now.u + (d.length : Int) ≤ (S.room : Int)) (hrow : Row hi w (.slice a d.length c) d) :
    Calls Tryz.prog 144 #[.pointer (some ⟨f, 0, none⟩), .string s, .slice a d.length c] w fun e w' => e = .returned (.int .i64 0) ∧ ∃ O', FsIs w' f 0 (S.done (S.now.put i (S.now.D i ++ d)) (.fill s (S.now.D i ++ d))) O' (k + 3) ∧ FFr O O' w w' := by
  obtain ⟨K, n, l, pv, ps, hM, hnk, hex⟩ := h
  obtain ⟨w0, hw0⟩ : ∃ w0, w0 = (((w.alloc (.cells #[.pointer (some ⟨f, 0, none⟩)] 25)).alloc (.cells #[.string s] 9)).alloc (.cells #[.slice a d.length c] 39)).alloc (.cells #[.string s] 9) := ⟨_, rfl⟩
  have hI0 : Inv (fun _ => False) w w0 ((w.heap.size + 3, .cells #[.string s] 9 (0, 0)) :: (w.heap.size + 2, .cells #[.slice a d.length c] 39 (0, 0)) :: (w.heap.size + 1, .cells #[.string s] 9 (0, 0)) :: (w.heap.size, .cells #[.pointer (some ⟨f, 0, none⟩)] 25 (0, 0)) :: []) := by
    have h1 := (((((Inv.refl (fun _ => False) w).alloc (.cells #[.pointer (some ⟨f, 0, none⟩)] 25)).alloc (.cells #[.string s] 9)).alloc (.cells #[.slice a d.length c] 39)).alloc (.cells #[.string s] 9))
    simp only [World.size_alloc] at h1
    rw [hw0]
    exact h1
  have hM0 : FsM w0 f 0 S S.pend O K n l pv ps := hM.kept hI0.size (fun q o => hI0.blk q (hM.lt q o) id)
  have hfl : f < w.heap.size := hM.lt f hM.of
  obtain ⟨w1, hw1⟩ : ∃ w1, w1 = w0.setCell ⟨f, 0, none⟩ (.int .i32 1) := ⟨_, rfl⟩
  have hM1 : FsM w1 f 1 S S.pend O K n l pv ps := by rw [hw1]; exact hM0.lock 1
  have h00 := hM0.cells.1
  have hother : ∀ b v, b ≠ f → w0.cell? ⟨b, 0, none⟩ = some v → w1.cell? ⟨b, 0, none⟩ = some v := fun b v hb hc => by rw [hw1, World.cell?_setCell_other _ ⟨f, 0, none⟩ ⟨b, 0, none⟩ _ (by simp [Ne.symm hb])]; exact hc
  have hrow1 : Row hi w1 (.slice a d.length c) d := by rw [hw1]; exact Row.set (hrow.inv hI0 (fun _ _ => id)) h00 (fun z => by simp) _
  have q1 := hI0.held _ (List.mem_cons_of_mem _ (List.mem_cons_self ..))
  have q2 := hI0.held _ (List.mem_cons_of_mem _ (List.mem_cons_of_mem _ (List.mem_cons_self ..)))
  simp only at q1 q2
  have HP := plan_append_ready hM1 hex hnk hk w.heap.size (w.heap.size + 1) (w.heap.size + 2) s i a c d hi hs.2 hN hd hfit hrow1
    (hother _ _ (by omega) (hI0.bx (List.mem_cons_of_mem _ (List.mem_cons_of_mem _ (List.mem_cons_of_mem _ (List.mem_cons_self ..))))).1) (hother _ _ (by omega) (hI0.bx (List.mem_cons_of_mem _ (List.mem_cons_of_mem _ (List.mem_cons_self ..)))).1) (hother _ _ (by omega) (hI0.bx (List.mem_cons_of_mem _ (List.mem_cons_self ..))).1)
    (by rw [hw1, set_other _ _ _ _ _ (by omega)]; exact q2) (by rw [hw1, set_other _ _ _ _ _ (by omega)]; exact q1)
  rw [hw1] at HP
  have HC := change_ok f S O K n l pv ps w0 hM0 hf hp 192 (.pointer (some ⟨w.heap.size, 0, none⟩)) (.pointer (some ⟨w.heap.size + 1, 0, none⟩)) (.pointer (some ⟨w.heap.size + 2, 0, none⟩)) (w.heap.size + 3) [s] 1 (fun x hx => by simp at hx; subst hx; exact hs) (by simp) (fun j x hj => by
      cases j with
      | zero => simp at hj; subst hj; exact (hI0.bx (List.mem_cons_self ..)).1
      | succ j => simp at hj) (by omega) _ _ k enters57 HP
  have HC := hide (HC.mono fun e w' ⟨e1, O', h1, h2⟩ => (⟨e1, O', h1, (FFr.below ⟨hI0.os, hI0.tape, hI0.output, hI0.size, fun q hq => hI0.blk q hq id⟩).trans h2⟩ : e = Ending.returned (.int .i64 0) ∧ ∃ O', FsIs w' f 0 (S.done (S.now.put i (S.now.D i ++ d)) (.fill s (S.now.D i ++ d))) O' (k + 3) ∧ FFr O O' w w'))
  rw [hw0] at HC
  clear hI0 hM0 hM1 hM hrow hrow1 hother HP hw0 hw1 h00 q1 q2
  simp only [List.length_singleton] at HC
  generalize S.now.D i ++ d = dd at *
  generalize d.length = N at *
  go_enter Tryz.func144, Tryz.ntmps144
  go_wp2_with fail
  refine (unhide HC).mono ?_
  rintro e w9 ⟨rfl, hE⟩
  have HE := hide hE
  clear hE
  go_wp2_with fail
  go_ret
  exact ⟨rfl, unhide HE⟩
end Go.Proofs.YtebcmicmklpflaaGreatDoor
/- A journal in memory. -/
namespace Go.Proofs.YtebcmicmklpflaaGreatDoor
open Go.RowKit Go.Maps
set_option linter.unusedSimpArgs false
/-- A record's bytes, in a block of O. -/
def Rec (w : World) (O : Nat → Prop) (v : Value) (d : List UInt8) : Prop :=
  ∃ a c, v = .slice a d.length c ∧ d.length ≤ c ∧ c ≤ maxLen ∧ (0 < d.length → ∃ g cur, a = some ⟨g, 0, none⟩ ∧ O g ∧ w.heap[g]? = some (.cells cur 5 (0, 0)) ∧ byteVals d <+: cur.toList)
theorem Rec.kept {w w' : World} {O O' : Nat → Prop} {v : Value} {d : List UInt8} (h : Rec w O v d) (hO : ∀ q, O q → O' q) (hw : ∀ q, O q → w'.heap[q]? = w.heap[q]?) : Rec w' O' v d := by
  obtain ⟨a, c, e, h1, h2, h3⟩ := h
  refine ⟨a, c, e, h1, h2, fun h0 => ?_⟩
  obtain ⟨g, cur, ea, ho, hg, hp⟩ := h3 h0
  exact ⟨g, cur, ea, hO g ho, (hw g ho).trans hg, hp⟩
theorem Rec.row {w : World} {O : Nat → Prop} {v : Value} {d : List UInt8} (h : Rec w O v d) : Row w.heap.size w v d := by
  obtain ⟨a, c, e, h1, h2, h3⟩ := h
  refine ⟨a, c, e, h1, fun h0 => ?_⟩
  obtain ⟨g, cur, ea, ho, hg, hp⟩ := h3 h0
  refine ⟨g, 0, ea, (Array.getElem?_eq_some_iff.1 hg).1, fun j u hj => ?_⟩
  obtain ⟨t, ht⟩ := hp
  have hj' := (List.getElem?_eq_some_iff.1 hj).1
  have : cur.toList[j]? = some u := by rw [← ht, List.getElem?_append_left hj']; exact hj
  simp only [World.cell?, hg, Nat.zero_add]
  rw [← Array.getElem?_toList]
  exact this
theorem Rec.new {w : World} {O : Nat → Prop} {v : Value} {d : List UInt8} {lo : Nat} {L : List (Nat × Obj)} (h : NewData lo L v d) (hL : ∀ p ∈ L, w.heap[p.1]? = some p.2) (hO : ∀ p ∈ L, O p.1) : Rec w O v d := by
  rcases h with ⟨_, rfl, rfl⟩ | ⟨g, cap, cur, rfl, rfl, _, h1, h2, h3, h4⟩
  · exact ⟨none, 0, rfl, Nat.le_refl _, by simp [maxLen], fun h => absurd h (Nat.lt_irrefl _)⟩
  · exact ⟨_, cap, rfl, h1, h2, fun _ => ⟨g, cur, rfl, hO _ (List.mem_singleton.2 rfl), hL _ (List.mem_singleton.2 rfl), prefix_of_take h4⟩⟩
/-- A row of records. -/
def Recs (w : World) (O : Nat → Prop) (v : Value) (ds : List (List UInt8)) : Prop :=
  ∃ vals : List Value, w.ownsRow 0 39 1 v ds.length vals ∧ (∀ q, v.ownBlock = some q → O q) ∧ ∀ (j : Nat) (x : Value) (d : List UInt8), vals[j]? = some x → ds[j]? = some d → Rec w O x d
theorem ownsRow_kept {w w' : World} {e : TypeId} {k : Nat} {v : Value} {n : Nat} {xs : List Value} (h : w.ownsRow 0 e k v n xs) (hw : ∀ q, v.ownBlock = some q → w'.heap[q]? = w.heap[q]?) : w'.ownsRow 0 e k v n xs := by
  refine ⟨h.1, h.2.imp id ?_⟩
  rintro ⟨g, cap, cur, e, h1, h2, h3⟩
  exact ⟨g, cap, cur, e, h1, by rw [hw g (by rw [e]; rfl)]; exact h2, h3⟩
theorem Recs.kept {w w' : World} {O O' : Nat → Prop} {v : Value} {ds : List (List UInt8)} (h : Recs w O v ds) (hO : ∀ q, O q → O' q) (hw : ∀ q, O q → w'.heap[q]? = w.heap[q]?) : Recs w' O' v ds := by
  obtain ⟨vals, h1, h2, h3⟩ := h
  exact ⟨vals, ownsRow_kept h1 (fun q e => hw q (h2 q e)), fun q e => hO q (h2 q e), fun j x d e1 e2 => (h3 j x d e1 e2).kept hO hw⟩
theorem Recs.nil (w : World) (O : Nat → Prop) : Recs w O (.slice none 0 0) [] := ⟨[], ⟨rfl, .inl ⟨rfl, rfl⟩⟩, fun _ e => (by simp [Value.ownBlock] at e), fun j x d _ e => by simp at e⟩
/-- What lies in a group's block. -/
def grpCells (ah : Option Nat) (rv : Value) (dn lk : Int) (dg : List Nat) : List Value :=
  [.pointer (ah.map fun q => ⟨q, 0, none⟩), rv, .int .u32 dn, .int .i32 lk, .int .u32 0] ++ dg.map Dg.B8
def grpBlk (ah : Option Nat) (rv : Value) (dn lk : Int) (dg : List Nat) : Obj := .cells (grpCells ah rv dn lk dg).toArray 115 (0, 0)
/-- A group whose digest is told. -/
structure Grp (w : World) (O : Nat → Prop) (q : Nat) (ah : Option Nat) (ds : List (List UInt8)) (prev : List UInt8) : Prop where
  own : O q
  gr : ∃ rv, w.heap[q]? = some (grpBlk ah rv 1 0 (nats (dig prev ds))) ∧ Recs w O rv ds
theorem Grp.kept {w w' : World} {O O' : Nat → Prop} {q : Nat} {ah : Option Nat} {ds : List (List UInt8)} {prev : List UInt8} (h : Grp w O q ah ds prev) (hO : ∀ q, O q → O' q) (hw : ∀ q, O q → w'.heap[q]? = w.heap[q]?) : Grp w' O' q ah ds prev := by
  obtain ⟨h1, rv, h2, h3⟩ := h
  exact ⟨hO q h1, rv, (hw q h1).trans h2, h3.kept hO hw⟩
/-- Groups one behind the other, the first of them behind ah. -/
def Chain (w : World) (O : Nat → Prop) : Option Nat → List UInt8 → List Nat → List (List (List UInt8)) → Prop
  | _, _, [], [] => True
  | ah, prev, q :: qs, g :: gs => Grp w O q ah g prev ∧ Chain w O (some q) (dig prev g) qs gs
  | _, _, _, _ => False
theorem Chain.kept {w w' : World} {O O' : Nat → Prop} (hO : ∀ q, O q → O' q) (hw : ∀ q, O q → w'.heap[q]? = w.heap[q]?) : ∀ {qs : List Nat} {gs : List (List (List UInt8))} {ah : Option Nat} {prev : List UInt8}, Chain w O ah prev qs gs → Chain w' O' ah prev qs gs := by
  intro qs
  induction qs with
  | nil => intro gs ah prev h; cases gs with
    | nil => trivial
    | cons => exact h.elim
  | cons q qs ih => intro gs ah prev h; cases gs with
    | nil => exact h.elim
    | cons g gs => exact ⟨h.1.kept hO hw, ih h.2⟩
theorem Chain.len {w : World} {O : Nat → Prop} : ∀ {qs : List Nat} {gs : List (List (List UInt8))} {ah : Option Nat} {prev : List UInt8}, Chain w O ah prev qs gs → qs.length = gs.length := by
  intro qs
  induction qs with
  | nil => intro gs ah prev h; cases gs with
    | nil => rfl
    | cons => exact h.elim
  | cons q qs ih => intro gs ah prev h; cases gs with
    | nil => exact h.elim
    | cons g gs => simp [ih h.2]
/-- The last group's block. -/
def lastq (qs : List Nat) : Option Nat := qs.getLast?
theorem Chain.snoc {w : World} {O : Nat → Prop} {q : Nat} {g : List (List UInt8)} : ∀ {qs : List Nat} {gs : List (List (List UInt8))} {ah : Option Nat} {prev : List UInt8}, Chain w O ah prev qs gs → Grp w O q (if qs = [] then ah else lastq qs) g (digs prev gs) → Chain w O ah prev (qs ++ [q]) (gs ++ [g]) := by
  intro qs
  induction qs with
  | nil => intro gs ah prev h hg; cases gs with
    | nil => exact ⟨hg, trivial⟩
    | cons => exact h.elim
  | cons p qs ih => intro gs ah prev h hg; cases gs with
    | nil => exact h.elim
    | cons g' gs =>
      simp only [digs] at hg
      generalize hd : digs (dig prev g') gs = dd at hg
      refine ⟨h.1, ih h.2 ?_⟩
      rw [hd]
      by_cases hq : qs = []
      · subst hq
        simpa [lastq] using hg
      · rw [if_neg hq]
        rw [if_neg (by simp)] at hg
        have : lastq (p :: qs) = lastq qs := by unfold lastq; rw [List.getLast?_cons]; cases hl : qs.getLast? with
          | none => exact absurd (List.getLast?_eq_none_iff.1 hl) hq
          | some x => rfl
        rw [this] at hg
        exact hg
theorem Chain.at {w : World} {O : Nat → Prop} : ∀ {qs : List Nat} {gs : List (List (List UInt8))} {ah : Option Nat} {prev : List UInt8}, Chain w O ah prev qs gs → ∀ (j : Nat) (q : Nat) (g : List (List UInt8)), qs[j]? = some q → gs[j]? = some g → ∃ ah' prev', Grp w O q ah' g prev' := by
  intro qs
  induction qs with
  | nil => intro gs ah prev h j q g e; simp at e
  | cons p qs ih => intro gs ah prev h j q g e1 e2; cases gs with
    | nil => exact h.elim
    | cons g' gs =>
      cases j with
      | zero => simp at e1 e2; subst e1 e2; exact ⟨_, _, h.1⟩
      | succ j => simp at e1 e2; exact ih h.2 j q g e1 e2
/-- The last one of a chain has the digest of all. -/
theorem Chain.last {w : World} {O : Nat → Prop} : ∀ {qs : List Nat} {gs : List (List (List UInt8))} {ah : Option Nat} {prev : List UInt8}, Chain w O ah prev qs gs → ∀ q, lastq qs = some q → ∃ rv ah', w.heap[q]? = some (grpBlk ah' rv 1 0 (nats (digs prev gs))) ∧ O q := by
  intro qs
  induction qs with
  | nil => intro gs ah prev h q e; simp [lastq] at e
  | cons p qs ih => intro gs ah prev h q e; cases gs with
    | nil => exact h.elim
    | cons g' gs =>
      simp only [digs]
      by_cases hq : qs = []
      · subst hq
        cases gs with
        | cons => exact h.2.elim
        | nil =>
          simp [lastq] at e
          subst e
          obtain ⟨h1, rv, h2, _⟩ := h.1
          simp only [digs]
          exact ⟨rv, ah, h2, h1⟩
      · have : lastq (p :: qs) = lastq qs := by unfold lastq; rw [List.getLast?_cons]; cases hl : qs.getLast? with
          | none => exact absurd (List.getLast?_eq_none_iff.1 hl) hq
          | some x => rfl
        rw [this] at e
        exact ih h.2 q e
/-- A journal: its groups, what is laid down, whether its file is there, whether it is dead. -/
structure Jn where
  G : List (List (List UInt8))
  D : List (List UInt8)
  parts : Nat
  dead : Bool
/-- The journal's own block. -/
def jnBlk (f : Nat) (nm : ByteArray) (J : Jn) (gv lv : Value) : Obj :=
  .cells #[.pointer (some ⟨f, 0, none⟩), .string nm, .int .i64 (J.parts : Int), .slice none 0 0, .bool false, .slice none 0 0, gv, .int .i64 (wts J.G : Int), lv, .int .i64 (wt J.D : Int), .int .u32 (if J.dead then 1 else 0)] 102 (0, 0)
def ptrV (q : Nat) : Value := .pointer (some ⟨q, 0, none⟩)
end Go.Proofs.YtebcmicmklpflaaGreatDoor
/- Leaves of the journal: refusal, Drop, failed, last, number, part. -/
namespace Go.Proofs.YtebcmicmklpflaaGreatDoor
open Go.RowKit Go.Maps
set_option linter.unusedSimpArgs false
set_option maxRecDepth 20000 in
theorem bload_one (a : Addr) (w : World) (hc : w.cell? a = some (.int .u32 1)) :
    Calls Tryz.prog 103 #[.pointer (some a)] w fun e w' => e = .returned (.bool true) ∧ w' = w := by
  have hl := run_call_load (P := Tryz.prog) Tryz.func143 (by kernel_rfl) (by kernel_rfl) (by kernel_rfl) .u32 (by kernel_rfl) hc
  go_enter Tryz.func103, Tryz.ntmps103
  go_wp2
  go_ret
  exact ⟨rfl, rfl⟩
set_option maxRecDepth 20000 in
theorem refusal_ok (j : Nat) (w : World) (hc : w.cell? ⟨j, 10, none⟩ = some (.int .u32 0)) :
    Calls Tryz.prog 56 #[.pointer (some ⟨j, 0, none⟩)] w fun e w' => e = .returned (.int .i64 0) ∧ w' = w := by
  have HB := hide (Dg.bload_zero ⟨j, 10, none⟩ w hc)
  go_enter Tryz.func56, Tryz.ntmps56
  go_wp2_with fail
  refine (unhide HB).mono ?_
  rintro e w' ⟨rfl, rfl⟩
  go_wp2_with fail
  go_ret
  exact ⟨rfl, rfl⟩
set_option maxRecDepth 20000 in
theorem refusal_dead (j : Nat) (w : World) (hc : w.cell? ⟨j, 10, none⟩ = some (.int .u32 1)) :
    Calls Tryz.prog 56 #[.pointer (some ⟨j, 0, none⟩)] w fun e w' => e = .returned (.int .i64 26) ∧ w' = w := by
  have HB := hide (bload_one ⟨j, 10, none⟩ w hc)
  go_enter Tryz.func56, Tryz.ntmps56
  go_wp2_with fail
  refine (unhide HB).mono ?_
  rintro e w' ⟨rfl, rfl⟩
  go_wp2_with fail
  go_ret
  exact ⟨rfl, rfl⟩
set_option maxRecDepth 20000 in
theorem refusal_nil (w : World) : Calls Tryz.prog 56 #[.pointer none] w fun e w' => e = .returned (.int .i64 1) ∧ w' = w := by
  go_enter Tryz.func56, Tryz.ntmps56
  go_wp2_with fail
  go_ret
  exact ⟨rfl, rfl⟩
set_option maxRecDepth 20000 in
theorem drop_nil (w : World) : Calls Tryz.prog 32 #[.pointer none] w fun e w' => e = .returned (.tuple #[]) ∧ w' = w := by
  go_enter Tryz.func32, Tryz.ntmps32
  go_wp2_with fail
  exact bodyPost_ret (results_none rfl _ _ _) rfl ⟨rfl, rfl⟩
set_option maxRecDepth 20000 in
theorem drop_cell (j : Nat) (x y : Value) (w : World) (h8 : w.cell? ⟨j, 8, none⟩ = some x) (h9 : w.cell? ⟨j, 9, none⟩ = some y) (hz : ∀ k, w.frozen? ⟨j, k, none⟩ = false) :
    Calls Tryz.prog 32 #[.pointer (some ⟨j, 0, none⟩)] w fun e w' => e = .returned (.tuple #[]) ∧ w' = (w.setCell ⟨j, 8, none⟩ (.slice none 0 0)).setCell ⟨j, 9, none⟩ (.int .i64 0) := by
  have z8 := hz 8
  have z9 := hz 9
  clear hz
  go_enter Tryz.func32, Tryz.ntmps32
  go_wp2_with fail
  go_end0
  exact ⟨rfl, rfl⟩
set_option maxRecDepth 20000 in
theorem last_nil (a : Option Addr) (c : Nat) (w : World) : Calls Tryz.prog 59 #[.slice a 0 c] w fun e w' => e = .returned (.pointer none) ∧ w' = w := by
  go_enter Tryz.func59, Tryz.ntmps59
  go_wp2_with fail
  go_ret
  exact ⟨rfl, rfl⟩
set_option maxRecDepth 20000 in
theorem last_some (g n c q : Nat) (w : World) (hn : n < 1000000) (hc : w.cell? ⟨g, n, none⟩ = some (ptrV q)) : Calls Tryz.prog 59 #[.slice (some ⟨g, 0, none⟩) (n + 1) c] w fun e w' => e = .returned (ptrV q) ∧ w' = w := by
  have h1 : ¬ ((n : Int) + 1 = 0) := by omega
  have h2 : (n : Int) + 1 - 1 = n := by omega
  unfold ptrV at *
  go_enter Tryz.func59, Tryz.ntmps59
  go_wp2_with fail
  go_ret
  exact ⟨rfl, rfl⟩
set_option maxRecDepth 20000 in
theorem failed_full (j : Nat) (w : World) : Calls Tryz.prog 62 #[.pointer (some ⟨j, 0, none⟩), .int .i64 6] w fun e w' => e = .returned (.int .i64 6) ∧ w' = w := by
  go_enter Tryz.func62, Tryz.ntmps62
  go_wp2_with fail
  go_ret
  exact ⟨rfl, rfl⟩
set_option maxRecDepth 20000 in
theorem bstore_one (a : Addr) (x : Value) (w : World) (hc : w.cell? a = some x) (hz : w.frozen? a = false) :
    Calls Tryz.prog 108 #[.pointer (some a), .bool true] w fun e w' => e = .returned (.tuple #[]) ∧ w' = w.drew.setCell a (.int .u32 1) := by
  have hc' : w.drew.cell? a = some x := by go_simp
  have hz' : w.drew.frozen? a = false := by go_simp
  have hst := run_call_store (P := Tryz.prog) Tryz.func154 (by kernel_rfl) (by kernel_rfl) (by kernel_rfl) (by kernel_rfl) (k := .u32) (y := 1) hc' hz'
  go_enter Tryz.func108, Tryz.ntmps108
  go_wp2
  go_region_calls
  all_goals (go_end0; exact ⟨rfl, rfl⟩)
set_option maxRecDepth 20000 in
theorem failed_dead (j : Nat) (e0 : Int) (x : Value) (w : World) (h6 : ¬ e0 = 6) (hc : w.cell? ⟨j, 10, none⟩ = some x) (hz : w.frozen? ⟨j, 10, none⟩ = false) : Calls Tryz.prog 62 #[.pointer (some ⟨j, 0, none⟩), .int .i64 e0] w fun e w' => e = .returned (.int .i64 e0) ∧ w' = w.drew.setCell ⟨j, 10, none⟩ (.int .u32 1) := by
  have HB := hide (bstore_one ⟨j, 10, none⟩ x w hc hz)
  go_enter Tryz.func62, Tryz.ntmps62
  go_wp2_with fail
  refine (unhide HB).mono ?_
  rintro e w' ⟨rfl, rfl⟩
  go_wp2_with fail
  go_ret
  exact ⟨rfl, rfl⟩
end Go.Proofs.YtebcmicmklpflaaGreatDoor
