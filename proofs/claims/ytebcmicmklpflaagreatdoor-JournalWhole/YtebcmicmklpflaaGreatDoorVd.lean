/- Lasting is cloned; a Crash that keeps a part. -/
import Derived.Test.YtebcmicmklpflaaGreatDoorVb
import Derived.Test.YtebcmicmklpflaaGreatDoorVc
namespace Go.Proofs.YtebcmicmklpflaaGreatDoor
open Go.RowKit Go.Maps
set_option linter.unusedSimpArgs false
/-- A table with at most one name, whose file has no other. -/
def One (T : Tb) (nm : ByteArray) : Prop := (∀ s, s ≠ nm → T.N s = none) ∧ ∀ i, T.N nm = some i → T.c i = 1
/-- What the clone of lasting is. -/
def LasCl (w w' : World) (K : Nat → Option (List UInt8)) (T : Tb) (nm : ByteArray) (p n' g' : Nat) (hv : Value) : Prop :=
  Below w.heap.size w w' ∧ w.heap.size < p ∧ p < w'.heap.size ∧ n' ≤ 1 ∧ TabIs w' (some p) n' (fun s => (T.N s).map (fun _ => g')) ∧ ∀ i, T.N nm = some i → w.heap.size < g' ∧ g' ≠ p ∧ g' < w'.heap.size ∧ w'.heap[g']? = some (.cells #[hv, .int .i32 1] 129 (0, 0)) ∧ DataIs K hv (T.D i) ∧ ∀ g n c, hv = .slice (some ⟨g, 0, none⟩) n c → ¬ n < c
theorem clone_las {w : World} {f : Nat} {lk : Int} {S : Fs} {X : List Th} {O : Nat → Prop} {K : Nat → Option (List UInt8)} {n l : Lie} {pv : Value} {ps : List Value} (h : FsM w f lk S X O K n l pv ps) (nm : ByteArray) (hnm : nm.size ≤ 300) (h1 : One S.las nm) :
    Calls Tryz.prog 110 #[.pointer (some ⟨f, 5, none⟩)] w fun e w' => ∃ p n' g' hv, e = .returned (.agg #[.map (some p), .int .i64 S.las.u]) ∧ LasCl w w' K S.las nm p n' g' hv := by
  obtain ⟨_, _, _, _, c5, c6, _⟩ := h.cells
  have hT := h.las.tab
  have hfun : ∀ g' : Nat, (fun s => if s = nm then ((S.las.N nm).map l.b).map (fun _ => g') else none) = fun s => (S.las.N s).map (fun _ => g') := fun g' => by
    funext s
    by_cases e : s = nm
    · rw [if_pos e, e]; cases S.las.N nm <;> rfl
    · rw [if_neg e, h1.1 s e]; rfl
  cases hm : l.m with
  | none =>
    have hN : S.las.N nm = none := by
      have h2 := hT.tab
      rw [hm] at h2
      have h3 : (S.las.N nm).map l.b = none := h2 nm
      cases hq : S.las.N nm with
      | none => rfl
      | some i => rw [hq] at h3; cases h3
    rw [hm] at c5
    refine (clone_nil f nm none 0 S.las.u w c5 c6).mono fun e w' ⟨p, n', g', e1, hb, h3, h4, h5, h6, _⟩ => ⟨p, n', g', .slice none 0 0, e1, hb, h3, h4, h5, ?_, fun i hi => by rw [hN] at hi; cases hi⟩
    have := hfun g'
    rw [hN] at this
    rw [← this]
    exact h6
  | some mb =>
    rw [hm] at c5
    have ht : TabIs w (some mb) l.n (fun s => (S.las.N s).map l.b) := by have := hT.tab; rw [hm] at this; exact this
    cases hN : S.las.N nm with
    | none =>
      refine (clone_some f mb l.n _ nm none none 0 0 (.int .i32 0) S.las.u w ht hnm (fun s hs => by rw [h1.1 s hs]; rfl) (by rw [hN]; rfl) (fun g e => by cases e) ⟨Nat.le_refl _, by omega, fun _ => ⟨rfl, rfl⟩⟩ c5 c6).mono fun e w' ⟨p, n', g', e1, hb, h3, h4, h5, h6, _⟩ => ⟨p, n', g', .slice none 0 0, e1, hb, h3, h4, h5, ?_, fun i hi => by rw [hN] at hi; cases hi⟩
      have := hfun g'
      rw [hN] at this
      rw [← this]
      exact h6
    | some i =>
      have hF := hT.live nm i hN
      obtain ⟨a, c, eh, d1, d2, d3⟩ := hT.data i hF
      have hfi := hT.file i hF
      rw [eh] at hfi
      have hcm : c ≤ 9223372036854775807 := by simpa [maxLen] using d2
      refine (clone_some f mb l.n _ nm (some (l.b i)) a (S.las.D i).length c (.int .i32 (S.las.c i)) S.las.u w ht hnm (fun s hs => by rw [h1.1 s hs]; rfl) (by rw [hN]; rfl) (fun g e => by injection e with e; subst e; exact hfi) ⟨d1, hcm, fun ea => by
        rcases d3 with ⟨_, e2⟩ | ⟨g, _, e2, _⟩
        · omega
        · rw [ea] at e2; cases e2⟩ c5 c6).mono fun e w' ⟨p, n', g', e1, hb, h3, h4, h5, h6, h7⟩ => ⟨p, n', g', .slice a (S.las.D i).length (S.las.D i).length, e1, hb, h3, h4, h5, ?_, fun j hj => ?_⟩
      · have := hfun g'
        rw [hN] at this
        rw [← this]
        exact h6
      · have hij : i = j := by rw [hN] at hj; injection hj
        subst hij
        obtain ⟨k1, k2, k3⟩ := h7 rfl
        refine ⟨k1, k2, (Array.getElem?_eq_some_iff.1 k3).1, k3, ⟨a, (S.las.D i).length, rfl, Nat.le_refl _, by omega, ?_⟩, fun g n c e => by injection e; omega⟩
        rcases d3 with ⟨e1, e2⟩ | d3
        · exact .inl ⟨e1, by omega⟩
        · exact .inr d3
/-- now is the clone of lasting, and nothing is pending. -/
theorem FsM.recl {w w' : World} {f : Nat} {lk : Int} {S : Fs} {X : List Th} {O : Nat → Prop} {K : Nat → Option (List UInt8)} {n l : Lie} {pv : Value} {ps : List Value} (h : FsM w f lk S X O K n l pv ps) (hX : X ≠ []) {nm : ByteArray} (h1 : One S.las nm) {p n' g' : Nat} {hv : Value} (hc : LasCl w w' K S.las nm p n' g' hv) :
    FsM (((w'.setCell ⟨f, 3, none⟩ (.map (some p))).setCell ⟨f, 4, none⟩ (.int .i64 S.las.u)).setCell ⟨f, 7, none⟩ (.slice none 0 0)) f lk ⟨S.room, S.las, S.las, [], S.fuse⟩ [] (grow O w w') K ⟨some p, n', fun i => S.las.N nm = some i, fun _ => g', fun _ => hv, n.k, l.z, fun _ => False⟩ l (.slice none 0 0) [] ∧ FFr O (grow O w w') w (((w'.setCell ⟨f, 3, none⟩ (.map (some p))).setCell ⟨f, 4, none⟩ (.int .i64 S.las.u)).setCell ⟨f, 7, none⟩ (.slice none 0 0)) := by
  obtain ⟨hb, hp1, hp2, hn1, hT, hfile⟩ := hc
  have hfl : f < w.heap.size := h.lt f h.of
  obtain ⟨W, hW⟩ : ∃ W, W = ((w'.setCell ⟨f, 3, none⟩ (.map (some p))).setCell ⟨f, 4, none⟩ (.int .i64 S.las.u)).setCell ⟨f, 7, none⟩ (.slice none 0 0) := ⟨_, rfl⟩
  rw [← hW]
  have hzW : W.heap.size = w'.heap.size := by rw [hW]; simp only [size_set]
  have hset : ∀ q, q ≠ f → W.heap[q]? = w'.heap[q]? := fun q hq => by rw [hW, set_other _ _ _ _ _ hq, set_other _ _ _ _ _ hq, set_other _ _ _ _ _ hq]
  have keep : ∀ q, O q → q ≠ f → W.heap[q]? = w.heap[q]? := fun q o hne => (hset q hne).trans (hb.block q (h.lt q o))
  have hXl : 1 ≤ X.length := List.length_pos_iff.2 hX
  have hkb := h.kb
  have hnb := h.nb
  have hlas : TabL W K (grow O w w') S.las l := ⟨h.las.tab.kept (fun q e => keep q (h.las.om q e) (h.mne h.las q e)) (fun i hi => keep _ (h.las.ob i hi) (h.bne h.las i hi)), h.las.ok, h.las.nk, fun q e => .inl (h.las.om q e), fun i hi => .inl (h.las.ob i hi), h.las.st⟩
  have hK : ∀ g x, K g = some x → W.heap[g]? = w.heap[g]? := fun g x hg => by
    obtain ⟨cur, hc, _⟩ := h.kok g x hg
    exact keep g (h.oK g x hg) (tag_ne hc h.blk (by decide))
  have hblk : W.heap[f]? = some (fsBlk lk ⟨S.room, S.las, S.las, [], S.fuse⟩ (some p) l.m (.slice none 0 0)) := by
    have hbk : w'.heap[f]? = some (fsBlk lk S n.m l.m pv) := (hb.block f hfl).trans h.blk
    rw [hW]
    simp [World.setCell, Array.getElem?_modify, hbk, fsBlk]
  have hz := hb.size
  refine ⟨⟨hblk, ⟨⟨?_, fun e => (by cases e), fun s i hs => ?_, fun i hi => ?_, fun i j hi hj _ => ?_, fun i hi => (hfile i hi).2.2.2.2.1⟩, h.las.ok.mono (by show l.k ≤ n.k; omega), by show n' ≤ n.k; omega, fun q e => ?_, fun i hi => ?_, fun i hi => h.las.st i (h.las.tab.live nm i hi)⟩, hlas, fun i j hi hj => ?_, fun q e => ?_, fun g x hg => ?_, fun i hi _ => ?_, fun i j hi hj _ _ hne => ?_, World.ownsRow_nil _ _ _ _, fun j v t e1 e2 => (by simp at e1), rfl, by show l.k + 0 ≤ n.k; omega, by show l.n + 0 ≤ n.k; omega, Nat.zero_le _, h.room, h.fz, .inl h.of, fun g x hg => .inl (h.oK g x hg), fun q e => (by simp [Value.ownBlock] at e), fun q o => ?_⟩, by rw [hW]; exact hb.os, by rw [hW]; exact hb.tape, by rw [hW]; exact hb.output, by rw [hzW]; exact hz, fun q p1 p2 => ?_, fun q o => o.imp id (fun o => o.1)⟩
  · show TabIs W (some p) n' (fun s => (S.las.N s).map (fun _ => g'))
    exact hT.same (fun m e => by injection e with e; subst e; exact hset _ (by omega))
  · have : s = nm := Classical.byContradiction fun e => by rw [h1.1 s e] at hs; cases hs
    subst this; exact hs
  · show W.heap[g']? = some (.cells #[hv, .int .i32 (S.las.c i)] 129 (0, 0))
    obtain ⟨k1, _, _, k3, _⟩ := hfile i hi
    rw [hset g' (by omega), k3, h1.2 i hi]
  · have hi' : S.las.N nm = some i := hi
    have hj' : S.las.N nm = some j := hj
    rw [hi'] at hj'
    injection hj'
  · have : p = q := by injection e
    subst this
    exact .inr ⟨by omega, hp2⟩
  · obtain ⟨k1, _, k2, _⟩ := hfile i hi
    show grow O w w' g'
    exact .inr ⟨Nat.le_of_lt k1, k2⟩
  · obtain ⟨k1, _⟩ := hfile i hi
    have := h.lt _ (h.las.ob j hj)
    show g' ≠ l.b j
    omega
  · have e' : p = q := by injection e
    intro e2
    have := h.lt _ (h.las.om q e2)
    omega
  · obtain ⟨cur, hcu, hpf⟩ := h.kok g x hg
    exact ⟨cur, (hK g x hg).trans hcu, hpf⟩
  · intro g m c e hlt
    exact absurd hlt ((hfile i hi).2.2.2.2.2 g m c e)
  · have hi' : S.las.N nm = some i := hi
    have hj' : S.las.N nm = some j := hj
    rw [hi'] at hj'
    exact absurd (by injection hj') hne
  · rw [hzW]
    rcases o with o | o
    · have := h.lt q o; omega
    · exact o.2
  · rw [hset q (fun e => p2 (e ▸ h.of))]
    exact hb.block q p1
theorem runs_take_succ (l : List Th) (x : Tb × Nat) (j : Nat) (hj : j < l.length) : runs (l.take (j + 1)) x = (runs (l.take j) x).bind l[j].ap := by
  rw [List.take_succ_eq_append_getElem hj, runs_snoc]
/-- Between the rounds of a part's settling. -/
def SetP (w : World) (f : Nat) (lk : Int) (S : Fs) (O : Nat → Prop) (K : Nat → Option (List UInt8)) (n : Lie) (z0 : Nat) (pv : Value) (ps : List Value) (x : Value) (wr : World) : Prop :=
  ∃ j : Nat, j ≤ S.pend.length ∧ x = .int .i64 (j : Int) ∧ ∃ T' O' l', runs (S.pend.take j) (S.las, z0) = some (T', l'.z) ∧ FsM wr f lk { S with las := T' } (S.pend.drop j) O' K n l' pv ps ∧ FFr O O' w wr
/-- What settle leaves where a part lasts. -/
def SettledP (f : Nat) (lk : Int) (S : Fs) (m z0 : Nat) (O : Nat → Prop) (k : Nat) (w w' : World) : Prop := ∃ T' z' O' K n' l', runs (S.pend.take m) (S.las, z0) = some (T', z') ∧ FsM w' f lk ⟨S.room, T', T', [], S.fuse⟩ [] O' K n' l' (.slice none 0 0) [] ∧ n'.k ≤ k ∧ (∀ i, ¬ n'.e i) ∧ FFr O O' w w'
set_option maxRecDepth 20000 in
set_option maxHeartbeats 2000000 in
theorem settle_part {w : World} {f : Nat} {lk : Int} {S : Fs} {O : Nat → Prop} {K : Nat → Option (List UInt8)} {n l : Lie} {pv : Value} {ps : List Value} (h : FsM w f lk S S.pend O K n l pv ps) (hk : n.k ≤ 16000) (m : Nat) (hm : m < S.pend.length) (nm : ByteArray) (hnm : nm.size ≤ 300) (hone : ∀ T z, runs (S.pend.take m) (S.las, l.z) = some (T, z) → One T nm) :
    Calls Tryz.prog 64 #[.pointer (some ⟨f, 0, none⟩), .int .i64 (m : Int)] w fun e w' => e = .returned (.tuple #[]) ∧ SettledP f lk S m l.z O n.k w w' := by
  have hpl := h.pl
  have hpv : ∃ a c, pv = .slice a S.pend.length c ∧ S.pend.length ≤ c ∧ (0 < S.pend.length → ∃ g, a = some ⟨g, 0, none⟩) := by
    rcases h.row.2 with ⟨e, e2⟩ | ⟨g, cap, cur, e, _, _, h1, _⟩
    · exact ⟨none, 0, by rw [e, e2], by omega, fun hp => by omega⟩
    · exact ⟨_, _, e, h1, fun _ => ⟨g, rfl⟩⟩
  obtain ⟨pa, pc, rfl, hpc, hpa⟩ := hpv
  obtain ⟨g, rfl⟩ := hpa (by omega)
  obtain ⟨_, _, _, _, _, _, h7, _, _, _⟩ := h.cells
  have H0 : Hid (SetP w f lk S O K n l.z (.slice (some ⟨g, 0, none⟩) S.pend.length pc) ps (.int .i64 0) w) := ⟨0, Nat.zero_le _, rfl, S.las, O, l, rfl, h, FFr.refl _ _⟩
  have HON := hide hone
  have hmc : (m : Int) ≤ (pc : Int) := by omega
  have hml : (m : Int) < (S.pend.length : Int) := by omega
  have hmc2 : m ≤ pc := by omega
  clear h hone hpa
  generalize hPL : S.pend.length = PL at *
  have HPL := hide hPL
  have HPM := hide hm
  clear hPL hm
  go_enter Tryz.func64, Tryz.ntmps64
  go_wp2_with fail
  go_loopw [13] (fun x wr => ∃ j : Nat, j ≤ m ∧ x = .int .i64 (j : Int) ∧ SetP w f lk S O K n l.z (.slice (some ⟨g, 0, none⟩) PL pc) ps x wr) (fun x _ => m - (intOf x).toNat)
  case atStart => exact ⟨0, Nat.zero_le _, rfl, unhide H0⟩
  case round =>
    obtain ⟨j, hjm, rfl, j', hj, ej, T', O', l', hru, hM, hF⟩ := hrel
    have ejj : j = j' := by injection ej with _ ej; omega
    subst ejj
    by_cases hlt : j < m
    · have hlen : j < S.pend.length := by rw [unhide HPL]; have := unhide HPM; omega
      have hps : ps.length = S.pend.length := by have := hM.row.1; simp at this; exact this
      have hd : S.pend.drop j = S.pend[j] :: S.pend.drop (j + 1) := List.drop_eq_getElem_cons hlen
      have hth : ThIs wr K O' ps[j] S.pend[j] := hM.ths j _ _ (List.getElem?_eq_getElem (by omega)) (List.getElem?_eq_getElem hlen)
      have hcell : wr.cell? ⟨g, j, none⟩ = some ps[j] := by
        have := hM.row.cells (g := g) rfl j ps[j] (List.getElem?_eq_getElem (by omega))
        rwa [add0] at this
      rw [hd] at hM
      have hnext : ∀ w', LasT f lk { S with las := T' } S.pend[j] l'.z (S.pend.drop (j + 1)) O' K n (.slice (some ⟨g, 0, none⟩) PL pc) ps wr w' → ∃ j2 : Nat, j2 ≤ m ∧ Value.int .i64 ((j : Int) + 1) = .int .i64 (j2 : Int) ∧ SetP w f lk S O K n l.z (.slice (some ⟨g, 0, none⟩) PL pc) ps (.int .i64 ((j : Int) + 1)) w' := fun w' ⟨T2, l2, h0, h1, h2⟩ => ⟨j + 1, by omega, by go_num, j + 1, by omega, by go_num, T2, _, l2, by rw [runs_take_succ _ _ _ hlen, hru]; exact h0, h1, hF.trans h2⟩
      have HNX := hide hnext
      have hji : (j : Int) < (m : Int) := by omega
      rcases do_lasT hM hk hth with ⟨fn, ca, cb, e, hen, hcall⟩ | ⟨fn, ca, e, hen, hcall⟩
      · rw [e] at hcell
        have HC := hide hcall
        clear hM hF hth hd hcall hnext e hps hru ej
        unfold Enters at hen
        go_wp2_with fail
        refine (unhide HC).mono ?_
        rintro e w' ⟨rfl, hL⟩
        have HS := hide (unhide HNX w' hL)
        clear hL
        go_wp2_with fail
        go_roundw
        case rel => exact unhide HS
        case measure => simp [intOf]; omega
      · rw [e] at hcell
        have HC := hide hcall
        clear hM hF hth hd hcall hnext e hps hru ej
        unfold Enters at hen
        go_wp2_with fail
        refine (unhide HC).mono ?_
        rintro e w' ⟨rfl, hL⟩
        have HS := hide (unhide HNX w' hL)
        clear hL
        go_wp2_with fail
        go_roundw
        case rel => exact unhide HS
        case measure => simp [intOf]; omega
    · obtain rfl : j = m := by omega
      have hO1 := unhide HON T' _ hru
      have hXn : S.pend.drop j ≠ [] := fun e => by
        have := congrArg List.length e
        simp at this
        have := unhide HPM
        have := unhide HPL
        omega
      obtain ⟨_, _, c3, c4, _, _, c7, _, _, hz⟩ := hM.cells
      have HCl : Hid (Calls Tryz.prog 110 #[.pointer (some ⟨f, 5, none⟩)] wr fun e w' => ∃ p, e = .returned (.agg #[.map (some p), .int .i64 T'.u]) ∧ (∃ x, w'.cell? ⟨f, 3, none⟩ = some x) ∧ w'.frozen? ⟨f, 3, none⟩ = false ∧ (∃ x, (w'.setCell ⟨f, 3, none⟩ (.map (some p))).cell? ⟨f, 4, none⟩ = some x) ∧ (w'.setCell ⟨f, 3, none⟩ (.map (some p))).frozen? ⟨f, 4, none⟩ = false ∧ (∃ x, ((w'.setCell ⟨f, 3, none⟩ (.map (some p))).setCell ⟨f, 4, none⟩ (.int .i64 T'.u)).cell? ⟨f, 7, none⟩ = some x) ∧ ((w'.setCell ⟨f, 3, none⟩ (.map (some p))).setCell ⟨f, 4, none⟩ (.int .i64 T'.u)).frozen? ⟨f, 7, none⟩ = false ∧ Hid (SettledP f lk S j l.z O n.k w (((w'.setCell ⟨f, 3, none⟩ (.map (some p))).setCell ⟨f, 4, none⟩ (.int .i64 T'.u)).setCell ⟨f, 7, none⟩ (.slice none 0 0)))) := by
        refine (clone_las hM nm hnm hO1).mono fun e w' ⟨p, n', g', hv, e1, hcl⟩ => ⟨p, e1, ?_⟩
        have hfb : w'.heap[f]? = some (fsBlk lk { S with las := T' } n.m l'.m (.slice (some ⟨g, 0, none⟩) PL pc)) := (hcl.1.block f (hM.lt f hM.of)).trans hM.blk
        obtain ⟨q1, q2⟩ := hM.recl hXn hO1 hcl
        unfold fsBlk at hfb
        refine ⟨⟨.map n.m, by simp [World.cell?, hfb]⟩, by simp [World.frozen?, hfb], ⟨.int .i64 S.now.u, by simp [World.setCell, World.cell?, Array.getElem?_modify, hfb]⟩, by simp [World.setCell, World.frozen?, Array.getElem?_modify, hfb], ⟨.slice (some ⟨g, 0, none⟩) PL pc, by simp [World.setCell, World.cell?, Array.getElem?_modify, hfb]⟩, by simp [World.setCell, World.frozen?, Array.getElem?_modify, hfb], T', l'.z, _, K, _, l', hru, q1, Nat.le_refl _, fun _ h => h, hF.trans q2⟩
      have hji : ¬ ((j : Int) < (j : Int)) := by omega
      clear hM hF hz hru ej hO1 hXn c3 c4
      go_wp2_with fail
      refine (unhide HCl).mono ?_
      rintro e w' ⟨p, rfl, ⟨x3, k3⟩, f3, ⟨x4, k4⟩, f4, ⟨x7, k7⟩, f7, HS⟩
      clear HCl c7
      go_wp2_with fail
      go_end0
      exact ⟨rfl, unhide HS⟩
set_option maxRecDepth 20000 in
set_option maxHeartbeats 2000000 in
/-- Crash, of a part. -/
theorem crash_part (X : Int) (m : Nat) (f : Nat) (S : Fs) (O : Nat → Prop) (k : Nat) (w : World) (h : FsIs w f 0 S O k) (hk : k ≤ 16000) (hX : max X 0 = (m : Int)) (hm : m < S.pend.length) (nm : ByteArray) (hnm : nm.size ≤ 300) (hone : ∀ z T z', runs S.pend (S.las, z) ≠ none → runs (S.pend.take m) (S.las, z) = some (T, z') → One T nm) :
    Calls Tryz.prog 27 #[.pointer (some ⟨f, 0, none⟩), .int .i64 X] w fun e w' => e = .returned (.tuple #[]) ∧ ∃ z T z' O', runs S.pend (S.las, z) ≠ none ∧ runs (S.pend.take m) (S.las, z) = some (T, z') ∧ FsIs w' f 0 ⟨S.room, T, T, [], none⟩ O' k ∧ FFr O O' w w' := by
  obtain ⟨K, n, l, pv, ps, hM, hnk, hex⟩ := h
  obtain ⟨h0, _, _, _, _, _, _, _, _, hz⟩ := hM.cells
  have hrun := hM.run
  obtain ⟨W1, hW1⟩ : ∃ W1, W1 = w.setCell ⟨f, 0, none⟩ (.int .i32 1) := ⟨_, rfl⟩
  have hM1 : FsM W1 f 1 S S.pend O K n l pv ps := by rw [hW1]; exact hM.lock 1
  have HF1 : Hid (FFr O O w W1) := by rw [hW1]; exact FFr.cell hM.of _ _
  have HL0 := hide (lock_free ⟨f, 0, none⟩ w h0 (hz 0))
  rw [← hW1] at HL0
  have hrn : runs S.pend (S.las, l.z) ≠ none := by rw [hrun]; simp
  have HRn := hide hrn
  have HS := hide (settle_part hM1 (by omega) m hm nm hnm (fun T z hT => hone l.z T z hrn hT))
  obtain ⟨_, _, _, _, _, _, c7, _, _, _⟩ := hM1.cells
  have hpv : ∃ a c, pv = .slice a S.pend.length c := by
    rcases hM1.row.2 with ⟨e, e2⟩ | ⟨g, cap, cur, e, _⟩
    · exact ⟨none, 0, by rw [e, e2]⟩
    · exact ⟨_, _, e⟩
  obtain ⟨pa, pc, rfl⟩ := hpv
  have hpl := hM.pl
  clear hM hM1 hz hW1 hrun hrn hone
  generalize hPL : S.pend.length = PL at *
  clear hPL
  have hp1 : (PL : Int) ≤ 16383 := by omega
  have HMin : Hid (min (max X 0) (PL : Int) = (m : Int)) := by show min (max X 0) (PL : Int) = (m : Int); omega
  clear hX
  go_enter_defers Tryz.func27, Tryz.ntmps27
  go_wp2_with fail
  refine (unhide HL0).mono ?_
  rintro e w' ⟨rfl, rfl⟩
  go_wp2_with fail
  rw [unhide HMin]
  refine (unhide HS).mono ?_
  rintro e w2 ⟨rfl, T', z', O2, K2, n2, l2, hru, hM2, hk2, he2, hF2⟩
  have hM3 := hM2.fuse none (by simp)
  simp only [Option.isSome_none, Option.getD_none] at hM3
  obtain ⟨g0, _, _, _, _, _, _, _, _, gz⟩ := hM3.cells
  have gz0 := gz 0
  obtain ⟨_, _, _, _, _, _, _, d8, d9, dz⟩ := hM2.cells
  have z8 := dz 8
  have z9 := dz 9
  have HE : Hid (∃ z T z' O', runs S.pend (S.las, z) ≠ none ∧ runs (S.pend.take m) (S.las, z) = some (T, z') ∧ FsIs (((w2.setCell ⟨f, 8, none⟩ (.bool false)).setCell ⟨f, 9, none⟩ (.int .i64 ((0 : Nat) : Int))).setCell ⟨f, 0, none⟩ (.int .i32 0)) f 0 ⟨S.room, T, T, [], none⟩ O' k ∧ FFr O O' w (((w2.setCell ⟨f, 8, none⟩ (.bool false)).setCell ⟨f, 9, none⟩ (.int .i64 ((0 : Nat) : Int))).setCell ⟨f, 0, none⟩ (.int .i32 0))) :=
    ⟨l.z, T', z', O2, unhide HRn, hru, ⟨K2, n2, l2, _, _, hM3.lock 0, by omega, he2⟩, (unhide HF1).trans (hF2.trans ((FFr.cell hM2.of _ _).trans ((FFr.cell hM2.of _ _).trans (FFr.cell hM2.of _ _))))⟩
  clear hM2 hF2 hM3 gz dz hru
  go_wp2_with fail
  refine leaves_cons (f := 55) (args := #[.pointer (some ⟨f, 0, none⟩)]) (by simp) (by simp [go_sem]) ?_
  refine (unlock_deferred ⟨f, 0, none⟩ .returning _ g0 gz0).mono ?_
  rintro e u' w3 ⟨rfl, rfl, rfl⟩
  exact ⟨_, results_none rfl _ _ _, rfl, unhide HE⟩
end Go.Proofs.YtebcmicmklpflaaGreatDoor
