/- settle: all that is pending lasts. -/
import Derived.Test.YtbnbakcoomjnaaaJb
import Derived.LoopN
namespace Go.Proofs.Ytbnbakcoomjnaaa
open Go.RowKit Go.Maps
set_option linter.unusedSimpArgs false
/-- Nothing is pending any more. -/
theorem FsM.cleared {w : World} {f : Nat} {lk : Int} {S : Fs} {O : Nat → Prop} {K : Nat → Option (List UInt8)} {n l : Lie} {pv : Value} {ps : List Value} (h : FsM w f lk S [] O K n l pv ps) : FsM (w.setCell ⟨f, 7, none⟩ (.slice none 0 0)) f lk { S with pend := [] } [] O K n l (.slice none 0 0) [] := by
  have keep : ∀ q, O q → q ≠ f → (w.setCell ⟨f, 7, none⟩ (.slice none 0 0)).heap[q]? = w.heap[q]? := fun q _ hne => set_other _ _ _ _ _ hne
  have hTL : ∀ {T : Tb} {a : Lie}, TabL w K O T a → TabL (w.setCell ⟨f, 7, none⟩ (.slice none 0 0)) K O T a := fun hT => ⟨hT.tab.kept (fun q e => keep q (hT.om q e) (h.mne hT q e)) (fun i hi => keep _ (hT.ob i hi) (h.bne hT i hi)), hT.ok, hT.nk, hT.om, hT.ob, hT.st⟩
  have hK : ∀ g x, K g = some x → (w.setCell ⟨f, 7, none⟩ (.slice none 0 0)).heap[g]? = w.heap[g]? := fun g x hg => by
    obtain ⟨cur, hc, _⟩ := h.kok g x hg
    exact keep g (h.oK g x hg) (tag_ne hc h.blk (by decide))
  refine ⟨?_, hTL h.now, hTL h.las, h.dis, h.mdis, fun g x hg => ?_, fun i hi hx => (h.rm i hi hx).kept hK, h.ap, World.ownsRow_nil _ _ _ _, fun j v t e1 e2 => (by simp at e1), h.run, h.kb, h.nb, Nat.zero_le _, h.room, h.fz, h.of, h.oK, fun q e => (by simp [Value.ownBlock] at e), fun q o => by rw [size_set]; exact h.lt q o⟩
  · have := h.blk
    simp [World.setCell, Array.getElem?_modify, this, fsBlk]
  · obtain ⟨cur, hc, hp⟩ := h.kok g x hg
    exact ⟨cur, by rw [hK g x hg]; exact hc, hp⟩
theorem add0 (g j : Nat) : (⟨g, 0, none⟩ : Addr).add j = ⟨g, j, none⟩ := by unfold Addr.add; split <;> simp_all
/-- What settle leaves where all lasts. -/
def Settled (f : Nat) (lk : Int) (S : Fs) (O : Nat → Prop) (K : Nat → Option (List UInt8)) (n : Lie) (w w' : World) : Prop := ∃ O' l', FsM w' f lk { S with las := S.now, pend := [] } [] O' K n l' (.slice none 0 0) [] ∧ FFr O O' w w'
/-- Between the rounds of settle. -/
def SetR (w : World) (f : Nat) (lk : Int) (S : Fs) (O : Nat → Prop) (K : Nat → Option (List UInt8)) (n : Lie) (pv : Value) (ps : List Value) (x : Value) (wr : World) : Prop :=
  ∃ j : Nat, j ≤ S.pend.length ∧ x = .int .i64 (j : Int) ∧ ∃ T' O' l', FsM wr f lk { S with las := T' } (S.pend.drop j) O' K n l' pv ps ∧ FFr O O' w wr
set_option maxRecDepth 20000 in
set_option maxHeartbeats 2000000 in
theorem settle_all {w : World} {f : Nat} {lk : Int} {S : Fs} {O : Nat → Prop} {K : Nat → Option (List UInt8)} {n l : Lie} {pv : Value} {ps : List Value} (h : FsM w f lk S S.pend O K n l pv ps) (hk : n.k ≤ 16000) :
    Calls Try.prog 39 #[.pointer (some ⟨f, 0, none⟩), .int .i64 (S.pend.length : Int)] w fun e w' => e = .returned (.tuple #[]) ∧ Settled f lk S O K n w w' := by
  obtain ⟨_, _, _, _, _, _, h7, _, _, _⟩ := h.cells
  have hpl := h.pl
  have hpv : ∃ a c, pv = .slice a S.pend.length c ∧ S.pend.length ≤ c ∧ (0 < S.pend.length → ∃ g, a = some ⟨g, 0, none⟩) := by
    rcases h.row.2 with ⟨e, e2⟩ | ⟨g, cap, cur, e, _, _, h1, _⟩
    · exact ⟨none, 0, by rw [e, e2], by omega, fun hp => by omega⟩
    · exact ⟨_, _, e, h1, fun _ => ⟨g, rfl⟩⟩
  obtain ⟨pa, pc, rfl, hpc, hpa⟩ := hpv
  have H0 : Hid (SetR w f lk S O K n (.slice pa S.pend.length pc) ps (.int .i64 0) w) := ⟨0, Nat.zero_le _, rfl, S.las, O, l, h, FFr.refl _ _⟩
  have HA := hide hpa
  clear h hpa
  have hIc : (S.pend.length : Int) ≤ (pc : Int) := by omega
  generalize hPL : S.pend.length = PL at *
  have HPL := hide hPL
  clear hPL
  go_enter Try.func39, Try.ntmps39
  go_wp2_with fail
  go_loopw [13] (fun x wr => SetR w f lk S O K n (.slice pa PL pc) ps x wr) (fun x _ => PL - (intOf x).toNat)
  case atStart => exact unhide H0
  case round =>
    obtain ⟨j, hj, rfl, T', O', l', hM, hF⟩ := hrel
    rw [unhide HPL] at hj
    by_cases hlt : j < PL
    · obtain ⟨g, rfl⟩ := unhide HA (by omega)
      have hlen : j < S.pend.length := by rw [unhide HPL]; exact hlt
      have hps : ps.length = S.pend.length := by have := hM.row.1; simp at this; exact this
      have hd : S.pend.drop j = S.pend[j] :: S.pend.drop (j + 1) := List.drop_eq_getElem_cons hlen
      have hth : ThIs wr K O' ps[j] S.pend[j] := hM.ths j _ _ (List.getElem?_eq_getElem (by omega)) (List.getElem?_eq_getElem hlen)
      have hcell : wr.cell? ⟨g, j, none⟩ = some ps[j] := by
        have := hM.row.cells (g := g) rfl j ps[j] (List.getElem?_eq_getElem (by omega))
        rwa [add0] at this
      rw [hd] at hM
      have hnext : ∀ w', LasDone f lk { S with las := T' } (S.pend.drop (j + 1)) O' K n (.slice (some ⟨g, 0, none⟩) PL pc) ps wr w' → SetR w f lk S O K n (.slice (some ⟨g, 0, none⟩) PL pc) ps (.int .i64 ((j : Int) + 1)) w' := fun w' ⟨T2, l2, h1, h2⟩ => ⟨j + 1, by omega, by go_num, T2, _, l2, h1, hF.trans h2⟩
      have HNX := hide hnext
      rcases do_las hM hk hth with ⟨fn, ca, cb, e, hen, hcall⟩ | ⟨fn, ca, e, hen, hcall⟩
      · rw [e] at hcell
        have HC := hide hcall
        clear hM hF hth hd hcall hnext e hps hlen
        unfold Enters at hen
        go_wp2_with fail
        refine (unhide HC).mono ?_
        rintro e w' ⟨rfl, hL⟩
        have HS := hide (unhide HNX w' hL)
        clear hL
        go_wp2_with fail
        go_roundw
        case rel => exact unhide HS
        case measure => simp [intOf]; omega
      · rw [e] at hcell
        have HC := hide hcall
        clear hM hF hth hd hcall hnext e hps hlen
        unfold Enters at hen
        go_wp2_with fail
        refine (unhide HC).mono ?_
        rintro e w' ⟨rfl, hL⟩
        have HS := hide (unhide HNX w' hL)
        clear hL
        go_wp2_with fail
        go_roundw
        case rel => exact unhide HS
        case measure => simp [intOf]; omega
    · obtain rfl : j = PL := by omega
      have hd : S.pend.drop j = [] := List.drop_of_length_le (by rw [unhide HPL]; exact Nat.le_refl _)
      rw [hd] at hM
      have hrun := hM.run
      simp only [runs, Option.some.injEq, Prod.mk.injEq] at hrun
      obtain ⟨hT, _⟩ := hrun
      have hT' : T' = S.now := hT
      subst hT'
      obtain ⟨_, _, _, _, _, _, c7, _, _, hz⟩ := hM.cells
      have z7 := hz 7
      have HE : Hid (Settled f lk S O K n w (wr.setCell ⟨f, 7, none⟩ (.slice none 0 0))) :=
        ⟨O', l', hM.cleared, hF.trans ⟨rfl, rfl, rfl, by rw [size_set]; exact Nat.le_refl _, fun q _ hq => set_other _ _ _ _ _ (fun e => hq (by rw [e]; exact hM.of)), fun _ o => .inl o⟩⟩
      clear hM hF hz hd
      go_wp2_with fail
      go_end0
      exact ⟨rfl, unhide HE⟩
end Go.Proofs.Ytbnbakcoomjnaaa
