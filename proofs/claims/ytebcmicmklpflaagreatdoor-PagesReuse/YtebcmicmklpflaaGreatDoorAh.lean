/- Pages: Commit, where nothing lasted before. -/
import Derived.Test.YtebcmicmklpflaaGreatDoorAg
import Derived.Test.YtebcmicmklpflaaGreatDoorAd
import Derived.Test.YtebcmicmklpflaaGreatDoorPn
namespace Go.Proofs.YtebcmicmklpflaaGreatDoor
open Go.RowKit Go.Maps
set_option linter.unusedSimpArgs false
/-- Nothing of the files' part has to be done ahead of a Commit. -/
structure Fl.Quiet (F : Fl) : Prop where
  fv : F.fv = .slice none 0 0
  sl : F.sl = false
  st : ∀ k, F.st k = false
  lg : 0 ≤ F.lg ∧ F.lg < 1024
theorem commit_walk {w0 w : World} {f j p : Nat} {nm : ByteArray} {S : Fs} {J : Jn} {F : Fl} {G : Pgr} {nv : Value} {k : Nat} (hT : Tab w0) (hX : PX w0 w f j p nm S J F G (.slice none 0 0) nv k) (hok : G.Ok) (hsz : G.Sz) (hd : G.dead = false) (hne : cntTo G.dirty 256 ≠ 0) (hpos : 0 < G.now.length) (hJD : J.D = []) (hal : J.dead = false) (hq : F.Quiet) (hw : wt (recsTo G.now G.dirty 256) ≤ 524288)
    (R : Int → World → Prop)
    (hcom : ∀ W, PX w0 W f j p nm S { J with D := recsTo G.now G.dirty 256 } F G (.slice none 0 0) nv k → Calls Tryz.prog 24 #[.pointer (some ⟨j, 0, none⟩)] W fun e W1 => ∃ c : Int, e = .returned (.int .i64 c) ∧ c ≠ 5 ∧ c ≠ 6 ∧ (c ≠ 0 → CallsD Tryz.prog 32 #[.pointer (some ⟨j, 0, none⟩)] .returning W1 fun e u' W2 => u' = .returning ∧ e = .returned (.tuple #[]) ∧ ((∃ v, W2.cell? ⟨p, 776, none⟩ = some v) ∧ W2.frozen? ⟨p, 776, none⟩ = false ∧ R c (W2.setCell ⟨p, 776, none⟩ (.bool true)))) ∧
      (c = 0 → ∃ (S' : Fs) (J' : Jn) (k' : Nat), PX w0 W1 f j p nm S' J' F G (.slice none 0 0) nv k' ∧ ∀ W2 lv', PX w0 W2 f j p nm S' { J' with D := [] } (F.logged G.dirty (wt (recsTo G.now G.dirty 256))) G.keep lv' nv k' → R 0 W2)) :
    Calls Tryz.prog 38 #[.pointer (some ⟨p, 0, none⟩)] w fun e w' => ∃ c : Int, e = .returned (.int .i64 c) ∧ R c w' := by
  obtain ⟨a2, c2, rfl⟩ : ∃ a2 c2, nv = .slice a2 G.now.length c2 := by
    obtain ⟨U, O, h, _⟩ := hX
    obtain ⟨a, c, e, _⟩ := h.pm.rn.shape
    exact ⟨a, c, e⟩
  -- behind a record that was laid, or was not
  have hrec : ∀ W, PX w0 W f j p nm S J F G (.slice none 0 0) (.slice a2 G.now.length c2) k → Calls Tryz.prog 169 #[.pointer (some ⟨p, 0, none⟩), .slice a2 G.now.length c2, .pointer (some ⟨p, 520, none⟩)] W fun e W1 => ∃ c : Int, e = .returned (.int .i64 c) ∧ (c ≠ 5 ∧ c ≠ 6 ∧ (c ≠ 0 → (∃ v, W1.cell? ⟨p, 776, none⟩ = some v) ∧ W1.frozen? ⟨p, 776, none⟩ = false ∧ R c (W1.setCell ⟨p, 776, none⟩ (.bool true))) ∧
      (c = 0 → ∃ (S' : Fs) (J' : Jn) (k' : Nat), PX w0 W1 f j p nm S' { J' with D := [] } (F.logged G.dirty (wt (recsTo G.now G.dirty 256))) G (.slice none 0 0) (.slice a2 G.now.length c2) k' ∧ ∀ W2 lv', PX w0 W2 f j p nm S' { J' with D := [] } (F.logged G.dirty (wt (recsTo G.now G.dirty 256))) G.keep lv' (.slice a2 G.now.length c2) k' → R 0 W2)) := fun W hXW => by
    refine record_walk p j (.slice a2 G.now.length c2) (.slice none 0 0) G.dirty G.free G.dead F (fun k => 40 + wt (recsTo G.now G.dirty k)) (fun i W => PX w0 W f j p nm S { J with D := recsTo G.now G.dirty i } F G (.slice none 0 0) (.slice a2 G.now.length c2) k)
      (fun c W1 => c ≠ 5 ∧ c ≠ 6 ∧ (c ≠ 0 → (∃ v, W1.cell? ⟨p, 776, none⟩ = some v) ∧ W1.frozen? ⟨p, 776, none⟩ = false ∧ R c (W1.setCell ⟨p, 776, none⟩ (.bool true))) ∧
      (c = 0 → ∃ (S' : Fs) (J' : Jn) (k' : Nat), PX w0 W1 f j p nm S' { J' with D := [] } (F.logged G.dirty (wt (recsTo G.now G.dirty 256))) G (.slice none 0 0) (.slice a2 G.now.length c2) k' ∧ ∀ W2 lv', PX w0 W2 f j p nm S' { J' with D := [] } (F.logged G.dirty (wt (recsTo G.now G.dirty 256))) G.keep lv' (.slice a2 G.now.length c2) k' → R 0 W2)) W a2 G.now.length c2 rfl
      hXW.ff.2.1 ⟨hq.lg.1, by have := hq.lg.2; omega⟩ rfl (fun i => ?_) ?_ (fun i W h => h.pb) (fun i W hi h h0 => ⟨?_, ?_⟩) (fun i W hi h h0 => rec_steps hT hok hsz hal hw i W hi h h0) (fun W h => ?_)
    · by_cases hi : i ≤ 256
      · have := recsTo_mono G.now G.dirty i (256 - i)
        rw [show i + (256 - i) = 256 by omega] at this
        show 40 + wt (recsTo G.now G.dirty i) ≤ _
        omega
      · have hz : ∀ m, recsTo G.now G.dirty (256 + m) = recsTo G.now G.dirty 256 := fun m => by
          induction m with
          | zero => rfl
          | succ m ih =>
            rw [show 256 + (m + 1) = (256 + m) + 1 by omega, recsTo, ih, if_pos, List.append_nil]
            refine word_zero fun x hx => ?_
            cases hb : G.dirty (64 * (256 + m) + x) with
            | false => rfl
            | true => have := hok.dlt _ hb; have := hok.max; omega
        show 40 + wt (recsTo G.now G.dirty i) ≤ _
        rw [show i = 256 + (i - 256) by omega, hz]
        omega
    · have e : ({ J with D := recsTo G.now G.dirty 0 } : Jn) = J := by cases J; simp only [recsTo] at hJD ⊢; rw [hJD]
      show PX w0 W f j p nm S { J with D := recsTo G.now G.dirty 0 } F G _ _ k
      rw [e]; exact hXW
    · rw [rec_skip h0]; exact h
    · show 40 + wt (recsTo G.now G.dirty (i + 1)) = 40 + wt (recsTo G.now G.dirty i)
      rw [rec_skip h0]
    · refine (hcom W h).mono fun e W1 ⟨c, e1, h5, h6, hf, hs⟩ => ⟨c, e1, fun h0 => ?_, fun h0 => ?_⟩
      · exact (hf h0).mono fun e u' W2 ⟨eu, e2, h1⟩ => ⟨eu, e2, h5, h6, fun _ => h1, fun h => absurd h h0⟩
      · subst h0
        obtain ⟨S', J', k', hX1, hR⟩ := hs rfl
        refine ⟨hX1.pb, fun W2 hM => ?_⟩
        have hX2 : PX w0 W2 f j p nm S' J' (F.logged G.dirty (wt (recsTo G.now G.dirty 256))) G (.slice none 0 0) (.slice a2 G.now.length c2) k' := hX1.sole ⟨rfl, rfl, rfl⟩ hM.pb hM.sole
        exact hX2.drop.mono fun e u' W3 ⟨eu, e2, hX3⟩ => ⟨eu, e2, by decide, by decide, fun h => absurd rfl h, fun _ => ⟨S', J', k', hX3, hR⟩⟩
  obtain ⟨U, O, h, h1, h2, h3⟩ := id hX
  have hl0 : G.last.length = 0 := by
    obtain ⟨a, c, e, _⟩ := h.pm.rl.shape
    injection e with _ e _
    exact e.symm
  refine pcommit_plain h.pm hd hne R (fun W hb => ?_)
  have hXW := hX.below hb
  refine (fcommit_plain hXW.pb hq.fv hq.sl hq.st hq.lg.2 _ none a2 0 0 G.now.length c2 (fun W1 hb1 => ?_)).mono (fun e w' h => h)
  rotate_left
  · refine (store_plain p a2 G.now.length c2 W1 _ ((hrec W1 (hXW.below hb1)).mono fun e w' ⟨c, e1, h5, hR⟩ => ⟨c, e1, h5, hR⟩)).mono fun e w' ⟨c, e1, h6, hf, hs⟩ => ?_
    refine ⟨c, e1, h6, (?_ : Hid (c = 0 → Calls Tryz.prog 78 #[.pointer (some ⟨p, 0, none⟩)] w' fun e w2 => e = .returned (.tuple #[]) ∧ Hid (R 0 w2)) ∧ (c ≠ 0 → (∃ v, w'.cell? ⟨p, 776, none⟩ = some v) ∧ w'.frozen? ⟨p, 776, none⟩ = false) ∧ Hid (c ≠ 0 → R c (w'.setCell ⟨p, 776, none⟩ (.bool (!(decide (c = 6)))))))⟩
    refine ⟨fun h0 => ?_, fun h0 => ⟨(hf h0).1, (hf h0).2.1⟩, fun h0 => ?_⟩
    · obtain ⟨S', J', k', hX1, hR⟩ := hs h0
      have hTw := hX1.tab hT
      obtain ⟨U1, O1, g, g1, g2, g3⟩ := id hX1
      have ht := hT.lt
      refine (pkeep_first g.pm hTw (by have := g3 p (.inl rfl); omega) (fun o => by have := g3 0 (.inr o); omega) hok hpos).mono fun e w2 ⟨e2, O2, lv', hM, hE⟩ => ⟨e2, hR w2 lv' (PX.page g g1 g2 g3 hM ⟨rfl, rfl, rfl⟩ hE)⟩
    · rw [show (!(decide (c = 6))) = true by simp [h6]]
      exact (hf h0).2.2
end Go.Proofs.YtebcmicmklpflaaGreatDoor
