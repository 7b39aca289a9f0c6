/- Pages: a Commit that is done. -/
import Derived.Test.YtebcmicmklpflaaGreatDoorAh
namespace Go.Proofs.YtebcmicmklpflaaGreatDoor
open Go.RowKit Go.Maps
set_option linter.unusedSimpArgs false
theorem commit_px {w0 w : World} {f j p : Nat} {nm : ByteArray} {S : Fs} {J : Jn} {F : Fl} {G : Pgr} {nv : Value} {k : Nat} (hT : Tab w0) (hX : PX w0 w f j p nm S J F G (.slice none 0 0) nv k) (hok : G.Ok) (hsz : G.Sz) (hd : G.dead = false) (hne : cntTo G.dirty 256 ≠ 0) (hpos : 0 < G.now.length) (hJD : J.D = []) (hq : F.Quiet) (hw : wt (recsTo G.now G.dirty 256) ≤ 524288) (hC : CanCommit S nm { J with D := recsTo G.now G.dirty 256 } k) :
    Calls Tryz.prog 38 #[.pointer (some ⟨p, 0, none⟩)] w fun e w' => e = .returned (.int .i64 0) ∧ ∃ (S' : Fs) (lv' : Value), PX w0 w' f j p nm S' ⟨J.G ++ [recsTo G.now G.dirty 256], [], 1, J.dead⟩ (F.logged G.dirty (wt (recsTo G.now G.dirty 256))) G.keep lv' nv (k + 6) ∧ Was S S' nm (encs z32 (J.G ++ [recsTo G.now G.dirty 256])) ((enc (digs z32 J.G) (recsTo G.now G.dirty 256)).length : Int) := by
  refine (commit_walk hT hX hok hsz hd hne hpos hJD hC.alive hq hw (fun c w' => c = 0 ∧ ∃ (S' : Fs) (lv' : Value), PX w0 w' f j p nm S' ⟨J.G ++ [recsTo G.now G.dirty 256], [], 1, J.dead⟩ (F.logged G.dirty (wt (recsTo G.now G.dirty 256))) G.keep lv' nv (k + 6) ∧ Was S S' nm (encs z32 (J.G ++ [recsTo G.now G.dirty 256])) ((enc (digs z32 J.G) (recsTo G.now G.dirty 256)).length : Int)) (fun W h => ?_)).mono fun e w' ⟨c, e1, h0, h1⟩ => ⟨by rw [e1, h0], h1⟩
  obtain ⟨U, O, g, g1, g2, g3⟩ := h
  refine (commit_ok W f j nm S _ U k g.js hC).mono fun e W1 ⟨e1, S', U', hJ, hW, hE⟩ => ⟨0, e1, by decide, by decide, fun h => absurd rfl h, fun _ => ⟨S', _, k + 6, PX.log g g1 g2 g3 hJ hE, fun W2 lv' hX2 => ⟨rfl, S', lv', hX2, hW⟩⟩⟩
end Go.Proofs.YtebcmicmklpflaaGreatDoor
