/- Pages: the records that a Commit gives the log. -/
import Derived.Test.YtebcmicmklpflaaGreatDoorAa
import Derived.Test.YtebcmicmklpflaaGreatDoorPy
namespace Go.Proofs.YtebcmicmklpflaaGreatDoor
open Go.RowKit Go.Maps
set_option linter.unusedSimpArgs false
/-- A record for each sheet that is dirty. -/
def recsTo (ps : List Pge) (s : Nat → Bool) : Nat → List (List UInt8)
  | 0 => []
  | k + 1 => recsTo ps s k ++ (if word s k = 0 then [] else [encB ps k (lst s (64 * k) 64)])
theorem recsTo_len (ps : List Pge) (s : Nat → Bool) : ∀ k, (recsTo ps s k).length ≤ k
  | 0 => Nat.le_refl _
  | k + 1 => by
    have := recsTo_len ps s k
    simp only [recsTo, List.length_append]
    split <;> simp <;> omega
theorem wt_le_add (a b : List (List UInt8)) : wt a ≤ wt (a ++ b) := by rw [wt_append]; omega
theorem recsTo_mono (ps : List Pge) (s : Nat → Bool) (k : Nat) : ∀ n, wt (recsTo ps s k) ≤ wt (recsTo ps s (k + n))
  | 0 => Nat.le_refl _
  | n + 1 => Nat.le_trans (recsTo_mono ps s k n) (by show _ ≤ wt (recsTo ps s (k + n) ++ _); exact wt_le_add _ _)
theorem recsTo_none (ps : List Pge) (s : Nat → Bool) : ∀ k, (∀ i, i < k → word s i = 0) → recsTo ps s k = []
  | 0, _ => rfl
  | k + 1, h => by
    rw [recsTo, recsTo_none ps s k (fun i hi => h i (by omega)), if_pos (h k (by omega))]
    rfl
/-- Where the first sheet alone is dirty. -/
theorem recs_one (ps : List Pge) (s : Nat → Bool) (h0 : word s 0 ≠ 0) (h : ∀ i, 0 < i → word s i = 0) : ∀ k, recsTo ps s (k + 1) = [encB ps 0 (lst s 0 64)]
  | 0 => by simp [recsTo, h0]
  | k + 1 => by
    rw [recsTo, recs_one ps s h0 h k, if_pos (h (k + 1) (by omega))]
    rfl
/-- The marks behind a Commit. -/
def Fl.logged (F : Fl) (s : Nat → Bool) (n : Nat) : Fl := { F with lg := F.lg + (40 + n : Nat), st := stTo F.st s 256 }
theorem lst_lt {G : Pgr} (h : G.Ok) (a n : Nat) : ∀ x ∈ lst G.dirty a n, x < G.now.length := fun x hx => h.dlt x ((lst_mem n a).1 hx).2.2
theorem Tab.px {w0 W : World} {f j p : Nat} {nm : ByteArray} {S : Fs} {J : Jn} {F : Fl} {G : Pgr} {lv nv : Value} {k : Nat} (hT : Tab w0) (h : PX w0 W f j p nm S J F G lv nv k) : Tab W := h.tab hT
theorem PX.log_le {w0 W : World} {f j p : Nat} {nm : ByteArray} {S : Fs} {J : Jn} {F : Fl} {G : Pgr} {lv nv : Value} {k : Nat} (h : PX w0 W f j p nm S J F G lv nv k) : PX w0 W f j p nm S J F G lv nv k := h
/-- What is dirty is laid down in the log. -/
theorem rec_steps {w0 : World} {f j p : Nat} {nm : ByteArray} {S : Fs} {J : Jn} {F : Fl} {G : Pgr} {lv nv : Value} {k0 : Nat} (hT : Tab w0) (hok : G.Ok) (hsz : G.Sz) (hal : J.dead = false) (hw : wt (recsTo G.now G.dirty 256) ≤ 524288) (k : Nat) (W : World) (hk : k < 256) (hX : PX w0 W f j p nm S { J with D := recsTo G.now G.dirty k } F G lv nv k0) (h0 : word G.dirty k ≠ 0) :
    Calls Tryz.prog 167 #[nv, .int .i64 (k : Int), .int .u64 ((word G.dirty k : Nat) : Int)] W fun e W1 => ∃ a l c, e = .returned (.slice a l c) ∧ 40 + wt (recsTo G.now G.dirty (k + 1)) = 40 + wt (recsTo G.now G.dirty k) + l ∧ PB W1 p (pcell F lv nv G.free G.dirty G.dead) ∧ Hid (Calls Tryz.prog 22 #[.pointer (some ⟨j, 0, none⟩), .slice a l c] W1 fun e W2 => e = .returned (.int .i64 0) ∧ Hid (PX w0 W2 f j p nm S { J with D := recsTo G.now G.dirty (k + 1) } F G lv nv k0)) := by
  obtain ⟨U, O, h, h1, h2, h3⟩ := hX
  have hTW : Tab W := hT.kept (h1.block 0 hT.lt)
  refine (encode_ok G.dirty k nv G.now O W h.pm.rn h.pm.lt hTW hk (lst_lt hok _ _) hsz.dat h.pm.len).mono fun e W1 ⟨r, cap, e1, hR, hb⟩ => ?_
  have hwk : wt (recsTo G.now G.dirty (k + 1)) = wt (recsTo G.now G.dirty k) + (encB G.now k (lst G.dirty (64 * k) 64)).length := by
    rw [recsTo, if_neg h0, wt_append]; simp [wt]
  have hX1 : PX w0 W1 f j p nm S { J with D := recsTo G.now G.dirty k } F G lv nv k0 := PX.below ⟨U, O, h, h1, h2, h3⟩ hb
  refine ⟨_, _, _, e1, by rw [hwk]; omega, hX1.pb, ?_⟩
  have hle := recsTo_mono G.now G.dirty (k + 1) (256 - (k + 1))
  rw [show k + 1 + (256 - (k + 1)) = 256 by omega] at hle
  have hl := recsTo_len G.now G.dirty k
  obtain ⟨U, O, h, h1, h2, h3⟩ := hX1
  refine (add_rec W1 f j nm S _ U k0 _ cap _ h.js hal hR.row (by show wt (recsTo G.now G.dirty k) + _ ≤ _; omega) (by show (recsTo G.now G.dirty k).length < _; omega)).mono fun e W2 ⟨e2, U', hJ, hE⟩ => ⟨e2, ?_⟩
  have hj : Jn.add { J with D := recsTo G.now G.dirty k } (encB G.now k (lst G.dirty (64 * k) 64)) = { J with D := recsTo G.now G.dirty (k + 1) } := by
    simp only [Jn.add, recsTo, if_neg h0]
  rw [hj] at hJ
  exact PX.log h h1 h2 h3 hJ hE
theorem rec_skip {G : Pgr} {k : Nat} (h0 : word G.dirty k = 0) : recsTo G.now G.dirty (k + 1) = recsTo G.now G.dirty k := by rw [recsTo, if_pos h0, List.append_nil]
theorem PX.sole {w0 W1 W : World} {f j p : Nat} {nm : ByteArray} {S : Fs} {J : Jn} {F F' : Fl} {G : Pgr} {lv nv : Value} {k : Nat} (h : PX w0 W1 f j p nm S J F G lv nv k) (hF : F'.f = F.f ∧ F'.j = F.j ∧ F'.nm = F.nm) (hp : PB W p (pcell F' lv nv G.free G.dirty G.dead)) (hs : Dg.Sole p W1 W) : PX w0 W f j p nm S J F' G lv nv k := by
  obtain ⟨U, O, h, h1, h2, h3⟩ := h
  have hk : ∀ q, O q → W.heap[q]? = W1.heap[q]? := fun q o => hs.block q (h.pm.lt q o) (fun e => h.pm.np (e ▸ o))
  obtain ⟨_, _, o1, _⟩ := h.pm.rl
  obtain ⟨_, _, o2, _⟩ := h.pm.rn
  refine PX.page h h1 h2 h3 ⟨hp, h.pm.rl.kept (fun _ o => o) (fun q e => hk q (o1 q e)) (fun q _ o _ => hk q o), h.pm.rn.kept (fun _ o => o) (fun q e => hk q (o2 q e)) (fun q _ o _ => hk q o), h.pm.sep, h.pm.np, fun q o => Nat.lt_of_lt_of_le (h.pm.lt q o) hs.size, h.pm.len⟩ hF ⟨hs.os, hs.tape, hs.output, hs.size, fun q h4 h5 => hs.block q h4 (fun e => h5 (.inl e)), fun q o => .inl o⟩
theorem PX.drop {w0 W : World} {f j p : Nat} {nm : ByteArray} {S : Fs} {J : Jn} {F : Fl} {G : Pgr} {lv nv : Value} {k : Nat} (h : PX w0 W f j p nm S J F G lv nv k) :
    CallsD Tryz.prog 32 #[.pointer (some ⟨j, 0, none⟩)] .returning W fun e u' W' => u' = .returning ∧ e = .returned (.tuple #[]) ∧ PX w0 W' f j p nm S { J with D := [] } F G lv nv k := by
  obtain ⟨U, O, h, h1, h2, h3⟩ := h
  obtain ⟨Of, Oj, OL, gv, lvj, qs, hF, hJ, hdis, u1, u2, u3, u4, u5⟩ := h.js
  obtain ⟨_, _, _, _, _, c8, c9, _, cz⟩ := jn_cells hJ.gm.blk
  refine (drop_deferred j _ _ W c8 c9 cz).mono fun e u' W' ⟨eu, e1, e2⟩ => ⟨eu, e1, ?_⟩
  have hset : ∀ b, b ≠ j → ((W.setCell ⟨j, 8, none⟩ (.slice none 0 0)).setCell ⟨j, 9, none⟩ (.int .i64 0)).heap[b]? = W.heap[b]? := fun b hb => by rw [set_other _ _ _ _ _ hb, set_other _ _ _ _ _ hb]
  subst e2
  refine PX.log h h1 h2 h3 (U' := U) ⟨Of, Oj, fun _ => False, gv, .slice none 0 0, qs, ?_, ⟨?_, Recs.nil _ _, fun _ _ h => h, id, fun _ o => o.elim⟩, fun q o => ⟨(hdis q o).1, id, (hdis q o).2.2⟩, u1, u2, fun _ o => o.elim, u4, ?_⟩ ⟨rfl, rfl, rfl, by simp only [size_set]; exact Nat.le_refl _, fun q p1 p2 => hset q (fun e => p2 (e ▸ u4)), fun q o => .inl o⟩
  · exact hF.kept (by simp only [size_set]; exact Nat.le_refl _) (fun q o => hset q (hdis q o).2.2)
  · exact hJ.gm.re (J' := { J with D := [] }) (by simp only [size_set]; exact Nat.le_refl _) (jn_drop hJ.gm.blk) rfl (fun q o => hset q (fun e => hJ.gm.nj (e ▸ o)))
  · simp only [size_set]; exact u5
end Go.Proofs.YtebcmicmklpflaaGreatDoor
