/- Open, where there is no journal yet. -/
import Derived.Test.YtebcmicmklpflaaGreatDoorK11
namespace Go.Proofs.YtebcmicmklpflaaGreatDoor
open Go.RowKit Go.Maps
set_option linter.unusedSimpArgs false
/-- Open up to the groups that are loaded. -/
theorem open_upto (f : Nat) (S : Fs) (O : Nat → Prop) (k : Nat) (nm : ByteArray) (w : World) (h : FsIs w f 0 S O k) (hp : S.pend = []) (hn2 : nm.size ≤ 100) :
    Calls Tryz.prog 47 #[.pointer (some ⟨f, 0, none⟩)] w fun e w1 => e = .returned (.int .i64 0) ∧ Hid (Calls Tryz.prog 48 #[.string nm] w1 fun e w2 => e = .returned (.string nm) ∧ Hid (FsIs (w2.alloc (jBlk0 f nm 0)) f 0 S O k ∧ (w2.alloc (jBlk0 f nm 0)).heap[w2.heap.size]? = some (jBlk0 f nm 0) ∧ ¬ O w2.heap.size ∧ w.heap.size ≤ w2.heap.size ∧ Below w.heap.size w (w2.alloc (jBlk0 f nm 0)))) := by
  refine (pending_ok f S O k w h).mono fun e w1 ⟨e1, hF1, hb1⟩ => ⟨by rw [e1, hp]; rfl, ?_⟩
  refine (clone_any nm w1 (by omega)).mono fun e w2 ⟨e2, hb2⟩ => ⟨e2, ?_⟩
  have hF2 : FsIs w2 f 0 S O k := hF1.kept hb2.size (fun q o => hb2.block q (hF1.lt q o))
  have hb : Below w.heap.size w w2 := hb1.trans (hb2.mono hb1.size)
  have hba : Below w2.heap.size w2 (w2.alloc (jBlk0 f nm 0)) := (Below.refl _ _).alloc (Nat.le_refl _) _
  refine ⟨hF2.kept hba.size (fun q o => hba.block q (hF2.lt q o)), heap_alloc_new _ _, fun o => absurd (hF2.lt _ o) (Nat.lt_irrefl _), hb.size, hb.trans (hba.mono hb.size)⟩
/-- A journal without a group, and a FS. -/
theorem js_new {w' : World} {j f : Nat} {nm : ByteArray} {S : Fs} {O : Nat → Prop} {k : Nat} (h : FsIs w' f 0 S O k) (hj : w'.heap[j]? = some (jBlk0 f nm 0)) (hO : ¬ O j) : JS w' f j nm S ⟨[], [], 0, false⟩ (fun q => O q ∨ q = j) k := by
  have hjl : j < w'.heap.size := (Array.getElem?_eq_some_iff.1 hj).1
  refine ⟨O, fun _ => False, fun _ => False, .slice none 0 0, .slice none 0 0, [], h, ⟨⟨hj, id, World.ownsRow_nil _ _ _ _, fun q e => by simp [Value.ownBlock] at e, trivial, fun _ o => o.elim⟩, Recs.nil _ _, fun _ o => o.elim, id, fun _ o => o.elim⟩, fun q o => ⟨id, id, fun e => hO (e ▸ o)⟩, fun _ o => .inl o, fun _ o => o.elim, fun _ o => o.elim, .inr rfl, ?_⟩
  rintro q (o | rfl)
  · exact h.lt q o
  · exact hjl
set_option maxRecDepth 20000 in
set_option maxHeartbeats 1000000 in
theorem open_none (f : Nat) (S : Fs) (O : Nat → Prop) (k : Nat) (nm : ByteArray) (w : World) (h : FsIs w f 0 S O k) (hp : S.pend = []) (hk : k ≤ 16000) (hn : 1 ≤ nm.size) (hn2 : nm.size ≤ 100) (hNs : ∀ s i, S.now.N s = some i → s.size ≤ 300) (hP : NoPart S.now nm) (hN : S.now.N nm = none) :
    Calls Tryz.prog 16 #[.pointer (some ⟨f, 0, none⟩), .string nm] w fun e w' => ∃ j, e = .returned (.tuple #[.pointer (some ⟨j, 0, none⟩), .int .i64 0]) ∧ w.heap.size ≤ j ∧ JS w' f j nm S ⟨[], [], 0, false⟩ (fun q => O q ∨ q = j) k ∧ Below w.heap.size w w' := by
  have HP := hide (open_upto f S O k nm w h hp hn2)
  have HL : Hid (∀ w2 : World, FsIs (w2.alloc (jBlk0 f nm 0)) f 0 S O k → (w2.alloc (jBlk0 f nm 0)).heap[w2.heap.size]? = some (jBlk0 f nm 0) → ¬ O w2.heap.size → w.heap.size ≤ w2.heap.size → Below w.heap.size w (w2.alloc (jBlk0 f nm 0)) → Calls Tryz.prog 49 #[.pointer (some ⟨w2.heap.size, 0, none⟩)] (w2.alloc (jBlk0 f nm 0)) fun e w' => e = .returned (.slice none 0 0) ∧ Hid (w.heap.size ≤ w2.heap.size ∧ JS w' f w2.heap.size nm S ⟨[], [], 0, false⟩ (fun q => O q ∨ q = w2.heap.size) k ∧ Below w.heap.size w w')) := fun w2 h1 h2 h3 h4 h5 => by
    refine (load_none w2.heap.size f S O k nm _ h1 h2 hk hn2 hNs hP hN).mono fun e w' ⟨e1, hF, hb⟩ => ⟨e1, h4, js_new hF (by rw [hb.block _ (Array.getElem?_eq_some_iff.1 h2).1]; exact h2) h3, h5.trans (hb.mono h5.size)⟩
  have h1 : (1 : Int) ≤ (nm.size : Int) := by omega
  have h2 : (nm.size : Int) ≤ 100 := by omega
  clear h hp hk hn hn2 hNs hP hN
  go_enter Tryz.func16, Tryz.ntmps16
  go_wp2_with fail
  refine (unhide HP).mono ?_
  rintro e w1 ⟨rfl, HC⟩
  go_wp2_with fail
  refine (unhide HC).mono ?_
  rintro e w2 ⟨rfl, HQ⟩
  have HL2 := hide (unhide HL w2 (unhide HQ).1 (unhide HQ).2.1 (unhide HQ).2.2.1 (unhide HQ).2.2.2.1 (unhide HQ).2.2.2.2)
  clear HL HP HQ HC
  go_wp2_with fail
  refine (unhide HL2).mono ?_
  rintro e w3 ⟨rfl, HF⟩
  go_wp2_with fail
  go_loop [41] (fun i => i = .int .i64 0) (fun _ => 0)
  case atStart => rfl
  case round =>
    subst hrel
    go_wp2_with fail
    exact bodyPost_ret (by simp [results, Tryz.results16]) rfl ⟨_, rfl, unhide HF⟩
end Go.Proofs.YtebcmicmklpflaaGreatDoor
