/- Behind a burnt fuse: Append, Remove; cmp.Or. -/
import Derived.Test.YtebcmicmklpflaaGreatDoorK7
namespace Go.Proofs.YtebcmicmklpflaaGreatDoor
open Go.RowKit Go.Maps
set_option linter.unusedSimpArgs false
set_option maxRecDepth 20000 in
theorem append_dead (f : Nat) (S : Fs) (O : Nat → Prop) (k : Nat) (s : ByteArray) (a : Option Addr) (n c : Nat) (w : World) (h : FsIs w f 0 S O k) (hf : S.fuse = some 0) :
    Calls Tryz.prog 144 #[.pointer (some ⟨f, 0, none⟩), .string s, .slice a n c] w fun e w' => e = .returned (.int .i64 26) ∧ FsIs w' f 0 S O k ∧ Below w.heap.size w w' := by
  have hb : Below w.heap.size w ((((w.alloc (.cells #[.pointer (some ⟨f, 0, none⟩)] 25)).alloc (.cells #[.string s] 9)).alloc (.cells #[.slice a n c] 39)).alloc (.cells #[.string s] 9)) := ((((Below.refl _ _).alloc (Nat.le_refl _) _).alloc (by simp) _).alloc (by simp; omega) _).alloc (by simp; omega) _
  have h1 : FsIs ((((w.alloc (.cells #[.pointer (some ⟨f, 0, none⟩)] 25)).alloc (.cells #[.string s] 9)).alloc (.cells #[.slice a n c] 39)).alloc (.cells #[.string s] 9)) f 0 S O k := by
    obtain ⟨K, n, l, pv, ps, hM, hk⟩ := h
    exact ⟨K, n, l, pv, ps, hM.below hb, hk⟩
  have HC := hide (fun v u => (change_dead f S O k v u _ h1 hf).mono fun e w' ⟨e1, h2, h3⟩ => (⟨e1, h2, hb.trans (h3.mono hb.size)⟩ : e = Ending.returned (.int .i64 26) ∧ FsIs w' f 0 S O k ∧ Below w.heap.size w w'))
  clear hb h1 h
  go_enter Tryz.func144, Tryz.ntmps144
  go_wp2_with fail
  refine (unhide HC _ _).mono ?_
  rintro e w9 ⟨rfl, hE⟩
  have HE := hide hE
  clear hE
  go_wp2_with fail
  go_ret
  exact ⟨rfl, unhide HE⟩
set_option maxRecDepth 20000 in
theorem remove_dead (f : Nat) (S : Fs) (O : Nat → Prop) (k : Nat) (s : ByteArray) (w : World) (h : FsIs w f 0 S O k) (hf : S.fuse = some 0) :
    Calls Tryz.prog 146 #[.pointer (some ⟨f, 0, none⟩), .string s] w fun e w' => e = .returned (.int .i64 26) ∧ FsIs w' f 0 S O k ∧ Below w.heap.size w w' := by
  have hb : Below w.heap.size w (((w.alloc (.cells #[.pointer (some ⟨f, 0, none⟩)] 25)).alloc (.cells #[.string s] 9)).alloc (.cells #[.string s] 9)) := (((Below.refl _ _).alloc (Nat.le_refl _) _).alloc (by simp) _).alloc (by simp; omega) _
  have h1 : FsIs (((w.alloc (.cells #[.pointer (some ⟨f, 0, none⟩)] 25)).alloc (.cells #[.string s] 9)).alloc (.cells #[.string s] 9)) f 0 S O k := by
    obtain ⟨K, n, l, pv, ps, hM, hk⟩ := h
    exact ⟨K, n, l, pv, ps, hM.below hb, hk⟩
  have HC := hide (fun v u => (change_dead f S O k v u _ h1 hf).mono fun e w' ⟨e1, h2, h3⟩ => (⟨e1, h2, hb.trans (h3.mono hb.size)⟩ : e = Ending.returned (.int .i64 26) ∧ FsIs w' f 0 S O k ∧ Below w.heap.size w w'))
  clear hb h1 h
  go_enter Tryz.func146, Tryz.ntmps146
  go_wp2_with fail
  refine (unhide HC _ _).mono ?_
  rintro e w9 ⟨rfl, hE⟩
  have HE := hide hE
  clear hE
  go_wp2_with fail
  go_ret
  exact ⟨rfl, unhide HE⟩
set_option maxRecDepth 20000 in
theorem or_first (b : Nat) (w : World) (hc : w.cell? ⟨b, 0, none⟩ = some (.int .i64 26)) : Calls Tryz.prog 145 #[.slice (some ⟨b, 0, none⟩) 2 2] w fun e w' => e = .returned (.int .i64 26) ∧ w' = w := by
  go_enter Tryz.func145, Tryz.ntmps145
  go_wp2_with fail
  refine wp_loop_rounds 1 ?_
  rw [rounds_succ]
  go_wp2_with fail
  go_ret
  exact ⟨rfl, rfl⟩
end Go.Proofs.YtebcmicmklpflaaGreatDoor
