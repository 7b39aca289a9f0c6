/- A Commit that the fuse breaks off: what may be there behind a crash. -/
import Derived.Test.YtebcmicmklpflaaGreatDoorWa
import Derived.Test.YtebcmicmklpflaaGreatDoorTa
namespace Go.Proofs.YtebcmicmklpflaaGreatDoor
open Go.RowKit Go.Maps
set_option linter.unusedSimpArgs false
/-- Whatever a crash keeps: the file has the one bytes or the other, and there is no other file. -/
def Brk (S : Fs) (nm : ByteArray) (D1 D2 : List UInt8) : Prop :=
  ∀ m z T z', runs S.pend (S.las, z) ≠ none → m ≤ S.pend.length → runs (S.pend.take m) (S.las, z) = some (T, z') → (∀ s, s ≠ nm → T.N s = none) ∧ ∃ p, HasF T nm p D1 ∨ HasF T nm p D2
theorem others_none {nm : ByteArray} {T T' : Tb} (h : Others nm T T') (ho : ∀ s, s ≠ nm → T.N s = none) : ∀ s, s ≠ nm → T'.N s = none := fun s hs => ((h s hs).1).trans (ho s hs)
theorem brk_same {S : Fs} {nm : ByteArray} {p : Nat} {D1 D2 : List UInt8} (hp : S.pend = []) (ho : ∀ s, s ≠ nm → S.las.N s = none) (hH : HasF S.las nm p D1) : Brk S nm D1 D2 := fun m z T z' _ _ h => by
  rw [hp] at h
  simp only [List.take_nil, runs, Option.some.injEq, Prod.mk.injEq] at h
  rw [← h.1]
  exact ⟨ho, p, .inl hH⟩
/-- The file is written anew, empty. -/
theorem brk_write {S S' : Fs} {nm : ByteArray} {p z0 : Nat} {D1 D2 d0 : List UInt8} (hl : S'.las = S.las) (hp : S'.pend = [.write nm [] z0]) (ho : ∀ s, s ≠ nm → S.las.N s = none) (hH : HasF S.las nm p d0) (hz : ∀ s i, S.las.N s = some i → i < z0) (h1 : d0 = D1) (h2 : [] = D1 ∨ [] = D2) : Brk S' nm D1 D2 := fun m z T z' hr hm h => by
  rw [hp] at h hm hr
  rw [hl] at h hr
  have hzz : z ≤ z0 := by
    by_cases e : z ≤ z0
    · exact e
    · simp [runs, Th.ap, e] at hr
  match m, hm with
  | 0, _ =>
    simp only [List.take_zero, runs, Option.some.injEq, Prod.mk.injEq] at h
    rw [← h.1, ← h1]
    exact ⟨ho, p, .inl hH⟩
  | m + 1, _ =>
    have hT : S.las.write nm [] z0 = T := by
      simp [runs, Th.ap, hzz] at h
      exact h.1
    have hA : Alone (S.las.write nm [] z0) nm z0 [] ∧ Others nm S.las (S.las.write nm [] z0) := by
      rcases hH with ⟨_, hN, _⟩ | ⟨_, i, hA⟩
      · obtain ⟨a1, a2, _⟩ := Alone.new hN hz []
        exact ⟨a1, a2⟩
      · obtain ⟨a1, a2, _⟩ := hA.anew hz []
        exact ⟨a1, a2⟩
    rw [← hT]
    refine ⟨others_none hA.2 ho, 1, ?_⟩
    rcases h2 with h2 | h2
    · rw [← h2]; exact .inl (.inr ⟨rfl, z0, hA.1⟩)
    · rw [← h2]; exact .inr (.inr ⟨rfl, z0, hA.1⟩)
/-- The file is written anew, and filled. -/
theorem brk_two {S S' : Fs} {nm : ByteArray} {z0 : Nat} {d : List UInt8} (hl : S'.las = S.las) (hp : S'.pend = [.write nm [] z0, .fill nm d]) (ho : ∀ s, s ≠ nm → S.las.N s = none) (hN : S.las.N nm = none) (hz : ∀ s i, S.las.N s = some i → i < z0) : Brk S' nm [] d := fun m z T z' hr hm h => by
  rw [hp] at h hm hr
  rw [hl] at h hr
  have hzz : z ≤ z0 := by
    by_cases e : z ≤ z0
    · exact e
    · simp [runs, Th.ap, e] at hr
  obtain ⟨a1, a2, _⟩ := Alone.new hN hz []
  match m, hm with
  | 0, _ =>
    simp only [List.take_zero, runs, Option.some.injEq, Prod.mk.injEq] at h
    rw [← h.1]
    exact ⟨ho, 0, .inl (.inl ⟨rfl, hN, rfl⟩)⟩
  | 1, _ =>
    have hT : S.las.write nm [] z0 = T := by
      simp [runs, Th.ap, hzz] at h
      exact h.1
    rw [← hT]
    exact ⟨others_none a2 ho, 1, .inl (.inr ⟨rfl, z0, a1⟩)⟩
  | m + 2, _ =>
    have hT : (S.las.write nm [] z0).put z0 d = T := by
      simp [runs, Th.ap, hzz, a1.N] at h
      exact h.1
    obtain ⟨b1, b2, _⟩ := a1.put d
    rw [a1.D] at b1 b2
    simp only [List.nil_append] at b1 b2
    rw [← hT]
    exact ⟨others_none (a2.trans b2) ho, 1, .inr (.inr ⟨rfl, z0, b1⟩)⟩
/-- The file is filled. -/
theorem brk_fill {S S' : Fs} {nm : ByteArray} {i : Nat} {d0 d : List UInt8} (hl : S'.las = S.las) (hp : S'.pend = [.fill nm (d0 ++ d)]) (ho : ∀ s, s ≠ nm → S.las.N s = none) (hA : Alone S.las nm i d0) : Brk S' nm d0 (d0 ++ d) := fun m z T z' hr hm h => by
  rw [hp] at h hm hr
  rw [hl] at h hr
  match m, hm with
  | 0, _ =>
    simp only [List.take_zero, runs, Option.some.injEq, Prod.mk.injEq] at h
    rw [← h.1]
    exact ⟨ho, 1, .inl (.inr ⟨rfl, i, hA⟩)⟩
  | m + 1, _ =>
    have hT : S.las.put i (d0 ++ d) = T := by
      simp [runs, Th.ap, hA.N] at h
      exact h.1
    obtain ⟨b1, b2, _⟩ := hA.put d
    rw [hA.D] at b1 b2
    rw [← hT]
    exact ⟨others_none b2 ho, 1, .inr (.inr ⟨rfl, i, b1⟩)⟩
/-- What a lay that breaks off leaves. -/
def LayBr (j f : Nat) (nm : ByteArray) (J : Jn) (gv lv : Value) (D1 D2 : List UInt8) (Of : Nat → Prop) (k : Nat) (w w' : World) : Prop :=
  ∃ S' O' p', FsIs w' f 0 S' O' (k + 6) ∧ Brk S' nm D1 D2 ∧ w'.heap[j]? = some (jnBlk f nm { J with parts := p' } gv lv) ∧ FFr (fun q => Of q ∨ q = j) (fun q => O' q ∨ q = j) w w' ∧ ¬ O' j
theorem FsIs.up {w : World} {f : Nat} {lk : Int} {S : Fs} {O : Nat → Prop} {k k' : Nat} (h : FsIs w f lk S O k) (hk : k ≤ k') : FsIs w f lk S O k' := by
  obtain ⟨K, n, l, pv, ps, hM, hnk, hex⟩ := h
  exact ⟨K, n, l, pv, ps, hM, by omega, hex⟩
theorem below_ffr {O : Nat → Prop} {w w' : World} (h : Below w.heap.size w w') : FFr O O w w' := ⟨h.os, h.tape, h.output, h.size, fun q p1 _ => h.block q p1, fun _ o => .inl o⟩
set_option maxRecDepth 20000 in
set_option maxHeartbeats 1000000 in
/-- add behind a burnt fuse, where the file is there. -/
theorem add_dead1 (j f : Nat) (nm : ByteArray) (S : Fs) (Of : Nat → Prop) (k : Nat) (J : Jn) (gv lv : Value) (a : Option Addr) (n c : Nat) (w : World) (h : FsIs w f 0 S Of k) (hj : w.heap[j]? = some (jnBlk f nm J gv lv)) (hp1 : J.parts = 1) (hf : S.fuse = some 0) :
    Calls Tryz.prog 105 #[.pointer (some ⟨j, 0, none⟩), .slice a n c] w fun e w' => e = .returned (.int .i64 26) ∧ FsIs w' f 0 S Of k ∧ Below w.heap.size w w' := by
  have hb := hj
  unfold jnBlk at hb
  rw [hp1] at hb
  have c0 : w.cell? ⟨j, 0, none⟩ = some (.pointer (some ⟨f, 0, none⟩)) := by simp [World.cell?, hb]
  have c1 : w.cell? ⟨j, 1, none⟩ = some (.string nm) := by simp [World.cell?, hb]
  have c2 : w.cell? ⟨j, 2, none⟩ = some (.int .i64 1) := by simp [World.cell?, hb]
  have HP := hide (part_zero j nm w.drew c1)
  have HA : Hid (Calls Tryz.prog 144 #[.pointer (some ⟨f, 0, none⟩), .string nm, .slice a n c] w.drew fun e w' => e = .returned (.int .i64 26) ∧ w'.cell? ⟨j, 0, none⟩ = some (.pointer (some ⟨f, 0, none⟩)) ∧ w'.cell? ⟨j, 2, none⟩ = some (.int .i64 1) ∧ FsIs w' f 0 S Of k ∧ Below w.heap.size w w') :=
    (append_dead f S Of k nm a n c w.drew h.drew hf).mono fun e w' ⟨e1, h1, h2⟩ => by
      have h2' : Below w.heap.size w w' := ⟨h2.os, h2.tape, h2.output, h2.size, h2.block⟩
      exact ⟨e1, by rw [h2'.cell (p := ⟨j, 0, none⟩) (cellLt c0)]; exact c0, by rw [h2'.cell (p := ⟨j, 2, none⟩) (cellLt c2)]; exact c2, h1, h2'⟩
  clear h hj hb hf
  go_enter Tryz.func105, Tryz.ntmps105
  go_wp2_with fail
  refine wp_region_noPanic ?_
  go_region_held3 (fun W' => W'.cell? ⟨j, 0, none⟩ = some (.pointer (some ⟨f, 0, none⟩)) ∧ W'.cell? ⟨j, 2, none⟩ = some (.int .i64 1)) (go_keep) (first | (go_at_call 97; refine Calls.mono (unhide HP) ?_; rintro e w2 ⟨rfl, rfl⟩) | (go_at_call 144; refine Calls.mono (unhide HA) ?_; rintro e w2 ⟨rfl, e0, e2, hE⟩))
  all_goals
    refine NoPanic.normal ?_
    have HE := hide hE
    clear hE e0 e2 HA HP
    go_wp2_with fail
    go_ret
    exact ⟨rfl, unhide HE⟩
set_option maxRecDepth 20000 in
set_option maxHeartbeats 1000000 in
/-- add whose Append the fuse breaks off. -/
theorem add_broke1 (j f : Nat) (nm : ByteArray) (S : Fs) (Of : Nat → Prop) (k : Nat) (J : Jn) (gv lv : Value) (a : Option Addr) (c : Nat) (n : Nat) (w : World) (h : FsIs w f 0 S Of k) (hj : w.heap[j]? = some (jnBlk f nm J gv lv)) (hOj : ¬ Of j) (hp1 : J.parts = 0) (hk : k ≤ 15000) (hf : S.fuse = some 1) (hp : S.pend.length < 16000) (hs : 1 ≤ nm.size ∧ nm.size ≤ 300) (hN : S.now.N nm = none) (hu : S.now.u ≤ (S.room : Int)) :
    Calls Tryz.prog 105 #[.pointer (some ⟨j, 0, none⟩), .slice a n c] w fun e w' => e = .returned (.int .i64 26) ∧ ∃ z O', (∀ s' i, S.now.N s' = some i → i < z) ∧ FsIs w' f 0 (S.done (S.now.write nm [] z) (.write nm [] z)) O' (k + 3) ∧ w'.heap[j]? = some (jnBlk f nm J gv lv) ∧ FFr Of O' w w' ∧ ¬ O' j := by
  have hb := hj
  unfold jnBlk at hb
  rw [hp1] at hb
  have c0 : w.cell? ⟨j, 0, none⟩ = some (.pointer (some ⟨f, 0, none⟩)) := by simp [World.cell?, hb]
  have c1 : w.cell? ⟨j, 1, none⟩ = some (.string nm) := by simp [World.cell?, hb]
  have c2 : w.cell? ⟨j, 2, none⟩ = some (.int .i64 0) := by simp [World.cell?, hb]
  have hjl : j < w.heap.size := (Array.getElem?_eq_some_iff.1 hj).1
  have ha : S.now.alone nm = 0 := by unfold Tb.alone; rw [hN]
  have HP := hide (part_zero j nm w c1)
  have HWr : Hid (Calls Tryz.prog 28 #[.pointer (some ⟨f, 0, none⟩), .string nm, .slice none 0 0] w fun e w1 => e = .returned (.int .i64 0) ∧ w1.cell? ⟨j, 0, none⟩ = some (.pointer (some ⟨f, 0, none⟩)) ∧ Hid (Calls Tryz.prog 144 #[.pointer (some ⟨f, 0, none⟩), .string nm, .slice a n c] w1 fun e w2 => e = .returned (.int .i64 26) ∧ w2.cell? ⟨j, 0, none⟩ = some (.pointer (some ⟨f, 0, none⟩)) ∧ Hid (Calls Tryz.prog 146 #[.pointer (some ⟨f, 0, none⟩), .string nm] w2 fun e w3 => e = .returned (.int .i64 26) ∧ Hid (∀ o : Obj, ∃ z O', (∀ s' i, S.now.N s' = some i → i < z) ∧ FsIs (w3.alloc o) f 0 (S.done (S.now.write nm [] z) (.write nm [] z)) O' (k + 3) ∧ (w3.alloc o).heap[j]? = some (jnBlk f nm J gv lv) ∧ FFr Of O' w (w3.alloc o) ∧ ¬ O' j)) ∧ Hid (Calls Tryz.prog 146 #[.pointer (some ⟨f, 0, none⟩), .string nm] w2.drew fun e w3 => e = .returned (.int .i64 26) ∧ Hid (∀ o : Obj, ∃ z O', (∀ s' i, S.now.N s' = some i → i < z) ∧ FsIs (w3.alloc o) f 0 (S.done (S.now.write nm [] z) (.write nm [] z)) O' (k + 3) ∧ (w3.alloc o).heap[j]? = some (jnBlk f nm J gv lv) ∧ FFr Of O' w (w3.alloc o) ∧ ¬ O' j)))) := by
    refine (write_ok f S Of k nm none 0 [] 0 w h (by omega) (by rw [hf]; simp) (by omega) hs (by simp) (by rw [ha]; simp; omega) (row_nil _ _) (Nat.zero_le _)).mono fun e w1 ⟨e1, z, O', h1, h2, h3⟩ => ⟨e1, h3.cell? hOj c0, ?_⟩
    have hfz : (S.done (S.now.write nm [] z) (.write nm [] z)).fuse = some 0 := by show S.fuse.map Nat.pred = some 0; rw [hf]; rfl
    refine (append_dead f _ O' (k + 3) nm a n c w1 h2 hfz).mono fun e w2 ⟨e2, h4, h5⟩ => ⟨e2, ?_⟩
    have hE2 : FFr Of O' w w2 := h3.trans (below_ffr h5)
    have hfin : ∀ w3, FsIs w3 f 0 (S.done (S.now.write nm [] z) (.write nm [] z)) O' (k + 3) → Below w2.heap.size w2 w3 → Hid (∀ o : Obj, ∃ z O', (∀ s' i, S.now.N s' = some i → i < z) ∧ FsIs (w3.alloc o) f 0 (S.done (S.now.write nm [] z) (.write nm [] z)) O' (k + 3) ∧ (w3.alloc o).heap[j]? = some (jnBlk f nm J gv lv) ∧ FFr Of O' w (w3.alloc o) ∧ ¬ O' j) := fun w3 h6 h7 o => by
      have h8 : Below w3.heap.size w3 (w3.alloc o) := (Below.refl _ _).alloc (Nat.le_refl _) _
      have hE3 : FFr Of O' w (w3.alloc o) := (hE2.trans (below_ffr h7)).trans (below_ffr h8)
      exact ⟨z, O', h1, h6.kept h8.size (fun q o => h8.block q (h6.lt q o)), (hE3.rest j hjl hOj).trans hj, hE3, hE3.not hOj hjl⟩
    refine ⟨hE2.cell? hOj c0, (remove_dead f _ O' (k + 3) nm w2 h4 hfz).mono fun e w3 ⟨e3, h6, h7⟩ => ⟨e3, hfin w3 h6 h7⟩, (remove_dead f _ O' (k + 3) nm w2.drew h4.drew hfz).mono fun e w3 ⟨e3, h6, h7⟩ => ⟨e3, hfin w3 h6 ⟨h7.os, h7.tape, h7.output, h7.size, h7.block⟩⟩⟩
  have HOr := hide (fun (w : World) (b : Nat) (hc : w.cell? ⟨b, 0, none⟩ = some (.int .i64 26)) => or_first b w hc)
  clear h hj hb hf hk hp hs hN hu ha
  go_enter Tryz.func105, Tryz.ntmps105
  go_wp2_with fail
  refine (unhide HP).mono ?_
  rintro e w' ⟨rfl, rfl⟩
  go_wp2_with fail
  refine (unhide HWr).mono ?_
  rintro e w1 ⟨rfl, d0, HA⟩
  clear HWr
  go_wp2_with fail
  refine (unhide HA).mono ?_
  rintro e w2 ⟨rfl, e0, HR, HRd⟩
  clear HA
  go_wp2_with fail
  refine (unhide HR).mono ?_
  rintro e w3 ⟨rfl, HE⟩
  clear HR HRd
  go_wp2_with fail
  have hcc : (w3.alloc (.cells #[.int .i64 26, .int .i64 26] 26)).cell? ⟨w3.heap.size, 0, none⟩ = some (.int .i64 26) := by
    have := heap_alloc_new w3 (.cells #[.int .i64 26, .int .i64 26] 26)
    simp only [World.cell?, this]; rfl
  refine (unhide HOr _ _ hcc).mono ?_
  rintro e w4 ⟨rfl, rfl⟩
  clear hcc
  go_wp2_with fail
  go_ret
  exact ⟨rfl, unhide HE _⟩
end Go.Proofs.YtebcmicmklpflaaGreatDoor
