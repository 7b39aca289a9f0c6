/- A journal's bytes are laid behind the others, and last. -/
import Derived.Test.YtebcmicmklpflaaGreatDoorRa
import Derived.Test.YtebcmicmklpflaaGreatDoorIb
namespace Go.Proofs.YtebcmicmklpflaaGreatDoor
open Go.RowKit Go.Maps
set_option linter.unusedSimpArgs false
/-- A file with one name alone. -/
structure Alone (T : Tb) (nm : ByteArray) (i : Nat) (d : List UInt8) : Prop where
  N : T.N nm = some i
  D : T.D i = d
  c : T.c i = 1
  one : ∀ s, s ≠ nm → T.N s ≠ some i
/-- What other names name is as it was. -/
def Others (nm : ByteArray) (T T' : Tb) : Prop := ∀ s, s ≠ nm → T'.N s = T.N s ∧ ∀ i, T.N s = some i → T'.D i = T.D i
theorem Others.refl (nm : ByteArray) (T : Tb) : Others nm T T := fun _ _ => ⟨rfl, fun _ _ => rfl⟩
theorem Others.trans {nm : ByteArray} {T T' T'' : Tb} (h : Others nm T T') (k : Others nm T' T'') : Others nm T T'' := fun s hs =>
  ⟨((k s hs).1).trans (h s hs).1, fun i hi => ((k s hs).2 i (by rw [(h s hs).1]; exact hi)).trans ((h s hs).2 i hi)⟩
theorem Alone.new {T : Tb} {nm : ByteArray} {z : Nat} (hN : T.N nm = none) (hz : ∀ s i, T.N s = some i → i < z) (d : List UInt8) : Alone (T.write nm d z) nm z d ∧ Others nm T (T.write nm d z) ∧ (T.write nm d z).u = T.u + d.length := by
  obtain ⟨h1, h2, h3, h4, h5⟩ := write_is T nm d z (fun i hi => by rw [hN] at hi; cases hi)
  have ha : T.alone nm = 0 := by unfold Tb.alone; rw [hN]
  refine ⟨⟨by rw [h1]; simp [upd], by rw [h2, updN_same], h4, fun s hs => ?_⟩, fun s hs => ⟨by rw [h1]; simp [upd, hs], fun i hi => by rw [h2, updN_ne _ _ (by have := hz s i hi; omega)]⟩, by rw [h3, ha]; simp⟩
  rw [h1]
  simp only [upd, hs, if_false]
  intro e
  have := hz s z e
  omega
theorem Alone.anew {T : Tb} {nm : ByteArray} {z i : Nat} {d0 : List UInt8} (h : Alone T nm i d0) (hz : ∀ s i, T.N s = some i → i < z) (d : List UInt8) : Alone (T.write nm d z) nm z d ∧ Others nm T (T.write nm d z) ∧ (T.write nm d z).u = T.u + d.length - d0.length := by
  have hiz := hz nm i h.N
  obtain ⟨h1, h2, h3, h4, h5⟩ := write_is T nm d z (fun k hk => by rw [h.N] at hk; cases hk; exact ⟨by omega, h.c⟩)
  have ha : T.alone nm = d0.length := by unfold Tb.alone; rw [h.N]; simp [h.c, h.D]
  refine ⟨⟨by rw [h1]; simp [upd], by rw [h2, updN_same], h4, fun s hs => ?_⟩, fun s hs => ⟨by rw [h1]; simp [upd, hs], fun i hi => by rw [h2, updN_ne _ _ (by have := hz s i hi; omega)]⟩, by rw [h3, ha]⟩
  rw [h1]
  simp only [upd, hs, if_false]
  intro e
  have := hz s z e
  omega
theorem Alone.put {T : Tb} {nm : ByteArray} {i : Nat} {d : List UInt8} (h : Alone T nm i d) (e : List UInt8) : Alone (T.put i (T.D i ++ e)) nm i (d ++ e) ∧ Others nm T (T.put i (T.D i ++ e)) ∧ (T.put i (T.D i ++ e)).u = T.u + e.length := by
  refine ⟨⟨h.N, by show updN T.D i _ i = _; rw [updN_same, h.D], h.c, h.one⟩, fun s hs => ⟨rfl, fun k hk => ?_⟩, ?_⟩
  · show updN T.D i _ k = _
    exact updN_ne _ _ (fun e => h.one s hs (by rw [hk, e]))
  · show T.u + (((T.D i ++ e).length : Int) - ((T.D i).length : Int)) = _
    rw [List.length_append]; omega
theorem row_nil (hi : Nat) (w : World) : Row hi w (.slice none 0 0) [] := ⟨none, 0, rfl, Nat.le_refl _, fun h => absurd h (Nat.lt_irrefl _)⟩
theorem FFr.undrew {O O' : Nat → Prop} {w w' : World} (h : FFr O O' w.drew w') : FFr O O' w w' := ⟨h.os, h.tape, h.output, h.size, h.rest, h.new⟩
theorem FFr.cell? {O O' : Nat → Prop} {w w' : World} (h : FFr O O' w w') {j i : Nat} {v : Value} (hO : ¬ O j) (hc : w.cell? ⟨j, i, none⟩ = some v) : w'.cell? ⟨j, i, none⟩ = some v := by
  rw [World.cell?_of_block (w := w) (a := ⟨j, i, none⟩) (h.rest j (cellLt hc) hO)]; exact hc
theorem FsIs.drew {w : World} {f : Nat} {lk : Int} {S : Fs} {O : Nat → Prop} {k : Nat} (h : FsIs w f lk S O k) : FsIs w.drew f lk S O k := h.kept (Nat.le_refl _) (fun _ _ => rfl)
set_option maxRecDepth 20000 in
set_option maxHeartbeats 1000000 in
theorem add_more (j f : Nat) (nm : ByteArray) (S : Fs) (Of : Nat → Prop) (k i : Nat) (J : Jn) (gv lv : Value) (a : Option Addr) (c : Nat) (d : List UInt8) (hi : Nat) (w : World) (h : FsIs w f 0 S Of k) (hj : w.heap[j]? = some (jnBlk f nm J gv lv)) (hOj : ¬ Of j) (hp1 : J.parts = 1) (hk : k ≤ 16000) (hf : S.fuse ≠ some 0) (hp : S.pend.length < 16383) (hs : 1 ≤ nm.size ∧ nm.size ≤ 300) (hN : S.now.N nm = some i) (hd : (S.now.D i).length + d.length ≤ 1048576) (hfit : S.now.u + (d.length : Int) ≤ (S.room : Int)) (hrow : Row hi w (.slice a d.length c) d) :
    Calls Tryz.prog 105 #[.pointer (some ⟨j, 0, none⟩), .slice a d.length c] w fun e w' => e = .returned (.int .i64 0) ∧ ∃ O', FsIs w' f 0 (S.done (S.now.put i (S.now.D i ++ d)) (.fill nm (S.now.D i ++ d))) O' (k + 3) ∧ FFr Of O' w w' := by
  have hb := hj
  unfold jnBlk at hb
  rw [hp1] at hb
  have c0 : w.cell? ⟨j, 0, none⟩ = some (.pointer (some ⟨f, 0, none⟩)) := by simp [World.cell?, hb]
  have c1 : w.cell? ⟨j, 1, none⟩ = some (.string nm) := by simp [World.cell?, hb]
  have c2 : w.cell? ⟨j, 2, none⟩ = some (.int .i64 1) := by simp [World.cell?, hb]
  have HP := hide (part_zero j nm w.drew c1)
  have HA : Hid (Calls Tryz.prog 144 #[.pointer (some ⟨f, 0, none⟩), .string nm, .slice a d.length c] w.drew fun e w' => e = .returned (.int .i64 0) ∧ w'.cell? ⟨j, 0, none⟩ = some (.pointer (some ⟨f, 0, none⟩)) ∧ w'.cell? ⟨j, 2, none⟩ = some (.int .i64 1) ∧ ∃ O', FsIs w' f 0 (S.done (S.now.put i (S.now.D i ++ d)) (.fill nm (S.now.D i ++ d))) O' (k + 3) ∧ FFr Of O' w w') :=
    (append_ok f S Of k nm i a c d hi w.drew h.drew hk hf hp hs hN hd hfit hrow).mono fun e w' ⟨e1, O', h1, h2⟩ => ⟨e1, h2.undrew.cell? hOj c0, h2.undrew.cell? hOj c2, O', h1, h2.undrew⟩
  clear h hj hb hrow hs hN hd hfit hk hp
  generalize d.length = L at *
  go_enter Tryz.func105, Tryz.ntmps105
  go_wp2_with fail
  refine wp_region_noPanic ?_
  go_region_held3 (fun W' => W'.cell? ⟨j, 0, none⟩ = some (.pointer (some ⟨f, 0, none⟩)) ∧ W'.cell? ⟨j, 2, none⟩ = some (.int .i64 1)) (go_keep) (first | (go_at_call 97; refine Calls.mono (unhide HP) ?_; rintro e w2 ⟨rfl, rfl⟩) | (go_at_call 144; refine Calls.mono (unhide HA) ?_; rintro e w2 ⟨rfl, e0, e2, hE⟩))
  all_goals
    refine NoPanic.normal ?_
    have HE := hide hE
    clear hE e0 e2 HA HP
    go_wp2_with fail
    go_ret
    exact ⟨rfl, unhide HE⟩
theorem FFr.not {O O' : Nat → Prop} {w w' : World} (h : FFr O O' w w') {j : Nat} (hO : ¬ O j) (hj : j < w.heap.size) : ¬ O' j := fun e => (h.new j e).elim hO (fun h2 => by omega)
theorem jn_parts {w : World} {j f : Nat} {nm : ByteArray} {J : Jn} {gv lv : Value} (h : w.heap[j]? = some (jnBlk f nm J gv lv)) (n : Nat) : (w.setCell ⟨j, 2, none⟩ (.int .i64 (n : Int))).heap[j]? = some (jnBlk f nm { J with parts := n } gv lv) := by
  unfold jnBlk at *
  simp [World.setCell, Array.getElem?_modify, h]
theorem FFr.plus {O O' : Nat → Prop} {w w' : World} {j : Nat} (h : FFr O O' w w') : FFr (fun q => O q ∨ q = j) (fun q => O' q ∨ q = j) w w' :=
  ⟨h.os, h.tape, h.output, h.size, fun q h1 h2 => h.rest q h1 (fun e => h2 (.inl e)), fun q o => o.elim (fun o => (h.new q o).imp .inl id) (fun e => .inl (.inr e))⟩
theorem FFr.setAt {O : Nat → Prop} (w : World) (j i : Nat) (v : Value) : FFr (fun q => O q ∨ q = j) (fun q => O q ∨ q = j) w (w.setCell ⟨j, i, none⟩ v) :=
  ⟨rfl, rfl, rfl, by rw [size_set]; exact Nat.le_refl _, fun q _ h2 => set_other _ _ _ _ _ (fun e => h2 (.inr e)), fun _ o => .inl o⟩
set_option maxRecDepth 20000 in
set_option maxHeartbeats 1000000 in
theorem add_first (j f : Nat) (nm : ByteArray) (S : Fs) (Of : Nat → Prop) (k : Nat) (J : Jn) (gv lv : Value) (a : Option Addr) (c : Nat) (d : List UInt8) (w : World) (h : FsIs w f 0 S Of k) (hj : w.heap[j]? = some (jnBlk f nm J gv lv)) (hOj : ¬ Of j) (hp1 : J.parts = 0) (hk : k ≤ 15000) (hf : S.fuse = none) (hp : S.pend.length < 16000) (hs : 1 ≤ nm.size ∧ nm.size ≤ 300) (hN : S.now.N nm = none) (hd : d.length ≤ 1048576) (hfit : S.now.u + (d.length : Int) ≤ (S.room : Int)) (hrow : Row w.heap.size w (.slice a d.length c) d) (hdis : 0 < d.length → ∀ x, a = some x → ¬ Of x.block) :
    Calls Tryz.prog 105 #[.pointer (some ⟨j, 0, none⟩), .slice a d.length c] w fun e w' => e = .returned (.int .i64 0) ∧ ∃ z O', (∀ s' i, S.now.N s' = some i → i < z) ∧ FsIs w' f 0 ((S.done (S.now.write nm [] z) (.write nm [] z)).done ((S.now.write nm [] z).put z ((S.now.write nm [] z).D z ++ d)) (.fill nm ((S.now.write nm [] z).D z ++ d))) O' (k + 6) ∧ w'.heap[j]? = some (jnBlk f nm { J with parts := 1 } gv lv) ∧ FFr (fun q => Of q ∨ q = j) (fun q => O' q ∨ q = j) w w' ∧ ¬ O' j := by
  have hb := hj
  unfold jnBlk at hb
  rw [hp1] at hb
  have c0 : w.cell? ⟨j, 0, none⟩ = some (.pointer (some ⟨f, 0, none⟩)) := by simp [World.cell?, hb]
  have c1 : w.cell? ⟨j, 1, none⟩ = some (.string nm) := by simp [World.cell?, hb]
  have c2 : w.cell? ⟨j, 2, none⟩ = some (.int .i64 0) := by simp [World.cell?, hb]
  have hjl : j < w.heap.size := (Array.getElem?_eq_some_iff.1 hj).1
  have ha : S.now.alone nm = 0 := by unfold Tb.alone; rw [hN]
  have HP := hide (fun W (e : W.cell? ⟨j, 1, none⟩ = some (.string nm)) => part_zero j nm W e)
  have HWr : Hid (∀ W, FFr Of Of w W → FsIs W f 0 S Of k → Calls Tryz.prog 28 #[.pointer (some ⟨f, 0, none⟩), .string nm, .slice none 0 0] W fun e w' => e = .returned (.int .i64 0) ∧ ∃ z O', (∀ s' i, S.now.N s' = some i → i < z) ∧ FsIs w' f 0 (S.done (S.now.write nm [] z) (.write nm [] z)) O' (k + 3) ∧ FFr Of O' w w') := fun W hF hW =>
    (write_ok f S Of k nm none 0 [] 0 W hW (by omega) (by rw [hf]; simp) (by omega) hs (by simp) (by rw [ha]; simp; omega) (row_nil _ _) (Nat.zero_le _)).mono fun e w' ⟨e1, z, O', h1, h2, h3⟩ => ⟨e1, z, O', h1, h2, hF.trans h3⟩
  have HAp : Hid (∀ W z O', (∀ s' i, S.now.N s' = some i → i < z) → FsIs W f 0 (S.done (S.now.write nm [] z) (.write nm [] z)) O' (k + 3) → FFr Of O' w W → Calls Tryz.prog 144 #[.pointer (some ⟨f, 0, none⟩), .string nm, .slice a d.length c] W fun e w' => e = .returned (.int .i64 0) ∧ ∃ O'', FsIs w' f 0 ((S.done (S.now.write nm [] z) (.write nm [] z)).done ((S.now.write nm [] z).put z ((S.now.write nm [] z).D z ++ d)) (.fill nm ((S.now.write nm [] z).D z ++ d))) O'' (k + 3 + 3) ∧ FFr Of O'' w w') := fun W z O' hz hW hF => by
    obtain ⟨hA, _, hu⟩ := Alone.new hN hz []
    refine (append_ok f _ O' (k + 3) nm z a c d w.heap.size W hW (by omega) (by show S.fuse.map Nat.pred ≠ _; rw [hf]; simp) (by show (S.pend ++ [_]).length < _; simp; omega) hs hA.N ?_ ?_ ?_).mono fun e w' ⟨e1, O'', h2, h3⟩ => ⟨e1, O'', h2, hF.trans h3⟩
    · show ((S.now.write nm [] z).D z).length + d.length ≤ _
      rw [hA.D]; simp; omega
    · show (S.now.write nm [] z).u + _ ≤ (S.room : Int)
      rw [hu]; simp; omega
    · obtain ⟨a', c', e', h1', h2'⟩ := hrow
      refine ⟨a', c', e', h1', fun h0 => ?_⟩
      obtain ⟨g, o, ea, hg, hc⟩ := h2' h0
      injection e' with e1 _ _
      refine ⟨g, o, ea, hg, fun i u hi => ?_⟩
      rw [World.cell?_of_block (w := w) (a := ⟨g, o + i, none⟩) (hF.rest g hg (hdis h0 ⟨g, o, none⟩ (by rw [e1, ea])))]
      exact hc i u hi
  have HJ := hide hj
  clear hb hrow hs hN hd hfit hk hp hdis ha hj
  have hd1 : FsIs w.drew f 0 S Of k := h.drew
  have HD1 := hide (And.intro h hd1)
  clear h hd1
  generalize d.length = L at *
  go_enter Tryz.func105, Tryz.ntmps105
  go_wp2_with fail
  refine (unhide HP w c1).mono ?_
  rintro e w' ⟨rfl, rfl⟩
  go_wp2_with fail
  refine (unhide HWr w' (FFr.refl _ _) (unhide HD1).1).mono ?_
  rintro e w1 ⟨rfl, z, O1, hz, hF1, hE1⟩
  have d0 := hE1.cell? hOj c0
  have d2 := hE1.cell? hOj c2
  have HE1 := hide (And.intro hz (And.intro hF1 hE1))
  clear hz hF1 hE1
  go_wp2_with fail
  refine (unhide HAp w1 z O1 (unhide HE1).1 (unhide HE1).2.1 (unhide HE1).2.2).mono ?_
  rintro e w2 ⟨rfl, O2, hF2, hE2⟩
  have e2 := hE2.cell? hOj c2
  have hj2 : w2.heap[j]? = some (jnBlk f nm J gv lv) := (hE2.rest j hjl hOj).trans (unhide HJ)
  have hz2 : w2.frozen? ⟨j, 2, none⟩ = false := by unfold jnBlk at hj2; simp [World.frozen?, hj2]
  have hnO := hE2.not hOj hjl
  have HFin : Hid (∃ z O', (∀ s' i, S.now.N s' = some i → i < z) ∧ FsIs (w2.setCell ⟨j, 2, none⟩ (.int .i64 1)) f 0 ((S.done (S.now.write nm [] z) (.write nm [] z)).done ((S.now.write nm [] z).put z ((S.now.write nm [] z).D z ++ d)) (.fill nm ((S.now.write nm [] z).D z ++ d))) O' (k + 6) ∧ (w2.setCell ⟨j, 2, none⟩ (.int .i64 1)).heap[j]? = some (jnBlk f nm { J with parts := 1 } gv lv) ∧ FFr (fun q => Of q ∨ q = j) (fun q => O' q ∨ q = j) w' (w2.setCell ⟨j, 2, none⟩ (.int .i64 1)) ∧ ¬ O' j) :=
    ⟨z, O2, (unhide HE1).1, hF2.kept (by rw [size_set]; exact Nat.le_refl _) (fun q o => set_other _ _ _ _ _ (fun e => hnO (e ▸ o))), jn_parts hj2 1, hE2.plus.trans (FFr.setAt _ _ _ _), hnO⟩
  clear hF2 hE2 hj2 HE1 HAp HWr
  go_wp2_with fail
  go_ret
  exact ⟨rfl, unhide HFin⟩
end Go.Proofs.YtebcmicmklpflaaGreatDoor
