/- lay: bytes behind the others, and they last. -/
import Derived.Test.YtebcmicmklpflaaGreatDoorRb
namespace Go.Proofs.YtebcmicmklpflaaGreatDoor
open Go.RowKit Go.Maps
set_option linter.unusedSimpArgs false
/-- The journal's file: none yet, or one with these bytes. -/
def HasF (T : Tb) (nm : ByteArray) (p : Nat) (d : List UInt8) : Prop := (p = 0 ∧ T.N nm = none ∧ d = []) ∨ (p = 1 ∧ ∃ i, Alone T nm i d)
/-- A FS in which the file has these bytes now, and all lasts. -/
structure Was (S S' : Fs) (nm : ByteArray) (d : List UInt8) (n : Int) : Prop where
  room : S'.room = S.room
  fuse : S'.fuse = S.fuse
  pend : S'.pend = []
  las : S'.las = S'.now
  al : ∃ i, Alone S'.now nm i d
  oth : Others nm S.now S'.now
  us : S'.now.u = S.now.u + n
theorem add_ok (j f : Nat) (nm : ByteArray) (S : Fs) (Of : Nat → Prop) (k : Nat) (J : Jn) (gv lv : Value) (a : Option Addr) (c : Nat) (d d0 : List UInt8) (w : World) (h : FsIs w f 0 S Of k) (hj : w.heap[j]? = some (jnBlk f nm J gv lv)) (hOj : ¬ Of j) (hk : k ≤ 15000) (hf : S.fuse = none) (hp : S.pend.length < 16000) (hs : 1 ≤ nm.size ∧ nm.size ≤ 300) (hH : HasF S.now nm J.parts d0) (hd : d0.length + d.length ≤ 1048576) (hfit : S.now.u + (d.length : Int) ≤ (S.room : Int)) (hrow : Row w.heap.size w (.slice a d.length c) d) (hdis : 0 < d.length → ∀ x, a = some x → ¬ Of x.block) :
    Calls Tryz.prog 105 #[.pointer (some ⟨j, 0, none⟩), .slice a d.length c] w fun e w' => e = .returned (.int .i64 0) ∧ ∃ S' O', FsIs w' f 0 S' O' (k + 6) ∧ (S'.room = S.room ∧ S'.fuse = none ∧ S'.pend.length ≤ S.pend.length + 2 ∧ (∃ i, Alone S'.now nm i (d0 ++ d)) ∧ Others nm S.now S'.now ∧ S'.now.u = S.now.u + (d.length : Int)) ∧ w'.heap[j]? = some (jnBlk f nm { J with parts := 1 } gv lv) ∧ FFr (fun q => Of q ∨ q = j) (fun q => O' q ∨ q = j) w w' ∧ ¬ O' j := by
  have hjl : j < w.heap.size := (Array.getElem?_eq_some_iff.1 hj).1
  rcases hH with ⟨hp0, hN, rfl⟩ | ⟨hp1, i, hA⟩
  · refine (add_first j f nm S Of k J gv lv a c d w h hj hOj hp0 hk hf hp hs hN (by simp at hd; omega) hfit hrow hdis).mono fun e w' ⟨e1, z, O', hz, hF, hb, hE, hn⟩ => ⟨e1, _, O', hF, ⟨rfl, by show (S.fuse.map Nat.pred).map Nat.pred = none; rw [hf]; rfl, by show ((S.pend ++ [_]) ++ [_]).length ≤ _; simp, ?_⟩, hb, hE, hn⟩
    obtain ⟨hA, hO, hu⟩ := Alone.new hN hz []
    obtain ⟨hA2, hO2, hu2⟩ := hA.put d
    refine ⟨⟨z, hA2⟩, hO.trans hO2, ?_⟩
    show ((S.now.write nm [] z).put z _).u = _
    rw [hu2, hu]; simp
  · refine (add_more j f nm S Of k i J gv lv a c d w.heap.size w h hj hOj hp1 (by omega) (by rw [hf]; simp) (by omega) hs hA.N (by rw [hA.D]; exact hd) hfit hrow).mono fun e w' ⟨e1, O', hF, hE⟩ => ?_
    obtain ⟨hA2, hO2, hu2⟩ := hA.put d
    obtain ⟨K, n, l, pv, ps, hM, hnk, hex⟩ := hF
    refine ⟨e1, _, O', ⟨K, n, l, pv, ps, hM, by omega, hex⟩, ⟨rfl, by show S.fuse.map Nat.pred = none; rw [hf]; rfl, by show (S.pend ++ [_]).length ≤ _; simp, ⟨i, hA2⟩, hO2, hu2⟩, ?_, hE.plus, hE.not hOj hjl⟩
    rw [hE.rest j hjl hOj, hj]
    show some (jnBlk f nm J gv lv) = some (jnBlk f nm ⟨J.G, J.D, 1, J.dead⟩ gv lv)
    unfold jnBlk
    rw [hp1]
set_option maxRecDepth 20000 in
set_option maxHeartbeats 1000000 in
theorem lay_ok (j f : Nat) (nm : ByteArray) (S : Fs) (Of : Nat → Prop) (k : Nat) (J : Jn) (gv lv : Value) (v : Value) (d d0 : List UInt8) (OB : Nat → Prop) (w : World) (h : FsIs w f 0 S Of k) (hj : w.heap[j]? = some (jnBlk f nm J gv lv)) (hOj : ¬ Of j) (hk : k ≤ 15000) (hf : S.fuse = none) (hp : S.pend.length < 16000) (hs : 1 ≤ nm.size ∧ nm.size ≤ 300) (hH : HasF S.now nm J.parts d0) (hd : d0.length + d.length ≤ 1048576) (hfit : S.now.u + (d.length : Int) ≤ (S.room : Int)) (hrec : Rec w OB v d) (hdis : ∀ q, OB q → ¬ Of q) :
    Calls Tryz.prog 60 #[.pointer (some ⟨j, 0, none⟩), v] w fun e w' => e = .returned (.int .i64 0) ∧ ∃ S' O', FsIs w' f 0 S' O' (k + 6) ∧ Was S S' nm (d0 ++ d) (d.length : Int) ∧ w'.heap[j]? = some (jnBlk f nm { J with parts := 1 } gv lv) ∧ FFr (fun q => Of q ∨ q = j) (fun q => O' q ∨ q = j) w w' ∧ ¬ O' j := by
  have hrow := hrec.row
  have hdis2 : ∀ a n c, v = .slice a n c → 0 < d.length → ∀ x, a = some x → ¬ Of x.block := fun a n c ev h0 x hx => by
    obtain ⟨a', c', e, _, _, h3⟩ := hrec
    obtain ⟨g, cur, ea, ho, _⟩ := h3 h0
    rw [ev] at e
    injection e with e1 _ _
    rw [← e1, hx] at ea
    injection ea with ea
    rw [ea]
    exact hdis g ho
  obtain ⟨a, c, rfl, _⟩ := hrec
  have hjl : j < w.heap.size := (Array.getElem?_eq_some_iff.1 hj).1
  have HA := hide (add_ok j f nm S Of k J gv lv a c d d0 w h hj hOj hk hf hp hs hH hd hfit hrow (hdis2 a _ c rfl))
  have hb := hj
  unfold jnBlk at hb
  have c3 : w.cell? ⟨j, 3, none⟩ = some (.slice none 0 0) := by simp [World.cell?, hb]
  have c4 : w.cell? ⟨j, 4, none⟩ = some (.bool false) := by simp [World.cell?, hb]
  have HM := hide (mend_none j w c3 c4 (by simp [World.frozen?, hb]))
  have HF := hide (And.intro hf (And.intro hp hk))
  clear h hj hb hrow hs hH hd hfit hdis hdis2 hf hp hk
  generalize hL : d.length = L at *
  clear hL
  go_enter Tryz.func60, Tryz.ntmps60
  go_wp2_with fail
  refine (unhide HM).mono ?_
  rintro e w0 ⟨rfl, rfl⟩
  go_wp2_with fail
  refine (unhide HA).mono ?_
  rintro e w1 ⟨rfl, S1, O1, hF1, hS1, hj1, hE1, hn1⟩
  have d0' : w1.cell? ⟨j, 0, none⟩ = some (.pointer (some ⟨f, 0, none⟩)) := by unfold jnBlk at hj1; simp [World.cell?, hj1]
  obtain ⟨r1, r2, r3, r4, r5, r6⟩ := hS1
  obtain ⟨hf, hp, hk⟩ := unhide HF
  have HS : Hid (Calls Tryz.prog 29 #[.pointer (some ⟨f, 0, none⟩)] w1 fun e w' => e = .returned (.int .i64 0) ∧ ∃ S' O', FsIs w' f 0 S' O' (k + 6) ∧ Was S S' nm (d0 ++ d) (L : Int) ∧ w'.heap[j]? = some (jnBlk f nm { J with parts := 1 } gv lv) ∧ FFr (fun q => Of q ∨ q = j) (fun q => O' q ∨ q = j) w0 w' ∧ ¬ O' j) :=
    (sync_ok f S1 O1 (k + 6) w1 hF1 (by omega) (by rw [r2]; simp)).mono fun e w' ⟨e1, O', h1, h2⟩ => by
      have hl1 : j < w1.heap.size := Nat.lt_of_lt_of_le hjl hE1.size
      refine ⟨e1, _, O', h1, ⟨r1, ?_, rfl, rfl, r4, r5, r6⟩, (h2.rest j hl1 hn1).trans hj1, hE1.trans h2.plus, h2.not hn1 hl1⟩
      show S1.fuse.map Nat.pred = S.fuse
      rw [r2, hf]; rfl
  clear hF1 hj1 hE1 r1 r2 r3 r4 r5 r6 hf hp hk HA HM HF
  go_wp2_with fail
  refine (unhide HS).mono ?_
  rintro e w2 ⟨rfl, hE⟩
  have HE := hide hE
  clear hE HS
  go_wp2_with fail
  go_ret
  exact ⟨rfl, unhide HE⟩
end Go.Proofs.YtebcmicmklpflaaGreatDoor
