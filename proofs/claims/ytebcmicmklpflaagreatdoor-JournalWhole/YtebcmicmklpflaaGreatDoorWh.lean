/- JournalWhole: the end of the law's walk. -/
import Derived.Test.YtebcmicmklpflaaGreatDoorWg
import Derived.Test.YtebcmicmklpflaaGreatDoorUj
import Derived.Test.YtebcmicmklpflaaGreatDoorTb
namespace Go.Proofs.YtebcmicmklpflaaGreatDoor
open Go.RowKit Go.Maps
set_option linter.unusedSimpArgs false
theorem HasF.one {T : Tb} {nm : ByteArray} {p : Nat} {d : List UInt8} (h : HasF T nm p d) (ho : ∀ s, s ≠ nm → T.N s = none) : One T nm := by
  refine ⟨ho, fun i hi => ?_⟩
  rcases h with ⟨_, hN, _⟩ | ⟨_, i', hA⟩
  · rw [hN] at hi; cases hi
  · have := hA.N
    rw [hi] at this
    injection this with this
    rw [this]; exact hA.c
/-- A crash of what broke off. -/
theorem crash_brk (X : Int) (f : Nat) (S : Fs) (O : Nat → Prop) (k : Nat) (D1 D2 : List UInt8) (w : World) (h : FsIs w f 0 S O k) (hk : k ≤ 16000) (hb : Brk S nmL D1 D2) :
    Calls Tryz.prog 27 #[.pointer (some ⟨f, 0, none⟩), .int .i64 X] w fun e w' => e = .returned (.tuple #[]) ∧ ∃ T O', FsIs w' f 0 ⟨S.room, T, T, [], none⟩ O' k ∧ FFr O O' w w' ∧ (∀ s, s ≠ nmL → T.N s = none) ∧ ∃ p, HasF T nmL p D1 ∨ HasF T nmL p D2 := by
  obtain ⟨m, hm⟩ : ∃ m : Nat, max X 0 = (m : Int) := ⟨(max X 0).toNat, by omega⟩
  by_cases hlt : m < S.pend.length
  · refine (crash_part X m f S O k w h hk hm hlt nmL (by decide) (fun z T z' h1 h2 => ?_)).mono fun e w' ⟨e1, z, T, z', O', h1, h2, h3, h4⟩ => ⟨e1, T, O', h3, h4, hb m z T z' h1 (by omega) h2⟩
    obtain ⟨ho, p, hH⟩ := hb m z T z' h1 (by omega) h2
    exact hH.elim (fun hH => hH.one ho) (fun hH => hH.one ho)
  · obtain ⟨K, n, l, pv, ps, hM, _⟩ := id h
    have hrun := hM.run
    have hb2 := hb S.pend.length l.z S.now n.z (by rw [hrun]; simp) (Nat.le_refl _) (by rw [List.take_length]; exact hrun)
    exact (crash_any X f S O k w h hk (by omega)).mono fun e w' ⟨e1, O', h3, h4⟩ => ⟨e1, S.now, O', h3, h4, hb2⟩
theorem Few.each {G : List (List (List UInt8))} (h : Few G) : ∀ d ∈ G, d.length ≤ 100000 ∧ wt d ≤ 10000000 := fun d hd => ⟨by have := cnt_mem hd; have := h.2.1; omega, by have := wts_mem hd; have := h.2.2; omega⟩
theorem Few.rows {G : List (List (List UInt8))} (h : Few G) : ∀ ds ∈ G, ds.length ≤ 100000 ∧ ∀ x ∈ ds, x.length ≤ 100000000 := fun ds hd => ⟨(h.each ds hd).1, fun x hx => by have := wt_mem hx; have := (h.each ds hd).2; omega⟩
/-- What is there is what the document has. -/
def FinA (w : World) (r j2 : Nat) (W2 : World) : Prop := ∃ Lv, W2.drew.cell? ⟨r, 0, none⟩ = some Lv ∧ Calls Tryz.prog 18 #[.pointer (some ⟨j2, 0, none⟩)] W2.drew fun e W3 => ∃ b n, e = .returned (.slice (some ⟨b, 0, none⟩) n n) ∧ W3.cell? ⟨r, 0, none⟩ = some Lv ∧ Hid (Calls Tryz.prog 19 #[.slice (some ⟨b, 0, none⟩) n n, Lv] W3 fun e W4 => e = .returned (.bool true) ∧ W4.cell? ⟨r, 0, none⟩ = some Lv ∧ Hid (Calls Tryz.prog 14 #[] W4 fun e W5 => e = .returned (.bool true) ∧ W5.cell? ⟨r, 0, none⟩ = some Lv ∧ Hid (Below w.heap.size w W5)))
/-- What is there is what may be there. -/
def FinB (w : World) (r j2 : Nat) (mv : Value) (W2 : World) : Prop := ∃ Lv, W2.drew.cell? ⟨r, 0, none⟩ = some Lv ∧ Calls Tryz.prog 18 #[.pointer (some ⟨j2, 0, none⟩)] W2.drew fun e W3 => ∃ b n, e = .returned (.slice (some ⟨b, 0, none⟩) n n) ∧ W3.cell? ⟨r, 0, none⟩ = some Lv ∧ Hid (Calls Tryz.prog 19 #[.slice (some ⟨b, 0, none⟩) n n, Lv] W3 fun e W4 => e = .returned (.bool false) ∧ W4.cell? ⟨r, 0, none⟩ = some Lv ∧ Hid (Calls Tryz.prog 18 #[.pointer (some ⟨j2, 0, none⟩)] W4 fun e W5 => ∃ b n, e = .returned (.slice (some ⟨b, 0, none⟩) n n) ∧ W5.cell? ⟨r, 0, none⟩ = some Lv ∧ Hid (Calls Tryz.prog 19 #[.slice (some ⟨b, 0, none⟩) n n, mv] W5 fun e W6 => e = .returned (.bool true) ∧ W6.cell? ⟨r, 0, none⟩ = some Lv ∧ Hid (Calls Tryz.prog 14 #[] W6 fun e W7 => e = .returned (.bool true) ∧ W7.cell? ⟨r, 0, none⟩ = some Lv ∧ Hid (Below w.heap.size w W7)))))
theorem known_b {w W : World} (hb : Below w.heap.size w W) {p : Addr} {v : Value} (hc : W.cell? p = some v) : Calls Tryz.prog 14 #[] W fun e w' => e = .returned (.bool true) ∧ w'.cell? p = some v ∧ Hid (Below w.heap.size w w') := (known_ok W).mono fun _ _ ⟨e1, hb2⟩ => ⟨e1, (hb2.cell (p := p) (cellLt hc)).trans hc, hb.trans (hb2.mono hb.size)⟩
/-- The end: a crash, the journal opened anew, and what is there. -/
theorem whole_fin (w W : World) (f r : Nat) (ma : Option Addr) (mn mc : Nat) (bk : Prop) (keep : Int) (h : BRW w W f r (.slice ma mn mc) bk) :
    Calls Tryz.prog 27 #[.pointer (some ⟨f, 0, none⟩), .int .i64 keep] W fun e W1 => e = .returned (.tuple #[]) ∧ Hid (Calls Tryz.prog 16 #[.pointer (some ⟨f, 0, none⟩), .string nmL] W1 fun e W2 => ∃ j2, e = .returned (.tuple #[.pointer (some ⟨j2, 0, none⟩), .int .i64 0]) ∧ (FinA w r j2 W2 ∨ (bk ∧ FinB w r j2 (.slice ma mn mc) W2))) := by
  obtain ⟨S, O, V, VM, k, L, D, G2, hFs, hk, hBr, hRJ, hGL, hdis, hVM, hbel, hOw, hfL, hfG, hlen, hor⟩ := h
  have hbr : Away w W O := ⟨hbel, hOw⟩
  refine (crash_brk keep f S O k _ _ W hFs hk hBr).mono fun e W1 ⟨e1, T, O1, hF1, hE1, honly, p, hH⟩ => ⟨e1, ?_⟩
  have hA1 := hbr.step hE1
  have hz1 := hE1.size
  have hRJ1 : RJ W1 r L D V := hRJ.kept hz1 (fun q o => hE1.rest q (hRJ.vlt q o) (fun o2 => (hdis q o2).1 o))
  have hGL1 : GL W1 VM (.slice ma mn mc) G2 := hGL.kept (fun _ o => o) (fun q o => hE1.rest q (hVM q o) (fun o2 => (hdis q o2).2 o))
  obtain ⟨G', hG', hfew, hH'⟩ : ∃ G', (G' = L ∨ G' = G2) ∧ Few G' ∧ HasF T nmL p (encs z32 G') := by
    rcases hH with hH | hH
    · exact ⟨L, .inl rfl, hfL, hH⟩
    · exact ⟨G2, .inr rfl, hfG, hH⟩
  obtain ⟨n1, n2, n3⟩ := only_log honly
  refine (open_any f ⟨S.room, T, T, [], none⟩ O1 k p nmL G' W1 hF1 rfl hk (by decide) (by decide) n3 n1 n2 hH' (by have := hfew.1; omega) hfew.each (by have := hfew.2.2; omega)).mono fun e W2 ⟨j2, U2, e2, _, hJ2, hb2, _⟩ => ⟨j2, e2, ?_⟩
  have hB2 : Below w.heap.size w W2 := hA1.bel.trans (hb2.mono hA1.bel.size)
  have hRJ2 : RJ W2 r L D V := hRJ1.kept hb2.size (fun q o => hb2.block q (hRJ1.vlt q o))
  have hVM1 : ∀ q, VM q → q < W1.heap.size := fun q o => Nat.lt_of_lt_of_le (hVM q o) hz1
  have hGL2 : GL W2 VM (.slice ma mn mc) G2 := hGL1.kept (fun _ o => o) (fun q o => hb2.block q (hVM1 q o))
  have hbd : Below W2.heap.size W2 W2.drew := (Below.refl _ _).drew
  have hB2d : Below w.heap.size w W2.drew := hB2.drew
  have hRJd : RJ W2.drew r L D V := hRJ2.kept hbd.size (fun q o => hbd.block q (hRJ2.vlt q o))
  have hGLd : GL W2.drew VM (.slice ma mn mc) G2 := hGL2.kept (fun _ o => o) (fun q o => rfl)
  have hJd := hJ2.below hbd
  obtain ⟨VL0, VD0, Lv0, Dv0, q10, q20, _, _, _, q6, _, q8, q9⟩ := id hRJd
  obtain ⟨la, lc, eL⟩ := q20.shape
  subst eL
  obtain ⟨Of, Og, OL, gv, lv, qs, _, hJn, _⟩ := id hJd
  have hVM2 : ∀ q, VM q → q < W2.drew.heap.size := fun q o => Nat.lt_of_lt_of_le (hVM1 q o) hb2.size
  have hgr := groups_ok j2 f nmL ⟨G', [], p, false⟩ Og gv lv qs W2.drew hJn.gm (by have := hfew.1; show G'.length ≤ _; omega) hfew.each
  have hup : ∀ W3, Below W2.drew.heap.size W2.drew W3 → Below w.heap.size w W3 ∧ W3.cell? ⟨r, 0, none⟩ = some (.slice la L.length lc) ∧ GL W3 VL0 (.slice la L.length lc) L ∧ GL W3 VM (.slice ma mn mc) G2 := fun W3 hb => ⟨hB2d.trans (hb.mono hB2d.size), (RJ.cells ((hb.block r (q9 r q8)).trans q10)).1, q20.kept (fun _ o => o) (fun q o => hb.block q (q9 q (q6 q o))), hGLd.kept (fun _ o => o) (fun q o => hb.block q (hVM2 q o))⟩
  by_cases hGL' : G' = L
  · refine .inl ⟨.slice la L.length lc, (RJ.cells q10).1, hgr.mono fun e W3 ⟨e3, hCp⟩ => ⟨_, _, e3, ?_⟩⟩
    obtain ⟨k1, k2, k3, _⟩ := hup W3 hCp.bel
    refine ⟨k2, ?_⟩
    subst hGL'
    refine (groups_true _ _ _ _ G' W3 hCp.rr k3.rr (by have := hfew.1; omega) hfew.rows).mono fun e W4 ⟨e4, q, hq⟩ => ⟨e4, ?_⟩
    subst hq
    exact ⟨k2, known_b (W := W3.drewN q) ⟨k1.os, k1.tape, k1.output, k1.size, k1.block⟩ k2⟩
  · have hG2 : G' = G2 := hG'.resolve_left hGL'
    subst hG2
    have hne : G'.length ≠ L.length := fun e => hGL' (hlen e)
    refine .inr ⟨hor.resolve_left hGL', .slice la L.length lc, (RJ.cells q10).1, hgr.mono fun e W3 ⟨e3, hCp⟩ => ⟨_, _, e3, ?_⟩⟩
    obtain ⟨k1, k2, k3, k4⟩ := hup W3 hCp.bel
    refine ⟨k2, (groups_len _ _ _ _ _ _ hne W3).mono fun e W4 ⟨e4, hW4⟩ => ⟨e4, ?_⟩⟩
    subst hW4
    refine ⟨k2, ?_⟩
    have hJ4 := hJd.below hCp.bel
    obtain ⟨Of4, Og4, OL4, gv4, lv4, qs4, _, hJn4, _⟩ := id hJ4
    refine (groups_ok j2 f nmL ⟨G', [], p, false⟩ Og4 gv4 lv4 qs4 W4 hJn4.gm (by have := hfew.1; show G'.length ≤ _; omega) hfew.each).mono fun e W5 ⟨e5, hCp5⟩ => ⟨_, _, e5, ?_⟩
    obtain ⟨k5, k6, _, k8⟩ := hup W5 (hCp.bel.trans (hCp5.bel.mono hCp.bel.size))
    obtain ⟨ma', mc', em⟩ := k8.shape
    injection em with em1 em2 em3
    subst em1 em2 em3
    refine ⟨k6, ?_⟩
    refine (groups_true _ _ _ _ G' W5 hCp5.rr k8.rr (by have := hfew.1; omega) hfew.rows).mono fun e W6 ⟨e6, q, hq⟩ => ⟨e6, ?_⟩
    subst hq
    exact ⟨k6, known_b (W := W5.drewN q) ⟨k5.os, k5.tape, k5.output, k5.size, k5.block⟩ k6⟩
theorem whole_start (w : World) (m : Nat) (hm : m ≤ 2000) : Calls Tryz.prog 15 #[.int .i64 4194304] w fun e w1 => ∃ f, e = .returned (.tuple #[.pointer (some ⟨f, 0, none⟩), .int .i64 0]) ∧ Hid (Calls Tryz.prog 16 #[.pointer (some ⟨f, 0, none⟩), .string nmL] w1 fun e w2 => ∃ j, e = .returned (.tuple #[.pointer (some ⟨j, 0, none⟩), .int .i64 0]) ∧ Hid (Calls Tryz.prog 21 #[.pointer (some ⟨f, 0, none⟩), .int .i64 (m : Int)] (w2.alloc (.cells #[.slice none 0 0, .slice none 0 0] 36)) fun e w3 => e = .returned (.tuple #[]) ∧ Hid (PIW w w3 f w2.heap.size j 0 0))) := by
  refine (new_ok 4194304 w (by omega)).mono fun e w1 ⟨e1, hF1, hb1⟩ => ⟨w.heap.size, e1, ?_⟩
  refine (open_none w.heap.size (Fs.new 4194304) (fun q => q = w.heap.size) 0 nmL w1 hF1 rfl (by omega) (by decide) (by decide) (fun _ _ h => by cases h) (fun _ h => by cases h) rfl).mono fun e w2 ⟨j, e2, hj, hJ2, hb2⟩ => ⟨j, e2, ?_⟩
  have hB2 : Below w.heap.size w w2 := hb1.trans (hb2.mono hb1.size)
  have hz1 := hb1.size
  have hz2 := hb2.size
  have hba : Below w2.heap.size w2 (w2.alloc (.cells #[.slice none 0 0, .slice none 0 0] 36)) := (Below.refl _ _).alloc (Nat.le_refl _) _
  have hjl := hJ2.ult
  have hP : PI0 w (w2.alloc (.cells #[.slice none 0 0, .slice none 0 0] 36)) w.heap.size w2.heap.size j (Fs.new 4194304) ⟨[], [], 0, false⟩ [] [] (fun q => q = w.heap.size ∨ q = j) (fun q => q = w2.heap.size) 0 := by
    refine ⟨hJ2.below hba, ⟨fun _ => False, fun _ => False, .slice none 0 0, .slice none 0 0, heap_alloc_new _ _, GL.nil _ _, Recs.nil _ _, fun _ o => o.elim, id, fun _ o => o.elim, fun _ o => o.elim, rfl, fun q o => by rw [o]; simp⟩, fun q o e => ?_, hB2.trans (hba.mono hB2.size), ?_, fun q o => by omega⟩
    · have := hjl q o; omega
    · rintro q (o | o) <;> omega
  obtain ⟨Of, hFs, hOU, _, hst⟩ := hP.js.fs
  refine (fuse_ok w.heap.size _ Of 0 m _ hFs (by omega)).mono fun e w3 ⟨e3, hF3, hE3⟩ => ⟨e3, ?_⟩
  obtain ⟨hJ3, hE3'⟩ := hst w3 _ Of 0 hF3 hE3
  exact ⟨_, ⟨[], [], 0, false⟩, _, _, 0, hP.stepJ hJ3 hE3', ⟨rfl, rfl, ⟨m, rfl⟩, rfl, fun _ _ => rfl, .inl ⟨rfl, rfl, rfl⟩, rfl, rfl, by omega, by simp [wt, wts], by simp [cnt], by simp⟩⟩
end Go.Proofs.YtebcmicmklpflaaGreatDoor
