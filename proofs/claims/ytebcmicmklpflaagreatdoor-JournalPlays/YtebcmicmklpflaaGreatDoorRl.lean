/- load, where there is a file with groups. -/
import Derived.Test.YtebcmicmklpflaaGreatDoorRk
namespace Go.Proofs.YtebcmicmklpflaaGreatDoor
open Go.RowKit Go.Maps
set_option linter.unusedSimpArgs false
/-- Groups that are loaded: all of them behind w, and of what was there only the journal's block is another one. -/
structure LG (w W : World) (j : Nat) (gv : Value) (qs : List Nat) (G : List (List (List UInt8))) : Prop where
  os : W.os = w.os
  tape : W.tape = w.tape
  output : W.output = w.output
  size : w.heap.size ≤ W.heap.size
  rest : ∀ b, b < w.heap.size → b ≠ j → W.heap[b]? = w.heap[b]?
  row : W.ownsRow 0 104 1 gv qs.length (qs.map ptrV)
  rown : ∀ q, gv.ownBlock = some q → w.heap.size ≤ q ∧ q < W.heap.size
  ch : Chain W (fun b => w.heap.size ≤ b ∧ b < W.heap.size) none z32 qs G
theorem LG.below {w W W' : World} {j : Nat} {gv : Value} {qs : List Nat} {G : List (List (List UInt8))} (h : LG w W j gv qs G) (hb : Below W.heap.size W W') : LG w W' j gv qs G :=
  ⟨hb.os.trans h.os, hb.tape.trans h.tape, hb.output.trans h.output, Nat.le_trans h.size hb.size, fun b h1 h2 => (hb.block b (Nat.lt_of_lt_of_le h1 h.size)).trans (h.rest b h1 h2), ownsRow_kept h.row (fun q e => hb.block q (h.rown q e).2), fun q e => ⟨(h.rown q e).1, Nat.lt_of_lt_of_le (h.rown q e).2 hb.size⟩, h.ch.kept (fun _ o => ⟨o.1, Nat.lt_of_lt_of_le o.2 hb.size⟩) (fun q o => hb.block q o.2)⟩
/-- Behind the first part. -/
def Mid (w W : World) (j f : Nat) (nm : ByteArray) (S : Fs) (O : Nat → Prop) (k : Nat) (gv : Value) (G : List (List (List UInt8))) : Prop := FsIs W f 0 S O k ∧ W.heap[j]? = some (jBlk0 f nm 1) ∧ ∃ qs, LG w W j gv qs G
theorem load_first (j f : Nat) (S : Fs) (O : Nat → Prop) (k i : Nat) (nm : ByteArray) (G : List (List (List UInt8))) (w : World) (h : FsIs w f 0 S O k) (hj : w.heap[j]? = some (jBlk0 f nm 0)) (hOj : ¬ O j) (hn : nm.size ≤ 100) (hN : S.now.N nm = some i) (hD : S.now.D i = encs z32 G) (hG : G ≠ []) (hl : G.length ≤ 10000) (hds : ∀ d ∈ G, d.length ≤ 100000 ∧ wt d ≤ 10000000) :
    ∃ n : Nat, Calls Tryz.prog 30 #[.pointer (some ⟨f, 0, none⟩), .string nm] w.drew fun e w2 => ∃ g c, e = .returned (.tuple #[.slice (some ⟨g, 0, none⟩) n c, .int .i64 0]) ∧ Hid (Calls Tryz.prog 98 #[.slice none 0 0, .slice (some ⟨g, 0, none⟩) n c] w2 fun e w4 => ∃ ga NG gc, e = .returned (.tuple #[.slice ga NG gc, .int .i64 (n : Int)]) ∧ w4.cell? ⟨j, 2, none⟩ = some (.int .i64 0) ∧ w4.frozen? ⟨j, 2, none⟩ = false ∧ Hid (Mid w (w4.setCell ⟨j, 2, none⟩ (.int .i64 1)) j f nm S O k (.slice ga NG gc) G)) := by
  have hjl : j < w.heap.size := (Array.getElem?_eq_some_iff.1 hj).1
  have hlen : 0 < (encs z32 G).length := by
    cases G with
    | nil => exact absurd rfl hG
    | cons d G => simp only [encs, List.length_append, enc_len]; omega
  refine ⟨(encs z32 G).length, (read_ok f S O k nm i w.drew h.drew (by simp only [maxLen]; omega) hN).mono fun e w2 ⟨a, c, L, e1, hnd, hL, hF, hb⟩ => ?_⟩
  rw [hD] at e1 hnd
  rcases hnd with ⟨_, _, e0⟩ | ⟨g, cap, cur, eL, ev, hlo, hle, hcap, hcs, htk⟩
  · rw [e0] at hlen; simp at hlen
  · rw [ev] at e1
    refine ⟨g, cap, e1, ?_⟩
    subst eL
    have hg := hL _ (List.mem_singleton.2 rfl)
    have hgl : g < w2.heap.size := (Array.getElem?_eq_some_iff.1 hg).1
    have hLi : Lies w2 g 0 (encs z32 G) := fun i u hi => by
      have hi' := (List.getElem?_eq_some_iff.1 hi).1
      rw [byteVals_len] at hi'
      rw [← htk, List.getElem?_take_of_lt hi'] at hi
      show w2.cell? ⟨g, 0 + i, none⟩ = some u
      rw [Nat.zero_add, World.cell?]
      simp only [hg]
      simpa using hi
    refine (read_groups g 0 cap G w2 hLi hgl hle (by simpa [maxLen] using hcap) hl hds).mono fun e w4 ⟨gv, qs, e4, hR⟩ => ?_
    obtain ⟨ga, gc, egv⟩ := row_shape hR.row
    have hb' : Below w.heap.size w w2 := ⟨hb.os, hb.tape, hb.output, hb.size, hb.block⟩
    have hb4 : Below w.heap.size w w4 := hb'.trans (hR.bel.mono hb'.size)
    have hj4 : w4.heap[j]? = some (jBlk0 f nm 0) := by rw [hb4.block j hjl]; exact hj
    obtain ⟨_, _, c2, _, _, cz⟩ := jn0_cells hj4
    have hz2 := hb'.size
    have hset : ∀ b, b ≠ j → (w4.setCell ⟨j, 2, none⟩ (.int .i64 1)).heap[b]? = w4.heap[b]? := fun b hb => set_other _ _ _ _ _ hb
    subst egv
    refine ⟨ga, qs.length, gc, e4, c2, cz 2, ?_, jn0_parts (p' := 1) hj4, qs, ?_⟩
    · have hF4 : FsIs w4 f 0 S O k := hF.kept hR.bel.size (fun q o => hR.bel.block q (hF.lt q o))
      exact hF4.kept (by rw [size_set]; exact Nat.le_refl _) (fun q o => hset q (fun e => hOj (e ▸ o)))
    · refine ⟨hb4.os, hb4.tape, hb4.output, by rw [size_set]; exact hb4.size, fun b h1 h2 => (hset b h2).trans (hb4.block b h1), ownsRow_kept hR.row (fun q e => hset q (fun e2 => by have := (hR.rown q e).1; omega)), fun q e => by rw [size_set]; exact ⟨by have := (hR.rown q e).1; omega, (hR.rown q e).2⟩, hR.ch.kept (fun q o => by rw [size_set]; exact ⟨by have := o.1; omega, o.2⟩) (fun q o => hset q (fun e2 => by have := o.1; omega))⟩
set_option maxRecDepth 20000 in
set_option maxHeartbeats 1000000 in
theorem load_some (j f : Nat) (S : Fs) (O : Nat → Prop) (k i : Nat) (nm : ByteArray) (G : List (List (List UInt8))) (w : World) (h : FsIs w f 0 S O k) (hj : w.heap[j]? = some (jBlk0 f nm 0)) (hOj : ¬ O j) (hk : k ≤ 16000) (hn : nm.size ≤ 100) (hNs : ∀ s i, S.now.N s = some i → s.size ≤ 300) (hP : NoPart S.now nm) (hP1 : S.now.N (part1 nm) = none) (hN : S.now.N nm = some i) (hD : S.now.D i = encs z32 G) (hG : G ≠ []) (hl : G.length ≤ 10000) (hds : ∀ d ∈ G, d.length ≤ 100000 ∧ wt d ≤ 10000000) :
    Calls Tryz.prog 49 #[.pointer (some ⟨j, 0, none⟩)] w fun e w' => ∃ gv, e = .returned gv ∧ Mid w w' j f nm S O k gv G := by
  obtain ⟨n, h30⟩ := load_first j f S O k i nm G w h hj hOj hn hN hD hG hl hds
  have HR := hide h30
  have HP := hide (part_zero j nm w.drew (jn0_cells hj).2.1)
  have HMid : Hid (∀ gv W, Mid w W j f nm S O k gv G → W.cell? ⟨j, 0, none⟩ = some (.pointer (some ⟨f, 0, none⟩)) ∧ W.cell? ⟨j, 2, none⟩ = some (.int .i64 1) ∧ W.cell? ⟨j, 4, none⟩ = some (.bool false) ∧ ∃ s, Hid (Calls Tryz.prog 97 #[.pointer (some ⟨j, 0, none⟩), .int .i64 1] W.drew fun e w1 => e = .returned (.string s) ∧ w1.cell? ⟨j, 0, none⟩ = some (.pointer (some ⟨f, 0, none⟩)) ∧ Hid (Calls Tryz.prog 30 #[.pointer (some ⟨f, 0, none⟩), .string s] w1 fun e w2 => e = .returned (.tuple #[.slice none 0 0, .int .i64 7]) ∧ w2.cell? ⟨j, 2, none⟩ = some (.int .i64 1) ∧ Hid (Calls Tryz.prog 99 #[.pointer (some ⟨j, 0, none⟩), .int .i64 1] w2 fun e w3 => e = .returned (.slice none 0 0) ∧ w3.cell? ⟨j, 3, none⟩ = some (.slice none 0 0) ∧ w3.frozen? ⟨j, 3, none⟩ = false ∧ w3.setCell ⟨j, 3, none⟩ (.slice none 0 0) = w3 ∧ Hid (Mid w w3 j f nm S O k gv G))))) := fun gv W ⟨hF, hjW, qs, hLG⟩ => by
    obtain ⟨c0, _, c2, _, c4, _⟩ := jn0_cells hjW
    obtain ⟨s, hE⟩ := load_end j f S O k nm 1 W hF hjW hk hn hNs hP (.inr ⟨rfl, hP1⟩)
    have hjl : j < W.heap.size := (Array.getElem?_eq_some_iff.1 hjW).1
    refine ⟨c0, c2, c4, s, hE.mono fun e w1 ⟨e1, h1, h2⟩ => ⟨e1, h1, (unhide h2).mono fun e w2 ⟨e2, h3, h4⟩ => ⟨e2, h3, (unhide h4).mono fun e w3 ⟨e3, h5, h6, h7, h8⟩ => ⟨e3, h5, h6, h7, h8.1, ?_, qs, hLG.below h8.2⟩⟩⟩⟩
    rw [h8.2.block j hjl]; exact hjW
  obtain ⟨c0, c1, c2, c3, c4, cz⟩ := jn0_cells hj
  have c0d : w.drew.cell? ⟨j, 0, none⟩ = some (.pointer (some ⟨f, 0, none⟩)) := c0
  have c2d : w.drew.cell? ⟨j, 2, none⟩ = some (.int .i64 ((0 : Nat) : Int)) := c2
  clear h hj hOj hk hn hNs hP hP1 hN hD hG hl hds h30 c0 c1 c3 cz
  simp only [Int.natCast_zero] at c2 c2d
  go_enter Tryz.func49, Tryz.ntmps49
  go_wp2_with fail
  go_loopw [3] (fun gv wr => (gv = .slice none 0 0 ∧ wr = w) ∨ Mid w wr j f nm S O k gv G) (fun _ wr => 2 - (intOf ((wr.cell? ⟨j, 2, none⟩).getD (.int .i64 0))).toNat)
  case atStart => exact .inl ⟨rfl, rfl⟩
  case round =>
    rcases hrel with ⟨rfl, rfl⟩ | hM
    · clear HMid
      go_wp2_with fail
      refine wp_region_noPanic ?_
      go_region_law (go_simp; first | (refine (unhide HP).mono ?_; rintro e w1 ⟨rfl, rfl⟩; simp only []) | (refine (unhide HR).mono ?_; rintro e w2 ⟨g, c, rfl, HQ⟩; simp only []))
      all_goals
        refine NoPanic.normal ?_
        go_wp2_with fail
        refine (unhide HQ).mono ?_
        rintro e w4 ⟨ga, NG, gc, rfl, d2, dz, HF⟩
        go_wp2_with fail
        refine ⟨.inr (unhide HF), ?_⟩
        have e1 : (w4.setCell ⟨j, 2, none⟩ (.int .i64 1)).cell? ⟨j, 2, none⟩ = some (.int .i64 1) := (jn0_cells (unhide HF).2.1).2.2.1
        rw [e1, c2]
        simp [intOf]
    · obtain ⟨m0, m2, m4, s, HE⟩ := unhide HMid _ _ hM
      clear HMid HR HP c2 c2d c0d c4
      have m0d : wr.drew.cell? ⟨j, 0, none⟩ = some (.pointer (some ⟨f, 0, none⟩)) := m0
      have m2d : wr.drew.cell? ⟨j, 2, none⟩ = some (.int .i64 1) := m2
      go_wp2_with fail
      refine wp_region_noPanic ?_
      go_region_law (go_simp; first | (refine (unhide HE).mono ?_; rintro e w1 ⟨rfl, d0, HR⟩; simp only []) | (refine (unhide HR).mono ?_; rintro e w2 ⟨rfl, d2, HQ⟩; simp only []))
      all_goals
        refine NoPanic.normal ?_
        go_wp2_with fail
        refine (unhide HQ).mono ?_
        rintro e w3 ⟨rfl, d3, dz, did, HF⟩
        go_wp2_with fail
        go_ret
        exact ⟨_, rfl, unhide HF⟩
end Go.Proofs.YtebcmicmklpflaaGreatDoor
