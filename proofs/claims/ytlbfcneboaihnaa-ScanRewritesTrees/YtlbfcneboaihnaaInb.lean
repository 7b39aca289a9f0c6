/- inBytes: bytes with digits laid in the place of others, in memory of their own. -/
import Derived.Test.YtlbfcneboaihnaaRlw
namespace Go.Proofs.Ytlbfcneboaihnaa
open Go.RowKit Go.Shelf Go.Great
attribute [local go_sem] Oper.semAt_some
set_option linter.unusedSimpArgs false
theorem not_u8 {w : World} {gs o : Nat} {s1 s2 : ByteArray} {t : Int} {x : Int} (hs : w.heap[gs]? = some (.cells #[.string s1, .string s2, .int .i64 t] 68)) (h : w.cell? ⟨gs, o, none⟩ = some (.int .u8 x)) : False := by
  simp only [World.cell?, hs] at h
  rcases o with _ | _ | _ | o
  · simp at h
  · simp at h
  · simp at h
  · simp at h
set_option maxRecDepth 20000 in
set_option maxHeartbeats 2000000 in
theorem inBytes_any (gs : Nat) (F T : List Nat) (t : Int) (a : Option Addr) (n c : Nat) (B : List Nat) (w : World) (hs : w.heap[gs]? = some (.cells #[.string (strOf F), .string (strOf T), .int .i64 t] 68)) (hb : BytesAt w (.slice a n c) B) (hB : Sha.Bytes B) (hn : B.length = n) (hmax : n ≤ 4000)
    (hF : Sha.Bytes F) (hFl : F.length = 32) (hT : Sha.Bytes T) (hTl : T.length = 32) (ht : 0 ≤ t ∧ t ≤ 1000000) (hmx : ∃ m, w.cell? ⟨0, 0, none⟩ = some (.int .i64 m)) :
    Calls Try.prog 36 #[.pointer (some ⟨gs, 0, none⟩), .slice a n c] w fun e w' => ∃ v, e = .returned v ∧ OwnR w' (w.heap.size + 1) v (layAll T B (plcs B F 0)) ∧ SoleG gs w w' ∧ w'.heap[gs]? = some (.cells #[.string (strOf F), .string (strOf T), .int .i64 (t + ((plcs B F 0).length : Int))] 68) := by
  have hgs : gs < w.heap.size := (Array.getElem?_eq_some_iff.1 hs).1
  have hbs : Below w.heap.size w (w.alloc (.cells #[.pointer (some ⟨gs, 0, none⟩)] 64)) := (Below.refl _ _).alloc (Nat.le_refl _) _
  obtain ⟨v1, w1, hr1, ho1, hb1, _⟩ := appR (w.alloc (.cells #[.pointer (some ⟨gs, 0, none⟩)] 64)) (w.heap.size + 1) (.slice none 0 0) [] a n c B 22 hn (ownR_nil _ _) (hb.below hbs) (by simp; omega) (by simp)
  rw [List.nil_append] at ho1
  have hz1 : w.heap.size + 1 ≤ w1.heap.size := by have := hb1.size; simpa using this
  obtain ⟨av, cv, rfl, _⟩ := ho1.at
  rw [hn] at hr1
  have hk1 : ∀ k, k < w.heap.size + 1 → w1.heap[k]? = (w.alloc (.cells #[.pointer (some ⟨gs, 0, none⟩)] 64)).heap[k]? := fun k hk => hb1.block k hk
  have hsb : w1.heap[w.heap.size]? = some (.cells #[.pointer (some ⟨gs, 0, none⟩)] 64) := by rw [hk1 _ (by omega)]; exact World.alloc_heap_new w _
  have hst : w1.heap[gs]? = some (.cells #[.string (strOf F), .string (strOf T), .int .i64 t] 68) := by rw [hk1 _ (by omega), Below.heap_alloc _ _ _ hgs]; exact hs
  have hcs : w1.cell? ⟨w.heap.size, 0, none⟩ = some (.pointer (some ⟨gs, 0, none⟩)) := cellP hsb
  have hcf : w1.cell? ⟨gs, 0, none⟩ = some (.string (strOf F)) := by simp [World.cell?, hst]
  have hne1 : w.heap.size < w1.heap.size := by omega
  have hne2 : gs < w1.heap.size := by omega
  have HPL := hide (places_any a n c (strOf F) (w1.alloc (.cells #[.slice av n cv] 22)))
  simp only [World.size_alloc] at HPL
  refine (callsIn_wide (n := 3)).1 ?_
  refine callsIn_of_wp_marks Try.func36 rfl trivial ?_ rfl
  simp only [Try.ntmps36, List.size_toArray, List.length_cons, List.length_nil, Nat.reduceAdd, Nat.reduceSub, Array.replicate_succ, Array.replicate_zero, List.push_toArray, List.append_toArray, List.nil_append, List.cons_append]
  gi_wp2_with fail
  refine ⟨trivial, ?_⟩
  refine (callsIn_wide.2 (unhide HPL)).mono ?_
  rintro e w2 ⟨rfl, hw2⟩
  rw [hw2]
  clear hw2 w2 hr1
  gi_wp2_with fail
  have hB0 : Below w1.heap.size w1 (((w1.alloc (.cells #[.slice av n cv] 22)).alloc (.cells #[.slice a n c] 22)).alloc (.cells #[.string (strOf F)] 9)) := (((Below.refl _ _).alloc (Nat.le_refl _) _).alloc (by simp) _).alloc (by simp; omega) _
  have hwb : Below w.heap.size w w1 := hbs.trans (hb1.mono (by omega))
  have g1 : ∀ k, k < w1.heap.size → (((w1.alloc (.cells #[.slice av n cv] 22)).alloc (.cells #[.slice a n c] 22)).alloc (.cells #[.string (strOf F)] 9)).heap[k]? = w1.heap[k]? := fun k hk => hB0.block k hk
  obtain ⟨m, hm⟩ := hmx
  have hw : Where w gs w1.heap.size (.slice av n cv) a n := by
    refine ⟨hgs, by omega, fun k hk => ?_, fun h0 x hx => ?_, ?_, by have := cell_lt hm; exact this⟩
    · have := World.ownsRow.lt ho1 k (by rw [← hk, hn])
      omega
    · obtain ⟨a', c', e, _, hxx⟩ := hb
      injection e with e1 _ _
      obtain ⟨b, o, ea, hlt, hcell⟩ := hxx (by omega)
      have hxe : x = ⟨b, o, none⟩ := by rw [e1, ea] at hx; exact (Option.some.inj hx).symm
      subst hxe
      refine ⟨fun e => ?_, hlt⟩
      have e' : b = gs := e
      subst e'
      exact not_u8 hs (hcell 0 (by omega))
    · intro e
      subst e
      simp [World.cell?, hs] at hm
  refine range_law (w := w) (gs := gs) (Ko := w1.heap.size) (F := F) (T := T) (t := t) (a := a) (n := n) (c := c) (B := B) (vo := .slice av n cv) (fun x => { tmps := #[.pointer (some ⟨gs, 0, none⟩), .slice a n c, .pointer (some ⟨w.heap.size, 0, none⟩), undef, .slice none 0 0, .pointer (some ⟨w1.heap.size, 0, none⟩), .int .i64 (x : Int), .slice a n c, .slice av n cv, .slice a n c, .pointer (some ⟨gs, 0, none⟩), .pointer (some ⟨gs, 0, none⟩), .pointer (some ⟨gs, 0, none⟩), .string (strOf F), .func (.func 65) #[] #[.pointer (some ⟨w1.heap.size + 1 + 1, 0, none⟩), .pointer (some ⟨w1.heap.size + 1, 0, none⟩)], .int .i64 (x : Int), undef, undef, undef, undef, undef, undef, undef, undef, undef, undef, undef, undef, undef, undef, undef, undef], defers := [] }) hw hn (by omega) hB hF hFl rfl (by simp) ?_ (by rw [g1 _ hne2]; exact hst) (by rw [g1 _ hne1]; exact hsb) ?_ ?_ ?_ ?_ ?_ ?_ ?_ ?_ ?_
  · have hwB := hwb.trans (hB0.mono (by omega : w.heap.size ≤ w1.heap.size))
    exact ⟨hwB.os, hwB.tape, hwB.output, hwB.size, fun k hk _ => hwB.block k hk⟩
  · have := ownR_keep ho1 fun k _ hk => hB0.block k hk
    rwa [hn] at this
  · rw [Below.heap_alloc _ _ _ (by simp; omega), Below.heap_alloc _ _ _ (by simp), World.alloc_heap_new]
  · rw [Below.heap_alloc _ _ _ (by simp)]
    have := World.alloc_heap_new (w1.alloc (.cells #[.slice av n cv] 22)) (.cells #[.slice a n c] 22)
    rwa [World.size_alloc] at this
  · have := World.alloc_heap_new ((w1.alloc (.cells #[.slice av n cv] 22)).alloc (.cells #[.slice a n c] 22)) (.cells #[.string (strOf F)] 9)
    rwa [World.size_alloc, World.size_alloc] at this
  · exact (hb.below hwb).below hB0
  · exact ⟨m, by rw [hB0.cell (p := ⟨0, 0, none⟩) (by have := cell_lt hm; show 0 < _; omega), hwb.cell (p := ⟨0, 0, none⟩) (cell_lt hm)]; exact hm⟩
  · intro l x W K hK
    gi_wp2
    exact hK
  · intro l x r pre W R hx hpl hpre hP hR
    have hPd := hP.up (Below.refl _ _).drew
    obtain ⟨g, cc, ev, hcc, W1, hcp, d1, d2, d3, hPn, hsz, hk⟩ := hPd.lay hw hn hT hTl x hx hpre 3
    injection ev with ev1 _ ev3
    subst ev1 ev3
    have q1 := cellP hP.obx
    have q2 := cellP hP.sbx
    have q3 : W.cell? ⟨gs, 1, none⟩ = some (.string (strOf T)) := by simp [World.cell?, hP.str]
    have HR := hide hR
    have HPn := hide hPn
    have hsz' : (W1.setCell ⟨gs, 2, none⟩ (.int .i64 (t + (pre.length : Int) + 1))).heap.size = W.heap.size := by simpa using hsz
    have hk' : ∀ k, w1.heap.size < k → (W1.setCell ⟨gs, 2, none⟩ (.int .i64 (t + (pre.length : Int) + 1))).heap[k]? = W.heap[k]? := fun k h => (heap_set_other _ _ _ _ _ (by omega)).trans (hk k h)
    have HK := hide (And.intro hsz' hk')
    clear hsz' hk'
    have hxi : x ≤ cv := by omega
    have hxc : ¬ (cv = x) := by omega
    clear hR hPn hsz hk hP hPd
    gi_wp2_with fail
    gi_region
    all_goals
      gi_wp2_with fail
      exact unhide HR _ _ (unhide HPn) (unhide HK).1 (unhide HK).2
  · intro r W hP
    have q1 := cellP hP.obx
    have HE : Hid (OwnR W (w.heap.size + 1) (.slice av n cv) (layAll T B (plcs B F 0)) ∧ SoleG gs w W ∧ W.heap[gs]? = some (.cells #[.string (strOf F), .string (strOf T), .int .i64 (t + ((plcs B F 0).length : Int))] 68)) := ⟨hP.own, hP.old, hP.str⟩
    have hD := hP.dfr
    have hsz0 : (((w1.alloc (.cells #[.slice av n cv] 22)).alloc (.cells #[.slice a n c] 22)).alloc (.cells #[.string (strOf F)] 9)).heap.size = w1.heap.size + 1 + 1 + 1 := by simp
    have hvo := hw.hvo
    clear hP
    gi_wp2_with fail
    rw [hsz0]
    refine ⟨by simp, .inl ⟨_, _, rfl, run_takeDeferred hD, ?_⟩⟩
    have g2 : ∀ k, k ≠ w1.heap.size + 1 + 1 + 1 → (W.putObj (w1.heap.size + 1 + 1 + 1) (.deferred none)).heap[k]? = W.heap[k]? := fun k hk => World.putObj_heap_other hk
    have hszp : (W.putObj (w1.heap.size + 1 + 1 + 1) (.deferred none)).heap.size = W.heap.size := by simp [World.putObj]
    obtain ⟨e1, e2, e3⟩ := unhide HE
    refine ⟨.slice av n cv, by simp [results, Try.results36, go_sem], _, rfl, ?_, ?_, ?_⟩
    · refine ⟨e1.1, ?_⟩
      rcases e1.2 with h2 | ⟨g, cap, cur, e, hb', hh, rr⟩
      · exact .inl h2
      · have := hvo g (by rw [e]; rfl)
        exact .inr ⟨g, cap, cur, e, hb', by rw [g2 _ (by omega)]; exact hh, rr⟩
    · exact ⟨e2.os, e2.tape, e2.output, by rw [hszp]; exact e2.size, fun k h1 h2 => (g2 k (by omega)).trans (e2.block k h1 h2)⟩
    · rw [g2 _ (by omega)]; exact e3
end Go.Proofs.Ytlbfcneboaihnaa
