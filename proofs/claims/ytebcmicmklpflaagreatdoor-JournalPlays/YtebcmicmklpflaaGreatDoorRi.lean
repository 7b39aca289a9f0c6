/- Groups are read. -/
import Derived.Test.YtebcmicmklpflaaGreatDoorRh
namespace Go.Proofs.YtebcmicmklpflaaGreatDoor
open Go.RowKit Go.Maps
set_option linter.unusedSimpArgs false
set_option maxRecDepth 20000 in
theorem read_nothing (pv : Option Addr) (a : Option Addr) (n c : Nat) (hn : n < 3) (w : World) : Calls Tryz.prog 131 #[.pointer pv, .slice a n c] w fun e w' => e = .returned (.tuple #[.pointer none, .int .i64 0]) ∧ w' = w := by
  have HC := hide (cut_short a n c hn w)
  go_enter Tryz.func131, Tryz.ntmps131
  go_wp2_with fail
  refine (unhide HC).mono ?_
  rintro e w1 ⟨rfl, rfl⟩
  go_wp2_with fail
  exact bodyPost_ret (by simp [results, Tryz.results131]) rfl ⟨rfl, rfl⟩
/-- Groups that are being read: all of them behind w. -/
structure RGs (w W : World) (gv : Value) (qs : List Nat) (G : List (List (List UInt8))) : Prop where
  bel : Below w.heap.size w W
  row : W.ownsRow 0 104 1 gv qs.length (qs.map ptrV)
  rown : ∀ q, gv.ownBlock = some q → w.heap.size ≤ q ∧ q < W.heap.size
  ch : Chain W (fun b => w.heap.size ≤ b ∧ b < W.heap.size) none z32 qs G
theorem RGs.drewN {w W : World} {gv : Value} {qs : List Nat} {G : List (List (List UInt8))} (h : RGs w W gv qs G) (p : Nat) : RGs w (W.drewN p) gv qs G :=
  ⟨⟨h.bel.os, h.bel.tape, h.bel.output, h.bel.size, h.bel.block⟩, h.row, h.rown, Chain.kept (w := W) (w' := W.drewN p) (O := fun b => w.heap.size ≤ b ∧ b < W.heap.size) (O' := fun b => w.heap.size ≤ b ∧ b < (W.drewN p).heap.size) (fun _ o => o) (fun _ _ => rfl) h.ch⟩
theorem RGs.nil (w : World) : RGs w w (.slice none 0 0) [] [] := ⟨Below.refl _ _, ⟨rfl, .inl ⟨rfl, rfl⟩⟩, fun q e => by simp [Value.ownBlock] at e, trivial⟩
theorem RGs.step {w W : World} {gv : Value} {qs : List Nat} {G : List (List (List UInt8))} (h : RGs w W gv qs G) (hn : qs.length ≤ 100000) {W1 : World} {ds : List (List UInt8)} (hb : Below W.heap.size W W1) (hG : Grp W1 (fun b => W.heap.size ≤ b ∧ b < W1.heap.size) W.heap.size (lastq qs) ds (digs z32 G)) :
    ∃ gv' W3, (∀ ty, (appG ty #[gv, .slice (some ⟨W1.heap.size, 0, none⟩) 1 1]).run Tryz.prog (W1.alloc (.cells #[ptrV W.heap.size] 104)) = .ok gv' W3) ∧ (∃ a' c', gv' = .slice a' (qs.length + 1) c') ∧ RGs w W3 gv' (qs ++ [W.heap.size]) (G ++ [ds]) := by
  have hz1 := hb.size
  have hz0 := h.bel.size
  have h1' : W1.ownsRow 0 104 1 gv qs.length (qs.map ptrV) := ownsRow_kept h.row (fun q e => hb.block q (h.rown q e).2)
  obtain ⟨gv', W3, hr, hg⟩ := ptr_grow h1' hn (ptrV W.heap.size) rfl
  have hz3 := hg.gr.size
  have htag := row_tag h1'
  have hTg : ∀ P : Nat → Prop, (∀ b, P b → b < W1.heap.size) → Tg P W1 W3 := fun P hP b x t hb hx ht => by
    refine hg.gr.block b (hP b hb) (fun e => ?_)
    obtain ⟨cur, hc⟩ := htag b e.symm
    rw [hx] at hc
    injection hc with hc
    injection hc with _ hc
    rcases ht with rfl | rfl | rfl <;> exact absurd hc (by decide)
  refine ⟨gv', W3, hr, hg.shp, ⟨⟨hg.gr.os.trans (hb.os.trans h.bel.os), hg.gr.tape.trans (hb.tape.trans h.bel.tape), hg.gr.output.trans (hb.output.trans h.bel.output), by omega, fun b hb' => ?_⟩, ?_, fun q e => ?_, ?_⟩⟩
  · rw [hg.gr.block b (by omega) (fun e => by have := (h.rown b e.symm).1; omega), hb.block b (by omega)]
    exact h.bel.block b hb'
  · rw [List.length_append, List.map_append]; exact hg.row
  · rcases hg.loc with e3 | ⟨b', e3, h4⟩
    · rw [e3] at e; have := h.rown q e; exact ⟨this.1, by omega⟩
    · rw [e3] at e; injection e with e
      subst e
      obtain ⟨cur, hc⟩ := row_tag hg.row b' e3
      exact ⟨by omega, (Array.getElem?_eq_some_iff.1 hc).1⟩
  · have hch1 := h.ch.kept (w' := W1) (O' := fun b => w.heap.size ≤ b ∧ b < W1.heap.size) (fun q o => ⟨o.1, by have := o.2; omega⟩) (fun q o => hb.block q o.2)
    refine Chain.snoc (hch1.keptT (fun q o => ⟨o.1, by have := o.2; omega⟩) (hTg _ (fun b o => o.2))) ?_
    have hGk := hG.keptT (O' := fun b => w.heap.size ≤ b ∧ b < W3.heap.size) (fun q o => ⟨by have := o.1; omega, by have := o.2; omega⟩) (hTg _ (fun b o => o.2))
    by_cases hq : qs = []
    · rw [if_pos hq]
      rw [hq] at hGk
      exact hGk
    · rw [if_neg hq]; exact hGk
theorem encs_append (a b : List (List (List UInt8))) : ∀ prev, encs prev (a ++ b) = encs prev a ++ encs (digs prev a) b := by
  induction a with
  | nil => intro prev; simp only [List.nil_append, encs, digs]
  | cons g a ih => intro prev; simp only [List.cons_append, encs, digs, ih, List.append_assoc]
/-- Where the reading of groups is. -/
def RdG (G : List (List (List UInt8))) (w : World) (gv : Value) (W : World) (k : Nat) : Prop := ∃ qs, RGs w W gv qs (G.take k)
/-- What a round of the reading is. -/
theorem groups_round (g o c : Nat) (G : List (List (List UInt8))) (w : World) (hL : Lies w g o (encs z32 G)) (hg : g < w.heap.size) (hc : (encs z32 G).length ≤ c) (hcm : c ≤ 9223372036854775807) (hl : G.length ≤ 10000) (hds : ∀ d ∈ G, d.length ≤ 100000 ∧ wt d ≤ 10000000) :
    ∀ (k : Nat) (gv : Value) (W : World), k < G.length → RdG G w gv W k → ∃ (E : Nat) (L : Option Addr), (encs z32 (G.take (k + 1))).length = (encs z32 (G.take k)).length + E ∧ 0 < E ∧ (encs z32 (G.take k)).length + E ≤ (encs z32 G).length ∧ (∃ a' c', gv = .slice a' k c') ∧
      (Calls Tryz.prog 59 #[gv] W.drew fun e w' => e = .returned (.pointer L) ∧ w' = W.drew) ∧
      (Calls Tryz.prog 131 #[.pointer L, .slice (some ⟨g, o + (encs z32 (G.take k)).length, none⟩) ((encs z32 G).length - (encs z32 (G.take k)).length) (c - (encs z32 (G.take k)).length)] W.drew fun e W1 => ∃ a' c' W3, e = .returned (.tuple #[.pointer (some ⟨W.heap.size, 0, none⟩), .int .i64 (E : Int)]) ∧ (∀ ty, (appG ty #[gv, .slice (some ⟨W1.heap.size, 0, none⟩) 1 1]).run Tryz.prog (W1.alloc (.cells #[ptrV W.heap.size] 104)) = .ok (.slice a' (k + 1) c') W3) ∧ Hid (RdG G w (.slice a' (k + 1) c') W3 (k + 1))) := by
  intro k gv W hk ⟨qs, hR⟩
  have hR' : RGs w W.drew gv qs (G.take k) := hR.drewN 1
  have hkl : (G.take k).length = k := by rw [List.length_take]; omega
  have hql : qs.length = k := by rw [hR.ch.len, hkl]
  have hspl : encs z32 G = encs z32 (G.take k) ++ (enc (digs z32 (G.take k)) G[k] ++ encs (digs z32 (G.take (k + 1))) (G.drop (k + 1))) := by
    conv => lhs; rw [← List.take_append_drop (k + 1) G]
    rw [encs_append, List.take_succ_eq_append_getElem hk, encs_snoc, List.append_assoc]
  have htk : (encs z32 (G.take (k + 1))).length = (encs z32 (G.take k)).length + (enc (digs z32 (G.take k)) G[k]).length := by
    rw [List.take_succ_eq_append_getElem hk, encs_snoc, List.length_append]
  have htot : (encs z32 G).length = (encs z32 (G.take k)).length + (enc (digs z32 (G.take k)) G[k] ++ encs (digs z32 (G.take (k + 1))) (G.drop (k + 1))).length := by
    conv => lhs; rw [hspl]
    rw [List.length_append]
  have hel := enc_len (digs z32 (G.take k)) G[k]
  have htl : (enc (digs z32 (G.take k)) G[k] ++ encs (digs z32 (G.take (k + 1))) (G.drop (k + 1))).length = (enc (digs z32 (G.take k)) G[k]).length + (encs (digs z32 (G.take (k + 1))) (G.drop (k + 1))).length := List.length_append
  have hLk : Lies w g (o + (encs z32 (G.take k)).length) (enc (digs z32 (G.take k)) G[k] ++ encs (digs z32 (G.take (k + 1))) (G.drop (k + 1))) := by
    refine Lies.part (X := encs z32 (G.take k)) (Z := []) ?_
    rw [List.append_nil, ← hspl]
    exact hL
  generalize encs (digs z32 (G.take (k + 1))) (G.drop (k + 1)) = tail at *
  have hgW : g < W.drew.heap.size := Nat.lt_of_lt_of_le hg hR.bel.size
  have hLW : Lies W.drew g (o + (encs z32 (G.take k)).length) (enc (digs z32 (G.take k)) G[k] ++ tail) := hLk.below (hR.bel.block g hg)
  have hd := hds G[k] (List.getElem_mem hk)
  refine ⟨(enc (digs z32 (G.take k)) G[k]).length, (lastq qs).map fun q => ⟨q, 0, none⟩, htk, by omega, by omega, ?_, ?_, ?_⟩
  · obtain ⟨a, c, e⟩ := row_shape hR.row
    exact ⟨a, c, by rw [e, hql]⟩
  · exact last_ok gv qs W.drew hR'.row (by omega)
  · rw [show (encs z32 G).length - (encs z32 (G.take k)).length = (enc (digs z32 (G.take k)) G[k] ++ tail).length by omega]
    refine (read_group g _ (c - (encs z32 (G.take k)).length) (lastq qs) G[k] (digs z32 (G.take k)) tail W.drew hLW hgW (by omega) (by omega) (chain_last hR'.ch) hd.1 hd.2).mono fun e W1 ⟨e1, hb, hG⟩ => ?_
    obtain ⟨gv', W3, hr, ⟨a', c', rfl⟩, h3⟩ := hR'.step (by omega) hb hG
    rw [hql] at hr h3
    refine ⟨a', c', W3, e1, hr, hide ⟨qs ++ [W.drew.heap.size], ?_⟩⟩
    rw [List.take_succ_eq_append_getElem hk]
    exact h3
set_option maxRecDepth 20000 in
set_option maxHeartbeats 2000000 in
theorem read_groups (g o c : Nat) (G : List (List (List UInt8))) (w : World) (hL : Lies w g o (encs z32 G)) (hg : g < w.heap.size) (hc : (encs z32 G).length ≤ c) (hcm : c ≤ 9223372036854775807) (hl : G.length ≤ 10000) (hds : ∀ d ∈ G, d.length ≤ 100000 ∧ wt d ≤ 10000000) :
    Calls Tryz.prog 98 #[.slice none 0 0, .slice (some ⟨g, o, none⟩) (encs z32 G).length c] w fun e w' => ∃ gv qs, e = .returned (.tuple #[gv, .int .i64 ((encs z32 G).length : Int)]) ∧ RGs w w' gv qs G := by
  have HRound := hide (groups_round g o c G w hL hg hc hcm hl hds)
  have HLast : Hid (∀ gv W, RdG G w gv W G.length → ∃ qs, RGs w W.drew gv qs G) := fun gv W ⟨qs, h⟩ => ⟨qs, by rw [List.take_length] at h; exact h.drewN 1⟩
  have HLq : Hid (∀ gv W, RdG G w gv W G.length → (∃ a' c', gv = .slice a' G.length c') ∧ ∃ L, Calls Tryz.prog 59 #[gv] W.drew fun e w' => e = .returned (.pointer L) ∧ w' = W.drew) := fun gv W ⟨qs, h⟩ => by
    have h' : RGs w W.drew gv qs (G.take G.length) := h.drewN 1
    have hql : qs.length = G.length := by rw [h.ch.len, List.take_length]
    obtain ⟨a, c, e⟩ := row_shape h.row
    exact ⟨⟨a, c, by rw [e, hql]⟩, _, last_ok gv qs W.drew h'.row (by omega)⟩
  obtain ⟨n, hn⟩ : ∃ n, n = (encs z32 G).length := ⟨_, rfl⟩
  obtain ⟨N, hN⟩ : ∃ N, N = G.length := ⟨_, rfl⟩
  have hnc : n ≤ c := by omega
  have HD := hide (And.intro hn (And.intro hN (And.intro hnc (And.intro hcm hl))))
  rw [← hn] at HRound ⊢
  rw [← hN] at HLast HLq
  clear hL hg hc hcm hl hds hn hN hnc
  go_enter Tryz.func98, Tryz.ntmps98
  go_wp2_with fail
  go_loopw [0, 6] (fun gv i wr => ∃ k : Nat, k ≤ N ∧ i = .int .i64 ((encs z32 (G.take k)).length : Int) ∧ RdG G w gv wr k) (fun _ i _ => n + 1 - (intOf i).toNat)
  case atStart => exact ⟨0, Nat.zero_le _, rfl, [], RGs.nil w⟩
  case round =>
    obtain ⟨k, hk, rfl, hRd⟩ := hrel
    by_cases hlt : k < N
    · obtain ⟨hn, hN, hnc, hcm, hl⟩ := unhide HD
      obtain ⟨E, L, hE1, hE0, hE2, ⟨ga, gc, hgv⟩, h59, h131⟩ := unhide HRound k _ _ (by omega) hRd
      subst hgv
      obtain ⟨A, hA⟩ : ∃ A, A = (encs z32 (G.take k)).length := ⟨_, rfl⟩
      rw [← hA] at h131 hE1 hE2 ⊢
      have HR := hide h131
      have HL := hide h59
      have hAn : (A : Int) ≤ (n : Int) := by omega
      have hAc : (A : Int) ≤ (c : Int) := by omega
      have hnc2 : (n : Int) ≤ (c : Int) := by omega
      have hcm2 : (c : Int) ≤ 9223372036854775807 := by omega
      have hcne : ¬ (c = A) := by omega
      have HP := hide (And.intro hE1 (And.intro hE0 (And.intro hE2 (And.intro hcm (And.intro hnc hlt)))))
      clear hn hN hnc hcm hl h59 h131 hE1 hE0 hE2 hA HD HRound HLast HLq hRd hk hlt
      unfold ptrV at HR
      go_wp2_with fail
      refine wp_region_noPanic ?_
      go_region_law (go_simp; first | (refine (unhide HL).mono ?_; rintro e w5 ⟨rfl, rfl⟩; simp only []; done) | (refine (unhide HL).mono ?_; rintro e w5 ⟨rfl, rfl⟩; simp only []) | (refine (unhide HR).mono ?_; rintro e W1 ⟨a', c', W3, rfl, k1, HE⟩; simp only []))
      all_goals
        refine NoPanic.normal ?_
        go_wp2_with fail
        obtain ⟨hE1, hE0, hE2, hcm, hnc, hlt⟩ := unhide HP
        have e1 : Go.RowKit.wrap64 ((A : Int) + (E : Int)) = ((A + E : Nat) : Int) := by unfold Go.RowKit.wrap64; omega
        rw [e1]
        exact ⟨⟨k + 1, by omega, by rw [hE1], unhide HE⟩, by simp only [intOf, Int.toNat_natCast]; omega⟩
    · obtain ⟨hn, hN, hnc, hcm, hl⟩ := unhide HD
      obtain rfl : k = N := by omega
      have hA : (encs z32 (G.take k)).length = n := by rw [hn, hN, List.take_length]
      obtain ⟨⟨ga, gc, hgv⟩, L, h59⟩ := unhide HLq _ _ hRd
      obtain ⟨qs2, hfin⟩ := unhide HLast _ _ hRd
      have HF := hide hfin
      have HR : Hid (∀ a c', Calls Tryz.prog 131 #[.pointer L, .slice a 0 c'] wr.drew fun e w' => e = .returned (.tuple #[.pointer none, .int .i64 0]) ∧ w' = wr.drew) := fun a c' => read_nothing L a 0 c' (by omega) _
      have HL := hide h59
      subst hgv
      rw [hA]
      have hnc2 : (n : Int) ≤ (c : Int) := by omega
      have hcm2 : (c : Int) ≤ 9223372036854775807 := by omega
      clear hn hnc hcm hl hN h59 hA HD HRound HLast HLq hRd hk hlt hfin
      by_cases hcn : c = n
      all_goals
        go_wp2_with fail
        refine wp_region_noPanic ?_
        go_region_law (go_simp; first | (refine (unhide HL).mono ?_; rintro e w5 ⟨rfl, rfl⟩; simp only []) | (refine (unhide HR _ _).mono ?_; rintro e w5 ⟨rfl, rfl⟩; simp only []))
        all_goals
          refine NoPanic.normal ?_
          go_wp2_with fail
          exact bodyPost_ret (by simp [results, Tryz.results98]) rfl ⟨_, _, rfl, unhide HF⟩
end Go.Proofs.YtebcmicmklpflaaGreatDoor
