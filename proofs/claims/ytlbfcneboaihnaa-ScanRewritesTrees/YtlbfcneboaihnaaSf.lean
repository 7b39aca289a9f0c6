/- searchFor: those that are paths, rising, each once, and the set of their digits. -/
import Derived.Test.YtlbfcneboaihnaaSrch
import Derived.Test.YtlbfcneboaihnaaK6
import Derived.Test.YtlbfcneboaihnaaPaths
import Derived.Deep.MidRow
import Derived.Deep.RegionHeld3
namespace Go.Proofs.Ytlbfcneboaihnaa
open Go.RowKit Go.Great Go.ChangeMaps Go.MapKept
set_option linter.unusedSimpArgs false
/-- The state of the loop: behind i of them. -/
structure SfI (w wr : World) (of : List Ord.S) (i : Nat) (vp : Value) : Prop where
  m : SrchM w.heap.size 77 w wr vp i (fun d => ∃ p ∈ pathsOf (of.take i), digsOf p = d)
  own : OwnL wr (w.heap.size + 2) vp (pathsOf (of.take i))
theorem OwnL.form {w : World} {base : Nat} {v : Value} {L : List Ord.S} (h : OwnL w base v L) : ∃ a c, v = .slice a L.length c := by
  rcases h.2 with ⟨rfl, h0⟩ | ⟨g, cap, cur, e, _⟩
  · exact ⟨none, 0, by rw [h0]⟩
  · exact ⟨_, cap, e⟩
theorem compactS_own (base : Nat) (v : Value) (Z : List Ord.S) (w : World) (hv : OwnS w base v Z) (hmax : Z.length ≤ 100000) :
    Calls Try.prog 43 #[v] w fun e w' => ∃ a c, e = .returned (.slice a (Lib.compact Z).length c) ∧ (∀ x, a = some x → base ≤ x.block) ∧ StrsAt w' (.slice a (Lib.compact Z).length c) (Lib.compact Z) ∧ Below base w w' := by
  rcases hv with ⟨rfl, rfl⟩ | ⟨g, c, rfl, hg, hl, hc, hh⟩
  · exact (AnyG.slices_Compact_string_empty layK none 0 w).mono fun e w' ⟨he, hw⟩ => ⟨none, 0, he, fun x h => (by cases h), ⟨none, 0, rfl, Nat.le_refl _, fun h => by simp [Lib.compact, Lib.compactUpTo] at h⟩, by rw [hw]; exact Below.refl _ _⟩
  · have hle := Lib.compact_length_le Z
    refine (AnyG.slices_Compact_string layK g 0 c Z w hh (by omega) hc).mono fun e w' ⟨he, q, hw⟩ => ⟨_, c, he, fun x h => (by cases h; exact hg), ⟨_, c, rfl, by omega, fun _ => ⟨g, 0, rfl, ?_, fun i hi => ?_⟩⟩, ?_⟩
    · rw [hw, Go.Sort.size_putRow]; exact hl
    · have hH := Go.Sort.holds_putRow encStr _ g 0 _ (Lib.compact Z ++ List.replicate (Z.length - (Lib.compact Z).length) []).toArray (Go.Sort.holds_ahead encStr w q g 0 _ hh) (by simp; omega)
      rw [hw, holds_at hH i (by simp; omega)]
      congr 2
      rw [List.getD_eq_getElem?_getD, List.getElem?_append_left hi, ← List.getD_eq_getElem?_getD]
    · rw [hw]; exact Lib.below_putRow (Below.refl _ _) hg
theorem strs_setCell {w : World} {a : Option Addr} {n c base : Nat} {Z : List Ord.S} (h : StrsAt w (.slice a n c) Z) (hb : ∀ x, a = some x → base ≤ x.block) (p : Addr) (hp : p.block < base) (u : Value) : StrsAt (w.setCell p u) (.slice a n c) Z := by
  obtain ⟨a', cap, e, hc, hm⟩ := h
  refine ⟨a', cap, e, hc, fun h0 => ?_⟩
  obtain ⟨b, o, ea, hl, hcell⟩ := hm h0
  injection e with e1 e2 e3
  have hbb := hb _ (e1.trans ea)
  refine ⟨b, o, ea, by simpa using hl, fun i hi => ?_⟩
  rw [World.cell?_of_block (w := w) (a := ⟨b, o + i, none⟩) (Below.heap_setCell w p u b (by simp at hbb; omega))]
  exact hcell i hi
theorem take_snoc {of : List Ord.S} {i : Nat} (hi : i < of.length) : of.take (i + 1) = of.take i ++ [of.getD i []] := by
  rw [List.take_add_one, List.getElem?_eq_getElem hi, List.getD_eq_getElem?_getD, List.getElem?_eq_getElem hi]; rfl
theorem sf_start (w : World) (of : List Ord.S) : SfI w ((w.alloc (.map #[] 0)).alloc (.cells #[.slice none 0 0, .map (some w.heap.size)] 77)) of 0 (.slice none 0 0) := by
  refine ⟨⟨((Below.refl _ _).alloc (Nat.le_refl _) _).alloc (by simp) _, by simp, ?_, ?_⟩, ?_⟩
  · have := heap_alloc_last (w.alloc (.map #[] 0)) (.cells #[.slice none 0 0, .map (some w.heap.size)] 77)
    simpa using this
  · refine RowSet.congr (rowSet_keep (rowSet_made w) (Below.heap_alloc _ _ _ (by simp))) fun d => ?_
    simp [pathsOf]
  · exact ⟨by simp [pathsOf], .inl ⟨rfl, by simp [pathsOf]⟩⟩
set_option maxRecDepth 20000 in
set_option maxHeartbeats 1000000 in
theorem searchFor_any (a : Option Addr) (n c : Nat) (of : List Ord.S) (w : World) (hx : StrsAt w (.slice a n c) of) (hn : of.length = n) (hz : ∀ z ∈ of, z.length ≤ 281474976710656) (hmax : n ≤ 100000) :
    Calls Try.prog 24 #[.slice a n c] w fun e w' => e = .returned (.pointer (some ⟨w.heap.size + 1, 0, none⟩)) ∧ ∃ vp, SrchM w.heap.size 77 w w' vp n (fun d => ∃ p ∈ pathsOf of, digsOf p = d) ∧ StrsAt w' vp (Ord.uniq (pathsOf of)) := by
  have HX := hide hx
  have HZ := hide hz
  have HN := hide hn
  have H0 := hide (sf_start w of)
  clear hx hz hn
  go_enter Try.func24, Try.ntmps24
  go_wp2_with fail
  rw [run_makeMap]
  go_wp2_with fail
  generalize ((w.alloc (.map #[] 0)).alloc (.cells #[.slice none 0 0, .map (some w.heap.size)] 77)) = w0 at *
  go_loopw [14] (fun vi wr => ∃ (i : Nat) (vp : Value), i ≤ n ∧ vi = .int .i64 (i : Int) ∧ Hid (SfI w wr of i vp)) (fun vi _ => n - (intOf vi).toNat)
  case atStart => exact ⟨0, _, by omega, rfl, H0⟩
  case round =>
    obtain ⟨i, vp, hin, rfl, HI⟩ := hrel
    by_cases hlt : i < n
    · obtain ⟨g, o, rfl, hc⟩ := str_at ((unhide HX).below (unhide HI).m.below) (unhide HN) i hlt
      have hzl : (of.getD i []).length ≤ 281474976710656 := unhide HZ _ (by rw [List.getD_eq_getElem?_getD, List.getElem?_eq_getElem (by rw [unhide HN]; exact hlt)]; exact List.getElem_mem _)
      have HS := hide (take_snoc (of := of) (i := i) (by rw [unhide HN]; exact hlt))
      generalize of.getD i [] = p at *
      have hs := split_any (natsOf p) wr (natsOf_bytes p) (by rw [natsOf_length]; exact hzl)
      rw [strOf_nats] at hs
      have HSP := hide hs
      clear hs hzl
      go_wp2_with fail
      refine (unhide HSP).mono ?_
      rintro e w1 ⟨hbl, ⟨hp, he⟩ | ⟨hp, he⟩⟩
      · simp only [splitV, if_true] at he
        subst he
        have hm1 := (unhide HI).m.up (hbl.mono (unhide HI).m.size)
        have ho1 : OwnL w1 (w.heap.size + 2) vp (pathsOf (of.take i)) := ownL_keep (unhide HI).own fun k _ hk => hbl.block k hk
        have hc0 := hm1.cell0
        have HM1 := hide hm1
        have HP := hide hp
        have hl32 : ((natsOf p).take 32).length = 32 := by rw [List.length_take]; have := hp.1; omega
        have hb32 : Sha.Bytes ((natsOf p).take 32) := (natsOf_bytes p).take 32
        have HL32 := hide (And.intro hl32 hb32)
        have HD : Hid (digsOf p = (natsOf p).take 32) := rfl
        generalize (natsOf p).take 32 = D at *
        generalize (natsOf p).drop 33 = N at *
        clear hp hm1 HSP hl32 hb32
        go_wp2_with fail
        have hsz1 := (unhide HM1).size
        obtain ⟨v2, w2, hr2, ho2, hb2, hz2⟩ := appS (w1.alloc (.cells #[.string ⟨p.toArray⟩] 25)) (w.heap.size + 2) vp (pathsOf (of.take i)) (some ⟨w1.heap.size, 0, none⟩) 1 1 [p] 23 rfl (World.ownsRow.alloc ho1 _) (oneS_at w1 p) (by have := pathsOf_length (of.take i); rw [List.length_take] at this; omega) (by simp; omega)
        rw [hr2]
        obtain ⟨a2, c2, rfl⟩ := ho2.form
        have hm2 : SrchM w.heap.size 77 w w2 vp i (fun d => ∃ p ∈ pathsOf (of.take i), digsOf p = d) := (unhide HM1).up (((Below.refl _ _).alloc hsz1 _).trans hb2)
        have hc2 := hm2.cell0
        have hf2 := hm2.free 0
        have hm3 := hm2.paths (.slice a2 (pathsOf (of.take i) ++ [p]).length c2)
        have hc3 := hm3.cell1
        have HM3 := hide hm3
        have HO3 : Hid (OwnL (w2.setCell ⟨w.heap.size + 1, 0, none⟩ (.slice a2 (pathsOf (of.take i) ++ [p]).length c2)) (w.heap.size + 2) (.slice a2 (pathsOf (of.take i) ++ [p]).length c2) (pathsOf (of.take i) ++ [p])) := ownsRow_setCell_below ho2 (by simp) _
        generalize (pathsOf (of.take i) ++ [p]).length = n2 at *
        clear hr2 hb2 hz2 hm2 hm3 ho1 ho2
        go_wp2_with fail
        clear hc2 hf2 hc0 hbl hc
        have hsz3 := (unhide HM3).size
        generalize w2.setCell ⟨w.heap.size + 1, 0, none⟩ (.slice a2 n2 c2) = w3 at *
        refine wp_region_noPanic ?_
        refine wp_region_held_drew (S := fun w' => w'.cell? ⟨w.heap.size + 1, 1, none⟩ = some (.map (some w.heap.size))) (by kernel_rfl) hc3 (fun hHeld => ?_)
        refine wpAnyH_take (i := 0) (v := .pointer (some ⟨w.heap.size + 1, 0, none⟩)) rfl (by kernel_rfl) (by kernel_rfl) (by kernel_rfl) (fun _ _ _ h => h) (Or.inl ⟨by rfl, ?_⟩) hHeld ?_
        · intro w' hS'; have hq := hS'; go_simp
        try simp only [Act.put, List.getElem_toArray, List.getElem_cons_zero, List.getElem_cons_succ, List.setIfInBounds_toArray, List.set_cons_zero, List.set_cons_succ]
        refine wpAnyH_take (i := 1) (v := .pointer (some ⟨w.heap.size + 1, 0, none⟩)) rfl (by kernel_rfl) (by kernel_rfl) (by kernel_rfl) (fun _ _ _ h => h) (Or.inl ⟨by rfl, ?_⟩) hHeld ?_
        · intro w' hS'; have hq := hS'; go_simp
        try simp only [Act.put, List.getElem_toArray, List.getElem_cons_zero, List.getElem_cons_succ, List.setIfInBounds_toArray, List.set_cons_zero, List.set_cons_succ]
        refine wpAnyH_take (i := 2) (v := .pointer (some ⟨w.heap.size + 1, 1, none⟩)) rfl (by kernel_rfl) (by kernel_rfl) (by kernel_rfl) (fun _ _ _ h => h) (Or.inl ⟨by rfl, ?_⟩) hHeld ?_
        · intro w' hS'; have hq := hS'; go_simp
        try simp only [Act.put, List.getElem_toArray, List.getElem_cons_zero, List.getElem_cons_succ, List.setIfInBounds_toArray, List.set_cons_zero, List.set_cons_succ]
        refine wpAnyH_take (i := 3) (v := .map (some w.heap.size)) rfl (by kernel_rfl) (by kernel_rfl) (by kernel_rfl) (fun _ _ _ h => h) (Or.inl ⟨by rfl, ?_⟩) hHeld ?_
        · intro w' hS'; have hq := hS'; go_simp
        try simp only [Act.put, List.getElem_toArray, List.getElem_cons_zero, List.getElem_cons_succ, List.setIfInBounds_toArray, List.set_cons_zero, List.set_cons_succ]
        refine wpAnyH_take (i := 4) (v := .string (strOf D)) rfl (by kernel_rfl) (by kernel_rfl) (by kernel_rfl) (fun _ _ _ h => h) (Or.inl ⟨by rfl, ?_⟩) hHeld ?_
        · intro w' hS'; have hq := hS'; go_simp
        try simp only [Act.put, List.getElem_toArray, List.getElem_cons_zero, List.getElem_cons_succ, List.setIfInBounds_toArray, List.set_cons_zero, List.set_cons_succ]
        refine wpAnyH_take (i := 8) (v := .agg #[]) rfl (by kernel_rfl) (by kernel_rfl) (by kernel_rfl) (fun _ _ _ h => h) (Or.inl ⟨by rfl, ?_⟩) hHeld ?_
        · intro w' hS'; have hq := hS'; go_simp
        try simp only [Act.put, List.getElem_toArray, List.getElem_cons_zero, List.getElem_cons_succ, List.setIfInBounds_toArray, List.set_cons_zero, List.set_cons_succ]
        refine wpAnyH_ready (rs := [5]) (by kernel_rfl) (by simp) (AllReadyH.cons rfl (fun K hK => ?_) AllReadyH.nil)
        simp only [List.getElem_toArray, List.getElem_cons_zero, List.getElem_cons_succ]
        have hcv : (cvB (.string (strOf D))).run Try.prog w3.drew = _ := Lib.run_convert_string_bytes w3.drew 9 22 5 (strOf D) Try.underlying9 Try.underlying22 Try.underlying5
        have hDs : (strOf D).size = 32 := by rw [strOf_size, (unhide HL32).1]
        rw [hDs] at hcv
        have hrng := conv_text w3.drew (strOf D) hDs
        rw [bytesOf_strOf D (unhide HL32).2] at hrng
        have hb4 : Below (w.heap.size + 2) w3 (Lib.bytesWorld w3.drew 5 (strOf D)) := ((Below.refl _ _).drew.trans (below_conv w3.drew (strOf D))).mono hsz3
        have hg32 : 32 ≤ grownCap w3.drew 32 0 5 := grownCap_ge _ _ _ _
        have HM4 := hide ((unhide HM3).up hb4)
        have HO4 := hide (ownL_keep (unhide HO3) fun k _ hk => (below_conv w3.drew (strOf D)).block k hk)
        have hc4 := (unhide HM4).cell1
        generalize grownCap w3.drew 32 0 5 = G at *
        generalize Lib.bytesWorld w3.drew 5 (strOf D) = w4 at *
        go_simp
        refine hK.out _ _ hc4 (fun hHeld => ?_)
        clear hK K hcv
        try simp only [Act.put, List.getElem_toArray, List.getElem_cons_zero, List.getElem_cons_succ, List.setIfInBounds_toArray, List.set_cons_zero, List.set_cons_succ]
        refine wpAnyH_ready (rs := [6]) (by kernel_rfl) (by simp) (AllReadyH.cons rfl (fun K hK => ?_) AllReadyH.nil)
        simp only [List.getElem_toArray, List.getElem_cons_zero, List.getElem_cons_succ]
        have hat : (Instr.arrayAt 82 (.slice (some ⟨w3.heap.size, 0, none⟩) 32 G)).run Try.prog w4 = .ok (.pointer (some ⟨w3.heap.size, 0, none⟩)) w4 := by
          simp [Instr.arrayAt, Try.underlying82, go_sem]
        go_simp
        refine hK.out _ _ hc4 (fun hHeld => ?_)
        clear hK K hat
        try simp only [Act.put, List.getElem_toArray, List.getElem_cons_zero, List.getElem_cons_succ, List.setIfInBounds_toArray, List.set_cons_zero, List.set_cons_succ]
        refine wpAnyH_ready (rs := [7]) (by kernel_rfl) (by simp) (AllReadyH.cons rfl (fun K hK => ?_) AllReadyH.nil)
        simp only [List.getElem_toArray, List.getElem_cons_zero, List.getElem_cons_succ]
        rw [if_pos (by rfl)]
        refine wp_load_mid 82 (.tmp 42) rfl w3.heap.size 0 rfl (E8 D).toList _ hrng Try.underlying82 rfl (by rw [show (E8 D).toList.length = 32 by rw [Array.length_toList]; simp [(unhide HL32).1]]; kernel_rfl) ?_
        rw [Array.toArray_toList]
        refine hK.out _ _ hc4 (fun hHeld => ?_)
        clear hK K
        try simp only [Act.put, List.getElem_toArray, List.getElem_cons_zero, List.getElem_cons_succ, List.setIfInBounds_toArray, List.set_cons_zero, List.set_cons_succ]
        refine wpAnyH_ready (rs := [9]) (by kernel_rfl) (by simp) (AllReadyH.cons rfl (fun K hK => ?_) AllReadyH.nil)
        simp only [List.getElem_toArray, List.getElem_cons_zero, List.getElem_cons_succ]
        obtain ⟨w5, hup, hset5, htn5⟩ := (unhide HM4).set.store Try.underlying75 (by simp only [maxLen]; omega) (unhide HL32).1 (unhide HL32).2
        go_simp
        have hm5 := (unhide HM4).store hset5 htn5
        have hc5 := hm5.cell1
        have HN1 : Hid (SfI w w5 of (i + 1) (.slice a2 n2 c2)) := by
          have e := unhide HS
          refine ⟨⟨hm5.below, hm5.size, hm5.cells, ?_⟩, ?_⟩
          · rw [e, pathsOf_snoc _ _ (unhide HP)]
            refine hm5.set.congr fun d => ?_
            have hd := unhide HD
            constructor
            · rintro (⟨q, hq, h⟩ | h)
              · exact ⟨q, by simp [hq], h⟩
              · exact ⟨p, by simp, by rw [hd, h]⟩
            · rintro ⟨q, hq, h⟩
              rcases List.mem_append.1 hq with h1 | h1
              · exact .inl ⟨q, h1, h⟩
              · rw [List.mem_singleton.1 h1, hd] at h
                exact .inr h.symm
          · rw [e, pathsOf_snoc _ _ (unhide HP)]
            exact ownL_turned (unhide HO4) (by omega) htn5
        refine hK.out _ _ hc5 (fun hHeld => ?_)
        clear hK K hup hset5 htn5 hm5
        try simp only [Act.put, List.getElem_toArray, List.getElem_cons_zero, List.getElem_cons_succ, List.setIfInBounds_toArray, List.set_cons_zero, List.set_cons_succ]
        refine wpAnyH_done (by kernel_rfl) ?_ _
        refine NoPanic.normal ?_
        clear hHeld
        go_wp2_with fail
        exact ⟨⟨i + 1, _, by omega, rfl, HN1⟩, by simp [intOf]; omega⟩
      · simp only [splitV, Bool.false_eq_true, if_false] at he
        subst he
        have HN1 : Hid (SfI w w1 of (i + 1) vp) := by
          have hm := (unhide HI).m.up (hbl.mono (unhide HI).m.size)
          have e := unhide HS
          refine ⟨⟨hm.below, hm.size, hm.cells, ?_⟩, ?_⟩
          · rw [e, pathsOf_skip _ _ hp]
            obtain ⟨D, ho, hS⟩ := hm.set
            exact ⟨D, ho.mono (by omega), hS⟩
          · rw [e, pathsOf_skip _ _ hp]
            exact ownL_keep (unhide HI).own fun k _ hk => hbl.block k hk
        clear hp HSP
        go_wp2_with fail
        exact ⟨⟨i + 1, vp, by omega, rfl, HN1⟩, by simp [intOf]; omega⟩
    · obtain rfl : i = n := by omega
      obtain ⟨a2, c2, rfl⟩ := (unhide HI).own.form
      have hc0 := (unhide HI).m.cell0
      have hss := sortS_any (w.heap.size + 2) (.slice a2 (pathsOf (of.take i)).length c2) (pathsOf (of.take i)) wr (unhide HI).own.toS (unhide HI).m.size (by have := pathsOf_length (of.take i); rw [List.length_take] at this; omega)
      have HSS := hide hss
      clear hss
      go_wp2_with fail
      refine (unhide HSS).mono ?_
      rintro e w1 ⟨rfl, ho1, hb1⟩
      have hm1 := (unhide HI).m.up hb1
      have hc1 := hm1.cell0
      have hss := compactS_own (w.heap.size + 2) (.slice a2 (pathsOf (of.take i)).length c2) _ w1 ho1 (by rw [List.length_mergeSort]; have := pathsOf_length (of.take i); rw [List.length_take] at this; omega)
      have HSS := hide hss
      have HM1 := hide hm1
      clear hss ho1 hb1 hm1 hc0
      go_wp2_with fail
      refine (unhide HSS).mono ?_
      rintro e w2 ⟨a3, c3, rfl, hge, hst, hb2⟩
      have hm2 := (unhide HM1).up hb2
      have hc2 := hm2.cell0
      have hf2 := hm2.free 0
      have e3 : Lib.compact ((pathsOf (of.take i)).mergeSort fun x y => decide (x ≤ y)) = Ord.uniq (pathsOf of) := by
        have := unhide HN
        rw [List.take_of_length_le (by omega)]; rfl
      rw [e3] at hst ⊢
      have HE : Hid (∃ vp, SrchM w.heap.size 77 w (w2.setCell ⟨w.heap.size + 1, 0, none⟩ (.slice a3 (Ord.uniq (pathsOf of)).length c3)) vp i (fun d => ∃ p ∈ pathsOf of, digsOf p = d) ∧ StrsAt (w2.setCell ⟨w.heap.size + 1, 0, none⟩ (.slice a3 (Ord.uniq (pathsOf of)).length c3)) vp (Ord.uniq (pathsOf of))) := by
        refine ⟨_, ?_, strs_setCell hst hge _ (by simp) _⟩
        have := hm2.paths (.slice a3 (Ord.uniq (pathsOf of)).length c3)
        rw [List.take_of_length_le (by have := unhide HN; omega)] at this
        exact this
      generalize (Ord.uniq (pathsOf of)).length = n3 at *
      generalize (pathsOf (of.take i)).length = n4 at *
      clear hst hm2 hb2 e3 HSS
      go_wp2_with fail
      go_ret
      exact ⟨rfl, unhide HE⟩
end Go.Proofs.Ytlbfcneboaihnaa
