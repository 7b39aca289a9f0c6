/- A name that is dropped, and one that is laid, in any table. -/
import Derived.Test.YtbnbakcoomjnaaaGt
namespace Go.Proofs.Ytbnbakcoomjnaaa
open Go.RowKit Go.Maps
set_option linter.unusedSimpArgs false
theorem wrap64 {x : Int} (h : -9000000000000000 ≤ x ∧ x ≤ 9000000000000000) : IntKind.i64.wrap x = x := by rw [IntKind.wrap_i64]; omega
/-- The table's names and counts, one name less. -/
theorem drop_tab {w w1 : World} {K : Nat → Option (List UInt8)} {mb n : Nat} {T : Tb} {F : Nat → Prop} {b : Nat → Nat} {h : Nat → Value} {s : ByteArray} {i : Nat} (hT : TabM w K (some mb) n T F b h) (hN : T.N s = some i) (ht : w.mapTurned w1 mb) (h1 : TabIs w1 (some mb) n (upd (fun t => (T.N t).map b) s none)) :
    TabM (w1.setCell ⟨b i, 1, none⟩ (.int .i32 (T.c i + -1))) K (some mb) n (T.drop s) F b h := by
  have hi := hT.live s i hN
  have hd : T.drop s = ⟨upd T.N s none, T.D, updN T.c i (T.c i + -1), if T.c i + -1 = 0 then T.u - ((T.D i).length : Int) else T.u⟩ := by unfold Tb.drop; rw [hN]
  have hne := hT.ne hi
  have hblk : ∀ j, F j → w1.heap[b j]? = w.heap[b j]? := fun j hj => turned_block ht ((Array.getElem?_eq_some_iff.1 (hT.file j hj)).1) (fun e => hT.ne hj (by rw [e]))
  rw [hd]
  refine ⟨?_, fun e => (by cases e), fun t j hj => ?_, fun j hj => ?_, hT.inj, hT.data⟩
  · rw [upd_map]
    refine h1.same fun q e => ?_
    cases e
    exact set_other _ _ _ _ _ (fun e => hne (by rw [e]))
  · have hj' : upd T.N s none t = some j := hj
    unfold upd at hj'
    split at hj'
    · cases hj'
    · exact hT.live t j hj'
  · show _ = some (Obj.cells #[h j, .int .i32 (updN T.c i (T.c i + -1) j)] 94 (0, 0))
    by_cases e : j = i
    · subst e
      rw [updN_same]
      exact set_file ((hblk j hj).trans (hT.file j hj))
    · rw [updN_ne _ _ e, set_other _ _ _ _ _ (fun e2 => e (hT.inj j i hj hi e2)), hblk j hj, hT.file j hj]
set_option maxRecDepth 20000 in
set_option maxHeartbeats 1000000 in
theorem drop_any (f o : Nat) (K : Nat → Option (List UInt8)) (m : Option Nat) (n k : Nat) (T : Tb) (F : Nat → Prop) (b : Nat → Nat) (h : Nat → Value) (s : ByteArray) (w : World) (hc : w.cell? ⟨f, o, none⟩ = some (.map m)) (hu : w.cell? ⟨f, o + 1, none⟩ = some (.int .i64 T.u)) (hfz : w.frozen? ⟨f, o + 1, none⟩ = false)
    (hT : TabM w K m n T F b h) (hok : T.Ok k) (hk : k ≤ 100000) (hs : s.size ≤ maxLen) (hbf : ∀ i, F i → b i ≠ f) :
    Calls Try.prog 68 #[.pointer (some ⟨f, o, none⟩), .string s] w fun e w' => e = .returned (.tuple #[]) ∧ TabM w' K m n (T.drop s) F b h ∧ TFr f m F b w w' ∧ w'.heap[f]? = (w.setCell ⟨f, o + 1, none⟩ (.int .i64 (T.drop s).u)).heap[f]? := by
  cases hN : T.N s with
  | none =>
    have hd : T.drop s = T := by unfold Tb.drop; rw [hN]
    rw [hd]
    refine (drop_none f o m n _ s w hc hT.tab hs (by simp [hN])).mono ?_
    rintro e w' ⟨rfl, rfl⟩
    exact ⟨rfl, hT, TFr.refl _ _ _ _ _, (set_self hu).symm⟩
  | some i =>
    have hi := hT.live s i hN
    have hfi := hT.file i hi
    have hmn : ∃ mb, m = some mb := by
      cases m with
      | none => have := hT.tab s; simp [hN] at this
      | some mb => exact ⟨mb, rfl⟩
    obtain ⟨mb, rfl⟩ := hmn
    have hmf : mb ≠ f := fun e => by
      obtain ⟨es, cl, hb⟩ := hT.tab.block
      rw [e] at hb
      simp [World.cell?, hb] at hc
    have hl := tab_look hT.tab hs
    simp only [hN, Option.map_some] at hl
    unfold ptr at hl
    obtain ⟨w1, hr1, hT1, ht1⟩ := tab_drop hT.tab hs 0
    have hg1 : w.cell? ⟨b i, 1, none⟩ = some (.int .i32 (T.c i)) := by simp [World.cell?, hfi]
    have hg0 : w.cell? ⟨b i, 0, none⟩ = some (h i) := by simp [World.cell?, hfi]
    have hgz : w.frozen? ⟨b i, 1, none⟩ = false := by simp [World.frozen?, hfi]
    have hg1' := turned_cell ht1 hg1
    have hz1 : w1.frozen? ⟨b i, 1, none⟩ = false := by rw [ht1.frozen]; exact hgz
    have hcb := hok.cnt i
    have HA := hide (add32 ⟨b i, 1, none⟩ (T.c i) (-1) (T.c i + -1) w1 hg1' hz1 (wrap32 (by omega) (by omega)))
    have HM := hide (drop_tab hT hN ht1 hT1)
    have hgr := ht1.grown
    have HF : Hid (TFr f (some mb) F b w (w1.setCell ⟨b i, 1, none⟩ (.int .i32 (T.c i + -1)))) := by
      refine ⟨hgr.os, hgr.tape, hgr.output, by rw [size_set]; exact hgr.size, fun q h1 h2 h3 h4 => ?_⟩
      rw [set_other _ _ _ _ _ (h4 i hi), turned_block ht1 h1 (fun e => h3 (by rw [e]))]
    have hfl : f < w.heap.size := cellLt hc
    have hbf1 : w1.heap[f]? = w.heap[f]? := turned_block ht1 hfl (Ne.symm hmf)
    have hbf2 : (w1.setCell ⟨b i, 1, none⟩ (.int .i32 (T.c i + -1))).heap[f]? = w.heap[f]? := by rw [set_other _ _ _ _ _ (Ne.symm (hbf i hi)), hbf1]
    have hud : (T.drop s).u = if T.c i + -1 = 0 then T.u - ((T.D i).length : Int) else T.u := by unfold Tb.drop; rw [hN]
    by_cases h0 : T.c i + -1 = 0
    · rw [if_pos h0] at hud
      obtain ⟨a, c, eh, _⟩ := hT.data i hi
      have hdl := hok.dl i
      have hub := hok.ub
      obtain ⟨W, hW⟩ : ∃ W, W = w1.setCell ⟨b i, 1, none⟩ (.int .i32 (T.c i + -1)) := ⟨_, rfl⟩
      have e0 : W.cell? ⟨b i, 0, none⟩ = some (.slice a (T.D i).length c) := by rw [hW, World.cell?_setCell_other _ ⟨b i, 1, none⟩ ⟨b i, 0, none⟩ _ (by simp), turned_cell ht1 hg0, eh]
      have e1 : W.cell? ⟨f, o + 1, none⟩ = some (.int .i64 T.u) := by rw [World.cell?_of_block (w := w) (a := ⟨f, o + 1, none⟩) (by rw [hW]; exact hbf2)]; exact hu
      have e2 : W.frozen? ⟨f, o + 1, none⟩ = false := by rw [World.frozen?_of_block (w := w) (a := ⟨f, o + 1, none⟩) (by rw [hW]; exact hbf2)]; exact hfz
      have hwr : IntKind.i64.wrap (T.u - ((T.D i).length : Int)) = T.u - ((T.D i).length : Int) := wrap64 (by omega)
      have HE : Hid (∀ v : World, v.heap = (W.setCell ⟨f, o + 1, none⟩ (.int .i64 (T.u - ((T.D i).length : Int)))).heap → v.os = w.os → v.tape = w.tape → v.output = w.output → TabM v K (some mb) n (T.drop s) F b h ∧ TFr f (some mb) F b w v ∧ v.heap[f]? = (w.setCell ⟨f, o + 1, none⟩ (.int .i64 (T.drop s).u)).heap[f]?) := by
        intro v hv ho ht hp
        have hM := unhide HM
        have hFr := unhide HF
        rw [← hW] at hM hFr
        refine ⟨hM.kept (fun q e => ?_) (fun j hj => ?_), ⟨ho, ht, hp, by rw [hv, size_set]; exact hFr.size, fun q h1 h2 h3 h4 => ?_⟩, ?_⟩
        · cases e; rw [hv]; exact set_other _ _ _ _ _ hmf
        · rw [hv]; exact set_other _ _ _ _ _ (hbf j hj)
        · rw [hv, set_other _ _ _ _ _ h2]; exact hFr.rest q h1 h2 h3 h4
        · rw [hv, hud]
          simp only [World.setCell, Array.getElem?_modify]
          rw [hW, hbf2]
      have ho : W.os = w.os := by rw [hW]; exact hgr.os
      have htp : W.tape = w.tape := by rw [hW]; exact hgr.tape
      have hop : W.output = w.output := by rw [hW]; exact hgr.output
      have HO := hide (And.intro ho (And.intro htp hop))
      rw [← hW] at HA
      clear hT hT1 ht1 hgr HM HF hW hbf2 hbf1 hbf ho htp hop hud eh hg1 hg0 hg1' hdl hub hcb hok hfi hN hi
      generalize (T.D i).length = N at *
      go_enter Try.func68, Try.ntmps68
      go_wp2_with fail
      refine (unhide HA).mono ?_
      rintro e w2 ⟨rfl, rfl⟩
      go_wp2_with fail
      go_region
      all_goals go_wp2_with fail
      all_goals go_end0
      all_goals exact ⟨rfl, unhide HE _ rfl (unhide HO).1 (unhide HO).2.1 (unhide HO).2.2⟩
    · rw [if_neg h0] at hud
      have HE : Hid (TabM (w1.setCell ⟨b i, 1, none⟩ (.int .i32 (T.c i + -1))) K (some mb) n (T.drop s) F b h ∧ TFr f (some mb) F b w (w1.setCell ⟨b i, 1, none⟩ (.int .i32 (T.c i + -1))) ∧ (w1.setCell ⟨b i, 1, none⟩ (.int .i32 (T.c i + -1))).heap[f]? = (w.setCell ⟨f, o + 1, none⟩ (.int .i64 (T.drop s).u)).heap[f]?) :=
        ⟨unhide HM, unhide HF, by rw [hbf2, hud, set_self hu]⟩
      clear hT hT1 ht1 hgr HM HF hbf2 hbf1 hbf hud hg1 hg0 hg1' hcb hok hfi hN hi
      go_enter Try.func68, Try.ntmps68
      go_wp2_with fail
      refine (unhide HA).mono ?_
      rintro e w2 ⟨rfl, rfl⟩
      go_wp2_with fail
      go_end0
      exact ⟨rfl, unhide HE⟩
end Go.Proofs.Ytbnbakcoomjnaaa
