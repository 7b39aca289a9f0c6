/- A name that is laid over a file, in any table. -/
import Derived.Test.YtbnbakcoomjnaaaGd
namespace Go.Proofs.Ytbnbakcoomjnaaa
open Go.RowKit Go.Maps
set_option linter.unusedSimpArgs false
theorem store_set {V : World} {K : Nat → Option (List UInt8)} {mb n : Nat} {T : Tb} {F : Nat → Prop} {b : Nat → Nat} {h : Nat → Value} {s : ByteArray} {i : Nat} (hi : F i) (hs : s.size ≤ maxLen) (hn : n < maxLen)
    (ht : TabIs V (some mb) n (fun t => (T.N t).map b)) (hlive : ∀ s i, T.N s = some i → F i) (hinj : ∀ i j, F i → F j → b i = b j → i = j) (hdata : ∀ i, F i → DataIs K (h i) (T.D i))
    (hf : ∀ j, F j → V.heap[b j]? = some (.cells #[h j, .int .i32 (updN T.c i (T.c i + 1) j)] 94 (0, 0))) :
    ∃ w2, (Instr.mapUpdate 62 (.map (some mb)) (.string s) (.pointer (some ⟨b i, 0, none⟩))).run Try.prog V = .ok () w2 ∧ TabM w2 K (some mb) (n + 1) (T.set s i) F b h ∧ V.mapTurned w2 mb := by
  obtain ⟨w2, hr, hT2, ht2⟩ := tab_store ht hs hn (b i)
  refine ⟨w2, hr, ⟨?_, fun e => (by cases e), fun t j hj => ?_, fun j hj => ?_, hinj, hdata⟩, ht2⟩
  · show TabIs w2 (some mb) (n + 1) (fun t => (upd T.N s (some i) t).map b)
    rw [upd_map]
    exact hT2
  · have hj' : upd T.N s (some i) t = some j := hj
    unfold upd at hj'
    split at hj'
    · cases hj'; exact hi
    · exact hlive t j hj'
  · show _ = some (Obj.cells #[h j, .int .i32 (updN T.c i (T.c i + 1) j)] 94 (0, 0))
    rw [turned_block ht2 ((Array.getElem?_eq_some_iff.1 (hf j hj)).1) (fun e => ?_)]
    · exact hf j hj
    · obtain ⟨es, cl, hb⟩ := ht.block
      rw [← e, hf j hj] at hb
      cases hb
theorem cells_bump {w : World} {K : Nat → Option (List UInt8)} {m : Option Nat} {n : Nat} {T : Tb} {F : Nat → Prop} {b : Nat → Nat} {h : Nat → Value} (hT : TabM w K m n T F b h) {i : Nat} (hi : F i) :
    ∀ j, F j → (w.setCell ⟨b i, 1, none⟩ (.int .i32 (T.c i + 1))).heap[b j]? = some (.cells #[h j, .int .i32 (updN T.c i (T.c i + 1) j)] 94 (0, 0)) := fun j hj => by
  by_cases e : j = i
  · subst e
    rw [updN_same]
    exact set_file (hT.file j hj)
  · rw [updN_ne _ _ e, set_other _ _ _ _ _ (fun e2 => e (hT.inj j i hj hi e2)), hT.file j hj]
set_option maxRecDepth 20000 in
set_option maxHeartbeats 1000000 in
theorem lay_any (f o : Nat) (K : Nat → Option (List UInt8)) (m : Option Nat) (n k : Nat) (T : Tb) (F : Nat → Prop) (b : Nat → Nat) (h : Nat → Value) (s : ByteArray) (i : Nat) (w : World) (hc : w.cell? ⟨f, o, none⟩ = some (.map m)) (hu : w.cell? ⟨f, o + 1, none⟩ = some (.int .i64 T.u)) (hfz : ∀ j, w.frozen? ⟨f, j, none⟩ = false)
    (hT : TabM w K m n T F b h) (hok : T.Ok k) (hk : k ≤ 100000) (hs : s.size ≤ maxLen) (hn : n < maxLen) (hbf : ∀ i, F i → b i ≠ f) (hi : F i) :
    Calls Try.prog 62 #[.pointer (some ⟨f, o, none⟩), .string s, .pointer (some ⟨b i, 0, none⟩)] w fun e w' => e = .returned (.tuple #[]) ∧ ∃ mb, TabM w' K (some mb) (n + 1) (T.lay s i) F b h ∧ TFr f m F b w w' ∧ (m = some mb ∨ (m = none ∧ w.heap.size ≤ mb)) ∧ w'.heap[f]? = ((w.setCell ⟨f, o + 1, none⟩ (.int .i64 (T.lay s i).u)).setCell ⟨f, o, none⟩ (.map (some mb))).heap[f]? := by
  have HD := hide (drop_any f o K m n k T F b h s w hc hu (hfz (o + 1)) hT hok hk hs hbf)
  have hcb := (hok.drop s).cnt i
  have hq1 := eq_nil
  have hq2 := eq_some
  have hfl : f < w.heap.size := cellLt hc
  obtain ⟨ci, hci⟩ : ∃ ci, ci = (T.drop s).c i := ⟨_, rfl⟩
  have hlu : (T.lay s i).u = (T.drop s).u := rfl
  cases m with
  | some mb =>
    have HX : Hid (∀ w0, TabM w0 K (some mb) n (T.drop s) F b h → TFr f (some mb) F b w w0 → w0.heap[f]? = (w.setCell ⟨f, o + 1, none⟩ (.int .i64 (T.drop s).u)).heap[f]? →
        Calls Try.prog 88 #[.pointer (some ⟨b i, 1, none⟩), .int .i32 1] w0 (fun e w' => e = .returned (.int .i32 (ci + 1)) ∧ w' = w0.setCell ⟨b i, 1, none⟩ (.int .i32 (ci + 1))) ∧ (w0.setCell ⟨b i, 1, none⟩ (.int .i32 (ci + 1))).cell? ⟨f, o, none⟩ = some (.map (some mb)) ∧
        ∃ w2, (Instr.mapUpdate 62 (.map (some mb)) (.string s) (.pointer (some ⟨b i, 0, none⟩))).run Try.prog (w0.setCell ⟨b i, 1, none⟩ (.int .i32 (ci + 1))) = .ok () w2 ∧ Hid (∃ mb', TabM w2 K (some mb') (n + 1) (T.lay s i) F b h ∧ TFr f (some mb) F b w w2 ∧ (some mb = some mb' ∨ (some mb = none ∧ w.heap.size ≤ mb')) ∧ w2.heap[f]? = ((w.setCell ⟨f, o + 1, none⟩ (.int .i64 (T.lay s i).u)).setCell ⟨f, o, none⟩ (.map (some mb'))).heap[f]?)) := by
      intro w0 hM0 hF0 hB0
      have hg1 : w0.cell? ⟨b i, 1, none⟩ = some (.int .i32 ((T.drop s).c i)) := by simp [World.cell?, hM0.file i hi]
      have hgz : w0.frozen? ⟨b i, 1, none⟩ = false := by simp [World.frozen?, hM0.file i hi]
      have hmi := hM0.ne hi
      have hmf : mb ≠ f := fun e => by
        obtain ⟨es, cl, hb⟩ := hT.tab.block
        rw [e] at hb
        simp [World.cell?, hb] at hc
      rw [hci]
      obtain ⟨w2, hr2, hM2, ht2⟩ := store_set (V := w0.setCell ⟨b i, 1, none⟩ (.int .i32 ((T.drop s).c i + 1))) hi hs hn (hM0.tab.same fun q e => by cases e; exact set_other _ _ _ _ _ (fun e => hmi (by rw [e]))) hM0.live hM0.inj hM0.data (cells_bump hM0 hi)
      refine ⟨add32 ⟨b i, 1, none⟩ _ 1 _ w0 hg1 hgz (wrap32 (by omega) (by omega)), ?_, w2, hr2, mb, hM2, hF0.same ⟨?_, ?_, ?_, ?_, fun q h1 h2 h3 h4 => ?_⟩, .inl rfl, ?_⟩
      · rw [World.cell?_setCell_other _ ⟨b i, 1, none⟩ ⟨f, o, none⟩ _ (by simp [hbf i hi]), World.cell?_of_block (w := w.setCell ⟨f, o + 1, none⟩ (.int .i64 (T.drop s).u)) (a := ⟨f, o, none⟩) hB0, World.cell?_setCell_other _ ⟨f, o + 1, none⟩ ⟨f, o, none⟩ _ (by simp)]
        exact hc
      · exact ht2.grown.os
      · exact ht2.grown.tape
      · exact ht2.grown.output
      · have := ht2.grown.size; rw [size_set] at this; exact this
      · rw [turned_block ht2 (by rw [size_set]; exact h1) (fun e => h3 (by rw [e])), set_other _ _ _ _ _ (h4 i hi)]
      · rw [turned_block ht2 (by rw [size_set]; have := hF0.size; omega) (Ne.symm hmf), set_other _ _ _ _ _ (Ne.symm (hbf i hi)), hB0, hlu]
        rw [set_self (v := .map (some mb)) (o := o)]
        rw [World.cell?_setCell_other _ ⟨f, o + 1, none⟩ ⟨f, o, none⟩ _ (by simp)]
        exact hc
    clear hT hok hbf hlu hci hcb
    go_enter Try.func62, Try.ntmps62
    go_wp2_with fail
    refine (unhide HD).mono ?_
    rintro e w0 ⟨rfl, hM0, hF0, hB0⟩
    obtain ⟨HA, hcx, w2, hr2, HE⟩ := unhide HX w0 hM0 hF0 hB0
    have HA := hide HA
    clear hM0 hF0 hB0
    go_wp2_with fail
    refine (unhide HA).mono ?_
    rintro e w0' ⟨rfl, rfl⟩
    go_wp2_with fail
    go_end0
    exact ⟨rfl, unhide HE⟩
  | none =>
    obtain rfl : n = 0 := hT.nil rfl
    have HX : Hid (∀ w0, TabM w0 K none 0 (T.drop s) F b h → TFr f none F b w w0 → w0.heap[f]? = (w.setCell ⟨f, o + 1, none⟩ (.int .i64 (T.drop s).u)).heap[f]? →
        Calls Try.prog 88 #[.pointer (some ⟨b i, 1, none⟩), .int .i32 1] w0 (fun e w' => e = .returned (.int .i32 (ci + 1)) ∧ w' = w0.setCell ⟨b i, 1, none⟩ (.int .i32 (ci + 1))) ∧ (w0.setCell ⟨b i, 1, none⟩ (.int .i32 (ci + 1))).cell? ⟨f, o, none⟩ = some (.map none) ∧ (w0.setCell ⟨b i, 1, none⟩ (.int .i32 (ci + 1))).frozen? ⟨f, o, none⟩ = false ∧ f < w0.heap.size ∧
        ∃ w2, (Instr.mapUpdate 62 (.map (some w0.heap.size)) (.string s) (.pointer (some ⟨b i, 0, none⟩))).run Try.prog (((w0.setCell ⟨b i, 1, none⟩ (.int .i32 (ci + 1))).setCell ⟨f, o, none⟩ (.map (some w0.heap.size))).alloc (.map #[] 0)) = .ok () w2 ∧ Hid (∃ mb', TabM w2 K (some mb') (0 + 1) (T.lay s i) F b h ∧ TFr f none F b w w2 ∧ (none = some mb' ∨ ((none : Option Nat) = none ∧ w.heap.size ≤ mb')) ∧ w2.heap[f]? = ((w.setCell ⟨f, o + 1, none⟩ (.int .i64 (T.lay s i).u)).setCell ⟨f, o, none⟩ (.map (some mb'))).heap[f]?)) := by
      intro w0 hM0 hF0 hB0
      have hg1 : w0.cell? ⟨b i, 1, none⟩ = some (.int .i32 ((T.drop s).c i)) := by simp [World.cell?, hM0.file i hi]
      have hgz : w0.frozen? ⟨b i, 1, none⟩ = false := by simp [World.frozen?, hM0.file i hi]
      have hfl0 : f < w0.heap.size := Nat.lt_of_lt_of_le hfl hF0.size
      rw [hci]
      obtain ⟨V, hV⟩ : ∃ V, V = ((w0.setCell ⟨b i, 1, none⟩ (.int .i32 ((T.drop s).c i + 1))).setCell ⟨f, o, none⟩ (.map (some w0.heap.size))).alloc (.map #[] 0) := ⟨_, rfl⟩
      have hsV : V.heap.size = w0.heap.size + 1 := by rw [hV]; simp [World.setCell]
      have hVo : ∀ q, q < w0.heap.size → q ≠ f → V.heap[q]? = (w0.setCell ⟨b i, 1, none⟩ (.int .i32 ((T.drop s).c i + 1))).heap[q]? := fun q h1 h2 => by
        rw [hV, Below.heap_alloc _ _ _ (by simp [World.setCell]; exact h1), set_other _ _ _ _ _ h2]
      have hT2 : TabIs V (some w0.heap.size) 0 (fun t => ((T.drop s).N t).map b) := by
        have e : (fun t => ((T.drop s).N t).map b) = fun _ => none := funext fun t => hM0.tab t
        rw [e, hV]
        have hn0 := tab_new ((w0.setCell ⟨b i, 1, none⟩ (.int .i32 ((T.drop s).c i + 1))).setCell ⟨f, o, none⟩ (.map (some w0.heap.size)))
        rwa [show ((w0.setCell ⟨b i, 1, none⟩ (.int .i32 ((T.drop s).c i + 1))).setCell ⟨f, o, none⟩ (.map (some w0.heap.size))).heap.size = w0.heap.size from by simp [World.setCell]] at hn0
      obtain ⟨w2, hr2, hM2, ht2⟩ := store_set (V := V) hi hs hn hT2 hM0.live hM0.inj hM0.data (fun j hj => by
        rw [hVo (b j) ((Array.getElem?_eq_some_iff.1 (hM0.file j hj)).1) (hbf j hj)]
        exact cells_bump hM0 hi j hj)
      rw [← hV]
      refine ⟨add32 ⟨b i, 1, none⟩ _ 1 _ w0 hg1 hgz (wrap32 (by omega) (by omega)), ?_, ?_, hfl0, w2, hr2, w0.heap.size, hM2, hF0.same ⟨?_, ?_, ?_, ?_, fun q h1 h2 h3 h4 => ?_⟩, .inr ⟨rfl, hF0.size⟩, ?_⟩
      · rw [World.cell?_setCell_other _ ⟨b i, 1, none⟩ ⟨f, o, none⟩ _ (by simp [hbf i hi]), World.cell?_of_block (w := w.setCell ⟨f, o + 1, none⟩ (.int .i64 (T.drop s).u)) (a := ⟨f, o, none⟩) hB0, World.cell?_setCell_other _ ⟨f, o + 1, none⟩ ⟨f, o, none⟩ _ (by simp)]
        exact hc
      · rw [World.frozen?_setCell, World.frozen?_of_block (w := w.setCell ⟨f, o + 1, none⟩ (.int .i64 (T.drop s).u)) (a := ⟨f, o, none⟩) hB0, World.frozen?_setCell]
        exact hfz o
      · rw [ht2.grown.os, hV]; rfl
      · rw [ht2.grown.tape, hV]; rfl
      · rw [ht2.grown.output, hV]; rfl
      · have := ht2.grown.size; omega
      · rw [turned_block ht2 (by omega) (by omega), hVo q h1 h2, set_other _ _ _ _ _ (h4 i hi)]
      · rw [turned_block ht2 (by omega) (by omega), hV, Below.heap_alloc _ _ _ (by simp [World.setCell]; exact hfl0), hlu]
        simp only [World.setCell, Array.getElem?_modify]
        rw [if_neg (hbf i hi)]
        simp only [World.setCell, Array.getElem?_modify] at hB0
        rw [hB0]
    have hmk := fun w1 => run_makeMap (P := Try.prog) 62 w1
    clear hT hok hbf hlu hci hcb
    go_enter Try.func62, Try.ntmps62
    go_wp2_with fail
    refine (unhide HD).mono ?_
    rintro e w0 ⟨rfl, hM0, hF0, hB0⟩
    obtain ⟨HA, hcx, hzx, hf0, w2, hr2, HE⟩ := unhide HX w0 hM0 hF0 hB0
    have HA := hide HA
    clear hM0 hF0 hB0
    go_wp2_with fail
    refine (unhide HA).mono ?_
    rintro e w0' ⟨rfl, rfl⟩
    go_wp2_with fail
    go_end0
    exact ⟨rfl, unhide HE⟩
end Go.Proofs.Ytbnbakcoomjnaaa
