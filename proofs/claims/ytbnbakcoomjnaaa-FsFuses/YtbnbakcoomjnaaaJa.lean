/- move, and the things that Rename and Remove do, to any table. -/
import Derived.Test.YtbnbakcoomjnaaaGf
namespace Go.Proofs.Ytbnbakcoomjnaaa
open Go.RowKit Go.Maps
set_option linter.unusedSimpArgs false
set_option maxRecDepth 20000 in
set_option maxHeartbeats 1000000 in
theorem do_drop_any (f o pn : Nat) (K : Nat → Option (List UInt8)) (m : Option Nat) (n k : Nat) (T : Tb) (F : Nat → Prop) (b : Nat → Nat) (h : Nat → Value) (s : ByteArray) (w : World) (hc : w.cell? ⟨f, o, none⟩ = some (.map m)) (hu : w.cell? ⟨f, o + 1, none⟩ = some (.int .i64 T.u)) (hfz : ∀ j, w.frozen? ⟨f, j, none⟩ = false)
    (hT : TabM w K m n T F b h) (hok : T.Ok k) (hk : k < 100000) (hs : s.size ≤ maxLen) (hbf : ∀ i, F i → b i ≠ f) (h1 : w.cell? ⟨pn, 0, none⟩ = some (.string s)) :
    Calls Try.prog 67 #[.pointer (some ⟨f, o, none⟩), .pointer (some ⟨pn, 0, none⟩)] w fun e w' => e = .returned (.tuple #[]) ∧ TabM w' K m n (T.drop s) F b h ∧ Kept f o m F b (T.drop s).u w w' := by
  have HW := hide (drop_any f o K m n k T F b h s w hc hu (hfz (o + 1)) hT hok (by omega) hs hbf)
  clear hT hfz hok hbf
  go_enter Try.func67, Try.ntmps67
  go_wp2_with fail
  refine (unhide HW).mono ?_
  rintro e w2 ⟨rfl, hM, hF, hB⟩
  have HE : Hid (TabM w2 K m n (T.drop s) F b h ∧ Kept f o m F b (T.drop s).u w w2) := ⟨hM, hF, hB⟩
  clear hM hF hB
  go_wp2_with fail
  go_end0
  exact ⟨rfl, unhide HE⟩
/-- What is left where a thing may lay a name. -/
structure Moved (f o : Nat) (m m' : Option Nat) (F : Nat → Prop) (b : Nat → Nat) (u : Int) (w w' : World) : Prop where
  fr : TFr f m F b w w'
  new : m' = m ∨ ∃ mb, m' = some mb ∧ w.heap.size ≤ mb
  blk : w'.heap[f]? = ((w.setCell ⟨f, o + 1, none⟩ (.int .i64 u)).setCell ⟨f, o, none⟩ (.map m')).heap[f]?
set_option maxRecDepth 20000 in
set_option maxHeartbeats 1000000 in
theorem move_any (f o : Nat) (K : Nat → Option (List UInt8)) (m : Option Nat) (n k : Nat) (T : Tb) (F : Nat → Prop) (b : Nat → Nat) (h : Nat → Value) (old s : ByteArray) (i : Nat) (w : World) (hc : w.cell? ⟨f, o, none⟩ = some (.map m)) (hu : w.cell? ⟨f, o + 1, none⟩ = some (.int .i64 T.u)) (hfz : ∀ j, w.frozen? ⟨f, j, none⟩ = false)
    (hT : TabM w K m n T F b h) (hok : T.Ok k) (hk : k + 2 < 100000) (hs : s.size ≤ maxLen) (hso : old.size ≤ maxLen) (hn : n < maxLen) (hbf : ∀ i, F i → b i ≠ f) (hN : T.N old = some i) :
    Calls Try.prog 65 #[.pointer (some ⟨f, o, none⟩), .string old, .string s] w fun e w' => e = .returned (.tuple #[]) ∧ ∃ m', TabM w' K m' (n + 1) (T.move old s) F b h ∧ Moved f o m m' F b (T.move old s).u w w' := by
  have hmn : m ≠ none := by
    rintro rfl
    have := hT.tab old
    simp [hN] at this
  by_cases he : old = s
  · subst he
    have hm : T.move old old = T := by unfold Tb.move; rw [if_pos rfl]
    have HE : Hid (∃ m', TabM w K m' (n + 1) (T.move old old) F b h ∧ Moved f o m m' F b (T.move old old).u w w) := by
      rw [hm]
      refine ⟨m, hT.mono (by omega) (fun e => absurd e hmn), TFr.refl _ _ _ _ _, .inl rfl, ?_⟩
      rw [set_self (v := .map m) (o := o)]
      · rw [set_self hu]
      · rw [World.cell?_setCell_other _ ⟨f, o + 1, none⟩ ⟨f, o, none⟩ _ (by simp)]; exact hc
    clear hT hok hbf hN hm
    go_enter Try.func65, Try.ntmps65
    go_wp2_with fail
    refine bodyPost_ret (results_none rfl _ _ _) rfl ⟨rfl, unhide HE⟩
  · have hm : T.move old s = (T.lay s i).drop old := by unfold Tb.move; rw [if_neg he, hN]
    have hi := hT.live old i hN
    have hl := tab_look hT.tab hso
    simp only [hN, Option.map_some] at hl
    unfold ptr at hl
    have HL := hide (lay_any f o K m n k T F b h s i w hc hu hfz hT hok (by omega) hs hn hbf hi)
    have hfl : f < w.heap.size := cellLt hc
    have HX : Hid (∀ w1 mb, TabM w1 K (some mb) (n + 1) (T.lay s i) F b h → TFr f m F b w w1 → (m = some mb ∨ (m = none ∧ w.heap.size ≤ mb)) → w1.heap[f]? = ((w.setCell ⟨f, o + 1, none⟩ (.int .i64 (T.lay s i).u)).setCell ⟨f, o, none⟩ (.map (some mb))).heap[f]? →
        Calls Try.prog 68 #[.pointer (some ⟨f, o, none⟩), .string old] w1 fun e w' => e = .returned (.tuple #[]) ∧ ∃ m', TabM w' K m' (n + 1) (T.move old s) F b h ∧ Moved f o m m' F b (T.move old s).u w w') := by
      intro w1 mb hM hF hmb hB
      have hc1 : w1.cell? ⟨f, o, none⟩ = some (.map (some mb)) := by
        rw [World.cell?_of_block (w := (w.setCell ⟨f, o + 1, none⟩ (.int .i64 (T.lay s i).u)).setCell ⟨f, o, none⟩ (.map (some mb))) (a := ⟨f, o, none⟩) hB]
        exact World.cell?_setCell_same _ ⟨f, o, none⟩ _ (by rw [World.cell?_setCell_other _ ⟨f, o + 1, none⟩ ⟨f, o, none⟩ _ (by simp)]; exact hc)
      have hu1 : w1.cell? ⟨f, o + 1, none⟩ = some (.int .i64 (T.lay s i).u) := by
        rw [World.cell?_of_block (w := (w.setCell ⟨f, o + 1, none⟩ (.int .i64 (T.lay s i).u)).setCell ⟨f, o, none⟩ (.map (some mb))) (a := ⟨f, o + 1, none⟩) hB, World.cell?_setCell_other _ ⟨f, o, none⟩ ⟨f, o + 1, none⟩ _ (by simp)]
        exact World.cell?_setCell_same _ ⟨f, o + 1, none⟩ _ hu
      have hz1 : w1.frozen? ⟨f, o + 1, none⟩ = false := by
        rw [World.frozen?_of_block (w := (w.setCell ⟨f, o + 1, none⟩ (.int .i64 (T.lay s i).u)).setCell ⟨f, o, none⟩ (.map (some mb))) (a := ⟨f, o + 1, none⟩) hB, World.frozen?_setCell, World.frozen?_setCell]
        exact hfz (o + 1)
      refine (drop_any f o K (some mb) (n + 1) (k + 2) (T.lay s i) F b h old w1 hc1 hu1 hz1 hM (hok.lay s i) (by omega) hso hbf).mono ?_
      rintro e w' ⟨rfl, hM2, hF2, hB2⟩
      rw [hm]
      refine ⟨rfl, some mb, hM2, hF.trans hF2 (fun q e => ?_) (fun j hj => .inl ⟨hj, rfl⟩), ?_, ?_⟩
      · cases e
        rcases hmb with e | ⟨_, e⟩
        · exact .inl e
        · exact .inr e
      · rcases hmb with e | ⟨_, e⟩
        · exact .inl e.symm
        · exact .inr ⟨mb, rfl, e⟩
      · rw [hB2]
        simp only [World.setCell, Array.getElem?_modify, if_true] at hB ⊢
        rw [hB]
        cases w.heap[f]? with
        | none => rfl
        | some x => cases x <;> simp [Array.setIfInBounds_comm]
    have hne2 : (old.toList == s.toList) = false := by
      rw [beq_eq_false_iff_ne]
      intro e
      rw [ByteArray.toList_eq, ByteArray.toList_eq] at e
      apply he
      cases old; cases s
      simp at e
      rw [e]
    clear hT hok hbf hN hm
    go_enter Try.func65, Try.ntmps65
    go_wp2_with fail
    refine (unhide HL).mono ?_
    rintro e w1 ⟨rfl, mb, hM, hF, hmb, hB⟩
    have HD := hide (unhide HX w1 mb hM hF hmb hB)
    clear hM hF hmb hB
    go_wp2_with fail
    refine (unhide HD).mono ?_
    rintro e w2 ⟨rfl, hE⟩
    have HE := hide hE
    clear hE
    go_wp2_with fail
    go_end0
    exact ⟨rfl, unhide HE⟩
set_option maxRecDepth 20000 in
set_option maxHeartbeats 1000000 in
theorem do_move_any (f o po pn : Nat) (K : Nat → Option (List UInt8)) (m : Option Nat) (n k : Nat) (T : Tb) (F : Nat → Prop) (b : Nat → Nat) (h : Nat → Value) (old s : ByteArray) (i : Nat) (w : World) (hc : w.cell? ⟨f, o, none⟩ = some (.map m)) (hu : w.cell? ⟨f, o + 1, none⟩ = some (.int .i64 T.u)) (hfz : ∀ j, w.frozen? ⟨f, j, none⟩ = false)
    (hT : TabM w K m n T F b h) (hok : T.Ok k) (hk : k + 2 < 100000) (hs : s.size ≤ maxLen) (hso : old.size ≤ maxLen) (hn : n < maxLen) (hbf : ∀ i, F i → b i ≠ f) (hN : T.N old = some i) (h1 : w.cell? ⟨po, 0, none⟩ = some (.string old)) (h2 : w.cell? ⟨pn, 0, none⟩ = some (.string s)) :
    Calls Try.prog 64 #[.pointer (some ⟨f, o, none⟩), .pointer (some ⟨po, 0, none⟩), .pointer (some ⟨pn, 0, none⟩)] w fun e w' => e = .returned (.tuple #[]) ∧ ∃ m', TabM w' K m' (n + 1) (T.move old s) F b h ∧ Moved f o m m' F b (T.move old s).u w w' := by
  have HW := hide (move_any f o K m n k T F b h old s i w hc hu hfz hT hok hk hs hso hn hbf hN)
  clear hT hfz hok hbf hN
  go_enter Try.func64, Try.ntmps64
  go_wp2_with fail
  refine (unhide HW).mono ?_
  rintro e w2 ⟨rfl, hE⟩
  have HE := hide hE
  clear hE
  go_wp2_with fail
  go_end0
  exact ⟨rfl, unhide HE⟩
end Go.Proofs.Ytbnbakcoomjnaaa
