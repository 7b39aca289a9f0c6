/- fill, move, and the things that Append, Link, Rename and Remove do, to any table. -/
import Derived.Test.YtbnbakcoomjnaaaGw
namespace Go.Proofs.Ytbnbakcoomjnaaa
open Go.RowKit Go.Maps
set_option linter.unusedSimpArgs false
/-- What is left where a thing lays no name. -/
structure Kept (f o : Nat) (m : Option Nat) (F : Nat → Prop) (b : Nat → Nat) (u : Int) (w w' : World) : Prop where
  fr : TFr f m F b w w'
  blk : w'.heap[f]? = (w.setCell ⟨f, o + 1, none⟩ (.int .i64 u)).heap[f]?
theorem TabM.putFile {w : World} {K : Nat → Option (List UInt8)} {m : Option Nat} {n : Nat} {T : Tb} {F : Nat → Prop} {b : Nat → Nat} {h : Nat → Value} (hT : TabM w K m n T F b h) {i : Nat} (hi : F i) {d : List UInt8} {v : Value} (hv : DataIs K v d) {w1 : World}
    (h1 : ∀ q, (m = some q ∨ ∃ j, F j ∧ j ≠ i ∧ q = b j) → w1.heap[q]? = w.heap[q]?) (h2 : w1.heap[b i]? = some (.cells #[v, .int .i32 (T.c i)] 94 (0, 0))) :
    TabM w1 K m n (T.put i d) F b (updN h i v) := by
  refine ⟨hT.tab.same fun q e => h1 q (.inl e), hT.nil, hT.live, fun j hj => ?_, hT.inj, fun j hj => ?_⟩
  · show w1.heap[b j]? = some (Obj.cells #[updN h i v j, .int .i32 (T.c j)] 94 (0, 0))
    by_cases e : j = i
    · subst e; rw [updN_same, h2]
    · rw [updN_ne _ _ e, h1 _ (.inr ⟨j, hj, e, rfl⟩), hT.file j hj]
  · show DataIs K (updN h i v j) (updN T.D i d j)
    by_cases e : j = i
    · subst e; rw [updN_same, updN_same]; exact hv
    · rw [updN_ne _ _ e, updN_ne _ _ e]; exact hT.data j hj
set_option maxRecDepth 20000 in
set_option maxHeartbeats 1000000 in
theorem fill_tab (f o : Nat) (K : Nat → Option (List UInt8)) (m : Option Nat) (n k : Nat) (T : Tb) (F : Nat → Prop) (b : Nat → Nat) (h : Nat → Value) (s : ByteArray) (d : List UInt8) (v : Value) (i : Nat) (w : World) (hc : w.cell? ⟨f, o, none⟩ = some (.map m)) (hu : w.cell? ⟨f, o + 1, none⟩ = some (.int .i64 T.u)) (hfz : ∀ j, w.frozen? ⟨f, j, none⟩ = false)
    (hT : TabM w K m n T F b h) (hok : T.Ok k) (hk : k < 100000) (hs : s.size ≤ maxLen) (hbf : ∀ i, F i → b i ≠ f) (hN : T.N s = some i) (hv : DataIs K v d) (hd : d.length ≤ 1048576) :
    Calls Try.prog 59 #[.pointer (some ⟨f, o, none⟩), .string s, v] w fun e w' => e = .returned (.tuple #[]) ∧ TabM w' K m n (T.put i d) F b (updN h i v) ∧ Kept f o m F b (T.put i d).u w w' := by
  have hi := hT.live s i hN
  obtain ⟨a, c, ev⟩ := hv.len
  obtain ⟨a0, c0, eh⟩ := (hT.data i hi).len
  have hfi := hT.file i hi
  have hg0 : w.cell? ⟨b i, 0, none⟩ = some (.slice a0 (T.D i).length c0) := by simp [World.cell?, hfi, eh]
  have hgz : w.frozen? ⟨b i, 0, none⟩ = false := by simp [World.frozen?, hfi]
  have hl := tab_look hT.tab hs
  simp only [hN, Option.map_some] at hl
  unfold ptr at hl
  have hub := hok.ub
  have hdl := hok.dl i
  have r1 := hfz (o + 1)
  have hmf : m ≠ some f := fun e => by
    subst e
    obtain ⟨es, cl, hb⟩ := hT.tab.block
    simp [World.cell?, hb] at hc
  have HE : Hid (∀ w' : World, w'.heap = ((w.setCell ⟨f, o + 1, none⟩ (.int .i64 (T.u + ((d.length : Int) - ((T.D i).length : Int))))).setCell ⟨b i, 0, none⟩ v).heap → w'.os = w.os → w'.tape = w.tape → w'.output = w.output → TabM w' K m n (T.put i d) F b (updN h i v) ∧ Kept f o m F b (T.put i d).u w w') := by
    intro w' hw ho ht hp
    have hfb := hbf i hi
    refine ⟨hT.putFile hi hv (fun q hq => ?_) ?_, ⟨ho, ht, hp, by rw [hw, size_set, size_set]; exact Nat.le_refl _, fun q h1 h2 h3 h4 => ?_⟩, ?_⟩
    · rw [hw]
      rcases hq with e | ⟨j, hj, hne, e⟩
      · rw [set_other _ _ _ _ _ (fun e2 => hT.ne hi (by rw [e, e2])), set_other _ _ _ _ _ (fun e2 => hmf (by rw [e, e2]))]
      · rw [e, set_other _ _ _ _ _ (fun e2 => hne (hT.inj j i hj hi e2)), set_other _ _ _ _ _ (hbf j hj)]
    · rw [hw]
      exact set_file0 (y := .int .i32 (T.c i)) (x := h i) (by rw [set_other _ _ _ _ _ hfb]; exact hfi)
    · rw [hw, set_other _ _ _ _ _ (h4 i hi), set_other _ _ _ _ _ h2]
    · rw [hw, set_other _ _ _ _ _ (Ne.symm hfb)]; rfl
  have hw1 : IntKind.i64.wrap ((d.length : Int) - ((T.D i).length : Int)) = (d.length : Int) - ((T.D i).length : Int) := wrap64 (by omega)
  have hw2 : IntKind.i64.wrap (T.u + ((d.length : Int) - ((T.D i).length : Int))) = T.u + ((d.length : Int) - ((T.D i).length : Int)) := wrap64 (by omega)
  clear hT hok hbf hv hub hdl hfi eh hN hi
  subst ev
  generalize d.length = D at *
  generalize (T.D i).length = D0 at *
  go_enter Try.func59, Try.ntmps59
  go_wp2_with fail
  go_region
  all_goals go_wp2_with fail
  all_goals go_end0
  all_goals exact ⟨rfl, unhide HE _ rfl rfl rfl rfl⟩
set_option maxRecDepth 20000 in
set_option maxHeartbeats 1000000 in
theorem do_fill_any (f o pn pd : Nat) (K : Nat → Option (List UInt8)) (m : Option Nat) (n k : Nat) (T : Tb) (F : Nat → Prop) (b : Nat → Nat) (h : Nat → Value) (s : ByteArray) (d : List UInt8) (v : Value) (i : Nat) (w : World) (hc : w.cell? ⟨f, o, none⟩ = some (.map m)) (hu : w.cell? ⟨f, o + 1, none⟩ = some (.int .i64 T.u)) (hfz : ∀ j, w.frozen? ⟨f, j, none⟩ = false)
    (hT : TabM w K m n T F b h) (hok : T.Ok k) (hk : k < 100000) (hs : s.size ≤ maxLen) (hbf : ∀ i, F i → b i ≠ f) (hN : T.N s = some i) (hv : DataIs K v d) (hd : d.length ≤ 1048576) (h1 : w.cell? ⟨pn, 0, none⟩ = some (.string s)) (h2 : w.cell? ⟨pd, 0, none⟩ = some v) :
    Calls Try.prog 58 #[.pointer (some ⟨f, o, none⟩), .pointer (some ⟨pn, 0, none⟩), .pointer (some ⟨pd, 0, none⟩)] w fun e w' => e = .returned (.tuple #[]) ∧ TabM w' K m n (T.put i d) F b (updN h i v) ∧ Kept f o m F b (T.put i d).u w w' := by
  have HW := hide (fill_tab f o K m n k T F b h s d v i w hc hu hfz hT hok hk hs hbf hN hv hd)
  obtain ⟨a, c, ev⟩ := hv.len
  clear hT hfz hok hbf hv hN
  subst ev
  generalize d.length = D at *
  go_enter Try.func58, Try.ntmps58
  go_wp2_with fail
  refine (unhide HW).mono ?_
  rintro e w2 ⟨rfl, hE⟩
  have HE := hide hE
  clear hE
  go_wp2_with fail
  go_end0
  exact ⟨rfl, unhide HE⟩
theorem TFr.of_drew {f : Nat} {m : Option Nat} {F : Nat → Prop} {b : Nat → Nat} {w w' : World} (h : TFr f m F b w.drew w') : TFr f m F b w w' := ⟨h.os, h.tape, h.output, h.size, h.rest⟩
set_option maxRecDepth 20000 in
set_option maxHeartbeats 1000000 in
theorem do_lay_any (f o pn po : Nat) (K : Nat → Option (List UInt8)) (m : Option Nat) (n k : Nat) (T : Tb) (F : Nat → Prop) (b : Nat → Nat) (h : Nat → Value) (s old : ByteArray) (i : Nat) (w : World) (hc : w.cell? ⟨f, o, none⟩ = some (.map m)) (hu : w.cell? ⟨f, o + 1, none⟩ = some (.int .i64 T.u)) (hfz : ∀ j, w.frozen? ⟨f, j, none⟩ = false)
    (hT : TabM w K m n T F b h) (hok : T.Ok k) (hk : k < 100000) (hs : s.size ≤ maxLen) (hso : old.size ≤ maxLen) (hn : n < maxLen) (hbf : ∀ i, F i → b i ≠ f) (hN : T.N old = some i) (h1 : w.cell? ⟨pn, 0, none⟩ = some (.string s)) (h2 : w.cell? ⟨po, 0, none⟩ = some (.string old)) :
    Calls Try.prog 61 #[.pointer (some ⟨f, o, none⟩), .pointer (some ⟨pn, 0, none⟩), .pointer (some ⟨po, 0, none⟩)] w fun e w' => e = .returned (.tuple #[]) ∧ ∃ mb, TabM w' K (some mb) (n + 1) (T.lay s i) F b h ∧ Done f o m F b (T.lay s i).u mb w w' := by
  have hi := hT.live old i hN
  have hTd : TabM w.drew K m n T F b h := hT.kept (fun _ _ => rfl) (fun _ _ => rfl)
  have hl := tab_look hT.tab hso
  simp only [hN, Option.map_some] at hl
  unfold ptr at hl
  have hl' := tab_look hTd.tab hso
  simp only [hN, Option.map_some] at hl'
  unfold ptr at hl'
  have HL := hide (lay_any f o K m n k T F b h s i w.drew hc hu hfz hTd hok (by omega) hs hn hbf hi)
  have HE : Hid (∀ w' mb, TFr f m F b w.drew w' → (m = some mb ∨ (m = none ∧ w.drew.heap.size ≤ mb)) → w'.heap[f]? = ((w.drew.setCell ⟨f, o + 1, none⟩ (.int .i64 (T.lay s i).u)).setCell ⟨f, o, none⟩ (.map (some mb))).heap[f]? → Done f o m F b (T.lay s i).u mb w w') := fun w' mb a b c => ⟨a.of_drew, b, c⟩
  clear hT hTd hfz hok hbf hN
  go_enter Try.func61, Try.ntmps61
  go_wp2_with fail
  go_region_law (go_simp; refine (unhide HL).mono ?_; rintro e w2 ⟨rfl, mb, hM, hF, hm, hb⟩; simp only [])
  all_goals
    have HR := hide (And.intro hM (unhide HE w2 mb hF hm hb))
    clear hM hF hm hb
    go_wp2_with fail
    go_end0
    exact ⟨rfl, mb, unhide HR⟩
end Go.Proofs.Ytbnbakcoomjnaaa
