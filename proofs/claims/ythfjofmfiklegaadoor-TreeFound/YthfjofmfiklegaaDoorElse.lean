/- TreeElse, in the code. -/
import Derived.Test.YthfjofmfiklegaaDoorElseS
import Derived.Test.YthfjofmfiklegaaDoorRparts
import Derived.Test.YthfjofmfiklegaaDoorChecks
namespace Go.Proofs.YthfjofmfiklegaaDoor
open Go.RowKit
set_option linter.unusedSimpArgs false
attribute [local go_sem ↓] slice_sl23
def resT : Except Nat Tr → Tr | .error _ => zeroTr | .ok T => T
def resN : Except Nat Tr → Nat | .error n => n | .ok _ => 0
theorem putA_res {B : Nat} {r : Except Nat Tr} {e : Ending} {w' : World} (h : PutA B r e w') : ∃ k x a1 n1 c1 a2 n2 c2 a3 n3 c3, e = .returned (.tuple #[.agg #[.int .i64 k, .bool x, .slice a1 n1 c1, .slice a2 n2 c2, .slice a3 n3 c3], .int .i64 ((resN r : Nat) : Int)]) ∧ Lies B w'.heap.size w' (resT r) [.int .i64 k, .bool x, .slice a1 n1 c1, .slice a2 n2 c2, .slice a3 n3 c3] := by
  cases r with
  | error n =>
    have he : e = .returned (.tuple #[.agg zeroT.toArray, .int .i64 (n : Int)]) := h
    exact ⟨0, false, none, 0, 0, none, 0, 0, none, 0, 0, he, zero_lies _ _ _⟩
  | ok W =>
    obtain ⟨cs, he, hO⟩ : ∃ cs : List Value, e = .returned (.tuple #[.agg cs.toArray, .int .i64 0]) ∧ Own w' B w'.heap.size W cs := h
    have hL := hO.lies
    obtain ⟨k, x, a1, n1, c1, a2, n2, c2, a3, n3, c3, rfl⟩ := hL.form
    exact ⟨k, x, a1, n1, c1, a2, n2, c2, a3, n3, c3, he, hL⟩
theorem putS_ok {T X : Tr} {s : ByteArray} (h : resN (putS T s X) = 0) : ∃ W, putS T s X = .ok W := by
  cases hr : putS T s X with
  | ok W => exact ⟨W, rfl⟩
  | error n =>
    rw [hr] at h
    have hn : n = 0 := h
    subst hn
    unfold putS at hr
    split at hr
    · rename_i h1; injection hr with h2; exact absurd h2 h1
    split at hr
    · rename_i h1; injection hr with h2; exact absurd h2 h1
    split at hr
    · cases hr
    cases hl : laidS T (placeL s) X 1 with
    | error e => rw [hl] at hr; injection hr with h2; exact absurd h2 (laidS_err hl)
    | ok V =>
      rw [hl] at hr
      have h' : (if (chk V 1 0).1 ≠ 0 then Except.error (chk V 1 0).1 else .ok V) = (Except.error 0 : Except Nat Tr) := hr
      split at h'
      · rename_i h1; injection h' with h2; exact absurd h2 h1
      · cases h'
theorem putS_wt {T X W : Tr} {s : ByteArray} (h : putS T s X = .ok W) : wt W ≤ wt T + wt X + 768 := by
  unfold putS at h
  split at h
  · cases h
  split at h
  · cases h
  split at h
  · cases h
  rename_i h1 h2 h3
  cases hl : laidS T (placeL s) X 1 with
  | error e => rw [hl] at h; cases h
  | ok V =>
    rw [hl] at h
    have h' : (if (chk V 1 0).1 ≠ 0 then Except.error (chk V 1 0).1 else .ok V) = Except.ok W := h
    split at h'
    · cases h'
    · have hVW : V = W := Except.ok.inj h'
      subst hVW
      have := laid_wt _ hl (isPl_ent (by simpa using h3)) (chk_nice T (Classical.byContradiction h1))
      omega
theorem atE_wt {T : Tr} {s : ByteArray} (hW : wt T ≤ 100000) : wt (resT (atE T s)) ≤ 100000 := by
  unfold atE
  split
  · show wt zeroTr ≤ _; rw [wt_zero]; omega
  split
  · show wt zeroTr ≤ _; rw [wt_zero]; omega
  rename_i h1 h2
  cases hl : atS T (placeL s) with
  | none => show wt zeroTr ≤ _; rw [wt_zero]; omega
  | some V => exact (atS_nice _ hl (chk_nice T (Classical.byContradiction h1)) hW).2
theorem splitL_len (l : List UInt8) : (splitL l).length ≤ l.length + 1 := by
  induction l with
  | nil => simp [splitL]
  | cons c r ih =>
    rw [splitL]
    split
    · simp; omega
    · split
      · simp
      · rename_i h; rw [h] at ih; simp at ih ⊢; omega
theorem placeL_len (s : ByteArray) : (placeL s).length ≤ s.size + 1 := by
  unfold placeL
  split
  · simp
  · unfold partsB
    rw [List.length_map]
    have := splitL_len s.data.toList
    simpa using this
structure BoxTU (w W : World) (t0 t1 t2 t3 t4 x0 x1 x2 x3 x4 : Value) : Prop where
  b : Below w.heap.size w W
  s : w.heap.size + 1 + 1 + 1 ≤ W.heap.size
  t : Bx W w.heap.size t0 t1 t2 t3 t4
  x : Bx W (w.heap.size + 1) x0 x1 x2 x3 x4
theorem BoxTU.kept {w W W' : World} {t0 t1 t2 t3 t4 x0 x1 x2 x3 x4 : Value} (h : BoxTU w W t0 t1 t2 t3 t4 x0 x1 x2 x3 x4) {B : Nat} (hb : Below B W W') (hB : w.heap.size + 1 + 1 ≤ B) : BoxTU w W' t0 t1 t2 t3 t4 x0 x1 x2 x3 x4 :=
  ⟨h.b.trans (hb.mono (by omega)), by have := h.s; have := hb.size; omega, h.t.kept hb (by omega), h.x.kept hb (by omega)⟩
theorem heavy2 (T U : Tr) (lo hi g : Nat) (t0 t1 t2 t3 t4 u0 u1 u2 u3 u4 : Value) (w : World) (hT : Lies lo hi w T [t0, t1, t2, t3, t4]) (hU : Lies lo hi w U [u0, u1, u2, u3, u4]) (hhi : hi ≤ w.heap.size) (hF : Fit T) (hG : Fit U) (hg : w.heap[g]? = some (.cells #[t0, t1, t2, t3, t4, u0, u1, u2, u3, u4] 26)) :
    Calls Tryd.prog 9 #[.slice (some ⟨g, 0, none⟩) 2 2] w fun e w' => Below w.heap.size w w' ∧ (e = .returned (.bool true) ∨ (e = .returned (.bool false) ∧ wt T + wt U ≤ 3000)) := by
  have h := heavy_any [T, U] [[t0, t1, t2, t3, t4], [u0, u1, u2, u3, u4]] lo hi g 0 2 w rfl (Nat.le_refl _) (by simp) (Array.getElem?_eq_some_iff.1 hg).1 (fun j u hj => by rw [cell_of_row _ _ _ _ _ _ hg, Nat.zero_add, ← Array.getElem?_toList]; simpa using hj)
    (fun i t c h1 h2 => by
      match i with
      | 0 => simp at h1 h2; subst h1 h2; exact hT
      | 1 => simp at h1 h2; subst h1 h2; exact hU
      | i + 2 => simp at h1) hhi (fun t ht => by simp at ht; rcases ht with rfl | rfl; exact hF; exact hG)
  refine h.mono (fun e w' ⟨h1, h2⟩ => ⟨h1, ?_⟩)
  rcases h2 with h2 | ⟨h2, h3⟩
  · exact .inl h2
  · refine .inr ⟨h2, ?_⟩
    rw [wts, wts, wts] at h3
    omega
set_option maxRecDepth 20000 in
set_option maxHeartbeats 4000000 in
theorem else_any (T U : Tr) (p o : ByteArray) (lo hi : Nat) (ct cu : List Value) (w : World) (hT : Lies lo hi w T ct) (hU : Lies lo hi w U cu) (hhi : hi ≤ w.heap.size) (hF : Fit T) (hG : Fit U) (hp : p.size ≤ 140737488351232) (ho : o.size ≤ 140737488351232) :
    Calls Tryd.prog 7 #[.agg ct.toArray, .string p, .string o, .agg cu.toArray] w fun e w' => e = .returned (.bool true) ∧ Below w.heap.size w w' := by
  obtain ⟨kt, xt, at0, nt, ct, bt, mt, dt, et, pt, qt, rfl⟩ := hT.form
  obtain ⟨ku, xu, au, nu, cu, bu, mu, du, eu, pu, qu, rfl⟩ := hU.form
  obtain ⟨wA, hwA⟩ : ∃ wA, wA = ((w.alloc (.cells #[.int .i64 kt, .bool xt, .slice at0 nt ct, .slice bt mt dt, .slice et pt qt] 26)).alloc (.cells #[.int .i64 ku, .bool xu, .slice au nu cu, .slice bu mu du, .slice eu pu qu] 26)).alloc (.cells #[.int .i64 kt, .bool xt, .slice at0 nt ct, .slice bt mt dt, .slice et pt qt, .int .i64 ku, .bool xu, .slice au nu cu, .slice bu mu du, .slice eu pu qu] 26) := ⟨_, rfl⟩
  have hbA : Below w.heap.size w wA := by rw [hwA]; exact (((Below.refl _ _).alloc (Nat.le_refl _) _).alloc (by simp) _).alloc (by simp; omega) _
  have hsA : wA.heap.size = w.heap.size + 1 + 1 + 1 := by rw [hwA]; simp
  have hB : BoxTU w wA (.int .i64 kt) (.bool xt) (.slice at0 nt ct) (.slice bt mt dt) (.slice et pt qt) (.int .i64 ku) (.bool xu) (.slice au nu cu) (.slice bu mu du) (.slice eu pu qu) := by
    refine ⟨hbA, by omega, ?_, ?_⟩
    · rw [hwA]; exact (bx_new w _ _ _ _ _).kept (((Below.refl (w.heap.size + 1) _).alloc (by simp) _).alloc (by simp) _) (by omega)
    · rw [hwA]
      have := (bx_new (w.alloc (.cells #[.int .i64 kt, .bool xt, .slice at0 nt ct, .slice bt mt dt, .slice et pt qt] 26)) (.int .i64 ku) (.bool xu) (.slice au nu cu) (.slice bu mu du) (.slice eu pu qu)).kept ((Below.refl (w.heap.size + 1 + 1) _).alloc (by simp) (.cells #[.int .i64 kt, .bool xt, .slice at0 nt ct, .slice bt mt dt, .slice et pt qt, .int .i64 ku, .bool xu, .slice au nu cu, .slice bu mu du, .slice eu pu qu] 26)) (by simp)
      simpa using this
  have hby : wA.heap[w.heap.size + 1 + 1]? = some (.cells #[.int .i64 kt, .bool xt, .slice at0 nt ct, .slice bt mt dt, .slice et pt qt, .int .i64 ku, .bool xu, .slice au nu cu, .slice bu mu du, .slice eu pu qu] 26) := by
    rw [hwA]
    show (((w.heap.push _).push _).push _)[w.heap.size + 1 + 1]? = _
    rw [Array.getElem?_push, if_pos (by simp)]
  have HH := hide (heavy2 T U lo hi (w.heap.size + 1 + 1) _ _ _ _ _ _ _ _ _ _ wA (hT.kept hbA hhi) (hU.kept hbA hhi) (by omega) hF hG hby)
  have HL := hide (And.intro hT hU)
  have HwA := hide hwA
  have HB := hide hB
  clear hwA hbA hby hT hU hF hG hB
  go_enter Tryd.func7, Tryd.ntmps7
  go_wp2_with fail
  rw [← unhide HwA]
  refine (unhide HH).mono ?_
  rintro e w1 ⟨hb1, hans⟩
  have hs1 := hb1.size
  have HB1 := hide ((unhide HB).kept hb1 (by omega))
  clear hb1 HH HB HwA
  rcases hans with rfl | ⟨rfl, hwt⟩
  · go_wp2_with fail
    go_ret
    exact ⟨rfl, (unhide HB1).b⟩
  by_cases hlen : 600 < p.size + o.size
  · go_wp2_with fail
    go_ret
    exact ⟨rfl, (unhide HB1).b⟩
  by_cases hp0 : p.size = 0
  · have e0 : (p.toList == []) = true := by rw [ByteArray.toList_eq]; have : p.data.toList = [] := List.eq_nil_of_length_eq_zero hp0; rw [this]; rfl
    clear hp0
    go_wp2_with fail
    go_ret
    exact ⟨rfl, (unhide HB1).b⟩
  have ep : (p.toList == []) = false := by rw [beq_eq_false_iff_ne, ByteArray.toList_eq]; intro h; apply hp0; show p.data.toList.length = 0; rw [h]; rfl
  by_cases ho0 : o.size = 0
  · have e0 : (o.toList == []) = true := by rw [ByteArray.toList_eq]; have : o.data.toList = [] := List.eq_nil_of_length_eq_zero ho0; rw [this]; rfl
    clear ho0 hp0
    go_wp2_with fail
    go_ret
    exact ⟨rfl, (unhide HB1).b⟩
  have eo : (o.toList == []) = false := by rw [beq_eq_false_iff_ne, ByteArray.toList_eq]; intro h; apply ho0; show o.data.toList.length = 0; rw [h]; rfl
  have HR1 := hide (partsR_any p w1 (by omega))
  have HR2 := hide (fun W => partsR_any o W (by omega))
  have HPp := hide (show p.size ≤ 600 ∧ o.size ≤ 600 by omega)
  clear ho0 hp0
  go_wp2_with fail
  clear ep eo hlen hp ho
  refine (unhide HR1).mono ?_
  rintro e w2 ⟨hb2, hans⟩
  have hs2 := hb2.size
  have hs1' := (unhide HB1).s
  have HB2 := hide ((unhide HB1).kept hb2 (by omega))
  clear HR1 HB1
  rcases hans with ⟨hip, a1, c1, rfl, hRp⟩ | ⟨hip, rfl⟩
  case inr =>
    go_wp2_with fail
    refine (unhide HR2 w2).mono ?_
    rintro e w3 ⟨hb3, hans⟩
    have hs3 := hb3.size
    have HB3 := hide ((unhide HB2).b.trans (hb3.mono (by omega)))
    rcases hans with ⟨_, a2, c2, rfl, _⟩ | ⟨_, rfl⟩
    · go_wp2_with fail
      refine (known_any _).mono ?_
      rintro e wk ⟨rfl, hbk⟩
      have hsk := hbk.size
      go_wp2_with fail
      go_ret
      exact ⟨rfl, (unhide HB3).trans (hbk.mono (by omega))⟩
    · go_wp2_with fail
      refine (known_any _).mono ?_
      rintro e wk ⟨rfl, hbk⟩
      have hsk := hbk.size
      go_wp2_with fail
      go_ret
      exact ⟨rfl, (unhide HB3).trans (hbk.mono (by omega))⟩
  case inl =>
  have HRp := hide hRp
  have HLa : Hid ((placeL p).length ≤ 1000) := by
    have := placeL_len p
    have := (unhide HPp).1
    show _ ≤ _
    omega
  generalize hNA : (placeL p).length = NA at *
  have HNA := hide hNA
  clear hRp hNA
  go_wp2_with fail
  refine (unhide HR2 w2).mono ?_
  rintro e w3 ⟨hb3, hans⟩
  have hs3 := hb3.size
  have HB3 := hide ((unhide HB2).kept hb3 (by have := (unhide HB2).s; omega))
  rcases hans with ⟨hio, a2, c2, rfl, hRo⟩ | ⟨hio, rfl⟩
  case inr =>
    go_wp2_with fail
    refine (known_any _).mono ?_
    rintro e wk ⟨rfl, hbk⟩
    have hsk := hbk.size
    go_wp2_with fail
    go_ret
    exact ⟨rfl, ((unhide HB3).b).trans (hbk.mono (by omega))⟩
  case inl =>
  have HRo := hide hRo
  have HLb : Hid ((placeL o).length ≤ 1000) := by
    have := placeL_len o
    have := (unhide HPp).2
    show _ ≤ _
    omega
  have HRp3 := hide ((unhide HRp).below hb3 (Nat.le_refl _))
  generalize hNB : (placeL o).length = NB at *
  have HNB := hide hNB
  clear hRo hNB hb3 HB2 HR2 HRp
  go_wp2_with fail
  have hmin : min (NA : Int) (NB : Int) = ((min NA NB : Nat) : Int) := by omega
  rw [hmin]
  have hn1 : min NA NB ≤ NA := Nat.min_le_left _ _
  have hn2 : min NA NB ≤ NB := Nat.min_le_right _ _
  clear hmin
  generalize hn : min NA NB = n at *
  have HN := hide hn
  clear hn
  have hla := unhide HLa
  have hlb := unhide HLb
  have hc1 : NA ≤ c1 := by obtain ⟨_, _, e, h⟩ := (unhide HRp3).slice; cases e; exact h
  have hc2 : NB ≤ c2 := by obtain ⟨_, _, e, h⟩ := (unhide HRo).slice; cases e; exact h
  obtain ⟨b1, hcut1, hrow1⟩ := cut_hi23 w1.heap.size w2.heap.size a1 NA c1 n hc1 hn1
  obtain ⟨b2, hcut2, hrow2⟩ := cut_hi23 w2.heap.size w3.heap.size a2 NB c2 n hc2 hn2
  have HTx := hide (texts_any w1.heap.size w2.heap.size w2.heap.size w3.heap.size b1 b2 n n c1 c2 ((placeL p).take n) ((placeL o).take n) w3.drew (by rw [List.map_take]; exact hrow1 w3.drew _ (by rw [List.length_map]; exact unhide HNA) ((unhide HRp3).below (Below.refl w3.heap.size w3).drew (by omega))) (by rw [List.map_take]; exact hrow2 w3.drew _ (by rw [List.length_map]; exact unhide HNB) ((unhide HRo).below (Below.refl w3.heap.size w3).drew (Nat.le_refl _))) (by rw [List.length_take, unhide HNA]; omega) (by rw [List.length_take, unhide HNB]; omega) (by omega) (by omega))
  clear hrow1 hrow2
  refine wp_region_noPanic ?_
  refine wp_region_held_drew (S := fun _ => True) (by kernel_rfl) trivial (fun hHeld => ?_)
  refine wpAnyH_take (i := 0) (v := .slice a1 NA c1) rfl (by kernel_rfl) (by kernel_rfl) (by kernel_rfl) (fun _ _ _ h => h) (Or.inl ⟨by rfl, ?_⟩) hHeld ?_
  · intro w' hS'; go_simp
  try simp only [Act.put, List.getElem_toArray, List.getElem_cons_zero, List.getElem_cons_succ, List.setIfInBounds_toArray, List.set_cons_zero, List.set_cons_succ]
  refine wpAnyH_take (i := 1) (v := .int .i64 (n : Int)) rfl (by kernel_rfl) (by kernel_rfl) (by kernel_rfl) (fun _ _ _ h => h) (Or.inl ⟨by rfl, ?_⟩) hHeld ?_
  · intro w' hS'; go_simp
  try simp only [Act.put, List.getElem_toArray, List.getElem_cons_zero, List.getElem_cons_succ, List.setIfInBounds_toArray, List.set_cons_zero, List.set_cons_succ]
  refine wpAnyH_take (i := 2) (v := .slice b1 n c1) rfl (by kernel_rfl) (by kernel_rfl) (by kernel_rfl) (fun _ _ _ h => h) (Or.inl ⟨by rfl, ?_⟩) hHeld ?_
  · intro w' hS'; go_simp
  try simp only [Act.put, List.getElem_toArray, List.getElem_cons_zero, List.getElem_cons_succ, List.setIfInBounds_toArray, List.set_cons_zero, List.set_cons_succ]
  refine wpAnyH_take (i := 3) (v := .slice a2 NB c2) rfl (by kernel_rfl) (by kernel_rfl) (by kernel_rfl) (fun _ _ _ h => h) (Or.inl ⟨by rfl, ?_⟩) hHeld ?_
  · intro w' hS'; go_simp
  try simp only [Act.put, List.getElem_toArray, List.getElem_cons_zero, List.getElem_cons_succ, List.setIfInBounds_toArray, List.set_cons_zero, List.set_cons_succ]
  refine wpAnyH_take (i := 4) (v := .int .i64 (n : Int)) rfl (by kernel_rfl) (by kernel_rfl) (by kernel_rfl) (fun _ _ _ h => h) (Or.inl ⟨by rfl, ?_⟩) hHeld ?_
  · intro w' hS'; go_simp
  try simp only [Act.put, List.getElem_toArray, List.getElem_cons_zero, List.getElem_cons_succ, List.setIfInBounds_toArray, List.set_cons_zero, List.set_cons_succ]
  refine wpAnyH_take (i := 5) (v := .slice b2 n c2) rfl (by kernel_rfl) (by kernel_rfl) (by kernel_rfl) (fun _ _ _ h => h) (Or.inl ⟨by rfl, ?_⟩) hHeld ?_
  · intro w' hS'; go_simp
  try simp only [Act.put, List.getElem_toArray, List.getElem_cons_zero, List.getElem_cons_succ, List.setIfInBounds_toArray, List.set_cons_zero, List.set_cons_succ]
  refine wpAnyH_ready (rs := [6]) (by kernel_rfl) (by simp) (AllReadyH.cons rfl (fun K hK => ?_) AllReadyH.nil)
  simp only [List.getElem_toArray, List.getElem_cons_zero, List.getElem_cons_succ]
  go_simp
  refine (unhide HTx).mono ?_
  rintro e w4 ⟨⟨q, hw4⟩, rfl⟩
  have hb34 : Below w3.heap.size w3 w4 := by rw [hw4]; exact below_drewN (Below.refl w3.heap.size w3).drew q
  have hs4 := hb34.size
  have HB4 := hide ((unhide HB3).kept hb34 (by have := (unhide HB3).s; omega))
  refine hK.out _ _ trivial (fun hHeld => ?_)
  clear hK K
  try simp only [Act.put, List.getElem_toArray, List.getElem_cons_zero, List.getElem_cons_succ, List.setIfInBounds_toArray, List.set_cons_zero, List.set_cons_succ]
  refine wpAnyH_done (by kernel_rfl) ?_ _
  refine NoPanic.normal ?_
  clear hHeld hw4 hcut1 hcut2 HTx HB3
  cases hd : decide (List.take n (placeL p) = List.take n (placeL o))
  case true =>
    go_wp2_with fail
    refine (known_any _).mono ?_
    rintro e wk ⟨rfl, hbk⟩
    have hsk := hbk.size
    go_wp2_with fail
    go_ret
    exact ⟨rfl, ((unhide HB4).b).trans (hbk.mono (by omega))⟩
  case false =>
  have HAp : Hid (Apart (placeL p) (placeL o)) := apart_of (by rw [unhide HNA, unhide HNB, unhide HN]; exact of_decide_eq_false hd)
  clear hd
  have HPu := hide (put_any T U p lo hi lo hi _ _ w4 ((unhide HL).1.kept (unhide HB4).b hhi) ((unhide HL).2.kept (unhide HB4).b hhi) (by have := (unhide HB4).s; omega) (by have := (unhide HB4).s; omega) (by omega) (by omega) (by have := (unhide HPp).1; omega))
  obtain ⟨t0, t1, t2, t3, t4⟩ := (unhide HB4).t.cells
  obtain ⟨u0, u1, u2, u3, u4⟩ := (unhide HB4).x.cells
  go_wp2_with fail
  refine (unhide HPu).mono ?_
  rintro e w5 ⟨hb5, hans⟩
  obtain ⟨xk, xb, xa, xn, xc, ya, yn, yc, za, zn, zc, rfl, hLx⟩ := putA_res hans
  have hs5 := hb5.size
  have hs4' := (unhide HB4).s
  have HB5 := hide ((unhide HB4).kept hb5 (by omega))
  clear hans HPu HB4 t0 t1 t2 t3 t4 u0 u1 u2 u3 u4
  by_cases hr0 : resN (putS T p U) = 0
  case neg =>
    have hne := ne0 hr0
    clear hr0 hLx
    generalize resN (putS T p U) = rn at *
    go_wp2_with fail
    have HBk := hide ((unhide HB5).b.alloc (by have := (unhide HB5).s; omega) (.cells #[.int .i64 xk, .bool xb, .slice xa xn xc, .slice ya yn yc, .slice za zn zc] 26))
    refine (known_any _).mono ?_
    rintro e wk ⟨rfl, hbk⟩
    have hsk := hbk.size
    go_wp2_with fail
    go_ret
    exact ⟨rfl, (unhide HBk).trans (hbk.mono (by simp; omega))⟩
  case pos =>
  obtain ⟨W, hW⟩ := putS_ok hr0
  rw [hr0]
  rw [hW] at hLx
  have HWt : Hid (wt W ≤ 100000) := by have := putS_wt hW; show _ ≤ _; omega
  have HEl := hide (put_else hW (unhide HAp))
  obtain ⟨w6, hw6⟩ : ∃ w6, w6 = w5.alloc (.cells #[.int .i64 xk, .bool xb, .slice xa xn xc, .slice ya yn yc, .slice za zn zc] 26) := ⟨_, rfl⟩
  have hb56 : Below w5.heap.size w5 w6 := by rw [hw6]; exact (Below.refl _ _).alloc (Nat.le_refl _) _
  have hs6 : w6.heap.size = w5.heap.size + 1 := by rw [hw6]; simp
  have hbx6 : Bx w6 w5.heap.size (.int .i64 xk) (.bool xb) (.slice xa xn xc) (.slice ya yn yc) (.slice za zn zc) := by rw [hw6]; exact bx_new _ _ _ _ _ _
  have HB6 := hide ((unhide HB5).kept hb56 (by omega))
  have HLx6 : Hid (Lies w4.heap.size w5.heap.size w6 W [.int .i64 xk, .bool xb, .slice xa xn xc, .slice ya yn yc, .slice za zn zc]) := hLx.kept hb56 (Nat.le_refl _)
  have HA1 := hide (ats_any T o lo hi _ w6 ((unhide HL).1.kept (unhide HB6).b hhi) (by omega) (by omega) (by have := (unhide HPp).2; omega))
  have Hw6 := hide hw6
  have T5 := (unhide HB5).t.cells
  obtain ⟨t0, t1, t2, t3, t4⟩ := T5
  have hlt5 : w.heap.size < w5.heap.size := by omega
  clear hr0 hW hLx hw6 hb56 HB5
  go_wp2_with fail
  rw [← unhide Hw6]
  refine (unhide HA1).mono ?_
  rintro e w7 ⟨hb7, hans⟩
  obtain ⟨ck, cb, ca, cn, cc, da, dn, dc, fa, fn, fc, rfl, hLc⟩ := putA_res hans
  have hs7 := hb7.size
  have HB7 := hide ((unhide HB6).kept hb7 (by omega))
  have hbx7 := hbx6.kept hb7 (by omega)
  have HLx7 := hide ((unhide HLx6).kept hb7 (by omega))
  obtain ⟨w8, hw8⟩ : ∃ w8, w8 = w7.alloc (.cells #[.int .i64 ck, .bool cb, .slice ca cn cc, .slice da dn dc, .slice fa fn fc] 26) := ⟨_, rfl⟩
  have hb78 : Below w7.heap.size w7 w8 := by rw [hw8]; exact (Below.refl _ _).alloc (Nat.le_refl _) _
  have hs8 : w8.heap.size = w7.heap.size + 1 := by rw [hw8]; simp
  have hbc8 : Bx w8 w7.heap.size (.int .i64 ck) (.bool cb) (.slice ca cn cc) (.slice da dn dc) (.slice fa fn fc) := by rw [hw8]; exact bx_new _ _ _ _ _ _
  have HB8 := hide ((unhide HB7).kept hb78 (by omega))
  have HLx8 := hide ((unhide HLx7).kept hb78 (by omega))
  have HLc8 := hide (hLc.kept hb78 (Nat.le_refl _))
  have HA2 := hide (ats_any W o w4.heap.size w5.heap.size _ w8 (unhide HLx8) (by omega) (unhide HWt) (by have := (unhide HPp).2; omega))
  rw [unhide HEl] at HA2
  have Hw8 := hide hw8
  obtain ⟨v0, v1, v2, v3, v4⟩ := hbx7.cells
  have hlt7 : w5.heap.size < w7.heap.size := by omega
  have HRw : Hid (wt (resT (atE T o)) ≤ 100000) := atE_wt (by omega)
  clear hans hLc hw8 hb78 HB7 HB6 HLx6 HLx7 hbx6 hbx7 HA1 hb7 t0 t1 t2 t3 t4
  generalize atE T o = res at *
  go_wp2_with fail
  rw [← unhide Hw8]
  refine (unhide HA2).mono ?_
  rintro e w9 ⟨hb9, hans⟩
  obtain ⟨dk, db, ga, gn, gc, ha, hn, hc, ia, inn, ic, he, hLd⟩ := putA_res hans
  subst he
  have hs9 := hb9.size
  obtain ⟨w10, hw10⟩ : ∃ w10, w10 = w9.alloc (.cells #[.int .i64 dk, .bool db, .slice ga gn gc, .slice ha hn hc, .slice ia inn ic] 26) := ⟨_, rfl⟩
  have hb910 : Below w9.heap.size w9 w10 := by rw [hw10]; exact (Below.refl _ _).alloc (Nat.le_refl _) _
  have hs10 : w10.heap.size = w9.heap.size + 1 := by rw [hw10]; simp
  have hbd10 : Bx w10 w9.heap.size (.int .i64 dk) (.bool db) (.slice ga gn gc) (.slice ha hn hc) (.slice ia inn ic) := by rw [hw10]; exact bx_new _ _ _ _ _ _
  have hbc10 := (hbc8.kept hb9 (by omega)).kept hb910 (by omega)
  have HB10 := hide (((unhide HB8).kept hb9 (by omega)).kept hb910 (by omega))
  have HEq := hide (equal_any (resT res) (resT res) w6.heap.size w7.heap.size w8.heap.size w9.heap.size _ _ w10 (((unhide HLc8).kept hb9 (by omega)).kept hb910 (by omega)) (hLd.kept hb910 (Nat.le_refl _)) (unhide HRw) (unhide HRw) (by omega) (by omega))
  have Hw10 := hide hw10
  have hbc9 := hbc8.kept hb9 (by omega)
  obtain ⟨z0, z1, z2, z3, z4⟩ := hbc9.cells
  have hlt9 : w7.heap.size < w9.heap.size := by omega
  clear hans hLd hw10 hb910 hb9 hbc9 hbc8 HB8 HLx8 HLc8 HA2 v0 v1 v2 v3 v4
  generalize resN res = rn at *
  go_wp2_with fail
  rw [← unhide Hw10]
  refine (unhide HEq).mono ?_
  rintro e w11 ⟨hb11, hans⟩
  have hs11 := hb11.size
  obtain rfl : e = .returned (.bool true) := by
    rcases hans with ⟨_, h⟩ | ⟨h, _⟩
    · exact h
    · exact absurd rfl h
  have HB11 := hide ((unhide HB10).b.trans (hb11.mono (by omega)))
  clear hb11
  go_wp2_with fail
  refine (known_any _).mono ?_
  rintro e wk ⟨rfl, hbk⟩
  have hsk := hbk.size
  go_wp2_with fail
  go_ret
  exact ⟨rfl, (unhide HB11).trans (hbk.mono (by omega))⟩
end Go.Proofs.YthfjofmfiklegaaDoor
