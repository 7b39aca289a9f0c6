/- Names: the names of a FS that begin with a text. -/
import Derived.Test.YtebcmicmklpflaaGreatDoorKa
namespace Go.Proofs.YtebcmicmklpflaaGreatDoor
open Go.RowKit Go.Maps Go.Shelf
set_option linter.unusedSimpArgs false
def pfx (s p : ByteArray) : Bool := Lib.hasPrefix s.data.toList p.data.toList
/-- The names that were met, of those that begin so. -/
def Coll (D : DataW Unit) (p : ByteArray) (left : Lit → Bool) (xs : List ByteArray) : Prop :=
  xs.Nodup ∧ ∀ s : ByteArray, s ∈ xs ↔ (Maps.has D (.string s.data.toList) = true ∧ left (.string s.data.toList) = false ∧ pfx s p = true)
theorem Coll.start (D : DataW Unit) (p : ByteArray) : Coll D p (Maps.has D) [] := ⟨List.nodup_nil, fun x => by cases Maps.has D (.string x.data.toList) <;> simp⟩
theorem same_str (s q : ByteArray) : (Lit.string s.data.toList).sameKey (.string q.data.toList) = decide (s = q) := by
  by_cases h : s = q
  · subst h
    simp [Lit.sameKey]
  · have : s.data ≠ q.data := fun e => h (bytes_eq (congrArg Array.toList e))
    simp [Lit.sameKey, h, this]
theorem Coll.skip {D : DataW Unit} {p : ByteArray} {left : Lit → Bool} {xs : List ByteArray} (h : Coll D p left xs) {q : ByteArray} (hp : pfx q p = false) : Coll D p (fun z => left z && !z.sameKey (.string q.data.toList)) xs :=
  ⟨h.1, fun s => by
    simp only [h.2 s, same_str]
    by_cases e : s = q
    · subst e; simp [hp]
    · simp [e]⟩
theorem Coll.take {D : DataW Unit} {p : ByteArray} {left : Lit → Bool} {xs : List ByteArray} (h : Coll D p left xs) {q : ByteArray} (hp : pfx q p = true) (hl : left (.string q.data.toList) = true) (hh : Maps.has D (.string q.data.toList) = true) : Coll D p (fun z => left z && !z.sameKey (.string q.data.toList)) (xs ++ [q]) :=
  ⟨List.nodup_append.2 ⟨h.1, by simp, fun a ha b hb => by
      simp at hb
      subst hb
      rintro rfl
      have := ((h.2 a).1 ha).2.1
      rw [hl] at this
      exact absurd this (by simp)⟩, fun s => by
    simp only [List.mem_append, h.2 s, same_str]
    by_cases e : s = q
    · subst e; simp [hp, hl, hh]
    · simp [e]⟩
theorem StrRow.set {base : Nat} {w : World} {v : Value} {ys : List ByteArray} (h : StrRow base w v ys) {f : Nat} (hf : f < base) (x : Value) : StrRow base (w.setCell ⟨f, 0, none⟩ x) v ys := by
  obtain ⟨a, cp, e, hl, hc⟩ := h
  refine ⟨a, cp, e, hl, fun h0 => ?_⟩
  obtain ⟨g, e1, h1, h2, h3⟩ := hc h0
  exact ⟨g, e1, h1, by rw [size_set]; exact h2, fun j s hj => by rw [World.cell?_of_block (w := w) (a := ⟨g, 0 + j, none⟩) (set_other _ _ _ _ _ (by intro (e : g = f); omega))]; exact h3 j s hj⟩
def app45 (ty : TypeId) (args : Array Value) : Sem Value := Builtin.append_ #[94, 94] ty args
@[go_sem ↓] theorem append_app45 (ty : TypeId) (args : Array Value) : Builtin.append_ #[94, 94] ty args = app45 ty args := rfl
theorem info9 : ∃ i z, Tryz.prog.info? 9 = some i ∧ i.zero = some z ∧ i.size = 1 ∧ i.bytes = 16 ∧ z.cells.size = 1 := by
  have h : (Tryz.prog.info? 9).map (fun i => (i.zero.map (fun z => z.cells.size), i.size, i.bytes)) = some (some 1, 1, 16) := by kernel_rfl
  cases hq : Tryz.prog.info? 9 with
  | none => simp [hq] at h
  | some i =>
    simp [hq] at h
    obtain ⟨⟨z, hz, h1⟩, h2, h3⟩ := h
    exact ⟨i, z, rfl, hz, h2, h3, h1⟩
/-- A text joins a row of texts. -/
theorem strs_grow {w : World} {base : Nat} {a : Option Addr} {cp : Nat} {xs : List ByteArray} (ho : w.ownsRow base 9 1 (.slice a xs.length cp) xs.length (xs.map .string)) (hB : base ≤ w.heap.size) (hl : xs.length ≤ 100000) (s : ByteArray) :
    ∃ a' cp' w3, (∀ ty, (app45 ty #[.slice a xs.length cp, .slice (some ⟨w.heap.size, 0, none⟩) 1 1]).run Tryz.prog (w.alloc (.cells #[.string s] 9)) = .ok (.slice a' (xs ++ [s]).length cp') w3) ∧ w3.ownsRow base 9 1 (.slice a' (xs ++ [s]).length cp') (xs ++ [s]).length ((xs ++ [s]).map .string) ∧ w.grownBy w3 (Value.slice a xs.length cp).ownBlock := by
  obtain ⟨i, z, hi, hz, hsz, hby, hzs⟩ := info9
  obtain ⟨v', w3, hr, hown, hgr, _⟩ := run_append_own (P := Tryz.prog) (w.alloc (.cells #[.string s] 9)) base 94 94 9 i z 1 16 Tryz.underlying94 hi hz hsz hby hzs (by omega) _ xs.length _ (ho.alloc _) ⟨w.heap.size, 0, none⟩ 1 1 [.string s] rfl (cell_one_new w (.string s) 9) (fun u hu => by simp at hu; subst hu; rfl) (by simp only [maxLen]; omega) (by omega) (by simp; omega)
  have e : (xs ++ [s]).length = xs.length + 1 := by simp
  have e2 : (xs ++ [s]).map Value.string = xs.map .string ++ [.string s] := by simp
  rw [e, e2]
  rcases hown.2 with ⟨_, e0⟩ | ⟨g, cap, cur, e0, _⟩
  · omega
  · subst e0
    exact ⟨_, _, w3, fun _ => hr, hown, (World.grownBy_alloc w _ _).trans hgr⟩
/-- What the loop over the names keeps. -/
def NamesR (mb B n : Nat) (D : DataW Unit) (p : ByteArray) (W : World) (x : Value) (wr : World) : Prop :=
  ∃ (xs : List ByteArray) (left : Lit → Bool) (cnt : Nat) (a : Option Addr) (cp : Nat), x = .slice a xs.length cp ∧ wr.ownsRow (B + 1) 9 1 (.slice a xs.length cp) xs.length (xs.map .string) ∧ Coll D p left xs ∧ wr.ranges Tryz.prog 9 fileElem mb B n D left cnt ∧ xs.length + cnt ≤ n ∧ B < wr.heap.size ∧ Below B W wr
theorem has_iff {w : World} {mb n : Nat} {D : DataW Unit} {L : ByteArray → Option Nat} (ho : w.ownsMap Tryz.prog 9 fileElem mb n D) {s : ByteArray} (hD : ∀ zd, D.atKey (.string s.data.toList) zd = atD (L s) zd) : Maps.has D (.string s.data.toList) = true ↔ (L s).isSome = true := by
  have hm : ∃ E, D = .map E := by
    obtain ⟨es, cl, hb, _, _, e⟩ := ho
    exact ⟨_, e⟩
  obtain ⟨E, rfl⟩ := hm
  simp only [DataW.atKey] at hD
  rw [Maps.has_eq]
  cases hf : List.find? (fun p => p.1.sameKey (Lit.string s.data.toList)) E with
  | none =>
    rw [hf] at hD
    have h1 : L s = none := by
      cases hq : L s with
      | none => rfl
      | some g =>
        have := hD .nil
        rw [hq] at this
        simp [atD] at this
    have h2 := List.find?_eq_none.1 hf
    rw [h1]
    simp only [Option.isSome_none, Bool.false_eq_true, iff_false]
    intro h3
    obtain ⟨p, hp, hs⟩ := List.any_eq_true.1 h3
    exact h2 p hp hs
  | some p =>
    rw [hf] at hD
    have h1 : ∃ g, L s = some g := by
      cases hq : L s with
      | some g => exact ⟨g, rfl⟩
      | none =>
        have a1 := hD .nil
        have a2 := hD (.map [])
        rw [hq] at a1 a2
        simp only [atD] at a1 a2
        rw [a1] at a2
        cases a2
    obtain ⟨g, hg⟩ := h1
    rw [hg]
    have h2 := List.find?_some hf
    exact ⟨fun _ => rfl, fun _ => List.any_eq_true.2 ⟨p, List.mem_of_find?_eq_some hf, h2⟩⟩
theorem has_le {w : World} {mb n : Nat} {D : DataW Unit} (ho : w.ownsMap Tryz.prog 9 fileElem mb n D) {s : ByteArray} (h : Maps.has D (.string s.data.toList) = true) : s.size ≤ maxLen := by
  obtain ⟨es, rfl, hk⟩ := ho.keysOf
  rw [Maps.has_eq] at h
  obtain ⟨p, hp, hs⟩ := List.any_eq_true.1 h
  obtain ⟨v, hv⟩ := hk p hp
  obtain ⟨x, _, hx, hl⟩ := Maps.keyOf_str Tryz.underlying9 hv
  have e := WideAt.sameKey_eq hs
  rw [hx] at e
  injection e with e
  have : s.size = x.length := by rw [e]; exact (Array.length_toList).symm
  rw [this]; exact hl
/-- What Names gives. -/
def NamesOut (f : Nat) (S : Fs) (O : Nat → Prop) (k : Nat) (p : ByteArray) (w : World) (e : Ending) (w' : World) : Prop :=
  ∃ (v : Value) (xs : List ByteArray), e = .returned v ∧ xs.Nodup ∧ (∀ s : ByteArray, s.size ≤ maxLen → (s ∈ xs ↔ ((S.now.N s).isSome = true ∧ pfx s p = true))) ∧ (∀ s ∈ xs, s.size ≤ maxLen) ∧ StrRow w.heap.size w' v (sortB xs) ∧ FsIs w' f 0 S O k ∧ Below w.heap.size w w'
set_option maxRecDepth 20000 in
set_option maxHeartbeats 2000000 in
theorem names_ok (f : Nat) (S : Fs) (O : Nat → Prop) (k : Nat) (p : ByteArray) (w : World) (h : FsIs w f 0 S O k) (hk : k ≤ 16000) (hNs : ∀ s i, S.now.N s = some i → s.size ≤ 300) :
    Calls Tryz.prog 132 #[.pointer (some ⟨f, 0, none⟩), .string p] w fun e w' => NamesOut f S O k p w e w' := by
  obtain ⟨K, n, l, pv, ps, hM, hnk, hex⟩ := h
  obtain ⟨h0, _, _, _, _, _, _, _, _, hz⟩ := hM.cells
  have hfl : f < w.heap.size := hM.lt f hM.of
  obtain ⟨W1, hW1⟩ : ∃ W1, W1 = w.setCell ⟨f, 0, none⟩ (.int .i32 1) := ⟨_, rfl⟩
  have hs1 : W1.heap.size = w.heap.size := by rw [hW1, size_set]
  have hM1 : FsM W1 f 1 S S.pend O K n l pv ps := by rw [hW1]; exact hM.lock 1
  obtain ⟨_, _, t3, _⟩ := hM1.cells
  have HL0 := hide (lock_free ⟨f, 0, none⟩ w h0 (hz 0))
  rw [← hW1] at HL0
  have HE : Hid (∀ W : World, Below W1.heap.size W1 W → FsIs (W.setCell ⟨f, 0, none⟩ (.int .i32 0)) f 0 S O k ∧ Below w.heap.size w (W.setCell ⟨f, 0, none⟩ (.int .i32 0)) ∧ W.cell? ⟨f, 0, none⟩ = some (.int .i32 1) ∧ W.frozen? ⟨f, 0, none⟩ = false) := fun W hb => by
    have hI : Inv (fun _ => False) (w.setCell ⟨f, 0, none⟩ (.int .i32 1)) W [] := by
      rw [← hW1]
      exact ⟨hb.os, hb.tape, hb.output, hb.size, fun q h1 _ => hb.block q h1, fun _ h => (by cases h), fun _ h => (by cases h)⟩
    obtain ⟨b1, b2, b3, b4⟩ := hM.back hI
    exact ⟨⟨K, n, l, pv, ps, b1, hnk, hex⟩, b2, b3, b4⟩
  have hT := hM1.now.tab
  have HS1 := hide hs1
  have HNS := hide hNs
  clear hNs
  have hnn : n.n ≤ 16000 := by have := hM1.now.nk; omega
  clear hM hM1 hz hW1 hs1
  generalize hmm : n.m = m at *
  cases m with
  | none =>
    have hN : ∀ s, (S.now.N s).map n.b = none := hT.tab
    have HS := hide (sort_any W1.heap.size none 0 [] (W1.alloc (.mapIter none 0 #[] 0)) (World.ownsRow_nil _ _ _ _) (by simp) (by simp))
    have HN := hide hN
    have hrg := run_range_nilMap (P := Tryz.prog) W1 87 9 130 Tryz.underlying87
    have hnx : ∀ ty, (Instr.next (.pointer (some ⟨W1.heap.size, 0, none⟩)) false ty).run Tryz.prog (W1.alloc (.mapIter none 0 #[] 0)) = _ := fun ty => run_next_nilMap W1 ty 0 0 #[]
    clear hT hN
    go_enter_defers Tryz.func132, Tryz.ntmps132
    go_wp2_with fail
    refine (unhide HL0).mono ?_
    rintro e w' ⟨rfl, rfl⟩
    go_wp2_with fail
    refine wp_loop_rounds 1 ?_
    rw [rounds_succ]
    go_wp2_with fail
    refine (unhide HS).mono ?_
    rintro e w2 ⟨rfl, hR2, hb2⟩
    have hb3 : Below w'.heap.size w' w2 := ((Below.refl _ _).alloc (Nat.le_refl _) _).trans hb2
    obtain ⟨e1, e2, c2, z2⟩ := unhide HE w2 hb3
    have HO : Hid (NamesOut f S O k p w (.returned (.slice none 0 0)) (w2.setCell ⟨f, 0, none⟩ (.int .i32 0))) :=
      ⟨_, [], rfl, List.nodup_nil, fun s _ => ⟨fun h => (by cases h), fun h => (by have := unhide HN s; cases hq : S.now.N s with | none => rw [hq] at h; simp at h | some i => rw [hq] at this; simp at this)⟩, fun s hs => (by cases hs), (unhide HS1 ▸ hR2).set hfl _, e1, e2⟩
    clear e1 e2 hR2 hb2 hb3
    go_wp2_with fail
    refine leaves_cons (f := 55) (args := #[.pointer (some ⟨f, 0, none⟩)]) (by simp) (by simp [go_sem]) ?_
    refine (unlock_deferred ⟨f, 0, none⟩ .returning _ c2 z2).mono ?_
    rintro e u' w7 ⟨rfl, rfl, rfl⟩
    refine ⟨_, results_tmp rfl _ _ _, ?_⟩
    exact unhide HO
  | some mb =>
    obtain ⟨D, ho, hD⟩ := hT.tab
    have hms := ho.size_le
    obtain ⟨B, hB⟩ : ∃ B, B = W1.heap.size := ⟨_, rfl⟩
    have hmb : mb < B := by
      obtain ⟨es, cl, hb, _⟩ := ho
      rw [hB]
      exact (Array.getElem?_eq_some_iff.1 hb).1
    have HO := hide ho
    have HD := hide hD
    have HB := hide hB
    clear hT ho hD hB
    go_enter_defers Tryz.func132, Tryz.ntmps132
    go_wp2_with fail
    refine (unhide HL0).mono ?_
    rintro e w' ⟨rfl, rfl⟩
    go_wp2_with (first | (at_range; refine wpList_range_own _ rfl _ 87 rfl 9 130 strK Tryz.underlying87 _ mb n.n _ rfl (unhide HO) ?_; rw [← unhide HB]; intro w0 hrg0 hg0 hs0) | go_in)
    go_frame
    go_loopw [5] (fun x wr => NamesR mb B n.n D p w' x wr) (fun _ wr => wr.rangeLeft mb B)
    case atStart =>
      refine ⟨[], _, _, none, 0, rfl, World.ownsRow_nil _ _ _ _, Coll.start D p, hrg0, by simpa using hms, by omega, ?_⟩
      rw [unhide HB]
      exact (Below.refl _ _).grown hg0 (Nat.le_refl _) (fun j hj => by cases hj)
    case round =>
      obtain ⟨xs, left, cnt, a, cp, rfl, hrow, hcoll, hrg, hcn, hBl, hbw⟩ := hrel
      have HC := hide hcoll
      clear hcoll
      go_wp2_with (first | (at_next; refine wpList_next_ranges _ rfl _ rfl 9 strK fileElem encStr ptr (fun key kl hk => by obtain ⟨x, hx, _⟩ := Maps.keyOf_str Tryz.underlying9 hk; exact ⟨x, hx⟩) fileElem_shape mb B n.n _ _ _ rfl hrg ?_ ?_) | go_in)
      · intro hc0 hl0
        have HSo := hide (sort_any (B + 1) a cp xs wr hrow (by omega) (by omega))
        have hHI : ∀ s : ByteArray, s.size ≤ maxLen → (Maps.has D (.string s.data.toList) = true ↔ (S.now.N s).isSome = true) := fun s hs => by
          have := has_iff (L := fun s => (S.now.N s).map n.b) (unhide HO) (unhide HD s hs)
          simpa using this
        have HX : Hid (xs.Nodup ∧ (∀ s : ByteArray, s.size ≤ maxLen → (s ∈ xs ↔ ((S.now.N s).isSome = true ∧ pfx s p = true))) ∧ ∀ s ∈ xs, s.size ≤ maxLen) :=
          ⟨(unhide HC).1, fun s hs => by rw [(unhide HC).2 s, hl0, hHI s hs]; simp, fun s hs => has_le (unhide HO) ((unhide HC).2 s |>.1 hs).1⟩
        have HR := hide hrow
        have HBW := hide hbw
        clear hrow hbw hrg hHI
        generalize hXL : xs.length = XL at *
        have HXL := hide hXL
        clear hXL
        go_wp2_with fail
        refine (unhide HSo).mono ?_
        rintro e w3 ⟨rfl, hR3, hb3⟩
        have hb4 : Below B w' w3 := (unhide HBW).trans ⟨hb3.os, hb3.tape, hb3.output, hb3.size, fun q hq => hb3.block q (by omega)⟩
        obtain ⟨e1, e2, c2, z2⟩ := unhide HE w3 (unhide HB ▸ hb4)
        have HF : Hid (NamesOut f S O k p w (.returned (.slice a XL cp)) (w3.setCell ⟨f, 0, none⟩ (.int .i32 0))) := by
          have hBw : B = w.heap.size := (unhide HB).trans (unhide HS1)
          obtain ⟨g1, g2, g3⟩ := unhide HX
          refine ⟨_, xs, rfl, g1, g2, g3, StrRow.set ?_ hfl _, e1, e2⟩
          obtain ⟨a', cp', r1, r2, r3⟩ := hR3
          exact ⟨a', cp', r1, r2, fun h0 => by obtain ⟨g, u1, u2, u3, u4⟩ := r3 h0; exact ⟨g, u1, by omega, u3, u4⟩⟩
        clear e1 e2 hR3 hb3 hb4
        go_wp2_with fail
        refine leaves_cons (f := 55) (args := #[.pointer (some ⟨f, 0, none⟩)]) (by simp) (by simp [go_sem]) ?_
        refine (unlock_deferred ⟨f, 0, none⟩ .returning _ c2 z2).mono ?_
        rintro e u' w7 ⟨rfl, rfl, rfl⟩
        refine ⟨_, results_tmp rfl _ _ _, ?_⟩
        exact unhide HF
      · intro x c kl yd yp w2 cnt2 hkey hlk hv hat hrg2 hlt hg2 hs2 hen
        obtain ⟨x', ex, rfl, hxl⟩ := Maps.keyOf_str Tryz.underlying9 hkey
        obtain rfl : x = x' := encStr_inj ex
        obtain ⟨q, hq⟩ : ∃ q : ByteArray, q = ⟨x.toArray⟩ := ⟨_, rfl⟩
        have hqe : encStr x = .string q := congrArg Value.string hq.symm
        rw [hqe] at hen ⊢
        have hqs : q.size ≤ maxLen := by rw [hq]; exact hxl
        have hqx : q.data.toList = x := congrArg (fun t : ByteArray => t.data.toList) hq
        have hbw2 : Below B w' w2 := hbw.grown hg2 (by omega) (fun j hj => by cases hj; exact Nat.le_refl _)
        have HR : Hid (w2.rangeLeft mb B < wr.rangeLeft mb B) := by rw [hrg2.left_eq, hrg.left_eq]; exact hlt
        have hhas : Maps.has D (.string q.data.toList) = true := by rw [hqx]; exact has_true_of_atKey hat
        have hlq : left (.string q.data.toList) = true := by rw [hqx]; exact hlk
        have hrow2 : w2.ownsRow (B + 1) 9 1 (.slice a xs.length cp) xs.length (xs.map .string) := by
          refine hrow.kept hg2 ?_
          cases ha : (Value.slice a xs.length cp).ownBlock with
          | none => exact .inl rfl
          | some g => exact .inr (fun e => by injection e with e; have := (hrow.lt g ha).1; omega)
        rw [← hqx] at hrg2
        have HPx := hide (prefix_any q p w2)
        have hq3 : q.size ≤ 300 := by
          have := (has_iff (L := fun s => (S.now.N s).map n.b) (unhide HO) (unhide HD q hqs)).1 hhas
          cases hN : S.now.N q with
          | none => simp [hN] at this
          | some i => exact unhide HNS q i hN
        have hsz2 : B < w2.heap.size := by omega
        have hRL2 := hrg2.left_eq
        unfold ptr at hen ⊢
        cases hpf : pfx q p with
        | false =>
          have HK : Hid (NamesR mb B n.n D p w' (.slice a xs.length cp) w2) := ⟨xs, _, cnt2, a, cp, rfl, hrow2, (unhide HC).skip hpf, hrg2, by omega, hsz2, hbw2⟩
          unfold pfx at hpf
          rw [hpf] at HPx
          clear hrow2 hrow hrg2 hrg hbw hbw2 hg2 hs2 hat hv hkey hhas hlq hlk hRL2
          cases c <;> simp only at hen ⊢
          all_goals
            go_wp2_with fail
            refine (unhide HPx).mono ?_
            rintro e w5 ⟨rfl, rfl⟩
            go_wp2_with fail
            go_roundw
            case rel => exact unhide HK
            case measure => exact unhide HR
        | true =>
          have HK : Hid (∀ w3 : World, Below w2.heap.size w2 w3 → ∃ a' cp' w4, (∀ ty, (app45 ty #[.slice a xs.length cp, .slice (some ⟨w3.heap.size, 0, none⟩) 1 1]).run Tryz.prog (w3.alloc (.cells #[.string q] 9)) = .ok (.slice a' (xs ++ [q]).length cp') w4) ∧ Hid (NamesR mb B n.n D p w' (.slice a' (xs ++ [q]).length cp') w4 ∧ w4.rangeLeft mb B = w2.rangeLeft mb B)) := fun w3 hb3 => by
            have hg3 : w2.grownBy w3 none := ⟨hb3.os, hb3.tape, hb3.output, hb3.size, fun j hj _ => hb3.block j hj⟩
            have hrow3 := hrow2.kept hg3 (by cases (Value.slice a xs.length cp).ownBlock <;> simp)
            have hz3 := hb3.size
            obtain ⟨a', cp', w4, hr, hown, hgr⟩ := strs_grow hrow3 (by omega) (by omega) q
            have hne : ∀ j, j ≤ B → some j ≠ (Value.slice a xs.length cp).ownBlock := fun j hj e => by have := (hrow.lt j e.symm).1; omega
            have hrg4 := (hrg2.kept hg3 (by simp) (by simp)).kept hgr (hne mb (by omega)) (hne B (Nat.le_refl _))
            have hz4 := hgr.size
            refine ⟨a', cp', w4, hr, ⟨xs ++ [q], _, cnt2, a', cp', rfl, hown, (unhide HC).take hpf hlq hhas, hrg4, by simp; omega, by omega, ?_⟩, ?_⟩
            · exact (hbw2.grown hg3 (by omega) (fun j hj => by cases hj)).grown hgr (by omega) (fun j hj => by have := (hrow.lt j hj).1; omega)
            · rw [hrg4.left_eq, hRL2]
          unfold pfx at hpf
          rw [hpf] at HPx
          have HCl := hide (clone_any q w2 (by omega))
          clear hrow2 hrow hrg2 hrg hbw hbw2 hg2 hs2 hat hv hkey hhas hlq hlk hRL2
          generalize (xs ++ [q]).length = XL2 at *
          generalize xs.length = XL at *
          cases c <;> simp only at hen ⊢
          all_goals
            go_wp2_with fail
            refine (unhide HPx).mono ?_
            rintro e w5 ⟨rfl, rfl⟩
            go_wp2_with fail
            refine (unhide HCl).mono ?_
            rintro e w3 ⟨rfl, hb3⟩
            obtain ⟨a', cp', w4, hr, hX⟩ := unhide HK w3 hb3
            clear hb3
            go_wp2_with fail
            go_roundw
            case rel => exact (unhide hX).1
            case measure => rw [(unhide hX).2]; exact unhide HR
end Go.Proofs.YtebcmicmklpflaaGreatDoor
