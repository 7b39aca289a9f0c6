/- A tree that came in as an argument. -/
import Derived.Test.YtikamklgelcnhaaK4
import Derived.Test.YtikamklgelcnhaaK5
import Derived.WalkKit
import Derived.ProofKit
import Derived.OpenShut
import Derived.ChangeOld
import Derived.SizedLaws
namespace Go.Proofs.Ytikamklgelcnhaa
open Go.RowKit
theorem cell_spot {w : World} {x : Addr} {v : Value} (h : w.cell? x = some v) : x = ⟨x.block, x.off, none⟩ ∧ x.block < w.heap.size := by
  refine ⟨?_, cell_lt h⟩
  unfold World.cell? at h
  split at h
  · cases x with
    | mk b o s => cases s with
      | none => rfl
      | some s => simp at h
  · simp at h
theorem flatN (s : Nat) (Ks : List (List Value)) (h : ∀ c ∈ Ks, c.length = s) (i j : Nat) (c : List Value) (hi : Ks[i]? = some c) (hj : j < s) : Ks.flatten[i * s + j]? = c[j]? := by
  induction Ks generalizing i with
  | nil => simp at hi
  | cons a r ih =>
    have ha : a.length = s := h a (by simp)
    cases i with
    | zero => simp at hi; subst hi; simp [List.flatten_cons, List.getElem?_append_left (by omega : j < a.length)]
    | succ i =>
      have e : (i + 1) * s = i * s + s := by rw [Nat.add_mul, Nat.one_mul]
      rw [List.flatten_cons, List.getElem?_append_right (by omega), ← ih (fun c hc => h c (by simp [hc])) i (by simpa using hi)]
      congr 1; omega
theorem flatN_length (s : Nat) (Ks : List (List Value)) (h : ∀ c ∈ Ks, c.length = s) : Ks.flatten.length = Ks.length * s := by
  induction Ks with
  | nil => simp
  | cons a r ih => rw [List.flatten_cons, List.length_append, ih (fun c hc => h c (by simp [hc])), h a (by simp), List.length_cons, Nat.add_mul]; omega
section
variable {H : Type} {enc : TypeId × Value → H} {W : World} {sp : Nat → Bool} {held : Bool}
/-- A slice that came in: its elements' cells, and what each reads as. -/
theorem open_rows {t e : TypeId} {size fuel : Nat} {cs : List Value} {x : DataW H × List MemPlace} (hsz : 0 < size) (ht : Try.prog.underlying t = some (.slice e)) (hc : Try.prog.cellsOf e = size) (h : DataW.trod enc Try.prog W 0 sp held fuel t cs = some x) :
    ∃ (v : Value) (Cs : List (List Value)) (ds : List (DataW H)), cs = [v] ∧ ds.length = Cs.length ∧ Row 0 W.heap.size W v Cs.length Cs.flatten ∧ (x.1 = .nil ∧ Cs = [] ∨ ∃ spr, x.1 = .slice ds spr) ∧ ∀ (i : Nat) (c : List Value) (d : DataW H), Cs[i]? = some c → ds[i]? = some d → c.length = size ∧ ∃ n q, n < fuel ∧ DataW.trod enc Try.prog W 0 sp held n e c = some (d, q) := by
  rcases DataW.trod_slice ht h with ⟨rfl, rfl⟩ | ⟨a, len, cap, elems, rest, n, rfl, rfl, rfl, _, hl, _, hlen, hel, _, _⟩
  · exact ⟨_, [], [], rfl, rfl, ⟨none, 0, rfl, Nat.le_refl _, fun h => absurd h (Nat.lt_irrefl _)⟩, .inl ⟨rfl, rfl⟩, fun i c d h => by simp at h⟩
  · rw [hc] at hel
    have hE : ∀ i, (hi : i < len) → ∃ c, W.cells? 0 (a.add (i * size)) size = some c ∧ DataW.trod enc Try.prog W 0 sp held n e c = elems[i]? := fun i hi => by
      have h1 := hel i hi
      rw [List.getElem?_eq_getElem (by omega)] at h1
      obtain ⟨c, h2, h3⟩ := Option.bind_eq_some_iff.1 h1
      exact ⟨c, h2, by rw [h3, List.getElem?_eq_getElem (by omega)]⟩
    obtain ⟨f, hf⟩ : ∃ f : Nat → List Value, ∀ i, i < len → W.cells? 0 (a.add (i * size)) size = some (f i) ∧ DataW.trod enc Try.prog W 0 sp held n e (f i) = elems[i]? := by
      refine ⟨fun i => (W.cells? 0 (a.add (i * size)) size).getD [], fun i hi => ?_⟩
      obtain ⟨c, h1, h2⟩ := hE i hi
      simp only [h1, Option.getD_some]
      exact ⟨trivial, h2⟩
    have hsome : ∀ i, i < len → (f i).length = size ∧ ∀ j u, (f i)[j]? = some u → W.cell? ((a.add (i * size)).add j) = some u := fun i hi => by
      obtain ⟨_, h1, h2⟩ := World.cells?_some (hf i hi).1
      exact ⟨h1, fun j u hj => by rw [h2 j (by have := (List.getElem?_eq_some_iff.1 hj).1; omega)]; exact hj⟩
    have hCl : ∀ c ∈ (List.range len).map f, c.length = size := fun c hc => by
      obtain ⟨i, hi, rfl⟩ := List.mem_map.1 hc
      exact (hsome i (List.mem_range.1 hi)).1
    refine ⟨_, (List.range len).map f, elems.map (·.1), rfl, by simp [hlen], ?_, .inr ⟨_, rfl⟩, fun i c d h1 h2 => ?_⟩
    · rw [List.length_map, List.length_range]
      refine ⟨some a, cap, rfl, hl, fun h0 => ?_⟩
      have h00 := (hsome 0 h0).2 0 _ (List.getElem?_eq_getElem (by rw [(hsome 0 h0).1]; exact hsz))
      obtain ⟨hx, hlt⟩ := cell_spot (show W.cell? a = some _ from by simpa [Addr.add] using h00)
      refine ⟨a.block, a.off, congrArg some hx, Nat.zero_le _, hlt, fun j u hj => ?_⟩
      have hjl : j < len * size := by
        have := (List.getElem?_eq_some_iff.1 hj).1
        rw [flatN_length size _ hCl] at this
        simpa using this
      have hq : j / size < len := Nat.div_lt_of_lt_mul (by rw [Nat.mul_comm]; exact hjl)
      have hr : j % size < size := Nat.mod_lt _ hsz
      have ej : j / size * size + j % size = j := by rw [Nat.mul_comm]; exact Nat.div_add_mod j size
      have h1 := flatN size _ hCl (j / size) (j % size) (f (j / size)) (by rw [List.getElem?_map, List.getElem?_range hq]; rfl) hr
      rw [ej, hj] at h1
      have h2 := (hsome _ hq).2 _ u h1.symm
      rw [hx, addr_mid, addr_mid, Nat.add_assoc, ej] at h2
      exact h2
    · have hi : i < len := by have := (List.getElem?_eq_some_iff.1 h1).1; simpa using this
      rw [List.getElem?_map, List.getElem?_range hi] at h1
      simp at h1
      subst h1
      rw [List.getElem?_map] at h2
      refine ⟨(hsome i hi).1, n, ?_⟩
      have h3 := (hf i hi).2
      rw [List.getElem?_eq_getElem (by omega)] at h2 h3
      simp at h2
      subst h2
      exact ⟨_, Nat.lt_succ_self _, h3⟩
theorem weights_memA {P : Program} {e : TypeId} : ∀ {l : List (DataW H)} {d : DataW H}, d ∈ l → ∀ n ∈ d.weights P e, n ∈ DataW.weightsAll P e l
  | x :: r, d, hd, n, hn => by
    simp only [DataW.weightsAll, List.mem_append]
    rcases List.mem_cons.1 hd with rfl | h
    · exact Or.inl hn
    · exact Or.inr (weights_memA h n hn)
theorem slice_len {t e : TypeId} {x : DataW H} {Cs : List (List Value)} {ds : List (DataW H)} (ht : Try.prog.underlying t = some (.slice e)) (hb : 0 < Try.prog.bytesOf e) (hl : ds.length = Cs.length) (hs : x = .nil ∧ Cs = [] ∨ ∃ spr, x = .slice ds spr) (hw : ∀ n ∈ x.weights Try.prog t, n ≤ reachBytes) : Cs.length ≤ reachBytes ∧ ∀ d ∈ ds, ∀ n ∈ d.weights Try.prog e, n ≤ reachBytes := by
  rcases hs with ⟨_, rfl⟩ | ⟨spr, rfl⟩
  · obtain rfl : ds = [] := List.eq_nil_of_length_eq_zero (by simpa using hl)
    exact ⟨Nat.zero_le _, fun d hd => by simp at hd⟩
  · simp only [DataW.weights, ht] at hw
    have h1 := hw _ (List.mem_cons_self ..)
    refine ⟨?_, fun d hd n hn => hw n (List.mem_cons_of_mem _ (List.mem_append.2 (.inl (weights_memA hd n hn))))⟩
    have h2 : ds.length + spr.length ≤ (ds.length + spr.length) * Try.prog.bytesOf e := Nat.le_mul_of_pos_right _ hb
    omega
theorem bytes_of (Cs : List (List Value)) (h : ∀ c ∈ Cs, ∃ b : UInt8, c = [.int .u8 (b.toNat : Int)]) : ∃ l : List UInt8, l.length = Cs.length ∧ l.map (fun b => Value.int .u8 (b.toNat : Int)) = Cs.flatten := by
  induction Cs with
  | nil => exact ⟨[], rfl, rfl⟩
  | cons c r ih =>
    obtain ⟨b, hb⟩ := h c (by simp)
    obtain ⟨l, h1, h2⟩ := ih (fun c hc => h c (by simp [hc]))
    exact ⟨b :: l, by simp [h1], by rw [List.map_cons, h2, List.flatten_cons, hb]; rfl⟩
theorem strs_of {P : ByteArray → Prop} (Cs : List (List Value)) (h : ∀ c ∈ Cs, ∃ s : ByteArray, c = [.string s] ∧ P s) : ∃ l : List ByteArray, l.length = Cs.length ∧ l.map Value.string = Cs.flatten ∧ ∀ s ∈ l, P s := by
  induction Cs with
  | nil => exact ⟨[], rfl, rfl, fun s hs => by simp at hs⟩
  | cons c r ih =>
    obtain ⟨b, hb, hP⟩ := h c (by simp)
    obtain ⟨l, h1, h2, h3⟩ := ih (fun c hc => h c (by simp [hc]))
    exact ⟨b :: l, by simp [h1], by rw [List.map_cons, h2, List.flatten_cons, hb]; rfl, fun s hs => by rcases List.mem_cons.1 hs with rfl | hs; exact hP; exact h3 s hs⟩
theorem trees_of {Q : Tr → List Value → Prop} (Cs : List (List Value)) (h : ∀ c ∈ Cs, ∃ T, Q T c) : ∃ ks : List Tr, ks.length = Cs.length ∧ ∀ (i : Nat) (t : Tr) (c : List Value), ks[i]? = some t → Cs[i]? = some c → Q t c := by
  induction Cs with
  | nil => exact ⟨[], rfl, fun i t c h => by simp at h⟩
  | cons c r ih =>
    obtain ⟨T, hT⟩ := h c (by simp)
    obtain ⟨l, h1, h2⟩ := ih (fun c hc => h c (by simp [hc]))
    refine ⟨T :: l, by simp [h1], fun i t c' ht hc => ?_⟩
    cases i with
    | zero => simp at ht hc; subst ht hc; exact hT
    | succ i => exact h2 i t c' (by simpa using ht) (by simpa using hc)
theorem list5 {α : Type} {l : List α} (h : l.length = 5) : ∃ a b c d e, l = [a, b, c, d, e] := by
  match l, h with
  | [a, b, c, d, e], _ => exact ⟨a, b, c, d, e, rfl⟩
theorem cells3 : Try.prog.cellsOf 3 = 1 := by kernel_rfl
theorem cells4 : Try.prog.cellsOf 4 = 1 := by kernel_rfl
theorem cells5' : Try.prog.cellsOf 5 = 1 := by kernel_rfl
theorem cells9 : Try.prog.cellsOf 9 = 1 := by kernel_rfl
theorem cells22 : Try.prog.cellsOf 22 = 1 := by kernel_rfl
theorem cells23 : Try.prog.cellsOf 23 = 1 := by kernel_rfl
theorem cells24 : Try.prog.cellsOf 24 = 1 := by kernel_rfl
theorem cells26 : Try.prog.cellsOf 26 = 5 := by kernel_rfl
/-- A tree that came in lies there, and its lengths are those of slices. -/
theorem open_tree : ∀ (fuel : Nat) (cs : List Value) (x : DataW H × List MemPlace), DataW.trod enc Try.prog W 0 sp held fuel 26 cs = some x → (∀ n ∈ x.1.weights Try.prog 26, n ≤ reachBytes) → ∃ T, Lies 0 W.heap.size W T cs ∧ Fit T := by
  intro fuel
  induction fuel using Nat.strongRecOn with
  | ind fuel ih =>
  intro cs x h hw
  have hR : reachBytes = 140737488351232 := rfl
  obtain ⟨xs, n, rfl, rfl, hcl, hxl, hf⟩ := DataW.trod_struct Try.underlying26 h
  rw [cells26] at hcl
  have hxl5 : xs.length = 5 := hxl
  obtain ⟨c0, c1, c2, c3, c4, rfl⟩ := list5 hcl
  obtain ⟨x0, x1, x2, x3, x4, rfl⟩ := list5 hxl5
  have h0 : DataW.trod enc Try.prog W 0 sp held n 3 [c0] = some x0 := by have := hf 0 _ rfl; simpa [cells3] using this
  have h1 : DataW.trod enc Try.prog W 0 sp held n 4 [c1] = some x1 := by have := hf 1 _ rfl; simpa [cells4] using this
  have h2 : DataW.trod enc Try.prog W 0 sp held n 22 [c2] = some x2 := by have := hf 2 _ rfl; simpa [cells22] using this
  have h3 : DataW.trod enc Try.prog W 0 sp held n 23 [c3] = some x3 := by have := hf 3 _ rfl; simpa [cells23] using this
  have h4 : DataW.trod enc Try.prog W 0 sp held n 24 [c4] = some x4 := by have := hf 4 _ rfl; simpa [cells24] using this
  have hwE : ∀ (j : Nat) (t : TypeId) (d : DataW H), ([3, 4, 22, 23, 24] : List TypeId)[j]? = some t → [x0.1, x1.1, x2.1, x3.1, x4.1][j]? = some d → ∀ n ∈ d.weights Try.prog t, n ≤ reachBytes := fun j t d e1 e2 n hn => hw n (by
    simp only [DataW.weights, Try.underlying26]
    exact DataW.weights_mem_each (ts := [3, 4, 22, 23, 24]) (ds := [x0.1, x1.1, x2.1, x3.1, x4.1]) e1 e2 n hn)
  obtain ⟨k, e0, -, -⟩ := DataW.trod_int Try.underlying3 h0
  obtain ⟨b, e1, -⟩ := DataW.trod_bool Try.underlying4 h1
  simp at e0 e1
  subst e0 e1
  obtain ⟨v2, C2, d2, e2, l2, r2, s2, q2⟩ := open_rows (size := 1) (by omega) Try.underlying22 cells5' h2
  obtain ⟨v3, C3, d3, e3, l3, r3, s3, q3⟩ := open_rows (size := 1) (by omega) Try.underlying23 cells9 h3
  obtain ⟨v4, C4, d4, e4, l4, r4, s4, q4⟩ := open_rows (size := 5) (by omega) Try.underlying24 cells26 h4
  simp at e2 e3 e4
  subst e2 e3 e4
  obtain ⟨z2, -⟩ := slice_len Try.underlying22 (by decide +kernel) l2 s2 (hwE 2 22 _ rfl rfl)
  obtain ⟨z3, w3⟩ := slice_len Try.underlying23 (by decide +kernel) l3 s3 (hwE 3 23 _ rfl rfl)
  obtain ⟨z4, w4⟩ := slice_len Try.underlying24 (by decide +kernel) l4 s4 (hwE 4 24 _ rfl rfl)
  obtain ⟨dl, hd1, hd2⟩ := bytes_of C2 (fun c hc => by
    obtain ⟨i, hi, rfl⟩ := List.getElem_of_mem hc
    obtain ⟨_, m, q, _, ht⟩ := q2 i _ _ (List.getElem?_eq_getElem hi) (List.getElem?_eq_getElem (by omega : i < d2.length))
    obtain ⟨z, hz, -, hwf⟩ := DataW.trod_int Try.underlying5 ht
    have hb := bounds_u8 hwf
    refine ⟨UInt8.ofNat z.toNat, ?_⟩
    rw [hz]
    have : ((UInt8.ofNat z.toNat).toNat : Int) = z := by
      rw [UInt8.toNat_ofNat']
      omega
    rw [this])
  obtain ⟨ns, hn1, hn2, hn3⟩ := strs_of (P := fun s => s.size ≤ reachBytes) C3 (fun c hc => by
    obtain ⟨i, hi, rfl⟩ := List.getElem_of_mem hc
    have hdi : i < d3.length := by omega
    obtain ⟨_, m, q, _, ht⟩ := q3 i _ _ (List.getElem?_eq_getElem hi) (List.getElem?_eq_getElem hdi)
    obtain ⟨s, hs, hx, -⟩ := DataW.trod_string Try.underlying9 ht
    refine ⟨s, hs, ?_⟩
    have := w3 d3[i] (List.getElem_mem hdi)
    rw [(Prod.mk.inj hx).1] at this
    exact this _ (by simp [DataW.weights]))
  obtain ⟨ks, hk1, hk2⟩ := trees_of (Q := fun T c => Lies 0 W.heap.size W T c ∧ Fit T) C4 (fun c hc => by
    obtain ⟨i, hi, rfl⟩ := List.getElem_of_mem hc
    have hdi : i < d4.length := by omega
    obtain ⟨_, m, q, hm, ht⟩ := q4 i _ _ (List.getElem?_eq_getElem hi) (List.getElem?_eq_getElem hdi)
    exact ih m (by omega) _ _ ht (w4 _ (List.getElem_mem hdi)))
  have hds : (⟨dl.toArray⟩ : ByteArray).size = C2.length := by rw [← hd1]; rfl
  refine ⟨.mk k b ⟨dl.toArray⟩ ns ks, .mk k b ⟨dl.toArray⟩ ns ks _ _ _ C4 hk1.symm ?_ ?_ ?_ (fun i t c e1 e2 => (hk2 i t c e1 e2).1), .mk _ _ _ _ _ (by rw [hds]; omega) (by omega) (fun s hs => by have := hn3 s hs; omega) (by omega) (fun t ht => ?_)⟩
  · rw [hds, show byteVals ⟨dl.toArray⟩ = C2.flatten from hd2]; exact r2
  · rw [hn1, hn2]; exact r3
  · rw [hk1]; exact r4
  · obtain ⟨i, hi, rfl⟩ := List.getElem_of_mem ht
    exact (hk2 i _ _ (List.getElem?_eq_getElem hi) (List.getElem?_eq_getElem (by omega : i < C4.length))).2
end
end Go.Proofs.Ytikamklgelcnhaa
