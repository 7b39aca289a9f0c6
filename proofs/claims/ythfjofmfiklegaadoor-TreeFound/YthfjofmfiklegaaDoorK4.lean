import Derived.Test.YthfjofmfiklegaaDoorK2
import Derived.Test.YthfjofmfiklegaaDoorK3
import Derived.Deep.RegionHeld3
import Derived.Ground.SlgmProg
import Derived.Shelf.SortM.Plain
import Derived.Shelf.SortM.SortNone
import Derived.Lib.OwnBridge
import Derived.Test.YthfjofmfiklegaaDoorK1
/- Parts of slices. -/
namespace Go.Proofs.YthfjofmfiklegaaDoor
open Go.RowKit
theorem elem23 : Tryd.prog.elem 23 = 9 := by kernel_rfl
theorem elem24 : Tryd.prog.elem 24 = 26 := by kernel_rfl
theorem ht23 : Tryd.prog.underlying 23 = some (.slice (Tryd.prog.elem 23)) := by rw [elem23]; exact Tryd.underlying23
theorem ht24 : Tryd.prog.underlying 24 = some (.slice (Tryd.prog.elem 24)) := by rw [elem24]; exact Tryd.underlying24
def sl23 (v : Value) (lo hi mx : Option Value) : Sem Value := Instr.slice 23 v lo hi mx
def sl24 (v : Value) (lo hi mx : Option Value) : Sem Value := Instr.slice 24 v lo hi mx
theorem slice_sl23 (v : Value) (lo hi mx : Option Value) : Instr.slice 23 v lo hi mx = sl23 v lo hi mx := rfl
theorem slice_sl24 (v : Value) (lo hi mx : Option Value) : Instr.slice 24 v lo hi mx = sl24 v lo hi mx := rfl
theorem row_take {lo hi : Nat} {w : World} {a : Option Addr} {n c i size : Nat} {xs : List Value} (h : Row lo hi w (.slice a n c) n xs) (hi' : i ≤ n) (a1 : Option Addr) (ha : ∀ g o, a = some ⟨g, o, none⟩ → a1 = some ⟨g, o, none⟩) (hc : n ≤ c) : Row lo hi w (.slice a1 i c) i (xs.take (i * size)) := by
  refine ⟨a1, c, rfl, by omega, fun h0 => ?_⟩
  obtain ⟨g, o, rfl, h1, h2, h3⟩ := h.at (by omega)
  refine ⟨g, o, ha g o rfl, h1, h2, fun j u hj => h3 j u ?_⟩
  rw [List.getElem?_take] at hj
  split at hj
  · exact hj
  · cases hj
theorem row_drop {lo hi : Nat} {w : World} {a : Option Addr} {n c i size : Nat} {xs : List Value} (h : Row lo hi w (.slice a n c) n xs) (hi' : i ≤ n) (a1 : Option Addr) (ha : ∀ g o, i < n → a = some ⟨g, o, none⟩ → a1 = some ⟨g, o + i * size, none⟩) (hc : n ≤ c) : Row lo hi w (.slice a1 (n - i) (c - i)) (n - i) (xs.drop (i * size)) := by
  refine ⟨a1, c - i, rfl, by omega, fun h0 => ?_⟩
  obtain ⟨g, o, rfl, h1, h2, h3⟩ := h.at (by omega)
  refine ⟨g, o + i * size, ha g o (by omega) rfl, h1, h2, fun j u hj => ?_⟩
  rw [List.getElem?_drop] at hj
  rw [Nat.add_assoc]
  exact h3 _ u hj
theorem cut_hi23 (lo hi : Nat) (a : Option Addr) (n c i : Nat) (hn : n ≤ c) (hin : i ≤ n) : ∃ a1, (∀ w, (sl23 (.slice a n c) none (some (.int .i64 (i : Int))) none).run Tryd.prog w = .ok (.slice a1 i c) w) ∧ ∀ (w : World) (xs : List Value), xs.length = n → Row lo hi w (.slice a n c) n xs → Row lo hi w (.slice a1 i c) i (xs.take i) := by
  refine ⟨if c = 0 then a else a.map (·.add (0 * 1)), fun w => ?_, fun w xs hx hr => ?_⟩
  · unfold sl23
    rw [run_slice_h w 23 a n c ht23 .i64 (i : Int) (by omega) (by omega)]
    rw [elem23]
    simp [Tryd.sizeOf9, Result.andThen, sliced]
  · have := row_take (size := 1) hr hin (if c = 0 then a else a.map (·.add (0 * 1))) (fun g o e => by subst e; split <;> simp [addr_mid]) hn
    simpa using this
theorem cut_lo23 (lo hi : Nat) (a : Option Addr) (n c i : Nat) (hn : n ≤ c) (hin : i ≤ n) : ∃ a1, (∀ w, (sl23 (.slice a n c) (some (.int .i64 (i : Int))) none none).run Tryd.prog w = .ok (.slice a1 (n - i) (c - i)) w) ∧ ∀ (w : World) (xs : List Value), xs.length = n → Row lo hi w (.slice a n c) n xs → Row lo hi w (.slice a1 (n - i) (c - i)) (n - i) (xs.drop i) := by
  refine ⟨if c = i then a else a.map (·.add (i * 1)), fun w => ?_, fun w xs hx hr => ?_⟩
  · unfold sl23
    rw [run_slice_l w 23 a n c ht23 .i64 (i : Int) (by omega) (by omega)]
    rw [elem23]
    simp [Tryd.sizeOf9, Result.andThen, sliced]
  · have := row_drop (size := 1) hr hin (if c = i then a else a.map (·.add (i * 1))) (fun g o h e => by subst e; rw [if_neg (by omega)]; simp [addr_mid]) hn
    simpa using this
theorem cut_hi24 (lo hi : Nat) (a : Option Addr) (n c i : Nat) (hn : n ≤ c) (hin : i ≤ n) : ∃ a1, (∀ w, (sl24 (.slice a n c) none (some (.int .i64 (i : Int))) none).run Tryd.prog w = .ok (.slice a1 i c) w) ∧ ∀ (w : World) (xs : List Value), xs.length = n * 5 → Row lo hi w (.slice a n c) n xs → Row lo hi w (.slice a1 i c) i (xs.take (i * 5)) := by
  refine ⟨if c = 0 then a else a.map (·.add (0 * 5)), fun w => ?_, fun w xs hx hr => ?_⟩
  · unfold sl24
    rw [run_slice_h w 24 a n c ht24 .i64 (i : Int) (by omega) (by omega)]
    rw [elem24]
    simp [Tryd.sizeOf26, Result.andThen, sliced]
  · exact row_take (size := 5) hr hin (if c = 0 then a else a.map (·.add (0 * 5))) (fun g o e => by subst e; split <;> simp [addr_mid]) hn
theorem cut_lo24 (lo hi : Nat) (a : Option Addr) (n c i : Nat) (hn : n ≤ c) (hin : i ≤ n) : ∃ a1, (∀ w, (sl24 (.slice a n c) (some (.int .i64 (i : Int))) none none).run Tryd.prog w = .ok (.slice a1 (n - i) (c - i)) w) ∧ ∀ (w : World) (xs : List Value), xs.length = n * 5 → Row lo hi w (.slice a n c) n xs → Row lo hi w (.slice a1 (n - i) (c - i)) (n - i) (xs.drop (i * 5)) := by
  refine ⟨if c = i then a else a.map (·.add (i * 5)), fun w => ?_, fun w xs hx hr => ?_⟩
  · unfold sl24
    rw [run_slice_l w 24 a n c ht24 .i64 (i : Int) (by omega) (by omega)]
    rw [elem24]
    simp [Tryd.sizeOf26, Result.andThen, sliced]
  · exact row_drop (size := 5) hr hin (if c = i then a else a.map (·.add (i * 5))) (fun g o h e => by subst e; rw [if_neg (by omega)]; simp [addr_mid]) hn
end Go.Proofs.YthfjofmfiklegaaDoor
/- A tree that lies whatever the blocks from m to B become. -/
namespace Go.Proofs.YthfjofmfiklegaaDoor
open Go.RowKit
def Lays (m B : Nat) (w : World) (T : Tr) (cs : List Value) : Prop := ∀ w'' : World, (∀ k, k < w.heap.size → k < m ∨ B ≤ k → w''.heap[k]? = w.heap[k]?) → Lies 0 w.heap.size w'' T cs
theorem Lays.lies {m B : Nat} {w : World} {T : Tr} {cs : List Value} (h : Lays m B w T cs) : Lies 0 w.heap.size w T cs := h w (fun _ _ _ => rfl)
theorem lays_of {m B lo hi : Nat} {w : World} {T : Tr} {cs : List Value} (h : Lies lo hi w T cs) (hm : hi ≤ m) (hw : hi ≤ w.heap.size) : Lays m B w T cs := fun w'' hs => (h.same (fun k _ h2 => hs k (by omega) (.inl (by omega)))).mono (Nat.zero_le _) hw
def Rel (P : Tr → List Value → Prop) (ks : List Tr) (Ks : List (List Value)) : Prop := ∀ (i : Nat) (t : Tr) (c : List Value), ks[i]? = some t → Ks[i]? = some c → P t c
theorem Rel.app {P : Tr → List Value → Prop} {a b : List Tr} {A B : List (List Value)} (hl : A.length = a.length) (h1 : Rel P a A) (h2 : Rel P b B) : Rel P (a ++ b) (A ++ B) := by
  intro i t c ht hc
  by_cases h : i < a.length
  · rw [List.getElem?_append_left h] at ht
    rw [List.getElem?_append_left (by omega)] at hc
    exact h1 i t c ht hc
  · rw [List.getElem?_append_right (by omega)] at ht hc
    rw [hl] at hc
    exact h2 _ t c ht hc
theorem Rel.take {P : Tr → List Value → Prop} {a : List Tr} {A : List (List Value)} (n : Nat) (h : Rel P a A) : Rel P (a.take n) (A.take n) := by
  intro i t c ht hc
  rw [List.getElem?_take] at ht hc
  split at ht
  · rename_i hi; rw [if_pos hi] at hc; exact h i t c ht hc
  · cases ht
theorem Rel.drop {P : Tr → List Value → Prop} {a : List Tr} {A : List (List Value)} (n : Nat) (h : Rel P a A) : Rel P (a.drop n) (A.drop n) := by
  intro i t c ht hc
  rw [List.getElem?_drop] at ht hc
  exact h _ t c ht hc
theorem Rel.one {P : Tr → List Value → Prop} {t : Tr} {c : List Value} (h : P t c) : Rel P [t] [c] := by
  intro i t' c' ht hc
  match i with
  | 0 => simp at ht hc; subst ht hc; exact h
  | i + 1 => simp at ht
theorem flat5_take (Ks : List (List Value)) (h : ∀ c ∈ Ks, c.length = 5) (p : Nat) : Ks.flatten.take (p * 5) = (Ks.take p).flatten := by
  induction Ks generalizing p with
  | nil => simp
  | cons a r ih =>
    cases p with
    | zero => simp
    | succ p =>
      have ha : a.length = 5 := h a (by simp)
      rw [List.flatten_cons, List.take_succ_cons, List.flatten_cons, ← ih (fun c hc => h c (by simp [hc])) p, List.take_append, ha, List.take_of_length_le (by omega)]
      congr 2; omega
theorem flat5_drop (Ks : List (List Value)) (h : ∀ c ∈ Ks, c.length = 5) (p : Nat) : Ks.flatten.drop (p * 5) = (Ks.drop p).flatten := by
  induction Ks generalizing p with
  | nil => simp
  | cons a r ih =>
    cases p with
    | zero => simp
    | succ p =>
      have ha : a.length = 5 := h a (by simp)
      rw [List.flatten_cons, List.drop_succ_cons, ← ih (fun c hc => h c (by simp [hc])) p, List.drop_append, ha, List.drop_of_length_le (by omega), List.nil_append]
      congr 1; omega
theorem empty_lies (lo hi : Nat) (w : World) : Lies lo hi w emptyDir [.int .i64 2, .bool false, .slice none 0 0, .slice none 0 0, .slice none 0 0] := by
  unfold emptyDir
  have h : ∀ n, n = 0 → ∀ xs, Row lo hi w (.slice none 0 0) n xs := fun n hn xs => by subst hn; exact ⟨none, 0, rfl, Nat.le_refl _, fun h => absurd h (by simp)⟩
  exact .mk 2 false ⟨#[]⟩ [] [] _ _ _ [] rfl (h _ rfl _) (h _ rfl _) (h _ rfl _) (fun i t c h1 _ => by simp at h1)
theorem kidAt_no {ns : List ByteArray} {ks : List Tr} {x : ByteArray} (h : has ns x = false) : kidAt ns ks x = emptyDir := by unfold kidAt; rw [h]; rfl
theorem kidAt_yes {ns : List ByteArray} {ks : List Tr} {x : ByteArray} (h : has ns x = true) (hl : pos ns x < ks.length) : kidAt ns ks x = ks[pos ns x] := by
  unfold kidAt; rw [h, if_pos rfl, List.getD_eq_getElem?_getD, List.getElem?_eq_getElem hl]; rfl
theorem nextAt_no {ns : List ByteArray} {x : ByteArray} (h : has ns x = false) : nextAt ns x = pos ns x := by unfold nextAt; rw [h]; rfl
theorem nextAt_yes {ns : List ByteArray} {x : ByteArray} (h : has ns x = true) : nextAt ns x = pos ns x + 1 := by unfold nextAt; rw [h]; rfl
/-- The tree that laid builds. -/
theorem laid_end {lo hi m B B' p q : Nat} {w w4 w7 : World} {ns : List ByteArray} {nm : ByteArray} {ks : List Tr} {Ks : List (List Value)} {T' : Tr} {cs' : List Value} {vn vk : Value}
    (hl : Ks.length = ks.length) (hK : ∀ (i : Nat) (t : Tr) (c : List Value), ks[i]? = some t → Ks[i]? = some c → Lies lo hi w t c)
    (hm : hi ≤ m) (hmB : m ≤ B) (hB : B ≤ w.heap.size) (hBB : B ≤ B') (hb : Below B w w7) (hT : Lays m B' w4 T' cs') (h47 : w4.heap.size ≤ w7.heap.size) (hs : ∀ k, k < w4.heap.size → k < m ∨ B' ≤ k → w7.heap[k]? = w4.heap[k]?)
    (hn : Row B w7.heap.size w7 vn (ns.take p ++ [nm] ++ ns.drop q).length ((ns.take p ++ [nm] ++ ns.drop q).map .string)) (hk : Row B w7.heap.size w7 vk (ks.take p ++ [T'] ++ ks.drop q).length (Ks.take p ++ [cs'] ++ Ks.drop q).flatten) :
    Lays m B w7 (.mk 2 false ⟨#[]⟩ (ns.take p ++ [nm] ++ ns.drop q) (ks.take p ++ [T'] ++ ks.drop q)) [.int .i64 2, .bool false, .slice none 0 0, vn, vk] := by
  intro w'' hw''
  have hb2 : ∀ k, k < m → w''.heap[k]? = w.heap[k]? := fun k hk => by
    rw [hw'' k (by have := hb.size; omega) (.inl hk), hb.block k (by omega)]
  have h7 := hb.size
  refine .mk 2 false ⟨#[]⟩ _ _ _ _ _ (Ks.take p ++ [cs'] ++ Ks.drop q) (by simp [hl]) ⟨none, 0, rfl, Nat.le_refl _, fun h => absurd h (Nat.lt_irrefl 0)⟩ ?_ ?_ ?_
  · exact (hn.same (fun k h1 h2 => hw'' k h2 (.inr h1))).mono (Nat.zero_le _) (Nat.le_refl _)
  · exact (hk.same (fun k h1 h2 => hw'' k h2 (.inr h1))).mono (Nat.zero_le _) (Nat.le_refl _)
  · have hR : Rel (fun t c => Lies 0 w7.heap.size w'' t c) ks Ks := fun i t c h1 h2 => ((hK i t c h1 h2).same (fun k _ hk => hb2 k (by omega))).mono (Nat.zero_le _) (by omega)
    refine Rel.app (by simp [hl]) (Rel.app (by simp [hl]) (hR.take p) (Rel.one ?_)) (hR.drop q)
    refine (hT w'' (fun k h1 h2 => ?_)).mono (Nat.zero_le _) h47
    rw [hw'' k (by omega) (by omega), hs k h1 h2]
end Go.Proofs.YthfjofmfiklegaaDoor
/- The places of files: the plain mathematics, and how they are gathered. -/
namespace Go.Proofs.YthfjofmfiklegaaDoor
open Go.RowKit
mutual
/-- The places of a tree's files, as they are met. -/
def filesL : Tr → ByteArray → List ByteArray
  | .mk k _ _ ns ks, p => (if k = 1 then [p] else []) ++ filesLs ns ks p
def filesLs : List ByteArray → List Tr → ByteArray → List ByteArray
  | n :: ns, t :: ks, p => filesL t (belowB p n) ++ filesLs ns ks p
  | _, _, _ => []
end
theorem filesLs_nil (p : ByteArray) : filesLs [] [] p = [] := by rw [filesLs]; intro n ns t ks h; cases h
theorem filesLs_snoc (ns : List ByteArray) : ∀ (ks : List Tr) (p n : ByteArray) (t : Tr), ns.length = ks.length → filesLs (ns ++ [n]) (ks ++ [t]) p = filesLs ns ks p ++ filesL t (belowB p n) := by
  induction ns with
  | nil =>
    intro ks p n t h
    cases ks with
    | nil => rw [List.nil_append, List.nil_append, filesLs, filesLs_nil]; simp
    | cons _ _ => simp at h
  | cons a r ih =>
    intro ks p n t h
    cases ks with
    | nil => simp at h
    | cons b q =>
      rw [List.cons_append, List.cons_append, filesLs, filesLs, ih q p n t (by simpa using h), List.append_assoc]
theorem filesLs_take {ns : List ByteArray} {ks : List Tr} {i : Nat} (p : ByteArray) (h1 : i < ns.length) (h2 : i < ks.length) : filesLs (ns.take (i + 1)) (ks.take (i + 1)) p = filesLs (ns.take i) (ks.take i) p ++ filesL ks[i] (belowB p ns[i]) := by
  rw [List.take_succ_eq_append_getElem h1, List.take_succ_eq_append_getElem h2, filesLs_snoc _ _ _ _ _ (by simp; omega)]
theorem filesLs_of (p : ByteArray) : ∀ (ks : List Tr) (ns : List ByteArray), (∀ t ∈ ks, ∀ p, (filesL t p).length ≤ wt t) → (filesLs ns ks p).length ≤ wts ks := by
  intro ks
  induction ks with
  | nil => intro ns _; cases ns <;> simp [filesLs, wts]
  | cons t r ih2 =>
    intro ns h
    cases ns with
    | nil => simp [filesLs]
    | cons n ns =>
      have h3 := h t (by simp) (belowB p n)
      have h4 := ih2 ns (fun t ht => h t (by simp [ht]))
      rw [filesLs, wts, List.length_append]
      omega
theorem filesL_len (T : Tr) : ∀ p, (filesL T p).length ≤ wt T := by
  induction T using Tr.ind with
  | h k x d ns ks ih =>
    intro p
    rw [filesL, wt, List.length_append]
    have h3 := filesLs_of p ks ns ih
    split <;> simp <;> omega
theorem filesLs_len (ns : List ByteArray) (ks : List Tr) (p : ByteArray) : (filesLs ns ks p).length ≤ wts ks := filesLs_of p ks ns (fun t _ p => filesL_len t p)
theorem belowB_size (p n : ByteArray) : (belowB p n).size ≤ p.size + 1 + n.size := by
  unfold belowB
  split
  · omega
  · simp [ByteArray.size_append]
    have : (⟨#[47]⟩ : ByteArray).size = 1 := rfl
    omega
/-- Only one cell's row has grown. -/
structure Gt (c : Nat) (w w' : World) (v v' : Value) : Prop where
  os : w'.os = w.os
  tape : w'.tape = w.tape
  output : w'.output = w.output
  size : w.heap.size ≤ w'.heap.size
  keep : ∀ k, k < w.heap.size → k ≠ c → v.ownBlock ≠ some k → w'.heap[k]? = w.heap[k]?
  own : ∀ g, v'.ownBlock = some g → v.ownBlock = some g ∨ w.heap.size ≤ g
theorem Gt.trans {c : Nat} {w w' w'' : World} {v v' v'' : Value} (h : Gt c w w' v v') (k : Gt c w' w'' v' v'') : Gt c w w'' v v'' :=
  ⟨k.os.trans h.os, k.tape.trans h.tape, k.output.trans h.output, Nat.le_trans h.size k.size,
    fun i hi hc hv => by
      have h2 := h.size
      rw [k.keep i (by omega) hc (fun e => by rcases h.own i e with h1 | h1; exact hv h1; omega), h.keep i hi hc hv],
    fun g hg => by
      have h2 := h.size
      rcases k.own g hg with h1 | h1
      · exact h.own g h1
      · exact .inr (by omega)⟩
theorem Gt.of_below {c : Nat} {w w' : World} (v : Value) (h : Below w.heap.size w w') : Gt c w w' v v := ⟨h.os, h.tape, h.output, h.size, fun k hk _ _ => h.block k hk, fun _ hg => .inl hg⟩
theorem Gt.drew {c : Nat} {w w' : World} {v v' : Value} (h : Gt c w w' v v') : Gt c w w'.drew v v' := ⟨h.os, h.tape, h.output, h.size, h.keep, h.own⟩
/-- What gather keeps. -/
structure GW (w wr : World) (c : Nat) (v vr : Value) (xs : List ByteArray) (t0 t1 t2 t3 t4 : Value) : Prop where
  g : Gt c w wr v vr
  b : Bx wr w.heap.size t0 t1 t2 t3 t4
  cr : Ctr wr c vr
  o : wr.ownsRow (c + 1) 9 1 vr xs.length (xs.map .string)
  z : w.heap.size < wr.heap.size
  nb : vr.ownBlock ≠ some w.heap.size
theorem GW.old {w wr : World} {c : Nat} {v vr : Value} {xs ys : List ByteArray} {t0 t1 t2 t3 t4 : Value} (h : GW w wr c v vr xs t0 t1 t2 t3 t4) (hc : c < w.heap.size) (ho : w.ownsRow (c + 1) 9 1 v ys.length (ys.map .string)) : Below c w wr :=
  ⟨h.g.os, h.g.tape, h.g.output, h.g.size, fun k hk => h.g.keep k (by omega) (by omega) (fun e => by have := (owns_lt ho k e).1; omega)⟩
theorem GW.step {w wr w1 w2 : World} {c : Nat} {v vr v2 : Value} {xs xs2 : List ByteArray} {t0 t1 t2 t3 t4 : Value} (h : GW w wr c v vr xs t0 t1 t2 t3 t4) (hb : Below wr.heap.size wr w1) (hg : Gt c w1 w2 vr v2) (hc : c < w.heap.size) (hcr : Ctr w2 c v2) (ho : w2.ownsRow (c + 1) 9 1 v2 xs2.length (xs2.map .string)) : GW w w2 c v v2 xs2 t0 t1 t2 t3 t4 := by
  have h1 := (Gt.of_below (c := c) vr hb).trans hg
  have h2 := h1.size
  have hz := h.z
  refine ⟨h.g.trans h1, h.b.of (h1.keep _ hz (by omega) h.nb), hcr, ho, by omega, fun e => ?_⟩
  rcases h1.own _ e with h3 | h3
  · exact h.nb h3
  · omega
/-- The place itself is laid behind. -/
theorem g_app {w wr : World} {c : Nat} {v : Value} {a : Option Addr} {cp : Nat} {xs : List ByteArray} {t0 t1 t2 t3 t4 : Value} (p : ByteArray) (h : GW w wr c v (.slice a xs.length cp) xs t0 t1 t2 t3 t4) (hc : c < w.heap.size) (hmax : xs.length ≤ 1000000) :
    ∃ a' c' w2, (∀ ty, (app23 ty #[.slice a xs.length cp, .slice (some ⟨wr.heap.size, 0, none⟩) 1 1]).run Tryd.prog (wr.alloc (.cells #[.string p] 9)) = .ok (.slice a' (xs.length + 1) c') w2) ∧ Ctr w2 c (.slice a xs.length cp) ∧ GW w (w2.setCell ⟨c, 0, none⟩ (.slice a' (xs.length + 1) c')) c v (.slice a' (xs.length + 1) c') (xs ++ [p]) t0 t1 t2 t3 t4 := by
  have hz := h.z
  have ho1 : (wr.alloc (.cells #[.string p] 9)).ownsRow (c + 1) 9 1 (.slice a xs.length cp) xs.length (xs.map .string) := owns_same h.o (fun g hg => Below.heap_alloc _ _ _ (owns_lt h.o g hg).2) (fun _ _ h => h)
  obtain ⟨v', w2, happ, ho2, hg, hf⟩ := app23_own _ (c + 1) _ _ (.slice a xs.length cp) xs.length _ _ 1 1 [.string p] ho1 (one_row wr [.string p] 9) rfl (fun u hu => by simp at hu; subst hu; rfl) (by omega) (by simp; omega)
  obtain ⟨a', c', rfl, _⟩ := owns_slice ho2
  have hs1 : (wr.alloc (.cells #[.string p] 9)).heap.size = wr.heap.size + 1 := by simp
  have hs2 := hg.size
  rw [hs1] at hs2 hf
  have hcne : (.slice a xs.length cp : Value).ownBlock ≠ some c := fun e => by have := (owns_lt h.o c e).1; omega
  have hct : w2.heap[c]? = wr.heap[c]? := by
    rw [hg.block c (by rw [hs1]; omega) (fun e => hcne e.symm), Below.heap_alloc _ _ _ (by omega)]
  have hct2 : Ctr w2 c (.slice a xs.length cp) := ⟨by rw [World.cell?_of_block (w := wr) hct]; exact h.cr.cell, by have := h.cr.fr; unfold World.frozen? at this ⊢; rw [show w2.heap[(⟨c, 0, none⟩ : Addr).block]? = wr.heap[(⟨c, 0, none⟩ : Addr).block]? from hct]; exact this⟩
  have hown : ∀ g, (.slice a' (xs.length + 1) c' : Value).ownBlock = some g → (.slice a xs.length cp : Value).ownBlock = some g ∨ wr.heap.size ≤ g := fun g hgv => by
    rcases hf with e | e
    · exact .inl (by rw [← e]; exact hgv)
    · rw [e] at hgv; simp at hgv; omega
  refine ⟨a', c', w2, happ, hct2, ⟨h.g.trans ⟨hg.os, hg.tape, hg.output, by simp; omega, fun k hk hkc hkv => ?_, hown⟩, ?_, hct2.set _, ?_, by simp; omega, fun e => ?_⟩⟩
  · rw [set_other _ _ _ _ _ hkc, hg.block k (by rw [hs1]; omega) (fun e => hkv e.symm), Below.heap_alloc _ _ _ hk]
  · refine h.b.of ?_
    rw [set_other _ _ _ _ _ (by omega), hg.block _ (by rw [hs1]; omega) (fun e => h.nb e.symm), Below.heap_alloc _ _ _ hz]
  · have e1 : (xs ++ [p]).length = xs.length + 1 := by simp
    have e2 : (xs ++ [p]).map Value.string = xs.map Value.string ++ [.string p] := by simp
    rw [e1, e2]
    exact owns_same ho2 (fun g hg => set_other _ _ _ _ _ (by have := (owns_lt ho2 g hg).1; omega)) (fun _ _ h => h)
  · rcases hown _ e with h3 | h3
    · exact h.nb h3
    · omega
end Go.Proofs.YthfjofmfiklegaaDoor
/- gather, in the code. -/
namespace Go.Proofs.YthfjofmfiklegaaDoor
open Go.RowKit
set_option linter.unusedSimpArgs false
def kidC (w : World) (g o : Nat) (v0 v1 v2 v3 v4 : Value) : Prop := w.cell? ⟨g, o, none⟩ = some v0 ∧ w.cell? ⟨g, o + 1, none⟩ = some v1 ∧ w.cell? ⟨g, o + 2, none⟩ = some v2 ∧ w.cell? ⟨g, o + 3, none⟩ = some v3 ∧ w.cell? ⟨g, o + 4, none⟩ = some v4
theorem kidC.kept {w w' : World} {g o B : Nat} {v0 v1 v2 v3 v4 : Value} (h : kidC w g o v0 v1 v2 v3 v4) (hb : Below B w w') (hg : g < B) : kidC w' g o v0 v1 v2 v3 v4 := by
  obtain ⟨h0, h1, h2, h3, h4⟩ := h
  refine ⟨?_, ?_, ?_, ?_, ?_⟩
  all_goals rw [hb.cell (p := ⟨g, _, none⟩) (by show g < B; omega)]; assumption
def Zl (ys ns : List ByteArray) (ks : List Tr) (p : ByteArray) (i : Nat) : List ByteArray := ys ++ filesLs (ns.take i) (ks.take i) p
theorem zl_zero (ys ns : List ByteArray) (ks : List Tr) (p : ByteArray) : Zl ys ns ks p 0 = ys := by unfold Zl; rw [List.take_zero, List.take_zero, filesLs_nil, List.append_nil]
theorem zl_step (ys : List ByteArray) {ns : List ByteArray} {ks : List Tr} {p : ByteArray} {i : Nat} (h1 : i < ns.length) (h2 : i < ks.length) : Zl ys ns ks p (i + 1) = Zl ys ns ks p i ++ filesL ks[i] (belowB p ns[i]) := by
  unfold Zl; rw [filesLs_take p h1 h2, List.append_assoc]
/-- What gather leaves. -/
def GatA (c : Nat) (w : World) (v : Value) (xs : List ByteArray) (w' : World) : Prop := ∃ a cp, Gt c w w' v (.slice a xs.length cp) ∧ Ctr w' c (.slice a xs.length cp) ∧ w'.ownsRow (c + 1) 9 1 (.slice a xs.length cp) xs.length (xs.map .string)
set_option maxRecDepth 20000 in
set_option maxHeartbeats 2000000 in
theorem gather_any (T : Tr) : ∀ (lo hi : Nat) (cs : List Value) (w : World) (c : Nat) (p : ByteArray) (a : Option Addr) (cp : Nat) (xs : List ByteArray), Lies lo hi w T cs → hi ≤ c → Ev T → wt T ≤ 100000 → p.size + 20 * wt T ≤ 10000000 → xs.length + wt T ≤ 900000 → Ctr w c (.slice a xs.length cp) → w.ownsRow (c + 1) 9 1 (.slice a xs.length cp) xs.length (xs.map .string) →
    Calls Tryd.prog 33 #[.agg cs.toArray, .string p, .pointer (some ⟨c, 0, none⟩)] w fun e w' => e = .returned (.tuple #[]) ∧ GatA c w (.slice a xs.length cp) (xs ++ filesL T p) w' := by
  induction T using Tr.ind with
  | h k x d ns ks ih =>
  intro lo hi cs w c p a cp xs hL hhi hev hW hps hxl hCt hOw
  have hSm := small_of hW
  obtain ⟨hlen, hevk⟩ : ns.length = ks.length ∧ ∀ t ∈ ks, Ev t := by cases hev with | mk _ _ _ _ _ h1 h2 => exact ⟨h1, h2⟩
  clear hev
  cases hL with
  | mk _ _ _ _ _ vd vn vk Ks hl hd hn hk hK =>
  obtain ⟨ad, cd, rfl, hcd⟩ := hd.slice
  obtain ⟨an, cn, rfl, hcn⟩ := hn.slice
  obtain ⟨ak, ck, rfl, hck⟩ := hk.slice
  have hcw := hCt.lt
  have hG0 : GW w (w.alloc (.cells #[.int .i64 k, .bool x, .slice ad d.size cd, .slice an ns.length cn, .slice ak ks.length ck] 26)) c (.slice a xs.length cp) (.slice a xs.length cp) xs (.int .i64 k) (.bool x) (.slice ad d.size cd) (.slice an ns.length cn) (.slice ak ks.length ck) := by
    have hb : Below w.heap.size w (w.alloc (.cells #[.int .i64 k, .bool x, .slice ad d.size cd, .slice an ns.length cn, .slice ak ks.length ck] 26)) := (Below.refl _ _).alloc (Nat.le_refl _) _
    exact ⟨Gt.of_below _ hb, bx_new _ _ _ _ _ _, hCt.below hb hcw, owns_same hOw (fun g hg => hb.block g (owns_lt hOw g hg).2) (fun _ _ h => h), by simp, fun e => by have := (owns_lt hOw _ e).2; omega⟩
  have hwt : ∀ (i : Nat) (h1 : i < ns.length) (h2 : i < ks.length), (belowB p ns[i]).size + 20 * wt ks[i] ≤ 10000000 ∧ ns[i].size ≤ 1000009 ∧ wt ks[i] ≤ 100000 := fun i h1 h2 => by
    have e1 := belowB_size p ns[i]
    have e2 := wts_mem (List.getElem_mem h2)
    have e3 := tenths_mem (List.getElem_mem h1)
    rw [wt] at hps hW
    refine ⟨by omega, hSm.s _ (List.getElem_mem h1), by omega⟩
  have hcnt : ∀ i (h2 : i < ks.length), (filesLs (ns.take i) (ks.take i) p).length + wt ks[i] ≤ wts ks := fun i h2 => by
    have e1 := wts_take ks i h2
    have e2 := wts_take_le ks (i + 1)
    have e3 : (filesLs (ns.take i) (ks.take i) p).length ≤ wts (ks.take i) := filesLs_len _ _ _
    omega
  have hwk : xs.length + 1 + wts ks ≤ 900000 := by rw [wt] at hxl; omega
  have HF : Hid (filesL (.mk k x d ns ks) p = (if k = 1 then [p] else []) ++ filesLs ns ks p) := by show _ = _; rw [filesL]
  obtain ⟨N, hN⟩ : ∃ N, ns.length = N := ⟨_, rfl⟩
  have hNk : ks.length = N := by rw [← hlen]; exact hN
  have hN1 : N ≤ 100000 := by rw [← hN]; exact hSm.n
  have HWt := hide (And.intro hwt (And.intro hcnt hwk))
  have HOw := hide (And.intro hOw hCt)
  have HIH := hide (fun (t : Tr) (ht : t ∈ ks) => ih t ht lo hi)
  have HEv := hide hevk
  rw [hN] at hn hG0 hcn
  rw [hNk] at hk hG0 hck hl
  have HR := hide (And.intro hn (And.intro hk (And.intro hl hK)))
  have HN := hide (And.intro hN hNk)
  rw [hN, hNk]
  have hps' : p.size ≤ 10000000 := by omega
  have HPs := hide (And.intro hps' hxl)
  clear hN hNk hlen hn hk hl hK hSm hd hcd hwt hcnt hwk ih hevk hCt hOw hps hW hxl hps'
  -- from here on: the loop, from a world that GW speaks of
  have HLoop := hide hG0
  obtain ⟨b0, b1, b2, b3, b4⟩ := hG0.b.cells
  clear hG0
  by_cases hk1 : k = 1
  case pos =>
    subst hk1
    obtain ⟨a1, c1, w2, happ, hct2, hG⟩ := g_app p (unhide HLoop) hcw (by have := (unhide HWt).2.2; omega)
    have z0 := (unhide HLoop).cr.cell
    have hct2c := hct2.cell
    have hct2f := hct2.fr
    have hsz : (w.alloc (.cells #[.int .i64 1, .bool x, .slice ad d.size cd, .slice an N cn, .slice ak N ck] 26)).heap.size = w.heap.size + 1 := by simp
    rw [hsz] at happ
    have HG := hide hG
    have hcw1 : c < w.heap.size + 1 := by omega
    obtain ⟨d0, d1, d2, d3, d4⟩ := hG.b.cells
    have hne : w.heap.size ≠ c := by omega
    clear hG hct2 hsz z0 HLoop b0 b1 b2 b3 b4
    have HCt := hide (unhide HOw).2
    have zc := (unhide HCt).cell
    go_enter Tryd.func33, Tryd.ntmps33
    go_wp2_with fail
    obtain ⟨ys, eys⟩ : ∃ ys, ys = (xs ++ [p]) := ⟨_, rfl⟩
    have HY : Hid (ys ++ filesLs ns ks p = xs ++ filesL (.mk 1 x d ns ks) p) := by show _ = _; rw [eys, unhide HF]; simp
    have hys : ys.length ≤ xs.length + 1 := by rw [eys]; simp
    have H0 : Hid (GW w (w2.setCell ⟨c, 0, none⟩ (.slice a1 (xs.length + 1) c1)) c (.slice a xs.length cp) (.slice a1 ys.length c1) ys (.int .i64 1) (.bool x) (.slice ad d.size cd) (.slice an N cn) (.slice ak N ck)) := by show GW _ _ _ _ _ _ _ _ _ _ _; rw [eys]; rw [show (xs ++ [p]).length = xs.length + 1 by simp]; exact unhide HG
    have HYs := hide hys
    clear eys hys
    clear happ hct2c hct2f HG d0 d1 d2 d3 d4 zc
    go_loopw [22] (fun vi wr => ∃ (i : Nat) (av : Option Addr) (cv : Nat), i ≤ N ∧ vi = .int .i64 (i : Int) ∧ GW w wr c (.slice a xs.length cp) (.slice av (Zl ys ns ks p i).length cv) (Zl ys ns ks p i) (.int .i64 1) (.bool x) (.slice ad d.size cd) (.slice an N cn) (.slice ak N ck)) (fun vi _ => N - (intOf vi).toNat)
    case atStart => exact ⟨0, a1, c1, by omega, rfl, by rw [zl_zero]; exact unhide H0⟩
    case round =>
     clear H0
     obtain ⟨i, av, cv, hiN, rfl, hW⟩ := hrel
     obtain ⟨y0, y1, y2, y3, y4⟩ := hW.b.cells
     have hz := hW.z
     have hb := hW.old hcw (unhide HOw).1
     by_cases hlt : i < N
     · have hn1 : i < ns.length := by rw [(unhide HN).1]; exact hlt
       have hk1 : i < ks.length := by rw [(unhide HN).2]; exact hlt
       obtain ⟨g, o, rfl, hg1, hg2, hcell⟩ := (unhide HR).1.at (by omega)
       obtain ⟨g', o', rfl, hg1', hg2', hcell'⟩ := (unhide HR).2.1.at (by omega)
       obtain ⟨hl, hK⟩ := (unhide HR).2.2
       have hci : wr.cell? ⟨g, o + i, none⟩ = some (.string ns[i]) := by rw [hb.cell (p := ⟨g, o + i, none⟩) (show g < c by omega)]; exact hcell i _ (by simp [List.getElem?_eq_getElem hn1])
       obtain ⟨q0, q1, f1, g1, h1, f2, g2, h2, f3, g3, h3, hLi, m0, m1, m2, m3, m4⟩ := kid_sl (hl.trans (unhide HN).2.symm) (fun j u hj => by rw [hb.cell (p := ⟨g', o' + j, none⟩) (show g' < c by omega)]; exact hcell' j u hj) (fun i t c h1 h2 => (hK i t c h1 h2).kept hb hhi) i hk1
       have HKc : Hid (kidC wr g' (o' + i * 5) (.int .i64 q0) (.bool q1) (.slice f1 g1 h1) (.slice f2 g2 h2) (.slice f3 g3 h3)) := ⟨m0, m1, m2, m3, m4⟩
       have hwi := (unhide HWt).1 i hn1 hk1
       have HBl := hide (fun w => below_any p ns[i] w (by have := (unhide HPs).1; omega) (by omega))
       have HZ := hide (zl_step ys (p := p) hn1 hk1)
       have hZl : (Zl ys ns ks p i).length + wt ks[i] ≤ 900000 := by
         have e1 := (unhide HWt).2.1 i hk1
         have e2 := (unhide HWt).2.2
         have e3 := unhide HYs
         unfold Zl
         rw [List.length_append]
         omega
       have HI := hide (fun (w' : World) (hL : Lies lo hi w' ks[i] [.int .i64 q0, .bool q1, .slice f1 g1 h1, .slice f2 g2 h2, .slice f3 g3 h3]) (hC : Ctr w' c (.slice av (Zl ys ns ks p i).length cv)) (hO : w'.ownsRow (c + 1) 9 1 (.slice av (Zl ys ns ks p i).length cv) (Zl ys ns ks p i).length ((Zl ys ns ks p i).map .string)) => unhide HIH ks[i] (List.getElem_mem hk1) _ w' c (belowB p ns[i]) av cv (Zl ys ns ks p i) hL hhi (unhide HEv _ (List.getElem_mem hk1)) hwi.2.2 hwi.1 hZl hC hO)
       have HLi := hide hLi
       have HW := hide hW
       have hgw : g' < wr.heap.size := by omega
       have hgc : g < wr.heap.size := by omega
       clear hcell hcell' hl hK hW hLi hZl hwi hb m0 m1 m2 m3 m4
       generalize ns[i] = s at *
       generalize ks[i] = t at *
       clear hn1 hk1
       go_wp2_with fail
       clear hci
       refine wp_region_noPanic ?_
       refine wp_region_held_drew (S := fun w' => Bx w' w.heap.size (.int .i64 1) (.bool x) (.slice ad d.size cd) (.slice (some ⟨g, o, none⟩) N cn) (.slice (some ⟨g', o', none⟩) N ck) ∧ kidC w' g' (o' + i * 5) (.int .i64 q0) (.bool q1) (.slice f1 g1 h1) (.slice f2 g2 h2) (.slice f3 g3 h3)) (by kernel_rfl) ⟨(unhide HW).b, unhide HKc⟩ (fun hHeld => ?_)
       clear y0 y1 y2 y3 y4
       refine wpAnyH_take (i := 0) (v := .pointer (some ⟨w.heap.size, 4, none⟩)) rfl (by kernel_rfl) (by kernel_rfl) (by kernel_rfl) (fun _ _ _ h => h) (Or.inl ⟨by rfl, ?_⟩) hHeld ?_
       · intro w' hS'; go_simp
       try simp only [Act.put, List.getElem_toArray, List.getElem_cons_zero, List.getElem_cons_succ, List.setIfInBounds_toArray, List.set_cons_zero, List.set_cons_succ]
       refine wpAnyH_take (i := 1) (v := .slice (some ⟨g', o', none⟩) N ck) rfl (by kernel_rfl) (by kernel_rfl) (by kernel_rfl) (fun _ _ _ h => h) (Or.inl ⟨by rfl, ?_⟩) hHeld ?_
       · intro w' hS'; obtain ⟨t0, t1, t2, t3, t4⟩ := hS'.1.cells; go_simp
       try simp only [Act.put, List.getElem_toArray, List.getElem_cons_zero, List.getElem_cons_succ, List.setIfInBounds_toArray, List.set_cons_zero, List.set_cons_succ]
       refine wpAnyH_take (i := 2) (v := .int .i64 (i : Int)) rfl (by kernel_rfl) (by kernel_rfl) (by kernel_rfl) (fun _ _ _ h => h) (Or.inl ⟨by rfl, ?_⟩) hHeld ?_
       · intro w' hS'; go_simp
       try simp only [Act.put, List.getElem_toArray, List.getElem_cons_zero, List.getElem_cons_succ, List.setIfInBounds_toArray, List.set_cons_zero, List.set_cons_succ]
       refine wpAnyH_take (i := 3) (v := .pointer (some ⟨g', o' + i * 5, none⟩)) rfl (by kernel_rfl) (by kernel_rfl) (by kernel_rfl) (fun _ _ _ h => h) (Or.inl ⟨by rfl, ?_⟩) hHeld ?_
       · intro w' hS'; go_simp
       try simp only [Act.put, List.getElem_toArray, List.getElem_cons_zero, List.getElem_cons_succ, List.setIfInBounds_toArray, List.set_cons_zero, List.set_cons_succ]
       refine wpAnyH_take (i := 4) (v := .agg #[.int .i64 q0, .bool q1, .slice f1 g1 h1, .slice f2 g2 h2, .slice f3 g3 h3]) rfl (by kernel_rfl) (by kernel_rfl) (by kernel_rfl) (fun _ _ _ h => h) (Or.inl ⟨by rfl, ?_⟩) hHeld ?_
       · intro w' hS'; obtain ⟨k0, k1, k2, k3, k4⟩ := hS'.2; go_simp
       try simp only [Act.put, List.getElem_toArray, List.getElem_cons_zero, List.getElem_cons_succ, List.setIfInBounds_toArray, List.set_cons_zero, List.set_cons_succ]
       refine wpAnyH_take (i := 5) (v := .string p) rfl (by kernel_rfl) (by kernel_rfl) (by kernel_rfl) (fun _ _ _ h => h) (Or.inl ⟨by rfl, ?_⟩) hHeld ?_
       · intro w' hS'; go_simp
       try simp only [Act.put, List.getElem_toArray, List.getElem_cons_zero, List.getElem_cons_succ, List.setIfInBounds_toArray, List.set_cons_zero, List.set_cons_succ]
       refine wpAnyH_take (i := 6) (v := .string s) rfl (by kernel_rfl) (by kernel_rfl) (by kernel_rfl) (fun _ _ _ h => h) (Or.inl ⟨by rfl, ?_⟩) hHeld ?_
       · intro w' hS'; go_simp
       try simp only [Act.put, List.getElem_toArray, List.getElem_cons_zero, List.getElem_cons_succ, List.setIfInBounds_toArray, List.set_cons_zero, List.set_cons_succ]
       refine wpAnyH_take (i := 8) (v := .pointer (some ⟨c, 0, none⟩)) rfl (by kernel_rfl) (by kernel_rfl) (by kernel_rfl) (fun _ _ _ h => h) (Or.inl ⟨by rfl, ?_⟩) hHeld ?_
       · intro w' hS'; go_simp
       try simp only [Act.put, List.getElem_toArray, List.getElem_cons_zero, List.getElem_cons_succ, List.setIfInBounds_toArray, List.set_cons_zero, List.set_cons_succ]
       refine wpAnyH_ready (rs := [7]) (by kernel_rfl) (by simp) (AllReadyH.cons rfl (fun K hK => ?_) AllReadyH.nil)
       simp only [List.getElem_toArray, List.getElem_cons_zero, List.getElem_cons_succ]
       go_simp
       refine (unhide HBl _).mono ?_
       rintro e w1 ⟨rfl, hb1⟩
       have hb1' : Below wr.heap.size wr w1 := below_drew' hb1
       have hs1 := hb1'.size
       refine hK.out _ _ ⟨(unhide HW).b.kept hb1' hz, (unhide HKc).kept hb1' hgw⟩ (fun hHeld => ?_)
       clear hK K
       try simp only [Act.put, List.getElem_toArray, List.getElem_cons_zero, List.getElem_cons_succ, List.setIfInBounds_toArray, List.set_cons_zero, List.set_cons_succ]
       refine wpAnyH_ready (rs := [9]) (by kernel_rfl) (by simp) (AllReadyH.cons rfl (fun K hK => ?_) AllReadyH.nil)
       simp only [List.getElem_toArray, List.getElem_cons_zero, List.getElem_cons_succ]
       go_simp
       refine (unhide HI _ ((unhide HLi).kept (B := wr.heap.size) hb1' (by omega)) ((unhide HW).cr.below (B := wr.heap.size) hb1' (by omega)) (owns_same (unhide HW).o (fun g hg => hb1'.block g (owns_lt (unhide HW).o g hg).2) (fun _ _ h => h))).mono ?_
       rintro e w2 ⟨rfl, a2, c2, hG2, hC2, hO2⟩
       have HW2 := hide ((unhide HW).step hb1' hG2 hcw hC2 hO2)
       have hz2 := (unhide HW2).z
       refine hK.out _ _ ?_ (fun hHeld => ?_)
       · refine ⟨(unhide HW2).b, ?_⟩
         have hbo := (unhide HW2).old hcw (unhide HOw).1
         have hbo' := (unhide HW).old hcw (unhide HOw).1
         obtain ⟨u0, u1, u2, u3, u4⟩ := unhide HKc
         refine ⟨?_, ?_, ?_, ?_, ?_⟩
         all_goals rw [hbo.cell (p := ⟨g', _, none⟩) (by show g' < c; omega), ← hbo'.cell (p := ⟨g', _, none⟩) (by show g' < c; omega)]; assumption
       clear hK K
       try simp only [Act.put, List.getElem_toArray, List.getElem_cons_zero, List.getElem_cons_succ, List.setIfInBounds_toArray, List.set_cons_zero, List.set_cons_succ]
       refine wpAnyH_done (by kernel_rfl) ?_ _
       refine NoPanic.normal ?_
       clear hHeld
       go_wp2_with fail
       go_roundw
       case rel => exact ⟨i + 1, a2, c2, by omega, by go_num, by rw [unhide HZ]; exact unhide HW2⟩
       case measure => simp [intOf]; try omega
     · obtain rfl : i = N := by omega
       have HW := hide hW
       clear hW hb
       go_wp2_with fail
       refine bodyPost_end (v := .tuple #[]) (by simp [results, Tryd.results33, go_sem]) rfl ⟨rfl, ?_⟩
       have e1 : Zl ys ns ks p i = xs ++ filesL (.mk 1 x d ns ks) p := by
         unfold Zl
         rw [List.take_of_length_le (by rw [(unhide HN).1]; omega), List.take_of_length_le (by rw [(unhide HN).2]; omega)]
         exact unhide HY
       rw [e1] at HW
       exact ⟨av, cv, (unhide HW).g, (unhide HW).cr, (unhide HW).o⟩
  case neg =>
    have e2 : (k == 1) = false := by simpa using hk1
    have HK1 := hide hk1
    clear hk1
    go_enter Tryd.func33, Tryd.ntmps33
    go_wp2_with fail
    obtain ⟨ys, eys⟩ : ∃ ys, ys = xs := ⟨_, rfl⟩
    have HY : Hid (ys ++ filesLs ns ks p = xs ++ filesL (.mk k x d ns ks) p) := by show _ = _; rw [eys, unhide HF]; rw [if_neg (unhide HK1)]; simp
    have hys : ys.length ≤ xs.length + 1 := by rw [eys]; simp
    have H0 : Hid (GW w (w.alloc (.cells #[.int .i64 k, .bool x, .slice ad d.size cd, .slice an N cn, .slice ak N ck] 26)) c (.slice a xs.length cp) (.slice a ys.length cp) ys (.int .i64 k) (.bool x) (.slice ad d.size cd) (.slice an N cn) (.slice ak N ck)) := by show GW _ _ _ _ _ _ _ _ _ _ _; rw [eys]; exact unhide HLoop
    have HYs := hide hys
    clear eys hys
    clear b0 b1 b2 b3 b4 HLoop
    go_loopw [22] (fun vi wr => ∃ (i : Nat) (av : Option Addr) (cv : Nat), i ≤ N ∧ vi = .int .i64 (i : Int) ∧ GW w wr c (.slice a xs.length cp) (.slice av (Zl ys ns ks p i).length cv) (Zl ys ns ks p i) (.int .i64 k) (.bool x) (.slice ad d.size cd) (.slice an N cn) (.slice ak N ck)) (fun vi _ => N - (intOf vi).toNat)
    case atStart => exact ⟨0, a, cp, by omega, rfl, by rw [zl_zero]; exact unhide H0⟩
    case round =>
     clear H0
     obtain ⟨i, av, cv, hiN, rfl, hW⟩ := hrel
     obtain ⟨y0, y1, y2, y3, y4⟩ := hW.b.cells
     have hz := hW.z
     have hb := hW.old hcw (unhide HOw).1
     by_cases hlt : i < N
     · have hn1 : i < ns.length := by rw [(unhide HN).1]; exact hlt
       have hk1 : i < ks.length := by rw [(unhide HN).2]; exact hlt
       obtain ⟨g, o, rfl, hg1, hg2, hcell⟩ := (unhide HR).1.at (by omega)
       obtain ⟨g', o', rfl, hg1', hg2', hcell'⟩ := (unhide HR).2.1.at (by omega)
       obtain ⟨hl, hK⟩ := (unhide HR).2.2
       have hci : wr.cell? ⟨g, o + i, none⟩ = some (.string ns[i]) := by rw [hb.cell (p := ⟨g, o + i, none⟩) (show g < c by omega)]; exact hcell i _ (by simp [List.getElem?_eq_getElem hn1])
       obtain ⟨q0, q1, f1, g1, h1, f2, g2, h2, f3, g3, h3, hLi, m0, m1, m2, m3, m4⟩ := kid_sl (hl.trans (unhide HN).2.symm) (fun j u hj => by rw [hb.cell (p := ⟨g', o' + j, none⟩) (show g' < c by omega)]; exact hcell' j u hj) (fun i t c h1 h2 => (hK i t c h1 h2).kept hb hhi) i hk1
       have HKc : Hid (kidC wr g' (o' + i * 5) (.int .i64 q0) (.bool q1) (.slice f1 g1 h1) (.slice f2 g2 h2) (.slice f3 g3 h3)) := ⟨m0, m1, m2, m3, m4⟩
       have hwi := (unhide HWt).1 i hn1 hk1
       have HBl := hide (fun w => below_any p ns[i] w (by have := (unhide HPs).1; omega) (by omega))
       have HZ := hide (zl_step ys (p := p) hn1 hk1)
       have hZl : (Zl ys ns ks p i).length + wt ks[i] ≤ 900000 := by
         have e1 := (unhide HWt).2.1 i hk1
         have e2 := (unhide HWt).2.2
         have e3 := unhide HYs
         unfold Zl
         rw [List.length_append]
         omega
       have HI := hide (fun (w' : World) (hL : Lies lo hi w' ks[i] [.int .i64 q0, .bool q1, .slice f1 g1 h1, .slice f2 g2 h2, .slice f3 g3 h3]) (hC : Ctr w' c (.slice av (Zl ys ns ks p i).length cv)) (hO : w'.ownsRow (c + 1) 9 1 (.slice av (Zl ys ns ks p i).length cv) (Zl ys ns ks p i).length ((Zl ys ns ks p i).map .string)) => unhide HIH ks[i] (List.getElem_mem hk1) _ w' c (belowB p ns[i]) av cv (Zl ys ns ks p i) hL hhi (unhide HEv _ (List.getElem_mem hk1)) hwi.2.2 hwi.1 hZl hC hO)
       have HLi := hide hLi
       have HW := hide hW
       have hgw : g' < wr.heap.size := by omega
       have hgc : g < wr.heap.size := by omega
       clear hcell hcell' hl hK hW hLi hZl hwi hb m0 m1 m2 m3 m4
       generalize ns[i] = s at *
       generalize ks[i] = t at *
       clear hn1 hk1
       go_wp2_with fail
       clear hci
       refine wp_region_noPanic ?_
       refine wp_region_held_drew (S := fun w' => Bx w' w.heap.size (.int .i64 k) (.bool x) (.slice ad d.size cd) (.slice (some ⟨g, o, none⟩) N cn) (.slice (some ⟨g', o', none⟩) N ck) ∧ kidC w' g' (o' + i * 5) (.int .i64 q0) (.bool q1) (.slice f1 g1 h1) (.slice f2 g2 h2) (.slice f3 g3 h3)) (by kernel_rfl) ⟨(unhide HW).b, unhide HKc⟩ (fun hHeld => ?_)
       clear y0 y1 y2 y3 y4
       refine wpAnyH_take (i := 0) (v := .pointer (some ⟨w.heap.size, 4, none⟩)) rfl (by kernel_rfl) (by kernel_rfl) (by kernel_rfl) (fun _ _ _ h => h) (Or.inl ⟨by rfl, ?_⟩) hHeld ?_
       · intro w' hS'; go_simp
       try simp only [Act.put, List.getElem_toArray, List.getElem_cons_zero, List.getElem_cons_succ, List.setIfInBounds_toArray, List.set_cons_zero, List.set_cons_succ]
       refine wpAnyH_take (i := 1) (v := .slice (some ⟨g', o', none⟩) N ck) rfl (by kernel_rfl) (by kernel_rfl) (by kernel_rfl) (fun _ _ _ h => h) (Or.inl ⟨by rfl, ?_⟩) hHeld ?_
       · intro w' hS'; obtain ⟨t0, t1, t2, t3, t4⟩ := hS'.1.cells; go_simp
       try simp only [Act.put, List.getElem_toArray, List.getElem_cons_zero, List.getElem_cons_succ, List.setIfInBounds_toArray, List.set_cons_zero, List.set_cons_succ]
       refine wpAnyH_take (i := 2) (v := .int .i64 (i : Int)) rfl (by kernel_rfl) (by kernel_rfl) (by kernel_rfl) (fun _ _ _ h => h) (Or.inl ⟨by rfl, ?_⟩) hHeld ?_
       · intro w' hS'; go_simp
       try simp only [Act.put, List.getElem_toArray, List.getElem_cons_zero, List.getElem_cons_succ, List.setIfInBounds_toArray, List.set_cons_zero, List.set_cons_succ]
       refine wpAnyH_take (i := 3) (v := .pointer (some ⟨g', o' + i * 5, none⟩)) rfl (by kernel_rfl) (by kernel_rfl) (by kernel_rfl) (fun _ _ _ h => h) (Or.inl ⟨by rfl, ?_⟩) hHeld ?_
       · intro w' hS'; go_simp
       try simp only [Act.put, List.getElem_toArray, List.getElem_cons_zero, List.getElem_cons_succ, List.setIfInBounds_toArray, List.set_cons_zero, List.set_cons_succ]
       refine wpAnyH_take (i := 4) (v := .agg #[.int .i64 q0, .bool q1, .slice f1 g1 h1, .slice f2 g2 h2, .slice f3 g3 h3]) rfl (by kernel_rfl) (by kernel_rfl) (by kernel_rfl) (fun _ _ _ h => h) (Or.inl ⟨by rfl, ?_⟩) hHeld ?_
       · intro w' hS'; obtain ⟨k0, k1, k2, k3, k4⟩ := hS'.2; go_simp
       try simp only [Act.put, List.getElem_toArray, List.getElem_cons_zero, List.getElem_cons_succ, List.setIfInBounds_toArray, List.set_cons_zero, List.set_cons_succ]
       refine wpAnyH_take (i := 5) (v := .string p) rfl (by kernel_rfl) (by kernel_rfl) (by kernel_rfl) (fun _ _ _ h => h) (Or.inl ⟨by rfl, ?_⟩) hHeld ?_
       · intro w' hS'; go_simp
       try simp only [Act.put, List.getElem_toArray, List.getElem_cons_zero, List.getElem_cons_succ, List.setIfInBounds_toArray, List.set_cons_zero, List.set_cons_succ]
       refine wpAnyH_take (i := 6) (v := .string s) rfl (by kernel_rfl) (by kernel_rfl) (by kernel_rfl) (fun _ _ _ h => h) (Or.inl ⟨by rfl, ?_⟩) hHeld ?_
       · intro w' hS'; go_simp
       try simp only [Act.put, List.getElem_toArray, List.getElem_cons_zero, List.getElem_cons_succ, List.setIfInBounds_toArray, List.set_cons_zero, List.set_cons_succ]
       refine wpAnyH_take (i := 8) (v := .pointer (some ⟨c, 0, none⟩)) rfl (by kernel_rfl) (by kernel_rfl) (by kernel_rfl) (fun _ _ _ h => h) (Or.inl ⟨by rfl, ?_⟩) hHeld ?_
       · intro w' hS'; go_simp
       try simp only [Act.put, List.getElem_toArray, List.getElem_cons_zero, List.getElem_cons_succ, List.setIfInBounds_toArray, List.set_cons_zero, List.set_cons_succ]
       refine wpAnyH_ready (rs := [7]) (by kernel_rfl) (by simp) (AllReadyH.cons rfl (fun K hK => ?_) AllReadyH.nil)
       simp only [List.getElem_toArray, List.getElem_cons_zero, List.getElem_cons_succ]
       go_simp
       refine (unhide HBl _).mono ?_
       rintro e w1 ⟨rfl, hb1⟩
       have hb1' : Below wr.heap.size wr w1 := below_drew' hb1
       have hs1 := hb1'.size
       refine hK.out _ _ ⟨(unhide HW).b.kept hb1' hz, (unhide HKc).kept hb1' hgw⟩ (fun hHeld => ?_)
       clear hK K
       try simp only [Act.put, List.getElem_toArray, List.getElem_cons_zero, List.getElem_cons_succ, List.setIfInBounds_toArray, List.set_cons_zero, List.set_cons_succ]
       refine wpAnyH_ready (rs := [9]) (by kernel_rfl) (by simp) (AllReadyH.cons rfl (fun K hK => ?_) AllReadyH.nil)
       simp only [List.getElem_toArray, List.getElem_cons_zero, List.getElem_cons_succ]
       go_simp
       refine (unhide HI _ ((unhide HLi).kept (B := wr.heap.size) hb1' (by omega)) ((unhide HW).cr.below (B := wr.heap.size) hb1' (by omega)) (owns_same (unhide HW).o (fun g hg => hb1'.block g (owns_lt (unhide HW).o g hg).2) (fun _ _ h => h))).mono ?_
       rintro e w2 ⟨rfl, a2, c2, hG2, hC2, hO2⟩
       have HW2 := hide ((unhide HW).step hb1' hG2 hcw hC2 hO2)
       have hz2 := (unhide HW2).z
       refine hK.out _ _ ?_ (fun hHeld => ?_)
       · refine ⟨(unhide HW2).b, ?_⟩
         have hbo := (unhide HW2).old hcw (unhide HOw).1
         have hbo' := (unhide HW).old hcw (unhide HOw).1
         obtain ⟨u0, u1, u2, u3, u4⟩ := unhide HKc
         refine ⟨?_, ?_, ?_, ?_, ?_⟩
         all_goals rw [hbo.cell (p := ⟨g', _, none⟩) (by show g' < c; omega), ← hbo'.cell (p := ⟨g', _, none⟩) (by show g' < c; omega)]; assumption
       clear hK K
       try simp only [Act.put, List.getElem_toArray, List.getElem_cons_zero, List.getElem_cons_succ, List.setIfInBounds_toArray, List.set_cons_zero, List.set_cons_succ]
       refine wpAnyH_done (by kernel_rfl) ?_ _
       refine NoPanic.normal ?_
       clear hHeld
       go_wp2_with fail
       go_roundw
       case rel => exact ⟨i + 1, a2, c2, by omega, by go_num, by rw [unhide HZ]; exact unhide HW2⟩
       case measure => simp [intOf]; try omega
     · obtain rfl : i = N := by omega
       have HW := hide hW
       clear hW hb
       go_wp2_with fail
       refine bodyPost_end (v := .tuple #[]) (by simp [results, Tryd.results33, go_sem]) rfl ⟨rfl, ?_⟩
       have e1 : Zl ys ns ks p i = xs ++ filesL (.mk k x d ns ks) p := by
         unfold Zl
         rw [List.take_of_length_le (by rw [(unhide HN).1]; omega), List.take_of_length_le (by rw [(unhide HN).2]; omega)]
         exact unhide HY
       rw [e1] at HW
       exact ⟨av, cv, (unhide HW).g, (unhide HW).cr, (unhide HW).o⟩
end Go.Proofs.YthfjofmfiklegaaDoor
/- slices.Sort of rows of texts: the library's own contract, laid at this program, in plain words. -/
namespace Go.Proofs
open Go.Shelf
def Tryd.laySort_ren : Go.Shelf.Ren := ⟨fun | 6 => 34 | 8 => 47 | 9 => 46 | 19 => 71 | 20 => 72 | 21 => 62 | 22 => 63 | 23 => 64 | 24 => 65 | 25 => 66 | 26 => 67 | 27 => 68 | 28 => 69 | 29 => 70 | 36 => 78 | 31 => 79 | 32 => 80 | 37 => 81 | 38 => 82 | 39 => 83 | 41 => 89 | n => n, fun | 27 => 23 | 29 => 9 | 3 => 3 | 32 => 69 | 26 => 23 | 0 => 0 | 44 => 94 | 46 => 96 | 4 => 4 | 36 => 87 | 35 => 86 | 41 => 77 | 5 => 5 | 9 => 9 | 53 => 101 | 57 => 53 | 63 => 110 | 64 => 35 | n => n, fun | n => n⟩
theorem Tryd.laySort : Go.Proofs.SlLaysM.n6 Tryd.prog Tryd.laySort_ren := {
  mixed := by kernel_rfl
  f6 := ⟨Tryd.f34.name, by decide, Tryd.func34.trans (congrArg some (by kernel_rfl))⟩
  f8 := Tryd.func47.trans (congrArg some (by kernel_rfl))
  f9 := ⟨Tryd.f46.name, by decide, Tryd.func46.trans (congrArg some (by kernel_rfl))⟩
  f19 := Tryd.func71.trans (congrArg some (by kernel_rfl))
  f20 := Tryd.func72.trans (congrArg some (by kernel_rfl))
  f21 := ⟨Tryd.f62.name, by decide, Tryd.func62.trans (congrArg some (by kernel_rfl))⟩
  f22 := ⟨Tryd.f63.name, by decide, Tryd.func63.trans (congrArg some (by kernel_rfl))⟩
  f23 := ⟨Tryd.f64.name, by decide, Tryd.func64.trans (congrArg some (by kernel_rfl))⟩
  f24 := ⟨Tryd.f65.name, by decide, Tryd.func65.trans (congrArg some (by kernel_rfl))⟩
  f25 := ⟨Tryd.f66.name, by decide, Tryd.func66.trans (congrArg some (by kernel_rfl))⟩
  f26 := ⟨Tryd.f67.name, by decide, Tryd.func67.trans (congrArg some (by kernel_rfl))⟩
  f27 := ⟨Tryd.f68.name, by decide, Tryd.func68.trans (congrArg some (by kernel_rfl))⟩
  f28 := ⟨Tryd.f69.name, by decide, Tryd.func69.trans (congrArg some (by kernel_rfl))⟩
  f29 := ⟨Tryd.f70.name, by decide, Tryd.func70.trans (congrArg some (by kernel_rfl))⟩
  f31 := Tryd.func79.trans (congrArg some (by kernel_rfl))
  f32 := Tryd.func80.trans (congrArg some (by kernel_rfl))
  f36 := ⟨Tryd.f78.name, by decide, Tryd.func78.trans (congrArg some (by kernel_rfl))⟩
  f37 := ⟨Tryd.f81.name, by decide, Tryd.func81.trans (congrArg some (by kernel_rfl))⟩
  f38 := ⟨Tryd.f82.name, by decide, Tryd.func82.trans (congrArg some (by kernel_rfl))⟩
  f39 := ⟨Tryd.f83.name, by decide, Tryd.func83.trans (congrArg some (by kernel_rfl))⟩
  f41 := ⟨Tryd.f89.name, by decide, Tryd.func89.trans (congrArg some (by kernel_rfl))⟩
  t0 := Tryd.underlying0
  a0 := Tryd.isAgg0
  z0 := Tryd.sizeOf0
  v0 := Tryd.zeroValue0
  t3 := Tryd.underlying3
  a3 := Tryd.isAgg3
  z3 := Tryd.sizeOf3
  v3 := Tryd.zeroValue3
  t4 := Tryd.underlying4
  a4 := Tryd.isAgg4
  z4 := Tryd.sizeOf4
  v4 := Tryd.zeroValue4
  t5 := Tryd.underlying5
  a5 := Tryd.isAgg5
  z5 := Tryd.sizeOf5
  v5 := Tryd.zeroValue5
  t9 := Tryd.underlying9
  a9 := Tryd.isAgg9
  z9 := Tryd.sizeOf9
  v9 := Tryd.zeroValue9
  t26 := Tryd.underlying23
  a26 := Tryd.isAgg23
  z26 := Tryd.sizeOf23
  v26 := Tryd.zeroValue23
  t27 := Tryd.underlying23
  a27 := Tryd.isAgg23
  z27 := Tryd.sizeOf23
  v27 := Tryd.zeroValue23
  t29 := Tryd.underlying9
  a29 := Tryd.isAgg9
  z29 := Tryd.sizeOf9
  v29 := Tryd.zeroValue9
  t32 := Tryd.underlying69
  a32 := Tryd.isAgg69
  z32 := Tryd.sizeOf69
  v32 := Tryd.zeroValue69
  t35 := Tryd.underlying86
  a35 := Tryd.isAgg86
  z35 := Tryd.sizeOf86
  v35 := Tryd.zeroValue86
  t36 := Tryd.underlying87
  a36 := Tryd.isAgg87
  z36 := Tryd.sizeOf87
  v36 := Tryd.zeroValue87
  t41 := Tryd.underlying77
  a41 := Tryd.isAgg77
  z41 := Tryd.sizeOf77
  v41 := Tryd.zeroValue77
  t44 := Tryd.underlying94
  a44 := Tryd.isAgg94
  z44 := Tryd.sizeOf94
  v44 := Tryd.zeroValue94
  t46 := Tryd.underlying96
  a46 := Tryd.isAgg96
  z46 := Tryd.sizeOf96
  v46 := Tryd.zeroValue96
  t53 := Tryd.underlying101
  a53 := Tryd.isAgg101
  z53 := Tryd.sizeOf101
  v53 := Tryd.zeroValue101
  t57 := Tryd.underlying53
  a57 := Tryd.isAgg53
  z57 := Tryd.sizeOf53
  v57 := Tryd.zeroValue53
  t63 := Tryd.underlying110
  a63 := Tryd.isAgg110
  z63 := Tryd.sizeOf110
  v63 := Tryd.zeroValue110
  t64 := Tryd.underlying35
  a64 := Tryd.isAgg35
  z64 := Tryd.sizeOf35
  v64 := Tryd.zeroValue35 }
end Go.Proofs
namespace Go.Proofs.YthfjofmfiklegaaDoor
open Go.RowKit Go.Shelf
/-- Texts, rising. -/
def sortL (xs : List ByteArray) : List (List UInt8) := (xs.map fun s => s.data.toList).mergeSort fun x y => decide (x ≤ y)
def sortB (xs : List ByteArray) : List ByteArray := (sortL xs).map fun l => ⟨l.toArray⟩
theorem sortL_length (xs : List ByteArray) : (sortL xs).length = xs.length := by unfold sortL; rw [List.length_mergeSort, List.length_map]
theorem sortB_length (xs : List ByteArray) : (sortB xs).length = xs.length := by unfold sortB; rw [List.length_map, sortL_length]
theorem enc_map (xs : List ByteArray) : xs.map Value.string = (xs.map fun s => s.data.toList).map encStr := by
  rw [List.map_map]; rfl
theorem below_grow {B : Nat} {w0 w : World} (h : Below B w0 w) (hB : B ≤ w.heap.size) (os : Array Obj) : Below B w0 (Go.Sort.grow w os) :=
  ⟨h.os, h.tape, h.output, by have := h.size; rw [Go.Sort.size_grow]; omega, fun k hk => by rw [Go.Sort.heap_grow_old _ _ (by omega)]; exact h.block k hk⟩
theorem holds_at {w : World} {g : Nat} {Z : List (List UInt8)} (h : Go.Sort.Holds encStr w g 0 Z.toArray) (i : Nat) (hi : i < Z.length) : w.cell? ⟨g, 0 + i, none⟩ = some (encStr (Z.getD i [])) := by
  have := (h i (by simpa using hi)).1
  rw [this]
  simp [List.getD, hi]
theorem sort_any (base : Nat) (a : Option Addr) (cp : Nat) (xs : List ByteArray) (w : World) (ho : w.ownsRow base 9 1 (.slice a xs.length cp) xs.length (xs.map .string)) (hB : base ≤ w.heap.size) (hmax : xs.length ≤ 1000000) :
    Calls Tryd.prog 34 #[.slice a xs.length cp] w fun e w' => e = .returned (.tuple #[]) ∧ Row base w'.heap.size w' (.slice a xs.length cp) xs.length ((sortB xs).map .string) ∧ Below base w w' := by
  by_cases hne : a = none
  · have h0 : xs.length = 0 ∧ cp = 0 := by
      subst hne
      rcases ho.2 with ⟨h1, h2⟩ | ⟨g, cap, cur, h1, _⟩
      · injection h1 with _ e2 e3; exact ⟨e2, e3⟩
      · injection h1 with e1; cases e1
    subst hne
    obtain rfl : xs = [] := List.eq_nil_of_length_eq_zero h0.1
    obtain rfl := h0.2
    refine (AnyM.slices_Sort_string_none Tryd.laySort none 0 w).mono fun e w' ⟨he, hw⟩ => ⟨he, ⟨none, 0, rfl, Nat.le_refl _, fun h => absurd h (Nat.lt_irrefl _)⟩, by rw [hw]; exact Below.refl _ _⟩
  · rw [enc_map] at ho
    have hl0 : (xs.map fun s => s.data.toList).length = xs.length := by simp
    obtain ⟨g, c, hv, hbg, hgl, hncap, hcm, hlen, hH⟩ := Lib.holds_of_ownsRow ho (by intro h; injection h with e1; exact hne e1)
    cases hv
    have hsort : (sortL xs).length = xs.length := sortL_length xs
    have hC := AnyM.slices_Sort_string Tryd.laySort g 0 cp (xs.map fun s => s.data.toList) w hH hgl (by rw [hl0]; omega)
    rw [hl0] at hC
    refine hC.mono fun e w' ⟨he, n, os, hw⟩ => ⟨he, ⟨_, cp, rfl, hncap, fun h0 => ⟨g, 0, rfl, hbg, ?_, fun j u hj => ?_⟩⟩, ?_⟩
    · rw [hw, Go.Sort.size_grow, Go.Sort.size_putRow, Go.Sort.heap_ahead]; omega
    · have hH2 : Go.Sort.Holds encStr w' g 0 (sortL xs).toArray := by
        rw [hw]
        exact Go.Sort.holds_grow encStr _ os g 0 _ (by rw [Go.Sort.size_putRow]; exact hgl) (Go.Sort.holds_putRow encStr _ g 0 _ _ (Go.Sort.holds_ahead encStr w n g 0 _ hH) (by simp))
      have hj2 := (List.getElem?_eq_some_iff.1 hj).1
      rw [List.length_map, sortB_length] at hj2
      rw [holds_at hH2 j (by omega)]
      unfold sortB at hj
      rw [List.map_map, List.getElem?_map, List.getElem?_eq_getElem (by omega)] at hj
      rw [List.getD_eq_getElem?_getD, List.getElem?_eq_getElem (by omega)]
      exact hj
    · rw [hw]
      exact below_grow (Lib.below_putRow (Below.refl _ _) hbg) (by rw [Go.Sort.size_putRow]; exact hB) os
end Go.Proofs.YthfjofmfiklegaaDoor
/- Put: the plain mathematics. No Go text is named here. -/
namespace Go.Proofs.YthfjofmfiklegaaDoor
open Go.RowKit
theorem chks_ok {ks : List Tr} {deep : Nat} : ∀ {n : Nat}, (chks ks deep n).1 = 0 → ∀ t ∈ ks, ∃ n', (chk t deep n').1 = 0 := by
  induction ks with
  | nil => intro n _ t ht; simp at ht
  | cons a r ih =>
    intro n h t ht
    rw [chks] at h
    by_cases h0 : (chk a deep n).1 = 0
    · rw [if_pos h0] at h
      rcases List.mem_cons.1 ht with rfl | ht
      · exact ⟨n, h0⟩
      · exact ih h t ht
    · rw [if_neg h0] at h; exact absurd h h0
theorem chk_kids {k : Int} {x : Bool} {d : ByteArray} {ns : List ByteArray} {ks : List Tr} {deep n : Nat} (h : (chk (.mk k x d ns ks) deep n).1 = 0) : locErr k x d.size ns ks.length = 0 ∧ deep ≤ 64 ∧ ∀ t ∈ ks, ∃ n', (chk t (deep + 1) n').1 = 0 := by
  rw [chk] at h
  split at h
  · cases h
  split at h
  · rename_i h1 h2
    exact ⟨h2, by omega, chks_ok h⟩
  · rename_i h1 h2
    exact absurd h h2
theorem loc0 {k : Int} {x : Bool} {d nk : Nat} {ns : List ByteArray} (h : locErr k x d ns nk = 0) : (k = 1 ∧ ns.length = 0 ∧ nk = 0) ∨ (k = 3 ∧ x = false ∧ ns.length = 0 ∧ nk = 0) ∨ (k = 2 ∧ x = false ∧ d = 0 ∧ ns.length = nk ∧ okNames ns) := by
  unfold locErr at h
  split at h
  · split at h
    · cases h
    · left; rename_i h1 h2; exact ⟨h1, by omega, by omega⟩
  split at h
  · split at h
    · cases h
    · right; left; rename_i h1 h2; exact ⟨h1, by cases x <;> simp_all, by omega, by omega⟩
  split at h
  · split at h
    · cases h
    · split at h
      · right; right; rename_i h1 h2 h3; exact ⟨h1, by cases x <;> simp_all, by omega, by omega, h3⟩
      · cases h
  · cases h
theorem okNames_rise {ns : List ByteArray} (h : okNames ns) : Rise ns := by
  intro i j hij hj
  induction j with
  | zero => omega
  | succ j ih =>
    have h1 := h (j + 1) hj
    rw [okName_next hj, Bool.and_eq_true] at h1
    have h2 := of_decide_eq_true h1.2
    have e : ns[j + 1] = ns.getD (j + 1) ⟨#[]⟩ := by rw [List.getD_eq_getElem?_getD, List.getElem?_eq_getElem hj]; rfl
    rw [e] at h2
    rcases Nat.lt_or_ge i j with hi | hi
    · exact Ord.trans (ih hi (by omega)) h2
    · obtain rfl : i = j := by omega
      exact h2
theorem chk_nice (T : Tr) : ∀ {deep n : Nat}, (chk T deep n).1 = 0 → Nice T := by
  induction T using Tr.ind with
  | h k x d ns ks ih =>
    intro deep n h
    obtain ⟨h1, h2, h3⟩ := chk_kids h
    have hk : ∀ t ∈ ks, Nice t := fun t ht => by obtain ⟨n', hn'⟩ := h3 t ht; exact ih t ht hn'
    rcases loc0 h1 with ⟨_, h4, h5⟩ | ⟨_, _, h4, h5⟩ | ⟨_, _, _, h4, h5⟩
    · exact .mk _ _ _ _ _ (okNames_rise (okNames_nil h4)) (by omega) hk
    · exact .mk _ _ _ _ _ (okNames_rise (okNames_nil h4)) (by omega) hk
    · exact .mk _ _ _ _ _ (okNames_rise h5) h4 hk
/-- A place's names. -/
def placeL (s : ByteArray) : List ByteArray := if s.size = 0 then [] else partsB s
def isPl (s : ByteArray) : Bool := (placeL s).all entB
theorem size_zero {s : ByteArray} (h : s.size = 0) : s = ⟨#[]⟩ := by
  apply ByteArray.ext
  have : s.data.size = 0 := h
  exact Array.eq_empty_of_size_eq_zero this
theorem placeL_join (s : ByteArray) : joinB (placeL s) = s := by
  unfold placeL
  split
  · rename_i h; rw [size_zero h]; rfl
  · exact join_parts s
theorem isPl_yes {s : ByteArray} (h : ∃ l, IsPl s l) : isPl s = true := by
  obtain ⟨l, hl⟩ := h
  unfold isPl placeL
  split
  · rfl
  · rename_i h0
    rw [← isPl_parts hl h0]
    exact List.all_eq_true.2 hl.1
theorem isPl_no {s : ByteArray} (h : ∀ l, ¬ IsPl s l) : isPl s = false := by
  cases hp : isPl s with
  | false => rfl
  | true => exact absurd ⟨List.all_eq_true.1 hp, (placeL_join s).symm⟩ (h (placeL s))
theorem isPl_ent {s : ByteArray} (h : isPl s = true) : ∀ n ∈ placeL s, entB n = true := List.all_eq_true.1 h
theorem entB_le {s : ByteArray} (h : entB s = true) : s.size ≤ 100 := by
  unfold entB at h; exact (of_decide_eq_true h).2.1
theorem tenths_append (a b : List ByteArray) : tenths (a ++ b) = tenths a + tenths b := by
  induction a with
  | nil => simp [tenths]
  | cons x r ih => simp only [List.cons_append, tenths, ih]; omega
theorem wts_split (ks : List Tr) (i : Nat) : wts (ks.take i) + wts (ks.drop i) = wts ks := by rw [← wts_append, List.take_append_drop]
theorem tenths_split (ns : List ByteArray) (i : Nat) : tenths (ns.take i) + tenths (ns.drop i) = tenths ns := by rw [← tenths_append, List.take_append_drop]
theorem wt_empty : wt emptyDir = 1 := by unfold emptyDir; rw [wt]; simp only [tenths, wts, List.length_nil]; rfl
/-- What is laid is little more than both. -/
theorem laid_wt (l : List ByteArray) : ∀ {T X T' : Tr} {deep : Nat}, laidS T l X deep = .ok T' → (∀ n ∈ l, entB n = true) → Nice T → wt T' ≤ wt T + wt X + 12 * l.length ∧ deep + l.length ≤ 64 := by
  induction l with
  | nil =>
    intro T X T' deep h _ _
    cases T
    rw [laidS] at h
    split at h
    · cases h
    · cases h; simp only [List.length_nil]; omega
  | cons a r ih =>
    intro T X T' deep h hent hN
    cases hN with
    | mk k x d ns ks hr hl hk =>
    rw [laidS] at h
    split at h
    · cases h
    split at h
    · cases hq : laidS (kidAt ns ks a) r X (deep + 1) with
      | error e => rw [hq] at h; cases h
      | ok t =>
        rw [hq] at h
        cases h
        obtain ⟨h1, h2⟩ := ih hq (fun n hn => hent n (by simp [hn])) (kidAt_nice hk)
        have ha := entB_le (hent a (by simp))
        rw [wt, wt]
        simp only [tenths_append, wts_append, List.length_append, List.length_cons, List.length_nil, tenths, wts, List.length_take, List.length_drop]
        have hz : (⟨#[]⟩ : ByteArray).size = 0 := rfl
        rw [hz]
        have e1 := tenths_split ns (pos ns a)
        have e2 := wts_split ks (pos ns a)
        cases hh : has ns a with
        | false =>
          have en : nextAt ns a = pos ns a := by unfold nextAt; rw [hh]; rfl
          have ek : kidAt ns ks a = emptyDir := by unfold kidAt; rw [hh]; rfl
          rw [ek, wt_empty] at h1
          rw [en]
          omega
        | true =>
          have en : nextAt ns a = pos ns a + 1 := by unfold nextAt; rw [hh]; rfl
          have hlt := has_lt hh
          have hlk : pos ns a < ks.length := by omega
          have ek : kidAt ns ks a = ks[pos ns a] := by unfold kidAt; rw [hh, if_pos rfl, List.getD_eq_getElem?_getD, List.getElem?_eq_getElem hlk]; rfl
          rw [ek] at h1
          rw [en]
          have e3 := wts_take ks (pos ns a) hlk
          have e4 := wts_split ks (pos ns a + 1)
          have e5 := tenths_take ns (pos ns a) hlt
          have e6 := tenths_split ns (pos ns a + 1)
          omega
    · cases h
/-- Put, or why not. -/
noncomputable def putS (T : Tr) (s : ByteArray) (X : Tr) : Except Nat Tr :=
  if (chk T 1 0).1 ≠ 0 then .error (chk T 1 0).1 else if (chk X 1 0).1 ≠ 0 then .error (chk X 1 0).1 else if isPl s = false then .error 9 else
    match laidS T (placeL s) X 1 with
    | .error e => .error e
    | .ok W => if (chk W 1 0).1 ≠ 0 then .error (chk W 1 0).1 else .ok W
end Go.Proofs.YthfjofmfiklegaaDoor
/- A node stored into a box. -/
namespace Go.Proofs.YthfjofmfiklegaaDoor
open Go.RowKit
def set5 (w : World) (b : Nat) (v0 v1 v2 v3 v4 : Value) : World := ((((w.setCell ⟨b, 0, none⟩ v0).setCell ⟨b, 1, none⟩ v1).setCell ⟨b, 2, none⟩ v2).setCell ⟨b, 3, none⟩ v3).setCell ⟨b, 4, none⟩ v4
theorem set5_eq (w : World) (b : Nat) (v0 v1 v2 v3 v4 : Value) : ((((w.setCell ⟨b, 0, none⟩ v0).setCell ⟨b, 1, none⟩ v1).setCell ⟨b, 2, none⟩ v2).setCell ⟨b, 3, none⟩ v3).setCell ⟨b, 4, none⟩ v4 = set5 w b v0 v1 v2 v3 v4 := rfl
@[simp] theorem set5_size (w : World) (b : Nat) (v0 v1 v2 v3 v4 : Value) : (set5 w b v0 v1 v2 v3 v4).heap.size = w.heap.size := by simp [set5]
theorem set5_other (w : World) (b k : Nat) (v0 v1 v2 v3 v4 : Value) (h : k ≠ b) : (set5 w b v0 v1 v2 v3 v4).heap[k]? = w.heap[k]? := by
  unfold set5
  rw [set_other _ _ _ _ _ h, set_other _ _ _ _ _ h, set_other _ _ _ _ _ h, set_other _ _ _ _ _ h, set_other _ _ _ _ _ h]
theorem below_set5 {B : Nat} {a w : World} (h : Below B a w) {b : Nat} (hb : B ≤ b) (v0 v1 v2 v3 v4 : Value) : Below B a (set5 w b v0 v1 v2 v3 v4) := by
  unfold YthfjofmfiklegaaDoor.set5
  exact ((((h.setCell hb _).setCell hb _).setCell hb _).setCell hb _).setCell hb _
theorem Bx.set5 {w : World} {b : Nat} {u0 u1 u2 u3 u4 : Value} (h : Bx w b u0 u1 u2 u3 u4) (v0 v1 v2 v3 v4 : Value) : Bx (set5 w b v0 v1 v2 v3 v4) b v0 v1 v2 v3 v4 := by
  unfold Bx at h ⊢
  unfold YthfjofmfiklegaaDoor.set5
  have hl := (Array.getElem?_eq_some_iff.1 h).1
  simp [World.setCell, Array.getElem?_modify, h]
end Go.Proofs.YthfjofmfiklegaaDoor
/- slices.Concat of three. -/
namespace Go.Proofs.YthfjofmfiklegaaDoor
open Go.RowKit
theorem concat23_three (g lo hi : Nat) (a1 a2 a3 : Option Addr) (n1 c1 n2 c2 n3 c3 : Nat) (x1 x2 x3 : List Value) (w : World) (hg : g < w.heap.size) (hhi : hi ≤ w.heap.size)
    (z1 : w.cell? ⟨g, 0, none⟩ = some (.slice a1 n1 c1)) (z2 : w.cell? ⟨g, 1, none⟩ = some (.slice a2 n2 c2)) (z3 : w.cell? ⟨g, 2, none⟩ = some (.slice a3 n3 c3))
    (r1 : Row lo hi w (.slice a1 n1 c1) n1 x1) (r2 : Row lo hi w (.slice a2 n2 c2) n2 x2) (r3 : Row lo hi w (.slice a3 n3 c3) n3 x3)
    (l1 : x1.length = n1 * 1) (l2 : x2.length = n2 * 1) (l3 : x3.length = n3 * 1) (o1 : ∀ u ∈ x1, u.oneCell' = true) (o2 : ∀ u ∈ x2, u.oneCell' = true) (o3 : ∀ u ∈ x3, u.oneCell' = true) (hmax : n1 + n2 + n3 ≤ 1000000) :
    Calls Tryd.prog 58 #[.slice (some ⟨g, 0, none⟩) 3 3] w fun e w' => ∃ a c, e = .returned (.slice a (n1 + n2 + n3) c) ∧ w'.ownsRow w.heap.size 9 1 (.slice a (n1 + n2 + n3) c) (n1 + n2 + n3) (x1 ++ x2 ++ x3) ∧ Below w.heap.size w w' := by
  have h := concat23_any g 0 3 3 lo hi (fun i => [a1, a2, a3].getD i none) (fun i => [n1, n2, n3].getD i 0) (fun i => [c1, c2, c3].getD i 0) (fun i => [x1, x2, x3].getD i []) w (by omega) hg hhi
    (fun i hi => by match i, hi with
      | 0, _ => exact z1
      | 1, _ => exact z2
      | 2, _ => exact z3)
    (fun i hi => by match i, hi with
      | 0, _ => exact r1
      | 1, _ => exact r2
      | 2, _ => exact r3)
    (fun i hi => by match i, hi with
      | 0, _ => exact l1
      | 1, _ => exact l2
      | 2, _ => exact l3)
    (fun i hi => by match i, hi with
      | 0, _ => exact o1
      | 1, _ => exact o2
      | 2, _ => exact o3)
    (fun i hi => by match i, hi with
      | 0, _ => show 0 ≤ _; omega
      | 1, _ => show 0 + n1 ≤ _; omega
      | 2, _ => show 0 + n1 + n2 ≤ _; omega
      | 3, _ => show 0 + n1 + n2 + n3 ≤ _; omega)
  have e1 : catN (fun i => [n1, n2, n3].getD i 0) 3 = n1 + n2 + n3 := by show 0 + n1 + n2 + n3 = _; omega
  have e2 : catX (fun i => [x1, x2, x3].getD i []) 3 = x1 ++ x2 ++ x3 := by show [] ++ x1 ++ x2 ++ x3 = _; simp
  rw [e1, e2] at h
  exact h
theorem concat24_three (g lo hi : Nat) (a1 a2 a3 : Option Addr) (n1 c1 n2 c2 n3 c3 : Nat) (x1 x2 x3 : List Value) (w : World) (hg : g < w.heap.size) (hhi : hi ≤ w.heap.size)
    (z1 : w.cell? ⟨g, 0, none⟩ = some (.slice a1 n1 c1)) (z2 : w.cell? ⟨g, 1, none⟩ = some (.slice a2 n2 c2)) (z3 : w.cell? ⟨g, 2, none⟩ = some (.slice a3 n3 c3))
    (r1 : Row lo hi w (.slice a1 n1 c1) n1 x1) (r2 : Row lo hi w (.slice a2 n2 c2) n2 x2) (r3 : Row lo hi w (.slice a3 n3 c3) n3 x3)
    (l1 : x1.length = n1 * 5) (l2 : x2.length = n2 * 5) (l3 : x3.length = n3 * 5) (o1 : ∀ u ∈ x1, u.oneCell' = true) (o2 : ∀ u ∈ x2, u.oneCell' = true) (o3 : ∀ u ∈ x3, u.oneCell' = true) (hmax : n1 + n2 + n3 ≤ 1000000) :
    Calls Tryd.prog 59 #[.slice (some ⟨g, 0, none⟩) 3 3] w fun e w' => ∃ a c, e = .returned (.slice a (n1 + n2 + n3) c) ∧ w'.ownsRow w.heap.size 26 5 (.slice a (n1 + n2 + n3) c) (n1 + n2 + n3) (x1 ++ x2 ++ x3) ∧ Below w.heap.size w w' := by
  have h := concat24_any g 0 3 3 lo hi (fun i => [a1, a2, a3].getD i none) (fun i => [n1, n2, n3].getD i 0) (fun i => [c1, c2, c3].getD i 0) (fun i => [x1, x2, x3].getD i []) w (by omega) hg hhi
    (fun i hi => by match i, hi with
      | 0, _ => exact z1
      | 1, _ => exact z2
      | 2, _ => exact z3)
    (fun i hi => by match i, hi with
      | 0, _ => exact r1
      | 1, _ => exact r2
      | 2, _ => exact r3)
    (fun i hi => by match i, hi with
      | 0, _ => exact l1
      | 1, _ => exact l2
      | 2, _ => exact l3)
    (fun i hi => by match i, hi with
      | 0, _ => exact o1
      | 1, _ => exact o2
      | 2, _ => exact o3)
    (fun i hi => by match i, hi with
      | 0, _ => show 0 ≤ _; omega
      | 1, _ => show 0 + n1 ≤ _; omega
      | 2, _ => show 0 + n1 + n2 ≤ _; omega
      | 3, _ => show 0 + n1 + n2 + n3 ≤ _; omega)
  have e1 : catN (fun i => [n1, n2, n3].getD i 0) 3 = n1 + n2 + n3 := by show 0 + n1 + n2 + n3 = _; omega
  have e2 : catX (fun i => [x1, x2, x3].getD i []) 3 = x1 ++ x2 ++ x3 := by show [] ++ x1 ++ x2 ++ x3 = _; simp
  rw [e1, e2] at h
  exact h
end Go.Proofs.YthfjofmfiklegaaDoor
/- slices.Concat of three, one of them new. -/
namespace Go.Proofs.YthfjofmfiklegaaDoor
open Go.RowKit
theorem concat23_set (lo hi B : Nat) (a1 a3 : Option Addr) (n1 c1 n3 c3 : Nat) (x1 x3 : List Value) (nm : ByteArray) (w : World) (hB : w.heap.size = B) (hhi : hi ≤ B)
    (r1 : Row lo hi w (.slice a1 n1 c1) n1 x1) (r3 : Row lo hi w (.slice a3 n3 c3) n3 x3)
    (l1 : x1.length = n1 * 1) (l3 : x3.length = n3 * 1) (o1 : ∀ u ∈ x1, u.oneCell' = true) (o3 : ∀ u ∈ x3, u.oneCell' = true) (hmax : n1 + 1 + n3 ≤ 1000000) :
    Calls Tryd.prog 58 #[.slice (some ⟨B + 1, 0, none⟩) 3 3] ((w.alloc (.cells #[.string nm] 9)).alloc (.cells #[.slice a1 n1 c1, .slice (some ⟨B, 0, none⟩) 1 1, .slice a3 n3 c3] 23)).drew fun e w' => ∃ a c, e = .returned (.slice a (n1 + 1 + n3) c) ∧ w'.ownsRow (B + 1 + 1) 9 1 (.slice a (n1 + 1 + n3) c) (n1 + 1 + n3) (x1 ++ [.string nm] ++ x3) ∧ Below B w w' := by
  subst hB
  have hbw : Below w.heap.size w ((w.alloc (.cells #[.string nm] 9)).alloc (.cells #[.slice a1 n1 c1, .slice (some ⟨w.heap.size, 0, none⟩) 1 1, .slice a3 n3 c3] 23)).drew := (((Below.refl _ _).alloc (Nat.le_refl _) _).alloc (by simp) _).drew
  have hh : ((w.alloc (.cells #[.string nm] 9)).alloc (.cells #[.slice a1 n1 c1, .slice (some ⟨w.heap.size, 0, none⟩) 1 1, .slice a3 n3 c3] 23)).drew.heap[w.heap.size + 1]? = some (.cells #[.slice a1 n1 c1, .slice (some ⟨w.heap.size, 0, none⟩) 1 1, .slice a3 n3 c3] 23) := by
    show ((w.heap.push _).push _)[w.heap.size + 1]? = _
    rw [Array.getElem?_push, if_pos (by simp)]
  have hm : ((w.alloc (.cells #[.string nm] 9)).alloc (.cells #[.slice a1 n1 c1, .slice (some ⟨w.heap.size, 0, none⟩) 1 1, .slice a3 n3 c3] 23)).drew.heap[w.heap.size]? = some (.cells #[.string nm] 9) := by
    show ((w.heap.push _).push _)[w.heap.size]? = _
    rw [Array.getElem?_push, if_neg (by simp), Array.getElem?_push, if_pos rfl]
  have hz : ((w.alloc (.cells #[.string nm] 9)).alloc (.cells #[.slice a1 n1 c1, .slice (some ⟨w.heap.size, 0, none⟩) 1 1, .slice a3 n3 c3] 23)).drew.heap.size = w.heap.size + 1 + 1 := by simp
  have h := concat23_three (w.heap.size + 1) 0 (w.heap.size + 1 + 1) a1 (some ⟨w.heap.size, 0, none⟩) a3 n1 c1 1 1 n3 c3 x1 [.string nm] x3 _ (by rw [hz]; omega) (by rw [hz]; omega)
    (by rw [cell_of_row _ _ _ _ _ _ hh]; rfl) (by rw [cell_of_row _ _ _ _ _ _ hh]; rfl) (by rw [cell_of_row _ _ _ _ _ _ hh]; rfl)
    ((r1.below hbw hhi).mono (Nat.zero_le _) (by omega)) ⟨_, _, rfl, Nat.le_refl _, fun _ => ⟨w.heap.size, 0, rfl, Nat.zero_le _, by omega, fun j u hj => by rw [cell_of_row _ _ _ _ _ _ hm, Nat.zero_add]; rw [← Array.getElem?_toList]; exact hj⟩⟩ ((r3.below hbw hhi).mono (Nat.zero_le _) (by omega))
    l1 rfl l3 o1 (by simp [Value.oneCell']) o3 hmax
  rw [hz] at h
  exact h.mono (fun e w' ⟨a, c, h1, h2, h3⟩ => ⟨a, c, h1, h2, hbw.trans (h3.mono (by omega))⟩)
theorem concat24_set (lo hi B : Nat) (a1 a3 : Option Addr) (n1 c1 n3 c3 : Nat) (x1 x3 : List Value) (j0 : Int) (j1 : Bool) (f1 f2 f3 : Option Addr) (g1 h1 g2 h2 g3 h3 : Nat) (w : World) (hB : w.heap.size = B) (hhi : hi ≤ B)
    (r1 : Row lo hi w (.slice a1 n1 c1) n1 x1) (r3 : Row lo hi w (.slice a3 n3 c3) n3 x3)
    (l1 : x1.length = n1 * 5) (l3 : x3.length = n3 * 5) (o1 : ∀ u ∈ x1, u.oneCell' = true) (o3 : ∀ u ∈ x3, u.oneCell' = true) (hmax : n1 + 1 + n3 ≤ 1000000) :
    Calls Tryd.prog 59 #[.slice (some ⟨B + 1, 0, none⟩) 3 3] ((w.alloc (.cells #[.int .i64 j0, .bool j1, .slice f1 g1 h1, .slice f2 g2 h2, .slice f3 g3 h3] 26)).alloc (.cells #[.slice a1 n1 c1, .slice (some ⟨B, 0, none⟩) 1 1, .slice a3 n3 c3] 24)).drew fun e w' => ∃ a c, e = .returned (.slice a (n1 + 1 + n3) c) ∧ w'.ownsRow (B + 1 + 1) 26 5 (.slice a (n1 + 1 + n3) c) (n1 + 1 + n3) (x1 ++ [.int .i64 j0, .bool j1, .slice f1 g1 h1, .slice f2 g2 h2, .slice f3 g3 h3] ++ x3) ∧ Below B w w' := by
  subst hB
  have hbw : Below w.heap.size w ((w.alloc (.cells #[.int .i64 j0, .bool j1, .slice f1 g1 h1, .slice f2 g2 h2, .slice f3 g3 h3] 26)).alloc (.cells #[.slice a1 n1 c1, .slice (some ⟨w.heap.size, 0, none⟩) 1 1, .slice a3 n3 c3] 24)).drew := (((Below.refl _ _).alloc (Nat.le_refl _) _).alloc (by simp) _).drew
  have hh : ((w.alloc (.cells #[.int .i64 j0, .bool j1, .slice f1 g1 h1, .slice f2 g2 h2, .slice f3 g3 h3] 26)).alloc (.cells #[.slice a1 n1 c1, .slice (some ⟨w.heap.size, 0, none⟩) 1 1, .slice a3 n3 c3] 24)).drew.heap[w.heap.size + 1]? = some (.cells #[.slice a1 n1 c1, .slice (some ⟨w.heap.size, 0, none⟩) 1 1, .slice a3 n3 c3] 24) := by
    show ((w.heap.push _).push _)[w.heap.size + 1]? = _
    rw [Array.getElem?_push, if_pos (by simp)]
  have hm : ((w.alloc (.cells #[.int .i64 j0, .bool j1, .slice f1 g1 h1, .slice f2 g2 h2, .slice f3 g3 h3] 26)).alloc (.cells #[.slice a1 n1 c1, .slice (some ⟨w.heap.size, 0, none⟩) 1 1, .slice a3 n3 c3] 24)).drew.heap[w.heap.size]? = some (.cells #[.int .i64 j0, .bool j1, .slice f1 g1 h1, .slice f2 g2 h2, .slice f3 g3 h3] 26) := by
    show ((w.heap.push _).push _)[w.heap.size]? = _
    rw [Array.getElem?_push, if_neg (by simp), Array.getElem?_push, if_pos rfl]
  have hz : ((w.alloc (.cells #[.int .i64 j0, .bool j1, .slice f1 g1 h1, .slice f2 g2 h2, .slice f3 g3 h3] 26)).alloc (.cells #[.slice a1 n1 c1, .slice (some ⟨w.heap.size, 0, none⟩) 1 1, .slice a3 n3 c3] 24)).drew.heap.size = w.heap.size + 1 + 1 := by simp
  have h := concat24_three (w.heap.size + 1) 0 (w.heap.size + 1 + 1) a1 (some ⟨w.heap.size, 0, none⟩) a3 n1 c1 1 1 n3 c3 x1 [.int .i64 j0, .bool j1, .slice f1 g1 h1, .slice f2 g2 h2, .slice f3 g3 h3] x3 _ (by rw [hz]; omega) (by rw [hz]; omega)
    (by rw [cell_of_row _ _ _ _ _ _ hh]; rfl) (by rw [cell_of_row _ _ _ _ _ _ hh]; rfl) (by rw [cell_of_row _ _ _ _ _ _ hh]; rfl)
    ((r1.below hbw hhi).mono (Nat.zero_le _) (by omega)) ⟨_, _, rfl, Nat.le_refl _, fun _ => ⟨w.heap.size, 0, rfl, Nat.zero_le _, by omega, fun j u hj => by rw [cell_of_row _ _ _ _ _ _ hm, Nat.zero_add]; rw [← Array.getElem?_toList]; exact hj⟩⟩ ((r3.below hbw hhi).mono (Nat.zero_le _) (by omega))
    l1 rfl l3 o1 (by simp [Value.oneCell']) o3 hmax
  rw [hz] at h
  exact h.mono (fun e w' ⟨a, c, h1, h2, h3⟩ => ⟨a, c, h1, h2, hbw.trans (h3.mono (by omega))⟩)
end Go.Proofs.YthfjofmfiklegaaDoor
