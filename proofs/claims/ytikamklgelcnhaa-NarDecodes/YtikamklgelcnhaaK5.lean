import Derived.Test.YtikamklgelcnhaaK4
import Derived.Deep.RegionLaw
/- A tree of the document's reader under way. -/
namespace Go.Proofs.Ytikamklgelcnhaa
open Go.RowKit
set_option linter.unusedSimpArgs false
/-- A tree under way: so many names, so many kids yet. -/
structure Ql (Z : Nat) (w : World) (vn vk : Value) (ns : List ByteArray) (ks : List Tr) (p q : Nat) : Prop where
  names : w.ownsRow Z 9 1 vn p ((ns.take p).map .string)
  kids : ∃ (Ks : List (List Value)) (L H : Nat → Nat), Ks.length = q ∧ (∀ c ∈ Ks, c.length = 5) ∧ w.ownsRow Z 26 5 vk q Ks.flatten ∧
    (∀ (j : Nat) (t : Tr) (c : List Value), ks[j]? = some t → Ks[j]? = some c → Lies (L j) (H j) w t c ∧ Z ≤ L j ∧ H j ≤ w.heap.size ∧ ∀ g, (vn.ownBlock = some g ∨ vk.ownBlock = some g) → g < L j ∨ H j ≤ g)
  ne : ∀ g, vk.ownBlock = some g → vn.ownBlock ≠ some g
theorem Ql.same {Z : Nat} {w w' : World} {vn vk : Value} {ns : List ByteArray} {ks : List Tr} {p q : Nat} (h : Ql Z w vn vk ns ks p q) (hs : ∀ k, Z ≤ k → k < w.heap.size → w'.heap[k]? = w.heap[k]?) (hz : w.heap.size ≤ w'.heap.size) : Ql Z w' vn vk ns ks p q := by
  obtain ⟨hn, ⟨Ks, L, H, hKl, hK5, ho, hK⟩, hne⟩ := h
  refine ⟨owns_same hn (fun g hg => hs g (owns_lt hn g hg).1 (owns_lt hn g hg).2) (fun _ _ h => h), ⟨Ks, L, H, hKl, hK5, owns_same ho (fun g hg => hs g (owns_lt ho g hg).1 (owns_lt ho g hg).2) (fun _ _ h => h), fun j t c hj hc => ?_⟩, hne⟩
  obtain ⟨h1, h2, h3, h4⟩ := hK j t c hj hc
  exact ⟨h1.same (fun k hk1 hk2 => hs k (by omega) (by omega)), h2, by omega, h4⟩
/-- More is to come. -/
theorem Ql.ext {Z : Nat} {w : World} {vn vk : Value} {ns : List ByteArray} {ks : List Tr} (h : Ql Z w vn vk ns ks ns.length ks.length) (ns' : List ByteArray) (ks' : List Tr) : Ql Z w vn vk (ns ++ ns') (ks ++ ks') ns.length ks.length := by
  obtain ⟨hn, ⟨Ks, L, H, hKl, hK5, ho, hK⟩, hne⟩ := h
  refine ⟨?_, ⟨Ks, L, H, hKl, hK5, ho, fun j t c hj hc => hK j t c ?_ hc⟩, hne⟩
  · rw [List.take_left]; rwa [List.take_length] at hn
  · have := (List.getElem?_eq_some_iff.1 hc).1
    rwa [List.getElem?_append_left (by omega)] at hj
theorem ql_nil (Z : Nat) (w : World) : Ql Z w (.slice none 0 0) (.slice none 0 0) [] [] 0 0 :=
  ⟨World.ownsRow_nil _ _ _ _, ⟨[], fun _ => 0, fun _ => 0, rfl, fun c hc => by simp at hc, World.ownsRow_nil _ _ _ _, fun j t c _ hc => by simp at hc⟩, fun g hg => by simp [Value.ownBlock] at hg⟩
/-- One more name. -/
theorem ql_name {r Z : Nat} {wr w1 : World} {vn vk : Value} {ns : List ByteArray} {ks : List Tr} {p q : Nat} (s : ByteArray) (h : Ql Z wr vn vk ns ks p q) (hb : Sole r wr w1) (hr : r < Z) (hs : ns[p]? = some s) (hmax : p ≤ 1000000) (hZ : Z ≤ wr.heap.size) :
    ∃ a' c' w2, (∀ ty, (app23 ty #[vn, .slice (some ⟨w1.heap.size, 0, none⟩) 1 1]).run Try.prog (w1.alloc (.cells #[.string s] 9)) = .ok (.slice a' (p + 1) c') w2) ∧ Ql Z w2 (.slice a' (p + 1) c') vk ns ks (p + 1) q ∧ Below Z w1 w2 ∧ w1.heap.size ≤ w2.heap.size ∧ (∀ k, k < w1.heap.size → vn.ownBlock ≠ some k → w2.heap[k]? = w1.heap[k]?) ∧ (∀ g, (Value.slice a' (p + 1) c').ownBlock = some g → vn.ownBlock = some g ∨ w1.heap.size ≤ g) := by
  have h1 := h.same (w' := w1.alloc (.cells #[.string s] 9)) (fun k hzk hk => by rw [Below.heap_alloc _ _ _ (by have := hb.size; omega), hb.block k hk (by omega)]) (by have := hb.size; simp; omega)
  obtain ⟨hn, ⟨Ks, L, H, hKl, hK5, ho, hK⟩, hne⟩ := h1
  have hsz := hb.size
  obtain ⟨v', w2, happ, ho2, hg, hf⟩ := app23_own _ Z _ _ vn p _ _ 1 1 [.string s] hn (one_row w1 [.string s] 9) rfl (fun u hu => by simp at hu; subst hu; rfl) (by omega) (by simp; omega)
  obtain ⟨a', c', rfl, _⟩ := owns_slice ho2
  have hs1 : (w1.alloc (.cells #[.string s] 9)).heap.size = w1.heap.size + 1 := by simp
  have hs2 := hg.size
  rw [hs1] at hs2 hf
  have hb0 : Below Z w1 (w1.alloc (.cells #[.string s] 9)) := (Below.refl Z w1).alloc (by omega) _
  refine ⟨a', c', w2, happ, ⟨?_, ⟨Ks, L, H, hKl, hK5, owns_same ho (fun g hgk => hg.block g (owns_lt ho g hgk).2 (fun e => hne g hgk e.symm)) (fun _ _ h => h), fun j t c hj hc => ?_⟩, ?_⟩, hb0.grown hg (by omega) (fun k hk => (owns_lt hn k hk).1), by omega, fun k hk hne => by rw [hg.block k (by rw [hs1]; omega) (fun e => hne e.symm)]; exact Below.heap_alloc _ _ _ hk, fun g hgv => by
    rcases hf with e | e
    · exact .inl (by rw [← e]; exact hgv)
    · rw [e] at hgv; simp at hgv; exact .inr (by omega)⟩
  · rw [List.take_add_one, hs]
    simpa using ho2
  · obtain ⟨q1, q2, q3, q4⟩ := hK j t c hj hc
    rw [hs1] at q3
    refine ⟨q1.same (fun k hk1 hk2 => hg.block k (by rw [hs1]; omega) (fun e => by have := q4 k (.inl e.symm); omega)), q2, by omega, fun g hgv => ?_⟩
    rcases hgv with hgv | hgv
    · rcases hf with e | e
      · exact q4 g (.inl (by rw [← e]; exact hgv))
      · rw [e] at hgv; simp at hgv; omega
    · exact q4 g (.inr hgv)
  · intro g hgk e
    rcases hf with e2 | e2
    · exact hne g hgk (by rw [← e2]; exact e)
    · rw [e2] at e
      have := (owns_lt ho g hgk).2
      simp at e
      omega
/-- One more kid. -/
theorem ql_kid {Z l h : Nat} {w1 : World} {vn vk : Value} {ns : List ByteArray} {ks : List Tr} {p q : Nat} {cs : List Value} {t : Tr} (hq : Ql Z w1 vn vk ns ks p q) (hL : Lies l h w1 t cs) (hl : Z ≤ l) (hh : h ≤ w1.heap.size) (hdj : ∀ g, (vn.ownBlock = some g ∨ vk.ownBlock = some g) → g < l ∨ h ≤ g) (ht : ks[q]? = some t) (hmax : q ≤ 1000000) (hZ : Z ≤ w1.heap.size) :
    ∃ a' c' w2, (∀ ty, (app24 ty #[vk, .slice (some ⟨w1.heap.size, 0, none⟩) 1 1]).run Try.prog (w1.alloc (.cells cs.toArray 26)) = .ok (.slice a' (q + 1) c') w2) ∧ Ql Z w2 vn (.slice a' (q + 1) c') ns ks p (q + 1) ∧ Below Z w1 w2 ∧ w1.heap.size ≤ w2.heap.size := by
  have hs1 : (w1.alloc (.cells cs.toArray 26)).heap.size = w1.heap.size + 1 := by simp
  have hsame : ∀ k, k < w1.heap.size → (w1.alloc (.cells cs.toArray 26)).heap[k]? = w1.heap[k]? := fun k hk => Below.heap_alloc _ _ _ hk
  obtain ⟨hn0, ⟨Ks, L, H, hKl, hK5, ho0, hK⟩, hne⟩ := hq
  have hn := owns_same (base' := Z) hn0 (fun g hg => hsame g (owns_lt hn0 g hg).2) (fun _ _ h => h)
  have ho := owns_same (base' := Z) ho0 (fun g hg => hsame g (owns_lt ho0 g hg).2) (fun _ _ h => h)
  obtain ⟨v', w2, happ, ho2, hg, hf⟩ := app24_own _ Z _ _ vk q _ _ 1 1 cs ho (one_row w1 cs 26) (by rw [hL.length]) hL.one (by omega) (by simp; omega)
  obtain ⟨a', c', rfl, _⟩ := owns_slice ho2
  have hs2 := hg.size
  rw [hs1] at hs2 hf
  have hb0 : Below Z w1 (w1.alloc (.cells cs.toArray 26)) := (Below.refl Z w1).alloc (by omega) _
  refine ⟨a', c', w2, happ, ⟨?_, ⟨Ks ++ [cs], fun j => if j < q then L j else l, fun j => if j < q then H j else h, ?_, ?_, ?_, fun j t' c hj hc => ?_⟩, ?_⟩, hb0.grown hg (by omega) (fun k hk => (owns_lt ho k hk).1), by omega⟩
  · exact owns_same hn (fun g hgn => hg.block g (by have := (owns_lt hn0 g hgn).2; omega) (fun e => hne g e.symm hgn)) (fun _ _ h => h)
  · rw [List.length_append, hKl]; rfl
  · intro c hc
    rcases List.mem_append.1 hc with h | h
    · exact hK5 c h
    · simp at h; subst h; exact hL.length
  · rw [List.flatten_append]; simpa using ho2
  · by_cases hji : j < q
    · rw [List.getElem?_append_left (by omega)] at hc
      obtain ⟨q1, q2, q3, q4⟩ := hK j t' c hj hc
      simp only [if_pos hji]
      refine ⟨q1.same (fun k hk1 hk2 => ?_), q2, by omega, fun g hgv => ?_⟩
      · rw [hg.block k (by rw [hs1]; omega) (fun e => by have := q4 k (.inr e.symm); omega), hsame k (by omega)]
      · rcases hgv with hgv | hgv
        · exact q4 g (.inl hgv)
        · rcases hf with e | e
          · exact q4 g (.inr (by rw [← e]; exact hgv))
          · rw [e] at hgv; simp at hgv; omega
    · obtain rfl : j = q := by
        have := (List.getElem?_eq_some_iff.1 hc).1
        simp at this; omega
      rw [ht] at hj
      cases hj
      rw [List.getElem?_append_right (by omega), hKl] at hc
      simp at hc
      subst hc
      simp only [if_neg (Nat.lt_irrefl j)]
      refine ⟨hL.same (fun k hk1 hk2 => ?_), hl, by omega, fun g hgv => ?_⟩
      · rw [hg.block k (by rw [hs1]; omega) (fun e => by have := hdj k (.inr e.symm); omega), hsame k (by omega)]
      · rcases hgv with hgv | hgv
        · exact hdj g (.inl hgv)
        · rcases hf with e | e
          · exact hdj g (.inr (by rw [← e]; exact hgv))
          · rw [e] at hgv; simp at hgv; omega
  · intro g hgk e
    rcases hf with e2 | e2
    · exact hne g (by rw [← e2]; exact hgk) e
    · rw [e2] at hgk
      have := (owns_lt hn0 g e).2
      simp at hgk
      omega
/-- The tree is whole. -/
theorem ql_end {Z : Nat} {w : World} {k : Int} {x : Bool} {d : ByteArray} {ns : List ByteArray} {ks : List Tr} {vd vn vk : Value} (h : Ql Z w vn vk ns ks ns.length ks.length) (hd : Row Z w.heap.size w vd d.size (byteVals d)) : Lies Z w.heap.size w (.mk k x d ns ks) [.int .i64 k, .bool x, vd, vn, vk] := by
  obtain ⟨hn, ⟨Ks, L, H, hKl, hK5, ho, hK⟩, hne⟩ := h
  rw [List.take_length] at hn
  refine .mk k x d ns ks vd vn vk Ks hKl hd (owns_row hn (owns_lt hn)) (owns_row ho (owns_lt ho)) (fun i t c h1 h2 => ?_)
  obtain ⟨q1, q2, q3, _⟩ := hK i t c h1 h2
  exact q1.mono q2 q3
/-- What the document's node answers. -/
def QnA (lo hi r : Nat) (B : List UInt8) (w : World) (τ : RS) (T : Tr) (x : Ending) (w' : World) : Prop :=
  ∃ cs : List Value, x = .returned (.agg cs.toArray) ∧ Sole r w w' ∧ Qst lo hi r B w' τ ∧ Lies w.heap.size w'.heap.size w' T cs
/-- Where it stands. -/
structure QnW (lo hi r gt : Nat) (B : List UInt8) (w W : World) (τ : RS) (k : Int) (x : Bool) (vd vn vk : Value) : Prop where
  sole : Sole r w W
  rst : Qst lo hi r B W τ
  br : Bx W w.heap.size (.int .i64 0) (.bool false) (.slice none 0 0) (.slice none 0 0) (.slice none 0 0)
  bt : Bx W gt (.int .i64 k) (.bool x) vd vn vk
  sz : gt < W.heap.size
  gt : w.heap.size < gt
  lt : r < w.heap.size
  hh : hi ≤ w.heap.size
theorem QnW.call {lo hi r gt : Nat} {B : List UInt8} {w W W1 : World} {τ τ' : RS} {k : Int} {x : Bool} {vd vn vk : Value} (h : QnW lo hi r gt B w W τ k x vd vn vk) (hs : Sole r W W1) (hR : Qst lo hi r B W1 τ') : QnW lo hi r gt B w W1 τ' k x vd vn vk := by
  obtain ⟨h1, h2, h3, h4, h5, h6, h7, h8⟩ := h
  have hz := hs.size
  exact ⟨h1.trans hs, hR, h3.sole hs (by omega), h4.sole hs (by omega), by omega, h6, h7, h8⟩
/-- A field of its own box is laid anew. -/
theorem QnW.own {lo hi r gt : Nat} {B : List UInt8} {w W W1 : World} {τ : RS} {k k' : Int} {x x' : Bool} {vd vn vk vd' vn' vk' : Value} (h : QnW lo hi r gt B w W τ k x vd vn vk) (hb : Below (gt + 1) W W1) (o : Nat) (v : Value) (hx : ∀ W2, Bx W2 gt (.int .i64 k) (.bool x) vd vn vk → Bx (W2.setCell ⟨gt, o, none⟩ v) gt (.int .i64 k') (.bool x') vd' vn' vk') : QnW lo hi r gt B w (W1.setCell ⟨gt, o, none⟩ v) τ k' x' vd' vn' vk' := by
  obtain ⟨h1, h2, h3, h4, h5, h6, h7, h8⟩ := h
  have hz := hb.size
  have hb2 : Below gt W (W1.setCell ⟨gt, o, none⟩ v) := (hb.mono (show gt ≤ gt + 1 by omega)).setCell (Nat.le_refl gt) v
  refine ⟨⟨hb2.os.trans h1.os, hb2.tape.trans h1.tape, hb2.output.trans h1.output, by have := h1.size; simp; omega, fun i hi hg => (hb2.block i (by omega)).trans (h1.block i hi hg)⟩, h2.kept hb2 (by omega) (by omega), h3.kept hb2 h6, hx _ (h4.kept hb (by omega)), by simp; omega, h6, h7, h8⟩
/-- The end of a node. -/
theorem QnW.end {lo hi r gt : Nat} {B : List UInt8} {w W : World} {τ : RS} {k : Int} {x : Bool} {vd vn vk : Value} {T : Tr} (h : QnW lo hi r gt B w W τ k x vd vn vk) (hL : Lies (gt + 1) W.heap.size W T [.int .i64 k, .bool x, vd, vn, vk]) : QnA lo hi r B w τ T (.returned (.agg #[.int .i64 k, .bool x, vd, vn, vk])) (set5 W w.heap.size (.int .i64 k) (.bool x) vd vn vk) := by
  obtain ⟨h1, h2, h3, h4, h5, h6, h7, h8⟩ := h
  have hbz : Below w.heap.size W (set5 W w.heap.size (.int .i64 k) (.bool x) vd vn vk) := below_set5 (Below.refl _ _) (Nat.le_refl _) _ _ _ _ _
  refine ⟨_, rfl, sole_set5 h1 (Nat.le_refl _) _ _ _ _ _, h2.kept hbz h7 h8, ?_⟩
  rw [set5_size]
  exact (hL.same (fun k hk _ => set5_other _ _ _ _ _ _ _ _ (by omega))).mono (by omega) (Nat.le_refl _)
theorem leaf_lies {Z : Nat} {w : World} {k : Int} {x : Bool} {d : ByteArray} {vd : Value} (hd : Row Z w.heap.size w vd d.size (byteVals d)) : Lies Z w.heap.size w (.mk k x d [] []) [.int .i64 k, .bool x, vd, .slice none 0 0, .slice none 0 0] :=
  ql_end (ns := []) (ks := []) (ql_nil Z w) hd
theorem row_none (Z H : Nat) (w : World) : Row Z H w (.slice none 0 0) (⟨#[]⟩ : ByteArray).size (byteVals ⟨#[]⟩) := ⟨none, 0, rfl, Nat.le_refl _, fun h => absurd h (by decide)⟩
end Go.Proofs.Ytikamklgelcnhaa
/- The reader's node, from its dir. -/
namespace Go.Proofs.Ytikamklgelcnhaa
open Go.RowKit
set_option linter.unusedSimpArgs false
/-- What node and dir answer. -/
def NdA (lo hi r : Nat) (b : Value) (B : List UInt8) (w : World) (τ : RS) (T : Tr) (x : Ending) (w' : World) : Prop :=
  ∃ cs : List Value, x = .returned (.agg cs.toArray) ∧ Sole r w w' ∧ Rst lo hi r b B w' τ ∧ Rdn (fun v d => Tv lo hi b v B d) w' w.heap.size w'.heap.size T cs
theorem LfA.node {lo hi r : Nat} {b : Value} {B : List UInt8} {w : World} {τ : RS} {k : Int} {x : Bool} {d : ByteArray} {e : Ending} {w' : World} (h : LfA lo hi r b B w τ k x d e w') : NdA lo hi r b B w τ (.mk k x d [] []) e w' := by
  obtain ⟨a, c, rfl, h1, h2, h3⟩ := h
  exact ⟨_, rfl, h1, h2, (rl_end (rl_nil _ w.heap.size w') h3)⟩
/-- A node that was answered is stored and answered. -/
theorem NdA.store {lo hi r : Nat} {b : Value} {B : List UInt8} {w W w' : World} {τ : RS} {T : Tr} {v0 v1 v2 v3 v4 : Value} (h : NdA lo hi r b B W τ T (.returned (.agg #[v0, v1, v2, v3, v4])) w') (hs : Sole r w W) (hz : w.heap.size + 1 ≤ W.heap.size) (hr : r < w.heap.size) (hhi : hi ≤ w.heap.size) : NdA lo hi r b B w τ T (.returned (.agg #[v0, v1, v2, v3, v4])) (set5 w' w.heap.size v0 v1 v2 v3 v4) := by
  obtain ⟨cs, he, h1, h2, h3⟩ := h
  have hbz : Below w.heap.size w' (set5 w' w.heap.size v0 v1 v2 v3 v4) := below_set5 (Below.refl _ _) (Nat.le_refl _) _ _ _ _ _
  refine ⟨cs, he, sole_set5 (hs.trans h1) (Nat.le_refl _) _ _ _ _ _, h2.kept hbz hr hhi, ?_⟩
  refine Rdn.mono (h3.same (fun k hk _ => set5_other _ _ _ _ _ _ _ _ (by omega))) (by omega) (by simp)
theorem NdA.form {lo hi r : Nat} {b : Value} {B : List UInt8} {w : World} {τ : RS} {T : Tr} {x : Ending} {w' : World} (h : NdA lo hi r b B w τ T x w') : ∃ k y a1 n1 c1 a2 n2 c2 a3 n3 c3, x = .returned (.agg #[.int .i64 k, .bool y, .slice a1 n1 c1, .slice a2 n2 c2, .slice a3 n3 c3]) := by
  obtain ⟨cs, rfl, h1, h2, h3⟩ := h
  obtain ⟨k, x, a1, n1, c1, a2, n2, c2, a3, n3, c3, rfl⟩ := h3.form
  exact ⟨k, x, a1, n1, c1, a2, n2, c2, a3, n3, c3, rfl⟩
theorem tl_reg : bReg.toList = [114, 101, 103, 117, 108, 97, 114] := by rw [ByteArray.toList_eq]; rfl
theorem tl_sym : bSym.toList = [115, 121, 109, 108, 105, 110, 107] := by rw [ByteArray.toList_eq]; rfl
theorem tl_dir : bDir.toList = [100, 105, 114, 101, 99, 116, 111, 114, 121] := by rw [ByteArray.toList_eq]; rfl
set_option maxRecDepth 20000 in
set_option maxHeartbeats 2000000 in
theorem node_step (lo hi r : Nat) (b : Value) (B : List UInt8) (f deep : Nat) (hdeep : deep ≤ 1000000)
    (HD : ∀ (w : World) (σ : RS), Rst lo hi r b B w σ → deep ≤ 64 → Calls Try.prog 83 #[.pointer (some ⟨r, 0, none⟩), .int .i64 (deep : Int)] w (NdA lo hi r b B w (dirS B (nodeS B f (deep + 1)) (B.length + 1) σ [] []).1 (.mk 2 false ⟨#[]⟩ (dirS B (nodeS B f (deep + 1)) (B.length + 1) σ [] []).2.1 (dirS B (nodeS B f (deep + 1)) (B.length + 1) σ [] []).2.2)))
    (w : World) (σ : RS) (h : Rst lo hi r b B w σ) :
    Calls Try.prog 59 #[.pointer (some ⟨r, 0, none⟩), .int .i64 (deep : Int)] w (NdA lo hi r b B w (nodeS B (f + 1) deep σ).1 (nodeS B (f + 1) deep σ).2) := by
  obtain ⟨Q, hQ⟩ : ∃ Q, Q = NdA lo hi r b B w (nodeS B (f + 1) deep σ).1 (nodeS B (f + 1) deep σ).2 := ⟨_, rfl⟩
  rw [← hQ]
  rw [nodeS] at hQ
  have hko : (kindS B deep σ).2 = bDir → deep ≤ 64 := fun hk => (kind_ok hk (by decide)).1
  have HQ := hide hQ
  obtain ⟨W0, hW0⟩ : ∃ W0, W0 = w.alloc (.cells #[.int .i64 0, .bool false, .slice none 0 0, .slice none 0 0, .slice none 0 0] 26) := ⟨_, rfl⟩
  have hb0 : Below w.heap.size w W0 := by rw [hW0]; exact (Below.refl _ _).alloc (Nat.le_refl _) _
  have hs0 : W0.heap.size = w.heap.size + 1 := by rw [hW0]; simp
  have hx0 : Bx W0 w.heap.size (.int .i64 0) (.bool false) (.slice none 0 0) (.slice none 0 0) (.slice none 0 0) := by rw [hW0]; exact bx_new _ _ _ _ _ _
  have hlt := h.lt
  have hhi := h.hi
  have H1 := hide (begin_any lo hi r b B W0 σ deep (h.kept hb0 hlt h.hi) hdeep)
  have HX0 := hide (And.intro (Sole.of_below (g := r) hb0) hx0)
  have HS0 := hide hs0
  have HW0 := hide hW0
  have HDD := hide HD
  have HKO := hide hko
  clear h hb0 hx0 hQ hs0 hW0 HD hko
  go_enter Try.func59, Try.ntmps59
  go_wp2_with fail
  rw [← unhide HW0]
  refine (unhide H1).mono ?_
  rintro x w1 ⟨rfl, hs1, hR1⟩
  have hz1 := hs1.size
  rw [unhide HS0] at hz1
  have HX1 := hide (And.intro ((unhide HX0).1.trans hs1) ((unhide HX0).2.sole hs1 (by omega)))
  have H2 := hide (wants_any lo hi r b B w1 _ [bOpen, bType] hR1 (by decide))
  clear hs1 hR1 H1 HX0
  go_wp2_with fail
  refine (unhide H2).mono ?_
  rintro x w2 ⟨rfl, hs2, hR2⟩
  have hz2 := hs2.size
  have HX2 := hide (And.intro ((unhide HX1).1.trans hs2) ((unhide HX1).2.sole hs2 (by omega)))
  have H3 := hide (text_rst lo hi r b B w2 _ hR2)
  clear hs2 hR2 H2 HX1
  go_wp2_with fail
  refine (unhide H3).mono ?_
  rintro x w3 ⟨a, c, rfl, hs3, hR3, hv⟩
  have hcv := tv_conv hR3 hv
  have hz3 := hs3.size
  have HX3 := hide (And.intro ((unhide HX2).1.trans hs3) ((unhide HX2).2.sole hs3 (by omega)))
  have HK : Hid (kindS B deep σ = txtS B (wantsS B (beginS deep σ) [bOpen, bType])) := rfl
  generalize txtS B (wantsS B (beginS deep σ) [bOpen, bType]) = K at *
  obtain ⟨τ, d⟩ := K
  have HR3 := hide hR3
  obtain ⟨x0, x1, x2, x3, x4⟩ := (unhide HX3).2.cells
  have hqe := unhide HQ
  rw [unhide HK] at hqe
  have hko := unhide HKO
  rw [unhide HK] at hko
  simp only at hqe hko hcv
  clear hs3 hR3 hv H3 HX2 HQ HKO HK
  by_cases h1 : d = bReg
  · rw [if_pos h1] at hqe
    have hb1 : (d.toList == [114, 101, 103, 117, 108, 97, 114]) = true := by rw [h1, tl_reg]; rfl
    have HC := hide (file_any lo hi r b B w3 τ (unhide HR3))
    have HQE := hqe
    clear hqe
    clear h1 hko
    go_wp2_with fail
    refine (unhide HC).mono ?_
    intro x w4 hL
    have hN := hL.node
    clear hL
    revert hN
    revert w4 x
    rintro x w4 hN
    obtain ⟨k', y', b1, n1, d1, b2, n2, d2, b3, n3, d3, rfl⟩ := hN.form
    have hs4 : Sole r w3 w4 := by obtain ⟨_, _, h, _⟩ := hN; exact h
    have hx4 := (unhide HX3).2.sole hs4 (by omega)
    have HE := hide (hN.store (unhide HX3).1 (by omega) hlt hhi)
    clear x0 x1 x2 x3 x4
    obtain ⟨x0, x1, x2, x3, x4⟩ := hx4.cells
    have g0 := hx4.fr 0
    have g1 := hx4.fr 1
    have g2 := hx4.fr 2
    have g3 := hx4.fr 3
    have g4 := hx4.fr 4
    clear hN hs4 hx4
    go_wp2_with fail
    refine bodyPost_ret (v := .agg #[.int .i64 k', .bool y', .slice b1 n1 d1, .slice b2 n2 d2, .slice b3 n3 d3]) (by simp [results, Try.results59, go_sem, x0, x1, x2, x3, x4]) rfl ?_
    rw [HQE]
    exact unhide HE
  · rw [if_neg h1] at hqe
    have hb1 := toList_ne h1
    rw [tl_reg] at hb1
    by_cases h2 : d = bSym
    · rw [if_pos h2] at hqe
      have hb2 : (d.toList == [115, 121, 109, 108, 105, 110, 107]) = true := by rw [h2, tl_sym]; rfl
      have HC := hide (link_any lo hi r b B w3 τ (unhide HR3))
      have HQE := hqe
      clear hqe h1 h2 hko
      go_wp2_with fail
      refine (unhide HC).mono ?_
      intro x w4 hL
      have hN := hL.node
      clear hL
      revert hN
      revert w4 x
      rintro x w4 hN
      obtain ⟨k', y', b1, n1, d1, b2, n2, d2, b3, n3, d3, rfl⟩ := hN.form
      have hs4 : Sole r w3 w4 := by obtain ⟨_, _, h, _⟩ := hN; exact h
      have hx4 := (unhide HX3).2.sole hs4 (by omega)
      have HE := hide (hN.store (unhide HX3).1 (by omega) hlt hhi)
      clear x0 x1 x2 x3 x4
      obtain ⟨x0, x1, x2, x3, x4⟩ := hx4.cells
      have g0 := hx4.fr 0
      have g1 := hx4.fr 1
      have g2 := hx4.fr 2
      have g3 := hx4.fr 3
      have g4 := hx4.fr 4
      clear hN hs4 hx4
      go_wp2_with fail
      refine bodyPost_ret (v := .agg #[.int .i64 k', .bool y', .slice b1 n1 d1, .slice b2 n2 d2, .slice b3 n3 d3]) (by simp [results, Try.results59, go_sem, x0, x1, x2, x3, x4]) rfl ?_
      rw [HQE]
      exact unhide HE
    · rw [if_neg h2] at hqe
      have hb2 := toList_ne h2
      rw [tl_sym] at hb2
      by_cases h3 : d = bDir
      · rw [if_pos h3] at hqe
        have HC := hide (unhide HDD w3 τ (unhide HR3) (hko h3))
        have hb3 : (d.toList == [100, 105, 114, 101, 99, 116, 111, 114, 121]) = true := by rw [h3, tl_dir]; rfl
        have HQE := hqe
        clear hqe hko h1 h2 h3
        go_wp2_with fail
        refine (unhide HC).mono ?_
        rintro x w4 hN
        obtain ⟨k', y', b1, n1, d1, b2, n2, d2, b3, n3, d3, rfl⟩ := hN.form
        have hs4 : Sole r w3 w4 := by obtain ⟨_, _, h, _⟩ := hN; exact h
        have hx4 := (unhide HX3).2.sole hs4 (by omega)
        have HE := hide (hN.store (unhide HX3).1 (by omega) hlt hhi)
        clear x0 x1 x2 x3 x4
        obtain ⟨x0, x1, x2, x3, x4⟩ := hx4.cells
        have g0 := hx4.fr 0
        have g1 := hx4.fr 1
        have g2 := hx4.fr 2
        have g3 := hx4.fr 3
        have g4 := hx4.fr 4
        clear hN hs4 hx4
        go_wp2_with fail
        refine bodyPost_ret (v := .agg #[.int .i64 k', .bool y', .slice b1 n1 d1, .slice b2 n2 d2, .slice b3 n3 d3]) (by simp [results, Try.results59, go_sem, x0, x1, x2, x3, x4]) rfl ?_
        rw [HQE]
        exact unhide HE
      · rw [if_neg h3] at hqe
        have hb3 := toList_ne h3
        rw [tl_dir] at hb3
        have HC := hide (fail_rst lo hi r b B w3 τ 3 (by omega) (unhide HR3))
        have HQE := hqe
        clear hqe hko h1 h2 h3
        go_wp2_with fail
        refine (unhide HC).mono ?_
        rintro x w4 ⟨rfl, hs4, hR4⟩
        have hx4 := (unhide HX3).2.sole hs4 (by omega)
        have hN : NdA lo hi r b B w3 (failS 3 τ) (.mk 0 false ⟨#[]⟩ [] []) (.returned (.agg #[.int .i64 0, .bool false, .slice none 0 0, .slice none 0 0, .slice none 0 0])) w4 := ⟨_, rfl, hs4, hR4, rl_end (d := ⟨#[]⟩) (rl_nil _ w3.heap.size w4) (tv_nil _ _ _ _)⟩
        have HE := hide (hN.store (unhide HX3).1 (by omega) hlt hhi)
        clear x0 x1 x2 x3 x4
        obtain ⟨x0, x1, x2, x3, x4⟩ := hx4.cells
        have g0 := hx4.fr 0
        have g1 := hx4.fr 1
        have g2 := hx4.fr 2
        have g3 := hx4.fr 3
        have g4 := hx4.fr 4
        clear hN hs4 hx4 hR4
        go_wp2_with fail
        refine bodyPost_ret (v := .agg #[.int .i64 0, .bool false, .slice none 0 0, .slice none 0 0, .slice none 0 0]) (by simp [results, Try.results59, go_sem, x0, x1, x2, x3, x4]) rfl ?_
        rw [HQE]
        exact unhide HE
end Go.Proofs.Ytikamklgelcnhaa
/- The reader's dir under way. -/
namespace Go.Proofs.Ytikamklgelcnhaa
open Go.RowKit
set_option linter.unusedSimpArgs false
/-- How far the reader is from the end, or from its error. -/
def rmeas (B : List UInt8) (r : Nat) (w : World) : Nat :=
  match w.cell? ⟨r, 3, none⟩ with
  | some (.int _ e) => if e = 0 then (match w.cell? ⟨r, 1, none⟩ with | some (.int _ p) => B.length + 1 - p.toNat | _ => 0) else 0
  | _ => 0
theorem rmeas_ok {lo hi r : Nat} {b : Value} {B : List UInt8} {w : World} {p m : Nat} (h : Rst lo hi r b B w (.ok (p, m))) : rmeas B r w = B.length + 1 - p := by
  obtain ⟨h0, h1, h2, h3⟩ := h.1.rx.cells
  unfold rmeas
  rw [h3, h1]
  simp
theorem rmeas_err {lo hi r : Nat} {b : Value} {B : List UInt8} {w : World} {E : Int} (h : Rst lo hi r b B w (.error E)) : rmeas B r w = 0 := by
  obtain ⟨he, p, m, k⟩ := h
  obtain ⟨h0, h1, h2, h3⟩ := k.rx.cells
  unfold rmeas
  rw [h3]
  simp [he]
/-- A dir under way. -/
structure DirW (D : Value → ByteArray → Prop) (lo hi r : Nat) (b : Value) (B : List UInt8) (w wr : World) (τ : RS) (ns : List ByteArray) (ks : List Tr) (vn vk : Value) (p q : Nat) : Prop where
  sole : Sole r w wr
  rst : Rst lo hi r b B wr τ
  br : Bx wr w.heap.size (.int .i64 0) (.bool false) (.slice none 0 0) (.slice none 0 0) (.slice none 0 0)
  bt : Bx wr (w.heap.size + 1) (.int .i64 2) (.bool false) (.slice none 0 0) vn vk
  rl : Rl D (w.heap.size + 2) wr vn vk ns ks p q
  sz : w.heap.size + 2 ≤ wr.heap.size
  lt : r < w.heap.size
  hh : hi ≤ w.heap.size
theorem DirW.call {D : Value → ByteArray → Prop} {lo hi r : Nat} {b : Value} {B : List UInt8} {w wr w1 : World} {τ τ' : RS} {ns : List ByteArray} {ks : List Tr} {vn vk : Value} {p q : Nat} (h : DirW D lo hi r b B w wr τ ns ks vn vk p q) (hs : Sole r wr w1) (hR : Rst lo hi r b B w1 τ') : DirW D lo hi r b B w w1 τ' ns ks vn vk p q := by
  obtain ⟨h1, h2, h3, h4, h5, h6, h7, h8⟩ := h
  have hz := hs.size
  exact ⟨h1.trans hs, hR, h3.sole hs (by omega), h4.sole hs (by omega), h5.same (fun k hk hk2 => hs.block k hk2 (by omega)) hz, by omega, h7, h8⟩
theorem DirW.drew {D : Value → ByteArray → Prop} {lo hi r : Nat} {b : Value} {B : List UInt8} {w wr : World} {τ : RS} {ns : List ByteArray} {ks : List Tr} {vn vk : Value} {p q : Nat} (h : DirW D lo hi r b B w wr τ ns ks vn vk p q) : DirW D lo hi r b B w wr.drew τ ns ks vn vk p q := by
  have hs : Sole r wr wr.drew := (Sole.refl r wr).drew
  have hb : Below wr.heap.size wr wr.drew := ⟨hs.os, hs.tape, hs.output, hs.size, fun _ _ => rfl⟩
  exact h.call hs (h.rst.kept hb (by have := h.sz; have := h.lt; omega) h.rst.hi)
theorem DirW.name {D : Value → ByteArray → Prop} {lo hi r : Nat} {b : Value} {B : List UInt8} {w wr w8 : World} {τ : RS} {ns ns' : List ByteArray} {ks : List Tr} {vn vk vn' : Value} {p p' q : Nat} (h : DirW D lo hi r b B w wr τ ns ks vn vk p q) (hb : Below (w.heap.size + 2) wr w8) (hz : wr.heap.size ≤ w8.heap.size) (hc : Rl D (w.heap.size + 2) w8 vn' vk ns' ks p' q) :
    DirW D lo hi r b B w (w8.setCell ⟨w.heap.size + 1, 3, none⟩ vn') τ ns' ks vn' vk p' q := by
  obtain ⟨h1, h2, h3, h4, h5, h6, h7, h8⟩ := h
  have k1 : Below w.heap.size wr (w8.setCell ⟨w.heap.size + 1, 3, none⟩ vn') := (hb.mono (by omega)).setCell (by simp) _
  refine ⟨⟨k1.os.trans h1.os, k1.tape.trans h1.tape, k1.output.trans h1.output, by simp; omega, fun i hi hg => (k1.block i hi).trans (h1.block i hi hg)⟩, h2.kept k1 h7 h8, (h3.kept hb (by omega)).of (set_other _ _ _ _ _ (by omega)), (h4.kept hb (by omega)).set3 _, hc.same (fun k hk _ => set_other _ _ _ _ _ (by omega)) (by simp), by simp; omega, h7, h8⟩
theorem DirW.kid {D : Value → ByteArray → Prop} {lo hi r : Nat} {b : Value} {B : List UInt8} {w wr w8 : World} {τ : RS} {ns : List ByteArray} {ks ks' : List Tr} {vn vk vk' : Value} {p q q' : Nat} (h : DirW D lo hi r b B w wr τ ns ks vn vk p q) (hb : Below (w.heap.size + 2) wr w8) (hz : wr.heap.size ≤ w8.heap.size) (hc : Rl D (w.heap.size + 2) w8 vn vk' ns ks' p q') :
    DirW D lo hi r b B w (w8.setCell ⟨w.heap.size + 1, 4, none⟩ vk') τ ns ks' vn vk' p q' := by
  obtain ⟨h1, h2, h3, h4, h5, h6, h7, h8⟩ := h
  have k1 : Below w.heap.size wr (w8.setCell ⟨w.heap.size + 1, 4, none⟩ vk') := (hb.mono (by omega)).setCell (by simp) _
  refine ⟨⟨k1.os.trans h1.os, k1.tape.trans h1.tape, k1.output.trans h1.output, by simp; omega, fun i hi hg => (k1.block i hi).trans (h1.block i hi hg)⟩, h2.kept k1 h7 h8, (h3.kept hb (by omega)).of (set_other _ _ _ _ _ (by omega)), (h4.kept hb (by omega)).set4 _, hc.same (fun k hk _ => set_other _ _ _ _ _ (by omega)) (by simp), by simp; omega, h7, h8⟩
end Go.Proofs.Ytikamklgelcnhaa
/- The reader's dir, from its node one deeper. -/
namespace Go.Proofs.Ytikamklgelcnhaa
open Go.RowKit
set_option linter.unusedSimpArgs false
/-- What stands at the head of dir's loop, as mathematics. -/
structure DirM (B : List UInt8) (N : RS → RS × Tr) (σ τ : RS) (ns : List ByteArray) (ks : List Tr) (k : Nat) : Prop where
  len : ns.length = ks.length
  few : ∀ p m, τ = .ok (p, m) → ns.length * 8 ≤ p
  fuel : ∀ p m, τ = .ok (p, m) → B.length + 1 ≤ k + p
  one : 1 ≤ k
  spec : dirS B N k τ ns ks = dirS B N (B.length + 1) σ [] []
  small : ns.length ≤ 600000
/-- The state behind an entry. -/
def nextS (B : List UInt8) (N : RS → RS × Tr) (τ : RS) : RS := wantsS B (N (entS B (eitherS B τ bEntry bClose).1).1).1 [bClose]
theorem next_ok {B : List UInt8} {N : RS → RS × Tr} {τ : RS} (hN : ∀ σ, Le σ (N σ).1) (hE : (eitherS B τ bEntry bClose).2 = true) : ∃ p m, τ = .ok (p, m) ∧ p + 8 ≤ B.length ∧ ∀ p' m', nextS B N τ = .ok (p', m') → p + 8 ≤ p' := by
  obtain ⟨p, m, p', h1, h2, h3, h4⟩ := either_ok hE (by decide)
  refine ⟨p, m, h1, by omega, fun p'' m'' he => ?_⟩
  have hl := ((entS_le B (eitherS B τ bEntry bClose).1).trans (hN _)).trans (wantsS_le B [bClose] _)
  unfold nextS at he
  rw [he, h4] at hl
  have := hl.1
  omega
theorem DirM.step {B : List UInt8} {N : RS → RS × Tr} {σ τ : RS} {ns : List ByteArray} {ks : List Tr} {k : Nat} (h : DirM B N σ τ ns ks (k + 1)) (hN : ∀ σ, Le σ (N σ).1) (hB : B.length ≤ 4000000) (hE : (eitherS B τ bEntry bClose).2 = true) : DirM B N σ (nextS B N τ) (ns ++ [(entS B (eitherS B τ bEntry bClose).1).2]) (ks ++ [(N (entS B (eitherS B τ bEntry bClose).1).1).2]) k := by
  obtain ⟨p, m, h1, h2, h3⟩ := next_ok hN hE
  have h4 := h.few p m h1
  have h5 := h.fuel p m h1
  refine ⟨by simp [h.len], fun p' m' he => ?_, fun p' m' he => ?_, by omega, ?_, by simp; omega⟩
  · have := h3 p' m' he; simp; omega
  · have := h3 p' m' he; omega
  · rw [← h.spec, dirS, hE, if_pos rfl]; rfl
theorem meas_step {lo hi r : Nat} {b : Value} {B : List UInt8} {N : RS → RS × Tr} {w w' : World} {τ : RS} (hN : ∀ σ, Le σ (N σ).1) (hE : (eitherS B τ bEntry bClose).2 = true) (h : Rst lo hi r b B w τ) (h' : Rst lo hi r b B w' (nextS B N τ)) : rmeas B r w' < rmeas B r w := by
  obtain ⟨p, m, rfl, h2, h3⟩ := next_ok hN hE
  rw [rmeas_ok h]
  cases hn : nextS B N (.ok (p, m)) with
  | error E => rw [hn] at h'; rw [rmeas_err h']; omega
  | ok q =>
    obtain ⟨p', m'⟩ := q
    rw [hn] at h'
    have := h3 p' m' hn
    rw [rmeas_ok h']; omega
theorem sole_drew' {g : Nat} {w w1 : World} (h : Sole g w.drew w1) : Sole g w w1 := ⟨h.os, h.tape, h.output, h.size, h.block⟩
set_option maxRecDepth 20000 in
set_option maxHeartbeats 4000000 in
theorem dir_step (lo hi r : Nat) (b : Value) (B : List UInt8) (deep : Nat) (hdeep : deep ≤ 1000) (hB : B.length ≤ 4000000) (N : RS → RS × Tr) (hNle : ∀ σ, Le σ (N σ).1)
    (HN : ∀ (w : World) (σ : RS), Rst lo hi r b B w σ → Calls Try.prog 59 #[.pointer (some ⟨r, 0, none⟩), .int .i64 ((deep : Int) + 1)] w (NdA lo hi r b B w (N σ).1 (N σ).2))
    (w : World) (σ : RS) (h : Rst lo hi r b B w σ) :
    Calls Try.prog 83 #[.pointer (some ⟨r, 0, none⟩), .int .i64 (deep : Int)] w (NdA lo hi r b B w (dirS B N (B.length + 1) σ [] []).1 (.mk 2 false ⟨#[]⟩ (dirS B N (B.length + 1) σ [] []).2.1 (dirS B N (B.length + 1) σ [] []).2.2)) := by
  obtain ⟨Q, hQ⟩ : ∃ Q, Q = NdA lo hi r b B w (dirS B N (B.length + 1) σ [] []).1 (.mk 2 false ⟨#[]⟩ (dirS B N (B.length + 1) σ [] []).2.1 (dirS B N (B.length + 1) σ [] []).2.2) := ⟨_, rfl⟩
  rw [← hQ]
  have HQ := hide hQ
  obtain ⟨W0, hW0⟩ : ∃ W0, W0 = (w.alloc (.cells #[.int .i64 0, .bool false, .slice none 0 0, .slice none 0 0, .slice none 0 0] 26)).alloc (.cells #[.int .i64 2, .bool false, .slice none 0 0, .slice none 0 0, .slice none 0 0] 26) := ⟨_, rfl⟩
  have hb0 : Below w.heap.size w W0 := by rw [hW0]; exact ((Below.refl _ _).alloc (Nat.le_refl _) _).alloc (by simp) _
  have hs0 : W0.heap.size = w.heap.size + 2 := by rw [hW0]; simp
  have hx0 : Bx W0 w.heap.size (.int .i64 0) (.bool false) (.slice none 0 0) (.slice none 0 0) (.slice none 0 0) := by
    rw [hW0]; exact (bx_new _ _ _ _ _ _).kept ((Below.refl (w.heap.size + 1) _).alloc (by simp) _) (by omega)
  have hx1 : Bx W0 (w.heap.size + 1) (.int .i64 2) (.bool false) (.slice none 0 0) (.slice none 0 0) (.slice none 0 0) := by
    rw [hW0]
    have := bx_new (w.alloc (.cells #[.int .i64 0, .bool false, .slice none 0 0, .slice none 0 0, .slice none 0 0] 26)) (.int .i64 2) (.bool false) (.slice none 0 0) (.slice none 0 0) (.slice none 0 0)
    simpa using this
  have hlt := h.lt
  have hhi := h.hi
  have HW : Hid (DirW (fun v d => Tv lo hi b v B d) lo hi r b B w W0 σ [] [] (.slice none 0 0) (.slice none 0 0) 0 0) := ⟨Sole.of_below hb0, h.kept hb0 hlt hhi, hx0, hx1, rl_nil _ _ _, by omega, hlt, hhi⟩
  have HM : Hid (DirM B N σ σ [] [] (B.length + 1)) := ⟨rfl, fun _ _ _ => by simp, fun p m _ => by omega, by omega, rfl, by simp⟩
  have HNN := hide HN
  have HNle := hide hNle
  have HW0 := hide hW0
  clear h hb0 hs0 hx0 hx1 hQ HN hNle hW0
  go_enter Try.func83, Try.ntmps83
  go_wp2_with fail
  rw [← unhide HW0]
  go_loopw [7] (fun _ wr => ∃ (τ : RS) (ns : List ByteArray) (ks : List Tr) (a1 a2 : Option Addr) (c1 c2 k : Nat), Hid (DirW (fun v d => Tv lo hi b v B d) lo hi r b B w wr τ ns ks (.slice a1 ns.length c1) (.slice a2 ks.length c2) ns.length ks.length) ∧ Hid (DirM B N σ τ ns ks k)) (fun _ wr => rmeas B r wr)
  case atStart => exact ⟨σ, [], [], none, none, 0, 0, B.length + 1, unhide HW, unhide HM⟩
  case round =>
    clear HW HM
    obtain ⟨τ, ns, ks, a1, a2, c1, c2, k, hW, hM⟩ := hrel
    have H1 := hide (either_any lo hi r b B wr τ bEntry bClose (unhide hW).rst)
    go_wp2_with fail
    refine (unhide H1).mono ?_
    rintro x w1 ⟨rfl, hs1, hR1⟩
    have hW1 := hide ((unhide hW).call hs1 hR1)
    clear hs1 hR1 H1
    obtain ⟨k', rfl⟩ : ∃ k', k = k' + 1 := ⟨k - 1, by have := (unhide hM).one; omega⟩
    cases hE : (eitherS B τ bEntry bClose).2 with
    | false =>
      obtain ⟨y0, y1, y2, y3, y4⟩ := (unhide hW1).bt.cells
      obtain ⟨x0, x1, x2, x3, x4⟩ := (unhide hW1).br.cells
      have g0 := (unhide hW1).br.fr 0
      have g1 := (unhide hW1).br.fr 1
      have g2 := (unhide hW1).br.fr 2
      have g3 := (unhide hW1).br.fr 3
      have g4 := (unhide hW1).br.fr 4
      have HE : Hid (Q (.returned (.agg #[.int .i64 2, .bool false, .slice none 0 0, .slice a1 ns.length c1, .slice a2 ks.length c2])) (set5 w1 w.heap.size (.int .i64 2) (.bool false) (.slice none 0 0) (.slice a1 ns.length c1) (.slice a2 ks.length c2))) := by
        have hsp := (unhide hM).spec
        rw [dirS, hE, if_neg (by decide)] at hsp
        show Q _ _
        rw [unhide HQ, ← hsp]
        obtain ⟨h1, h2, h3, h4, h5, h6, h7, h8⟩ := unhide hW1
        have hbz : Below w.heap.size w1 (set5 w1 w.heap.size (.int .i64 2) (.bool false) (.slice none 0 0) (.slice a1 ns.length c1) (.slice a2 ks.length c2)) := below_set5 (Below.refl _ _) (Nat.le_refl _) _ _ _ _ _
        refine ⟨_, rfl, sole_set5 h1 (Nat.le_refl _) _ _ _ _ _, h2.kept hbz h7 h8, ?_⟩
        have h9 := rl_end (k := 2) (x := false) (d := ⟨#[]⟩) (a := none) (c := 0) h5 (tv_nil lo hi b B)
        exact Rdn.mono (h9.same (fun k hk _ => set5_other _ _ _ _ _ _ _ _ (by omega))) (by omega) (by simp)
      clear hW hM hW1
      go_wp2_with fail
      exact bodyPost_ret (v := .agg #[.int .i64 2, .bool false, .slice none 0 0, .slice a1 ns.length c1, .slice a2 ks.length c2]) (by simp [results, Try.results83, go_sem, x0, x1, x2, x3, x4]) rfl (unhide HE)
    | true =>
      have hsm := (unhide hM).small
      have hsk : ks.length ≤ 600000 := by rw [← (unhide hM).len]; exact hsm
      have HM' := hide ((unhide hM).step (unhide HNle) hB hE)
      have HMS := hide (fun (w' : World) (h' : Rst lo hi r b B w' (nextS B N τ)) => meas_step (unhide HNle) hE (unhide hW).rst h')
      have HNX : Hid (nextS B N τ = wantsS B (N (entS B (eitherS B τ bEntry bClose).1).1).1 [bClose] ∧ entS B (eitherS B τ bEntry bClose).1 = (wantsS B (txtS B (wantsS B (eitherS B τ bEntry bClose).1 [bOpen, bName])).1 [bNode], (txtS B (wantsS B (eitherS B τ bEntry bClose).1 [bOpen, bName])).2)) := ⟨rfl, rfl⟩
      have H2 := hide (wants_any lo hi r b B w1 _ [bOpen, bName] (unhide hW1).rst (by decide))
      clear hW hM
      generalize entS B (eitherS B τ bEntry bClose).1 = En at *
      generalize nextS B N τ = nx at *
      generalize (eitherS B τ bEntry bClose).1 = τ1 at *
      generalize hS1 : wantsS B τ1 [bOpen, bName] = τ2 at *
      clear hS1
      go_wp2_with fail
      refine (unhide H2).mono ?_
      rintro x w2 ⟨rfl, hs2, hR2⟩
      have hW2 := hide ((unhide hW1).call hs2 hR2)
      clear hs2 hR2 H2 hW1
      have HT := hide (text_rst lo hi r b B w2.drew τ2 (unhide hW2).drew.rst)
      obtain ⟨x0, x1, x2, x3, x4⟩ := (unhide hW2).bt.cells
      have hz2 := (unhide hW2).sz
      have hl2 : w.heap.size + 1 < w2.heap.size := by omega
      obtain ⟨T, hT⟩ : ∃ T, T = txtS B τ2 := ⟨_, rfl⟩
      unfold TxR at HT
      rw [← hT] at HT
      have HNX' := unhide HNX
      rw [← hT] at HNX'
      have HNY := hide HNX'
      clear HNX HNX' hT
      obtain ⟨τ3, s⟩ := T
      go_wp2_with fail
      go_region_law (go_simp; refine (unhide HT).mono ?_; rintro e w7 ⟨a7, c7, rfl, hs7, hR7, hv7⟩; have hcv := tv_conv hR7 hv7; have hW7 := hide ((unhide hW2).drew.call hs7 hR7); have hext := (unhide hW7).rl.ext [s] []; rw [List.append_nil] at hext; obtain ⟨a8, c8, w8, happ8, hRl8, hb8, hz8⟩ := rl_name s hext (Sole.refl r w7) (by omega) (by simp) (by omega) (unhide hW7).sz; obtain ⟨x0', x1', x2', x3', x4'⟩ := (unhide hW7).bt.cells; obtain ⟨q0, q1, q2, q3, q4⟩ := ((unhide hW7).bt.kept hb8 (by omega)).cells; have f8 := ((unhide hW7).bt.kept hb8 (by omega)).fr 3; have hl7 : w.heap.size + 1 < w7.heap.size := Nat.lt_of_lt_of_le (by omega) (unhide hW7).sz)
      all_goals
        have hW9 := hide ((unhide hW7).name hb8 hz8 hRl8)
        clear happ8 hRl8 hb8 hz8 x0' x1' x2' x3' x4' q0 q1 q2 q3 q4 f8 hl7 hext hcv hv7 hs7 hR7 hW7 x0 x1 x2 x3 x4 hz2 hl2 HT hW2
        generalize w8.setCell ⟨w.heap.size + 1, 3, none⟩ (.slice a8 (ns.length + 1) c8) = w9 at *
        have H5 := hide (wants_any lo hi r b B w9 τ3 [bNode] (unhide hW9).rst (by decide))
        generalize hS5 : wantsS B τ3 [bNode] = τ5 at *
        clear hS5
        go_wp2_with fail
        refine (unhide H5).mono ?_
        rintro x w10 ⟨rfl, hs10, hR10⟩
        have hW10 := hide ((unhide hW9).call hs10 hR10)
        clear hs10 hR10 H5 hW9
        have HC := hide (unhide HNN w10.drew τ5 (unhide hW10).drew.rst)
        have hwr : IntKind.i64.wrap ((deep : Int) + 1) = (deep : Int) + 1 := IntWalk.i64_in _ (by omega)
        obtain ⟨x0, x1, x2, x3, x4⟩ := (unhide hW10).bt.cells
        have hz10 := (unhide hW10).sz
        have hl10 : w.heap.size + 1 < w10.heap.size := by omega
        have HN5 : Hid (∃ R, R = N τ5) := ⟨_, rfl⟩
        obtain ⟨R, hR⟩ := unhide HN5
        rw [← hR] at HC
        have HRR := hide hR
        clear hR HN5
        obtain ⟨τ6, t⟩ := R
        go_wp2_with fail
        go_region_law (go_simp; refine (unhide HC).mono ?_; rintro e w11 ⟨cs, rfl, hs11, hR11, hRd⟩; obtain ⟨k11, x11, r1, r2, r3, r4, r5, r6, r7, r8, r9, rfl⟩ := hRd.form; have hW11 := hide ((unhide hW10).drew.call hs11 hR11); have hext := Rl.ext (ns := ns ++ [s]) (ks := ks) (by simpa using (unhide hW10).drew.rl) [] [t]; rw [List.append_nil] at hext; obtain ⟨a12, c12, w12, happ12, hRl12, hb12, hz12⟩ := rl_kid hext hs11 (by omega) hRd (by simp) (by omega) (unhide hW10).drew.sz; obtain ⟨x0', x1', x2', x3', x4'⟩ := (unhide hW11).bt.cells; obtain ⟨q0, q1, q2, q3, q4⟩ := ((unhide hW11).bt.kept hb12 (by omega)).cells; have f12 := ((unhide hW11).bt.kept hb12 (by omega)).fr 4; have hl11 : w.heap.size + 1 < w11.heap.size := Nat.lt_of_lt_of_le (by omega) (unhide hW11).sz)
        all_goals
          rw [show (ns ++ [s]).length = ns.length + 1 by simp] at hRl12
          have hW13 := hide ((unhide hW11).kid hb12 hz12 hRl12)
          clear happ12 hRl12 hb12 hz12 x0' x1' x2' x3' x4' q0 q1 q2 q3 q4 f12 hl11 hext hs11 hR11 hRd hW11 x0 x1 x2 x3 x4 hz10 hl10 HC hW10
          generalize w12.setCell ⟨w.heap.size + 1, 4, none⟩ (.slice a12 (ks.length + 1) c12) = w13 at *
          have H8 := hide (wants_any lo hi r b B w13 τ6 [bClose] (unhide hW13).rst (by decide))
          go_wp2_with fail
          refine (unhide H8).mono ?_
          rintro x w14 ⟨rfl, hs14, hR14⟩
          have hW14 := hide ((unhide hW13).call hs14 hR14)
          clear hs14 hR14 H8 hW13
          obtain ⟨e1, e2⟩ := unhide HNY
          have e3 := unhide HRR
          have hl1 : (ns ++ [s]).length = ns.length + 1 := by simp
          have hl2 : (ks ++ [t]).length = ks.length + 1 := by simp
          rw [e2] at e1
          simp only [← e3] at e1
          have HM2 : Hid (DirM B N σ nx (ns ++ [s]) (ks ++ [t]) k') := by
            have := unhide HM'
            rw [e2] at this
            simp only [← e3] at this
            exact this
          have HF : Hid (DirW (fun v d => Tv lo hi b v B d) lo hi r b B w w14 nx (ns ++ [s]) (ks ++ [t]) (.slice a8 (ns ++ [s]).length c8) (.slice a12 (ks ++ [t]).length c12) (ns ++ [s]).length (ks ++ [t]).length) := by
            show DirW _ _ _ _ _ _ _ _ _ _ _ _ _ _ _
            rw [hl1, hl2, e1]
            exact unhide hW14
          have HG := hide (unhide HMS w14 (unhide HF).rst)
          clear e1 e2 e3 hl1 hl2 hW14 HM' HNY HRR HMS
          go_wp2_with fail
          go_roundw
          case rel => exact ⟨nx, ns ++ [s], ks ++ [t], a8, a12, c8, c12, k', unhide HF, unhide HM2⟩
          case measure => exact unhide HG
end Go.Proofs.Ytikamklgelcnhaa
/- The document's dir under way. -/
namespace Go.Proofs.Ytikamklgelcnhaa
open Go.RowKit
set_option linter.unusedSimpArgs false
/-- How far the document's reader is from the end, or from its error. -/
def qmeas (r : Nat) (w : World) : Nat :=
  match w.cell? ⟨r, 1, none⟩ with
  | some (.int _ e) => if e = 0 then (match w.cell? ⟨r, 0, none⟩ with | some (.slice _ n _) => n + 1 | _ => 0) else 0
  | _ => 0
theorem qmeas_ok {lo hi r : Nat} {B : List UInt8} {w : World} {p m : Nat} (h : Qst lo hi r B w (.ok (p, m))) : qmeas r w = B.length - p + 1 := by
  obtain ⟨⟨a, c, g1, g2⟩, _⟩ := h
  obtain ⟨h0, h1, h2⟩ := g1.cells
  unfold qmeas
  rw [h1, h0]
  simp
theorem qmeas_err {lo hi r : Nat} {B : List UInt8} {w : World} {E : Int} (h : Qst lo hi r B w (.error E)) : qmeas r w = 0 := by
  obtain ⟨he, ⟨a, k, c, n, g⟩, _⟩ := h
  obtain ⟨h0, h1, h2⟩ := g.cells
  unfold qmeas
  rw [h1]
  simp [he]
theorem qmeas_step {lo hi r : Nat} {B : List UInt8} {N : RS → RS × Tr} {w w' : World} {τ : RS} (hN : ∀ σ, Le σ (N σ).1) (hE : (eitherS B τ bEntry bClose).2 = true) (h : Qst lo hi r B w τ) (h' : Qst lo hi r B w' (nextS B N τ)) : qmeas r w' < qmeas r w := by
  obtain ⟨p, m, rfl, h2, h3⟩ := next_ok hN hE
  rw [qmeas_ok h]
  cases hn : nextS B N (.ok (p, m)) with
  | error E => rw [hn] at h'; rw [qmeas_err h']; omega
  | ok q =>
    obtain ⟨p', m'⟩ := q
    rw [hn] at h'
    have := h3 p' m' hn
    rw [qmeas_ok h']; omega
theorem dir_stop {B : List UInt8} {N : RS → RS × Tr} {k : Nat} {τ : RS} {ns : List ByteArray} {ks : List Tr} (h : (txtS B τ).2 ≠ bEntry) : dirS B N (k + 1) τ ns ks = (isS (txtS B τ).1 (txtS B τ).2 bClose, ns, ks) := by
  have e : eitherS B τ bEntry bClose = (isS (txtS B τ).1 (txtS B τ).2 bClose, false) := by unfold eitherS; rw [if_neg h]; rfl
  rw [dirS, e]
  simp
theorem dir_stop_err {B : List UInt8} {N : RS → RS × Tr} {k : Nat} {E : Int} {ns : List ByteArray} {ks : List Tr} : dirS B N (k + 1) (.error E) ns ks = (.error E, ns, ks) := by
  have h : (txtS B (.error E)).2 ≠ bEntry := show (⟨#[]⟩ : ByteArray) ≠ bEntry by decide
  rw [dir_stop h]
  rfl
/-- The dir under way. -/
structure QdW (lo hi r gt : Nat) (B : List UInt8) (w W : World) (τ : RS) (ns : List ByteArray) (ks : List Tr) (vn vk : Value) : Prop where
  nw : QnW lo hi r gt B w W τ 2 false (.slice none 0 0) vn vk
  ql : Ql (gt + 1) W vn vk ns ks ns.length ks.length
theorem QdW.call {lo hi r gt : Nat} {B : List UInt8} {w W W1 : World} {τ τ' : RS} {ns : List ByteArray} {ks : List Tr} {vn vk : Value} (h : QdW lo hi r gt B w W τ ns ks vn vk) (hs : Sole r W W1) (hR : Qst lo hi r B W1 τ') : QdW lo hi r gt B w W1 τ' ns ks vn vk := by
  obtain ⟨h1, h2⟩ := h
  have hl := h1.lt
  have hg := h1.gt
  exact ⟨h1.call hs hR, h2.same (fun k hk hk2 => hs.block k hk2 (by omega)) hs.size⟩
theorem QdW.end {lo hi r gt : Nat} {B : List UInt8} {w W : World} {τ : RS} {ns : List ByteArray} {ks : List Tr} {vn vk : Value} (h : QdW lo hi r gt B w W τ ns ks vn vk) : QnA lo hi r B w τ (.mk 2 false ⟨#[]⟩ ns ks) (.returned (.agg #[.int .i64 2, .bool false, .slice none 0 0, vn, vk])) (set5 W w.heap.size (.int .i64 2) (.bool false) (.slice none 0 0) vn vk) :=
  h.nw.end (ql_end h.ql (row_none _ _ _))
/-- A kid was read: it waits in a box. -/
structure QkW (lo hi r gt : Nat) (B : List UInt8) (w W : World) (τ : RS) (ns : List ByteArray) (ks : List Tr) (vn vk : Value) (t : Tr) (cs : List Value) (l h : Nat) : Prop where
  d : QdW lo hi r gt B w W τ ns ks vn vk
  lies : Lies l h W t cs
  lo : gt + 1 ≤ l
  up : h < W.heap.size
  box : W.heap[h]? = some (.cells cs.toArray 26)
  lk : ∀ g, (vn.ownBlock = some g ∨ vk.ownBlock = some g) → g < l
  le : l ≤ h
theorem QkW.make {lo hi r gt : Nat} {B : List UInt8} {w W W1 : World} {τ τ' : RS} {ns : List ByteArray} {ks : List Tr} {vn vk : Value} {t : Tr} {cs : List Value} (h : QdW lo hi r gt B w W τ ns ks vn vk) (hs : Sole r W W1) (hR : Qst lo hi r B W1 τ') (hL : Lies W.heap.size W1.heap.size W1 t cs) : QkW lo hi r gt B w (W1.alloc (.cells cs.toArray 26)) τ' ns ks vn vk t cs W.heap.size W1.heap.size := by
  have hb : Below W1.heap.size W1 (W1.alloc (.cells cs.toArray 26)) := (Below.refl _ _).alloc (Nat.le_refl _) _
  have h1 := h.call hs hR
  have hsz := h.nw.sz
  have hz := hs.size
  have hl := h.nw.lt
  have hg := h.nw.gt
  refine ⟨h1.call (Sole.of_below hb) (hR.kept hb hR.lt hR.hi), hL.kept hb (Nat.le_refl _), by omega, by simp, ?_, fun g hg => ?_, hz⟩
  · show (W1.heap.push _)[W1.heap.size]? = _
    rw [Array.getElem?_push, if_pos rfl]
  · obtain ⟨hn, ⟨Ks, L, H, hKl, hK5, ho, hK⟩, hne⟩ := h.ql
    rcases hg with hg | hg
    · exact (owns_lt hn g hg).2
    · exact (owns_lt ho g hg).2
theorem QkW.call {lo hi r gt : Nat} {B : List UInt8} {w W W1 : World} {τ τ' : RS} {ns : List ByteArray} {ks : List Tr} {vn vk : Value} {t : Tr} {cs : List Value} {l h : Nat} (k : QkW lo hi r gt B w W τ ns ks vn vk t cs l h) (hs : Sole r W W1) (hR : Qst lo hi r B W1 τ') : QkW lo hi r gt B w W1 τ' ns ks vn vk t cs l h := by
  obtain ⟨h1, h2, h3, h4, h5, h6, h7⟩ := k
  have hl := h1.nw.lt
  have hg := h1.nw.gt
  have hz := hs.size
  exact ⟨h1.call hs hR, h2.same (fun k hk1 hk2 => hs.block k (by omega) (by omega)), h3, by omega, by rw [hs.block h h4 (by omega)]; exact h5, h6, h7⟩
/-- The name is laid behind the others. -/
theorem QkW.name {lo hi r gt : Nat} {B : List UInt8} {w W : World} {τ : RS} {ns : List ByteArray} {ks : List Tr} {vn vk : Value} {t : Tr} {cs : List Value} {l h : Nat} (k : QkW lo hi r gt B w W τ ns ks vn vk t cs l h) (s : ByteArray) (hmax : ns.length ≤ 1000000) :
    ∃ a' c' w2, (∀ ty, (app23 ty #[vn, .slice (some ⟨W.heap.size, 0, none⟩) 1 1]).run Try.prog (W.alloc (.cells #[.string s] 9)) = .ok (.slice a' (ns.length + 1) c') w2) ∧ Below (gt + 1) W w2 ∧
      (QnW lo hi r gt B w (w2.setCell ⟨gt, 3, none⟩ (.slice a' (ns.length + 1) c')) τ 2 false (.slice none 0 0) (.slice a' (ns.length + 1) c') vk ∧ Ql (gt + 1) (w2.setCell ⟨gt, 3, none⟩ (.slice a' (ns.length + 1) c')) (.slice a' (ns.length + 1) c') vk (ns ++ [s]) ks (ns.length + 1) ks.length ∧
        Lies l h (w2.setCell ⟨gt, 3, none⟩ (.slice a' (ns.length + 1) c')) t cs ∧ (w2.setCell ⟨gt, 3, none⟩ (.slice a' (ns.length + 1) c')).heap[h]? = some (.cells cs.toArray 26) ∧ (∀ g, ((Value.slice a' (ns.length + 1) c').ownBlock = some g ∨ vk.ownBlock = some g) → g < l ∨ h ≤ g) ∧ h < w2.heap.size) := by
  obtain ⟨h1, h2, h3, h4, h5, h6, h7⟩ := k
  have hl := h1.nw.lt
  have hg := h1.nw.gt
  have hsz := h1.nw.sz
  have hext := h1.ql.ext [s] []
  rw [List.append_nil] at hext
  obtain ⟨a', c', w2, happ, hq, hb, hz, hfr, hob⟩ := ql_name (r := r) s hext (Sole.refl r W) (by omega) (by simp) hmax (by omega)
  refine ⟨a', c', w2, happ, hb, h1.nw.own hb 3 _ (fun W2 h => h.set3 _), hq.same (fun k hk _ => set_other _ _ _ _ _ (by omega)) (by simp), ?_, ?_, ?_, by omega⟩
  · refine h2.same (fun k hk1 hk2 => ?_)
    rw [set_other _ _ _ _ _ (by omega)]
    exact hfr k (by omega) (fun e => by have := h6 k (.inl e); omega)
  · rw [set_other _ _ _ _ _ (by omega), hfr h h4 (fun e => by have := h6 h (.inl e); omega)]
    exact h5
  · intro g hgv
    rcases hgv with hgv | hgv
    · rcases hob g hgv with e | e
      · exact .inl (h6 g (.inl e))
      · exact .inr (by omega)
    · exact .inl (h6 g (.inr hgv))
/-- And then the kid. -/
theorem qd_kid {lo hi r gt : Nat} {B : List UInt8} {w W : World} {τ : RS} {ns : List ByteArray} {ks : List Tr} {vn vk : Value} {t : Tr} {cs : List Value} {l h N : Nat} (hw : QnW lo hi r gt B w W τ 2 false (.slice none 0 0) vn vk) (hq : Ql (gt + 1) W vn vk ns ks N ks.length) (hN : ns.length = N) (hL : Lies l h W t cs) (hl : gt + 1 ≤ l) (hh : h ≤ W.heap.size) (hdj : ∀ g, (vn.ownBlock = some g ∨ vk.ownBlock = some g) → g < l ∨ h ≤ g) (hmax : ks.length ≤ 1000000) :
    ∃ a' c' w2, (∀ ty, (app24 ty #[vk, .slice (some ⟨W.heap.size, 0, none⟩) 1 1]).run Try.prog (W.alloc (.cells cs.toArray 26)) = .ok (.slice a' (ks.length + 1) c') w2) ∧ Below (gt + 1) W w2 ∧ QdW lo hi r gt B w (w2.setCell ⟨gt, 4, none⟩ (.slice a' (ks.length + 1) c')) τ ns (ks ++ [t]) vn (.slice a' (ks.length + 1) c') := by
  have hsz := hw.sz
  subst hN
  have hext := hq.ext [] [t]
  rw [List.append_nil] at hext
  obtain ⟨a', c', w2, happ, hq2, hb, hz⟩ := ql_kid hext hL hl hh hdj (by simp) hmax (by omega)
  refine ⟨a', c', w2, happ, hb, hw.own hb 4 _ (fun W2 h => h.set4 _), ?_⟩
  rw [List.length_append]
  exact hq2.same (fun k hk _ => set_other _ _ _ _ _ (by omega)) (by simp)
end Go.Proofs.Ytikamklgelcnhaa
