/- A map keyed by a task and a name. -/
import Derived.Test.YtnlfmmempomcaaaRj
import Derived.DeepKeys4
namespace Go.Proofs.Ytnlfmmempomcaaa
open Go.RowKit Go.Maps
set_option linter.unusedSimpArgs false
theorem laidOut0 : laidOutB Try.prog = true := by kernel_rfl
theorem row32 : 32 < Try.prog.types.size := of_decide_eq_true (by kernel_rfl)
theorem wide32 : (match Try.prog.underlying 32 with | some (.array _ _) | some (.struct _) => true | _ => false) = true := by kernel_rfl
theorem kt32 : Try.prog.keyTypeAt 2 32 = true := by kernel_rfl
set_option maxRecDepth 100000 in
theorem law32 : WideMaps.KeyLaw Try.prog 32 := deep_law_laid laidOut0 (m := 2) (by omega) row32 kt32 wide32
theorem K32 : Keyed Try.prog 32 := Keyed.of_law law32
/-- A key: a task and a name. -/
def mk32 (n : Int) (s : ByteArray) : Value := .agg #[.int .i64 0, .int .i64 n, .string s, .bool false]
theorem cells32 : Try.prog.cellsOf 32 = 4 := by kernel_rfl
theorem cells9 : Try.prog.cellsOf 9 = 1 := by kernel_rfl
theorem cells3' : Try.prog.cellsOf 3 = 1 := by kernel_rfl
theorem cells4' : Try.prog.cellsOf 4 = 1 := by kernel_rfl
theorem key32 {n : Int} {s : ByteArray} (hn : IOk n) (hs : SOk s) : ∃ u, keyOf Try.prog 32 (mk32 n s) = some (.string u) := by
  have hk : Try.prog.keyType 32 = true := by kernel_rfl
  have hf : (mk32 n s).formed Try.prog 32 = true := by
    simp [Value.formed, mk32, Try.underlying32, cells32]
  obtain ⟨d, hd⟩ : ∃ d, Try.prog.types.size + 1 = d + 2 := ⟨Try.prog.types.size - 1, by have := row32; omega⟩
  have h0 : (Lit.int .i64 0).wf = true := by decide
  have hn' : (Lit.int .i64 n).wf = true := hn
  have hs' : s.size ≤ maxLen := hs
  unfold keyOf
  rw [Try.underlying32, hk, hf, hd]
  have e : (mk32 n s).cells.toList = [.int .i64 0, .int .i64 n, .string s, .bool false] := rfl
  rw [e]
  simp [Program.keyLits, Try.underlying32, Try.underlying3, Try.underlying9, Try.underlying4, cells32, cells9, cells3', cells4', h0, hn', hs']
/-- What a key reads as. -/
noncomputable def kl (n : Int) (s : ByteArray) : Lit := (keyOf Try.prog 32 (mk32 n s)).getD (.bool false)
theorem kl_key {n : Int} {s : ByteArray} (hn : IOk n) (hs : SOk s) : keyOf Try.prog 32 (mk32 n s) = some (kl n s) := by
  obtain ⟨u, hu⟩ := key32 hn hs
  unfold kl
  rw [hu]; rfl
theorem kl_inj {n n' : Int} {s s' : ByteArray} (hn : IOk n) (hs : SOk s) (hn' : IOk n') (hs' : SOk s') (h : kl n s = kl n' s') : n = n' ∧ s = s' := by
  have h1 := kl_key hn hs
  rw [h] at h1
  have := K32.inj h1 (kl_key hn' hs')
  unfold mk32 at this
  simp at this
  exact this
/-- What stands at a key. -/
def atI (o : Option Int) (zd : DataW Unit) : DataW Unit := match o with
  | none => zd
  | some x => .lit (.int .i64 x)
/-- A map reads as L. -/
def KMap (k : Nat) (w : World) (b : Nat) (L : Int → ByteArray → Option Int) : Prop :=
  ∃ n D, n ≤ k ∧ w.ownsMap Try.prog 32 (plainElem (H := Unit) Try.prog 3) b n D ∧ ∀ m s, IOk m → SOk s → ∀ zd, D.atKey (kl m s) zd = atI (L m s) zd
def kupd (L : Int → ByteArray → Option Int) (n : Int) (s : ByteArray) (x : Int) : Int → ByteArray → Option Int := fun m t => if m = n ∧ t = s then some x else L m t
theorem KMap.same {k : Nat} {w w' : World} {b : Nat} {L : Int → ByteArray → Option Int} (h : KMap k w b L) (hs : w'.heap[b]? = w.heap[b]?) : KMap k w' b L := by
  obtain ⟨n, D, h1, ⟨es, clock, hb, r⟩, h2⟩ := h
  exact ⟨n, D, h1, ⟨es, clock, hs.trans hb, r⟩, h2⟩
theorem KMap.lt {k : Nat} {w : World} {b : Nat} {L : Int → ByteArray → Option Int} (h : KMap k w b L) : b < w.heap.size := by
  obtain ⟨n, D, h1, ho, h2⟩ := h
  exact ho.lt
theorem K_new (k : Nat) (w : World) : KMap k (w.alloc (.map #[] 0)) w.heap.size (fun _ _ => none) := ⟨0, .map [], Nat.zero_le _, World.ownsMap_made w _ _ _, fun _ _ _ _ _ => rfl⟩
theorem K_look {k : Nat} {w : World} {b : Nat} {L : Int → ByteArray → Option Int} (h : KMap k w b L) {n : Int} {s : ByteArray} (hn : IOk n) (hs : SOk s) : (Instr.lookup 48 (.map (some b)) (mk32 n s) false).run Try.prog w = .ok (.int .i64 ((L n s).getD 0)) w := by
  obtain ⟨m, D, _, ho, hD⟩ := h
  obtain ⟨v, ps, hr, hv⟩ := ho.lookup K32 Try.underlying48 (Try.zeroValue3 w) (zd := .lit (.int .i64 0)) (zp := []) (plainElem_int Try.underlying3 (by decide)) (kl_key hn hs)
  rw [hD n s hn hs] at hv
  obtain ⟨c, rfl, hc, _⟩ := plainElem_int_inv Try.underlying3 hv
  have e : c = (L n s).getD 0 := by
    cases e : L n s with
    | none =>
      rw [e] at hc
      simp [atI] at hc
      exact hc.1.symm
    | some x =>
      rw [e] at hc
      simp [atI] at hc
      exact hc.1.symm
  rw [hr, e]
theorem K_store {k : Nat} {w : World} {b : Nat} {L : Int → ByteArray → Option Int} (h : KMap k w b L) {n : Int} {s : ByteArray} (hn : IOk n) (hs : SOk s) (hk : k < maxLen) (x : Int) (hx : IOk x) :
    ∃ w', (Instr.mapUpdate 48 (.map (some b)) (mk32 n s) (.int .i64 x)).run Try.prog w = .ok () w' ∧ KMap (k + 1) w' b (kupd L n s x) ∧ w.mapTurned w' b := by
  obtain ⟨m, D, hm, ho, hD⟩ := h
  obtain ⟨w', hr, ho', ht⟩ := ho.store K32 Try.underlying48 (by omega) (kl_key hn hs) (plainElem_int (H := Unit) Try.underlying3 hx)
  refine ⟨w', hr, ⟨m + 1, _, by omega, ho', fun m' t hm' ht' zd => ?_⟩, ht⟩
  unfold kupd
  obtain ⟨u, hu⟩ := key32 hn hs
  have hu2 := kl_key hn hs
  rw [hu] at hu2
  have hu3 : kl n s = .string u := (Option.some.inj hu2).symm
  by_cases e : m' = n ∧ t = s
  · obtain ⟨rfl, rfl⟩ := e
    rw [if_pos ⟨rfl, rfl⟩, atKey_put_same ho.isMap (by rw [hu3]; trivial)]
    rfl
  · rw [if_neg e, atKey_put_other (fun e2 => e (kl_inj hm' ht' hn hs e2)), hD m' t hm' ht']
end Go.Proofs.Ytnlfmmempomcaaa
