/- A table of a FS: its map from names to files. -/
import Derived.Test.YtbnbakcoomjnaaaK1
import Derived.Maps.OwnSet
import Derived.Maps.Views
import Derived.StringKeys
namespace Go.Proofs.Ytbnbakcoomjnaaa
open Go.RowKit Go.Maps
set_option linter.unusedSimpArgs false
/-- A pointer to a file, as it is read: its block. -/
def fileElem : Value → Option (DataW Unit × List MemPlace)
  | .pointer none => some (.nil, [])
  | .pointer (some ⟨g, 0, none⟩) => some (.lit (.int .i64 (g : Int)), [])
  | _ => none
/-- A pointer to a file's block. -/
def ptr : Option Nat → Value
  | none => .pointer none
  | some g => .pointer (some ⟨g, 0, none⟩)
def ptrD : Option Nat → DataW Unit
  | none => .nil
  | some g => .lit (.int .i64 (g : Int))
theorem fileElem_ptr (o : Option Nat) : fileElem (ptr o) = some (ptrD o, []) := by cases o <;> rfl
theorem fileElem_inv {v : Value} {o : Option Nat} {ps : List MemPlace} (h : fileElem v = some (ptrD o, ps)) : v = ptr o := by
  unfold fileElem at h
  split at h
  · cases o with
    | none => rfl
    | some g => simp [ptrD] at h
  · cases o with
    | none => simp [ptrD] at h
    | some g =>
      simp [ptrD] at h
      obtain ⟨h, -⟩ := h
      rw [show ptr (some g) = .pointer (some ⟨g, 0, none⟩) from rfl]
      congr 2
      congr 1
      omega
  · cases h
theorem strK : Keyed Try.prog 9 := string_keyed Try.underlying9
/-- What stands at a name, or what is told where there is none. -/
def atD (o : Option Nat) (zd : DataW Unit) : DataW Unit :=
  match o with
  | none => zd
  | some g => .lit (.int .i64 (g : Int))
theorem atD_nil (o : Option Nat) : atD o .nil = ptrD o := by cases o <;> rfl
/-- A table's map reads as L. -/
def TabIs (w : World) (m : Option Nat) (n : Nat) (L : ByteArray → Option Nat) : Prop :=
  match m with
  | none => ∀ s, L s = none
  | some mb => ∃ D : DataW Unit, w.ownsMap Try.prog 9 fileElem mb n D ∧ ∀ s : ByteArray, s.size ≤ maxLen → ∀ zd, D.atKey (.string s.data.toList) zd = atD (L s) zd
theorem key9 {s : ByteArray} (hs : s.size ≤ maxLen) : keyOf Try.prog 9 (.string s) = some (.string s.data.toList) := Go.WideMaps.keyOf_string_mk Try.underlying9 hs
theorem tab_look {w : World} {m : Option Nat} {n : Nat} {L : ByteArray → Option Nat} (h : TabIs w m n L) {s : ByteArray} (hs : s.size ≤ maxLen) : (Instr.lookup 62 (.map m) (.string s) false).run Try.prog w = .ok (ptr (L s)) w := by
  cases m with
  | none => rw [Maps.look_nil false strK Try.underlying62 (Try.zeroValue95 w) (key9 hs), h s]; rfl
  | some mb =>
    obtain ⟨D, ho, hD⟩ := h
    obtain ⟨v, ps, hr, hv⟩ := ho.lookup strK Try.underlying62 (Try.zeroValue95 w) (zd := .nil) (zp := []) rfl (key9 hs)
    rw [hD s hs, atD_nil] at hv
    rw [hr, fileElem_inv hv]
/-- A table's names with one that names another file, or none. -/
def upd (L : ByteArray → Option Nat) (s : ByteArray) (o : Option Nat) : ByteArray → Option Nat := fun t => if t = s then o else L t
theorem str_ne {s t : ByteArray} (h : t ≠ s) : Lit.string t.data.toList ≠ Lit.string s.data.toList := fun e => h (by
  injection e with e
  cases s; cases t
  simp at e
  rw [e])
theorem tab_store {w : World} {mb n : Nat} {L : ByteArray → Option Nat} (h : TabIs w (some mb) n L) {s : ByteArray} (hs : s.size ≤ maxLen) (hn : n < maxLen) (g : Nat) :
    ∃ w', (Instr.mapUpdate 62 (.map (some mb)) (.string s) (.pointer (some ⟨g, 0, none⟩))).run Try.prog w = .ok () w' ∧ TabIs w' (some mb) (n + 1) (upd L s (some g)) ∧ w.mapTurned w' mb := by
  obtain ⟨D, ho, hD⟩ := h
  obtain ⟨w', hr, ho', ht⟩ := ho.store strK Try.underlying62 hn (key9 hs) (fileElem_ptr (some g))
  refine ⟨w', hr, ⟨_, ho', fun t ht' zd => ?_⟩, ht⟩
  unfold upd
  by_cases e : t = s
  · subst e
    rw [if_pos rfl, atKey_put_same ho.isMap (by trivial)]
    rfl
  · rw [if_neg e, atKey_put_other (str_ne e), hD t ht']
theorem tab_drop {w : World} {mb n : Nat} {L : ByteArray → Option Nat} (h : TabIs w (some mb) n L) {s : ByteArray} (hs : s.size ≤ maxLen) (ty : TypeId) :
    ∃ w', (Builtin.delete_ #[62, 9] ty #[.map (some mb), .string s]).run Try.prog w = .ok (.tuple #[]) w' ∧ TabIs w' (some mb) n (upd L s none) ∧ w.mapTurned w' mb := by
  obtain ⟨D, ho, hD⟩ := h
  obtain ⟨w', hr, ho', ht⟩ := ho.drop strK Try.underlying62 (key9 hs) ty
  refine ⟨w', hr, ⟨_, ho', fun t ht' zd => ?_⟩, ht⟩
  unfold upd
  by_cases e : t = s
  · subst e
    rw [if_pos rfl, atKey_del_same]; rfl
  · rw [if_neg e, atKey_del_other (str_ne e), hD t ht']
theorem tab_new (w : World) : TabIs (w.alloc (.map #[] 0)) (some w.heap.size) 0 (fun _ => none) := ⟨.map [], World.ownsMap_made w _ _ _, fun _ _ _ => rfl⟩
theorem TabIs.same {w w' : World} {m : Option Nat} {n : Nat} {L : ByteArray → Option Nat} (h : TabIs w m n L) (hs : ∀ mb, m = some mb → w'.heap[mb]? = w.heap[mb]?) : TabIs w' m n L := by
  cases m with
  | none => exact h
  | some mb =>
    obtain ⟨D, ⟨es, clock, hb, r⟩, hD⟩ := h
    exact ⟨D, ⟨es, clock, (hs mb rfl).trans hb, r⟩, hD⟩
theorem tab_len {w : World} {m : Option Nat} {n : Nat} {L : ByteArray → Option Nat} (h : TabIs w m n L) (ty : TypeId) : ∃ k : Nat, (Builtin.len_ #[62] ty #[.map m]).run Try.prog w = .ok (.int .i64 (k : Int)) w ∧ (k ≤ n ∨ k = 0) := by
  cases m with
  | none => exact ⟨0, Maps.len_nil Try.underlying62 ty, .inr rfl⟩
  | some mb =>
    obtain ⟨D, ho, hD⟩ := h
    exact ⟨_, ho.len Try.underlying62 ty, .inl ho.size_le⟩
set_option maxRecDepth 20000 in
set_option maxHeartbeats 1000000 in
theorem has_any (f o : Nat) (m : Option Nat) (n : Nat) (L : ByteArray → Option Nat) (s : ByteArray) (w : World) (hc : w.cell? ⟨f, o, none⟩ = some (.map m)) (h : TabIs w m n L) (hs : s.size ≤ maxLen) :
    Calls Try.prog 29 #[.pointer (some ⟨f, o, none⟩), .string s] w fun e w' => e = .returned (.bool (L s).isSome) ∧ w' = w := by
  have hl := tab_look h hs
  cases hL : L s with
  | none =>
    rw [hL] at hl
    unfold ptr at hl
    go_enter Try.func29, Try.ntmps29
    go_wp2_with fail
    go_ret
    exact ⟨rfl, rfl⟩
  | some g =>
    rw [hL] at hl
    unfold ptr at hl
    go_enter Try.func29, Try.ntmps29
    go_wp2_with fail
    go_ret
    exact ⟨rfl, rfl⟩
end Go.Proofs.Ytbnbakcoomjnaaa
