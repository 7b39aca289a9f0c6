import Derived.Test.YtnlfmmempomcaaaProg
import Derived.WalkKit
import Derived.Tactics
import Derived.Tactics2
import Derived.Defers
import Derived.Laws.Pointers
import Derived.Laws.LoneSync
import Derived.RegionTactic
import Derived.RegionCalls
import Derived.ChangeAlike
import Derived.Maps.OwnSet
import Derived.Maps.Views
import Derived.Maps.RangeWalk
import Derived.StringKeys
import Derived.Sort.KeysCollected
import Derived.LaidEqlPtr
import Derived.WalkSpells
import Derived.Carry
/- Maps of pointers, keyed by texts and by numbers. -/
namespace Go.Proofs.Ytnlfmmempomcaaa
open Go.RowKit Go.Maps
set_option linter.unusedSimpArgs false
theorem hide {p : Prop} (h : p) : Hid p := h
theorem unhide {p : Prop} (h : Hid p) : p := h
/-- A pointer, as it is read: its block. -/
def ptrElem : Value → Option (DataW Unit × List MemPlace)
  | .pointer none => some (.nil, [])
  | .pointer (some ⟨g, 0, none⟩) => some (.lit (.int .i64 (g : Int)), [])
  | _ => none
/-- A pointer to a block. -/
def ptr : Option Nat → Value
  | none => .pointer none
  | some g => .pointer (some ⟨g, 0, none⟩)
def ptrD : Option Nat → DataW Unit
  | none => .nil
  | some g => .lit (.int .i64 (g : Int))
theorem ptrElem_ptr (o : Option Nat) : ptrElem (ptr o) = some (ptrD o, []) := by cases o <;> rfl
theorem ptrElem_shape (v : Value) (y : DataW Unit × List MemPlace) (h : ptrElem v = some y) : ∃ c, v = ptr c := by
  unfold ptrElem at h
  split at h
  · exact ⟨none, rfl⟩
  · rename_i g
    exact ⟨some g, rfl⟩
  · cases h
theorem ptrD_inj {a b : Option Nat} (h : ptrD a = ptrD b) : a = b := by
  cases a with
  | none =>
    cases b with
    | none => rfl
    | some g => simp [ptrD] at h
  | some g =>
    cases b with
    | none => simp [ptrD] at h
    | some g' =>
      simp [ptrD] at h
      have : g = g' := by omega
      rw [this]
theorem ptrElem_inv {v : Value} {o : Option Nat} {ps : List MemPlace} (h : ptrElem v = some (ptrD o, ps)) : v = ptr o := by
  obtain ⟨c, rfl⟩ := ptrElem_shape v _ h
  rw [ptrElem_ptr] at h
  injection h with h
  injection h with h
  rw [ptrD_inj h]
/-- What stands at a key, or what is told where there is none. -/
def atD (o : Option Nat) (zd : DataW Unit) : DataW Unit :=
  match o with
  | none => zd
  | some g => .lit (.int .i64 (g : Int))
theorem atD_nil (o : Option Nat) : atD o .nil = ptrD o := by cases o <;> rfl
theorem atD_inj {a b : Option Nat} (h : ∀ zd, atD a zd = atD b zd) : a = b := ptrD_inj (by rw [← atD_nil, ← atD_nil]; exact h .nil)
theorem atD_has {E : List (Lit × DataW Unit)} {kl : Lit} {o : Option Nat} (hD : ∀ zd, (DataW.map E).atKey kl zd = atD o zd) : Maps.has (.map E) kl = o.isSome := by
  simp only [DataW.atKey] at hD
  rw [Maps.has_eq]
  cases hf : List.find? (fun p => p.1.sameKey kl) E with
  | none =>
    rw [hf] at hD
    have h2 := List.find?_eq_none.1 hf
    cases o with
    | none =>
      rw [Option.isSome_none]
      exact List.any_eq_false.2 fun p hp => by simpa using h2 p hp
    | some g =>
      have := hD .nil
      simp [atD] at this
  | some p =>
    rw [hf] at hD
    have h2 := List.find?_some hf
    cases o with
    | none =>
      have a1 := hD .nil
      have a2 := hD (.map [])
      simp only [atD] at a1 a2
      rw [a1] at a2
      cases a2
    | some g =>
      rw [Option.isSome_some]
      exact List.any_eq_true.2 ⟨p, List.mem_of_find?_eq_some hf, h2⟩
theorem isMap_of {w : World} {k : TypeId} {b n : Nat} {D : DataW Unit} (ho : w.ownsMap Try.prog k ptrElem b n D) : ∃ E, D = .map E := by
  obtain ⟨es, cl, hb, _, _, e⟩ := ho
  exact ⟨_, e⟩
theorem str_ne {s t : ByteArray} (h : t ≠ s) : Lit.string t.data.toList ≠ Lit.string s.data.toList := fun e => h (by
  injection e with e
  cases s; cases t
  simp at e
  rw [e])
theorem strK : Keyed Try.prog 9 := string_keyed Try.underlying9
theorem intK : Keyed Try.prog 3 := int_keyed Try.underlying3
def SOk (s : ByteArray) : Prop := s.size ≤ maxLen
def IOk (x : Int) : Prop := (Lit.int .i64 x).wf = true
theorem S_key {s : ByteArray} (hs : SOk s) : keyOf Try.prog 9 (.string s) = some (.string s.data.toList) := Go.WideMaps.keyOf_string_mk Try.underlying9 hs
theorem I_key {x : Int} (hx : IOk x) : keyOf Try.prog 3 (.int .i64 x) = some (.int .i64 x) := keyOf_int_mk Try.underlying3 hx
theorem int_ne {s t : Int} (h : t ≠ s) : Lit.int .i64 t ≠ Lit.int .i64 s := fun e => h (by injection e)
theorem bytes_eq {s t : ByteArray} (h : s.data.toList = t.data.toList) : s = t := by
  cases s; cases t
  simp at h
  rw [h]
theorem S_inv {v : Value} {l : Lit} (h : keyOf Try.prog 9 v = some l) : ∃ x : ByteArray, v = .string x ∧ l = .string x.data.toList ∧ SOk x := by
  obtain ⟨x, hx, hl, hn⟩ := Maps.keyOf_str Try.underlying9 h
  exact ⟨⟨x.toArray⟩, hx, hl, hn⟩
theorem I_inv {v : Value} {l : Lit} (h : keyOf Try.prog 3 v = some l) : ∃ x : Int, v = .int .i64 x ∧ l = .int .i64 x ∧ IOk x := Maps.keyOf_int_inv Try.underlying3 h

/-- A map reads as L. -/
def SMap (k : Nat) (w : World) (b : Nat) (L : ByteArray → Option Nat) : Prop :=
  ∃ n D, n ≤ k ∧ w.ownsMap Try.prog 9 ptrElem b n D ∧ (∀ x, SOk x → ∀ zd, D.atKey (.string x.data.toList) zd = atD (L x) zd) ∧ ∀ x, ¬ SOk x → L x = none
theorem SMap.mono {k k' : Nat} {w : World} {b : Nat} {L : ByteArray → Option Nat} (h : SMap k w b L) (hk : k ≤ k') : SMap k' w b L := by
  obtain ⟨n, D, h1, h2⟩ := h
  exact ⟨n, D, by omega, h2⟩
theorem SMap.same {k : Nat} {w w' : World} {b : Nat} {L : ByteArray → Option Nat} (h : SMap k w b L) (hs : w'.heap[b]? = w.heap[b]?) : SMap k w' b L := by
  obtain ⟨n, D, h1, ⟨es, clock, hb, r⟩, h2⟩ := h
  exact ⟨n, D, h1, ⟨es, clock, hs.trans hb, r⟩, h2⟩
theorem SMap.block {k : Nat} {w : World} {b : Nat} {L : ByteArray → Option Nat} (h : SMap k w b L) : ∃ es c, w.heap[b]? = some (.map es c) := by
  obtain ⟨n, D, h1, ⟨es, clock, hb, r⟩, h2⟩ := h
  exact ⟨es, clock, hb⟩
/-- A map with one key that leads elsewhere, or nowhere. -/
def supd (L : ByteArray → Option Nat) (x : ByteArray) (o : Option Nat) : ByteArray → Option Nat := fun t => if t = x then o else L t
theorem S_look {k : Nat} {w : World} {b : Nat} {L : ByteArray → Option Nat} (h : SMap k w b L) {x : ByteArray} (hx : SOk x) : (Instr.lookup 70 (.map (some b)) (.string x) false).run Try.prog w = .ok (ptr (L x)) w := by
  obtain ⟨n, D, _, ho, hD, _⟩ := h
  obtain ⟨v, ps, hr, hv⟩ := ho.lookup strK Try.underlying70 (Try.zeroValue76 w) (zd := .nil) (zp := []) rfl (S_key hx)
  rw [hD x hx, atD_nil] at hv
  rw [hr, ptrElem_inv hv]
theorem S_look_nil {w : World} {x : ByteArray} (hx : SOk x) : (Instr.lookup 70 (.map none) (.string x) false).run Try.prog w = .ok (ptr none) w := by
  rw [Maps.look_nil false strK Try.underlying70 (Try.zeroValue76 w) (S_key hx)]; rfl
theorem S_look_ok {k : Nat} {w : World} {b : Nat} {L : ByteArray → Option Nat} (h : SMap k w b L) {x : ByteArray} (hx : SOk x) : (Instr.lookup 70 (.map (some b)) (.string x) true).run Try.prog w = .ok (.tuple #[ptr (L x), .bool (L x).isSome]) w := by
  obtain ⟨n, D, _, ho, hD, _⟩ := h
  obtain ⟨v, ps, hr, hv⟩ := ho.look_ok strK Try.underlying70 (Try.zeroValue76 w) (zd := .nil) (zp := []) rfl (S_key hx)
  obtain ⟨E, rfl⟩ := isMap_of ho
  rw [atD_has (hD x hx)] at hr
  rw [hD x hx, atD_nil] at hv
  rw [hr, ptrElem_inv hv]
theorem S_store {k : Nat} {w : World} {b : Nat} {L : ByteArray → Option Nat} (h : SMap k w b L) {x : ByteArray} (hx : SOk x) (hk : k < maxLen) (g : Nat) :
    ∃ w', (Instr.mapUpdate 70 (.map (some b)) (.string x) (.pointer (some ⟨g, 0, none⟩))).run Try.prog w = .ok () w' ∧ SMap (k + 1) w' b (supd L x (some g)) ∧ w.mapTurned w' b := by
  obtain ⟨n, D, hn, ho, hD, hq⟩ := h
  obtain ⟨w', hr, ho', ht⟩ := ho.store strK Try.underlying70 (by omega) (S_key hx) (ptrElem_ptr (some g))
  refine ⟨w', hr, ⟨n + 1, _, by omega, ho', fun t ht' zd => ?_, fun t ht' => ?_⟩, ht⟩
  · unfold supd
    by_cases e : t = x
    · subst e
      rw [if_pos rfl, atKey_put_same ho.isMap (by trivial)]
      rfl
    · rw [if_neg e, atKey_put_other (str_ne e), hD t ht']
  · unfold supd
    rw [if_neg (fun e => ht' (by rw [e]; exact hx))]
    exact hq t ht'
theorem S_drop {k : Nat} {w : World} {b : Nat} {L : ByteArray → Option Nat} (h : SMap k w b L) {x : ByteArray} (hx : SOk x) (ty : TypeId) :
    ∃ w', (Builtin.delete_ #[70, 9] ty #[.map (some b), .string x]).run Try.prog w = .ok (.tuple #[]) w' ∧ SMap k w' b (supd L x none) ∧ w.mapTurned w' b := by
  obtain ⟨n, D, hn, ho, hD, hq⟩ := h
  obtain ⟨w', hr, ho', ht⟩ := ho.drop strK Try.underlying70 (S_key hx) ty
  refine ⟨w', hr, ⟨n, _, hn, ho', fun t ht' zd => ?_, fun t ht' => ?_⟩, ht⟩
  · unfold supd
    by_cases e : t = x
    · subst e
      rw [if_pos rfl, atKey_del_same]; rfl
    · rw [if_neg e, atKey_del_other (str_ne e), hD t ht']
  · unfold supd
    rw [if_neg (fun e => ht' (by rw [e]; exact hx))]
    exact hq t ht'
theorem S_new (k : Nat) (w : World) : SMap k (w.alloc (.map #[] 0)) w.heap.size (fun _ => none) := ⟨0, .map [], Nat.zero_le _, World.ownsMap_made w _ _ _, fun _ _ _ => rfl, fun _ _ => rfl⟩
theorem S_len {k : Nat} {w : World} {b : Nat} {L : ByteArray → Option Nat} (h : SMap k w b L) : ∃ n : Nat, (∀ ty, (Builtin.len_ #[70] ty #[.map (some b)]).run Try.prog w = .ok (.int .i64 (n : Int)) w) ∧ n ≤ k ∧ (n = 0 ↔ ∀ x, L x = none) := by
  obtain ⟨n, D, hn, ho, hD, hq⟩ := h
  refine ⟨_, fun ty => ho.len Try.underlying70 ty, Nat.le_trans ho.size_le hn, ?_⟩
  obtain ⟨es, rfl, hk⟩ := ho.keysOf
  show es.length = 0 ↔ _
  constructor
  · intro h0 x
    by_cases hx : SOk x
    · have h1 := hD x hx
      obtain rfl : es = [] := List.length_eq_zero_iff.1 h0
      exact atD_inj fun zd => (h1 zd).symm
    · exact hq x hx
  · intro h0
    cases es with
    | nil => rfl
    | cons p es =>
      obtain ⟨v, hv⟩ := hk p (List.mem_cons_self ..)
      obtain ⟨x, _, hl, hx⟩ := S_inv hv
      have h1 := atD_has (hD x hx)
      rw [h0 x, Maps.has_eq, List.any_cons] at h1
      rw [hl] at h1
      simp [Lit.sameKey] at h1

/-- A map reads as L. -/
def IMap (k : Nat) (w : World) (b : Nat) (L : Int → Option Nat) : Prop :=
  ∃ n D, n ≤ k ∧ w.ownsMap Try.prog 3 ptrElem b n D ∧ (∀ x, IOk x → ∀ zd, D.atKey (.int .i64 x) zd = atD (L x) zd) ∧ ∀ x, ¬ IOk x → L x = none
theorem IMap.mono {k k' : Nat} {w : World} {b : Nat} {L : Int → Option Nat} (h : IMap k w b L) (hk : k ≤ k') : IMap k' w b L := by
  obtain ⟨n, D, h1, h2⟩ := h
  exact ⟨n, D, by omega, h2⟩
theorem IMap.same {k : Nat} {w w' : World} {b : Nat} {L : Int → Option Nat} (h : IMap k w b L) (hs : w'.heap[b]? = w.heap[b]?) : IMap k w' b L := by
  obtain ⟨n, D, h1, ⟨es, clock, hb, r⟩, h2⟩ := h
  exact ⟨n, D, h1, ⟨es, clock, hs.trans hb, r⟩, h2⟩
theorem IMap.block {k : Nat} {w : World} {b : Nat} {L : Int → Option Nat} (h : IMap k w b L) : ∃ es c, w.heap[b]? = some (.map es c) := by
  obtain ⟨n, D, h1, ⟨es, clock, hb, r⟩, h2⟩ := h
  exact ⟨es, clock, hb⟩
/-- A map with one key that leads elsewhere, or nowhere. -/
def iupd (L : Int → Option Nat) (x : Int) (o : Option Nat) : Int → Option Nat := fun t => if t = x then o else L t
theorem I_look {k : Nat} {w : World} {b : Nat} {L : Int → Option Nat} (h : IMap k w b L) {x : Int} (hx : IOk x) : (Instr.lookup 71 (.map (some b)) (.int .i64 x) false).run Try.prog w = .ok (ptr (L x)) w := by
  obtain ⟨n, D, _, ho, hD, _⟩ := h
  obtain ⟨v, ps, hr, hv⟩ := ho.lookup intK Try.underlying71 (Try.zeroValue74 w) (zd := .nil) (zp := []) rfl (I_key hx)
  rw [hD x hx, atD_nil] at hv
  rw [hr, ptrElem_inv hv]
theorem I_look_nil {w : World} {x : Int} (hx : IOk x) : (Instr.lookup 71 (.map none) (.int .i64 x) false).run Try.prog w = .ok (ptr none) w := by
  rw [Maps.look_nil false intK Try.underlying71 (Try.zeroValue74 w) (I_key hx)]; rfl
theorem I_look_ok {k : Nat} {w : World} {b : Nat} {L : Int → Option Nat} (h : IMap k w b L) {x : Int} (hx : IOk x) : (Instr.lookup 71 (.map (some b)) (.int .i64 x) true).run Try.prog w = .ok (.tuple #[ptr (L x), .bool (L x).isSome]) w := by
  obtain ⟨n, D, _, ho, hD, _⟩ := h
  obtain ⟨v, ps, hr, hv⟩ := ho.look_ok intK Try.underlying71 (Try.zeroValue74 w) (zd := .nil) (zp := []) rfl (I_key hx)
  obtain ⟨E, rfl⟩ := isMap_of ho
  rw [atD_has (hD x hx)] at hr
  rw [hD x hx, atD_nil] at hv
  rw [hr, ptrElem_inv hv]
theorem I_store {k : Nat} {w : World} {b : Nat} {L : Int → Option Nat} (h : IMap k w b L) {x : Int} (hx : IOk x) (hk : k < maxLen) (g : Nat) :
    ∃ w', (Instr.mapUpdate 71 (.map (some b)) (.int .i64 x) (.pointer (some ⟨g, 0, none⟩))).run Try.prog w = .ok () w' ∧ IMap (k + 1) w' b (iupd L x (some g)) ∧ w.mapTurned w' b := by
  obtain ⟨n, D, hn, ho, hD, hq⟩ := h
  obtain ⟨w', hr, ho', ht⟩ := ho.store intK Try.underlying71 (by omega) (I_key hx) (ptrElem_ptr (some g))
  refine ⟨w', hr, ⟨n + 1, _, by omega, ho', fun t ht' zd => ?_, fun t ht' => ?_⟩, ht⟩
  · unfold iupd
    by_cases e : t = x
    · subst e
      rw [if_pos rfl, atKey_put_same ho.isMap (by trivial)]
      rfl
    · rw [if_neg e, atKey_put_other (int_ne e), hD t ht']
  · unfold iupd
    rw [if_neg (fun e => ht' (by rw [e]; exact hx))]
    exact hq t ht'
theorem I_drop {k : Nat} {w : World} {b : Nat} {L : Int → Option Nat} (h : IMap k w b L) {x : Int} (hx : IOk x) (ty : TypeId) :
    ∃ w', (Builtin.delete_ #[71, 3] ty #[.map (some b), .int .i64 x]).run Try.prog w = .ok (.tuple #[]) w' ∧ IMap k w' b (iupd L x none) ∧ w.mapTurned w' b := by
  obtain ⟨n, D, hn, ho, hD, hq⟩ := h
  obtain ⟨w', hr, ho', ht⟩ := ho.drop intK Try.underlying71 (I_key hx) ty
  refine ⟨w', hr, ⟨n, _, hn, ho', fun t ht' zd => ?_, fun t ht' => ?_⟩, ht⟩
  · unfold iupd
    by_cases e : t = x
    · subst e
      rw [if_pos rfl, atKey_del_same]; rfl
    · rw [if_neg e, atKey_del_other (int_ne e), hD t ht']
  · unfold iupd
    rw [if_neg (fun e => ht' (by rw [e]; exact hx))]
    exact hq t ht'
theorem I_new (k : Nat) (w : World) : IMap k (w.alloc (.map #[] 0)) w.heap.size (fun _ => none) := ⟨0, .map [], Nat.zero_le _, World.ownsMap_made w _ _ _, fun _ _ _ => rfl, fun _ _ => rfl⟩
theorem I_len {k : Nat} {w : World} {b : Nat} {L : Int → Option Nat} (h : IMap k w b L) : ∃ n : Nat, (∀ ty, (Builtin.len_ #[71] ty #[.map (some b)]).run Try.prog w = .ok (.int .i64 (n : Int)) w) ∧ n ≤ k ∧ (n = 0 ↔ ∀ x, L x = none) := by
  obtain ⟨n, D, hn, ho, hD, hq⟩ := h
  refine ⟨_, fun ty => ho.len Try.underlying71 ty, Nat.le_trans ho.size_le hn, ?_⟩
  obtain ⟨es, rfl, hk⟩ := ho.keysOf
  show es.length = 0 ↔ _
  constructor
  · intro h0 x
    by_cases hx : IOk x
    · have h1 := hD x hx
      obtain rfl : es = [] := List.length_eq_zero_iff.1 h0
      exact atD_inj fun zd => (h1 zd).symm
    · exact hq x hx
  · intro h0
    cases es with
    | nil => rfl
    | cons p es =>
      obtain ⟨v, hv⟩ := hk p (List.mem_cons_self ..)
      obtain ⟨x, _, hl, hx⟩ := I_inv hv
      have h1 := atD_has (hD x hx)
      rw [h0 x, Maps.has_eq, List.any_cons] at h1
      rw [hl] at h1
      simp [Lit.sameKey] at h1
end Go.Proofs.Ytnlfmmempomcaaa
