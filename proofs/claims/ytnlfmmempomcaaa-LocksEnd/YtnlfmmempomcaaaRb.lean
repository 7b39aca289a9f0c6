/- Whether one would be in a ring: mathematics, and the row of locks that are ahead. -/
import Derived.Test.YtnlfmmempomcaaaRa
namespace Go.Proofs.Ytnlfmmempomcaaa
open Go.RowKit Go.Maps
set_option linter.unusedSimpArgs false
/-- Locks that one comes to: who holds a lock waits for the next one. -/
inductive Reach (S : St) (s : ByteArray) : ByteArray → Prop
  | here : Reach S s s
  | step {t t' : ByteArray} {m : Int} {x : Bool} : Reach S s t → m ∈ S.hs t → S.wt m = some (t', x) → Reach S s t'
def St.Ring (S : St) (n : Int) (s : ByteArray) : Prop := ∃ t, Reach S s t ∧ n ∈ S.hs t
theorem ring_quiet_not {S : St} (hI : Inv S) {n : Int} {s : ByteArray} (h : n ∉ S.hs s) (hq : ∀ t, n ∈ S.hs t → S.rw t = []) : ¬ S.Ring n s := by
  rintro ⟨t, ht, hn⟩
  cases ht with
  | here => exact h hn
  | step h1 h2 h3 =>
    have := (hI.wait _ _ _).1 h3
    rw [hq _ hn] at this
    cases this
theorem nodup_sub {α : Type} [DecidableEq α] : ∀ (m l : List α), l.Nodup → (∀ x ∈ l, x ∈ m) → l.length ≤ m.length
  | [], l, _, h => by
    cases l with
    | nil => exact Nat.le_refl _
    | cons a l => exact absurd (h a (List.mem_cons_self ..)) (by simp)
  | a :: m, l, hn, h => by
    have h1 := nodup_sub m (l.erase a) (hn.erase a) fun x hx => by
      have h2 := (hn.mem_erase_iff).1 hx
      rcases List.mem_cons.1 (h x h2.2) with e | e
      · exact absurd e h2.1
      · exact e
    have h2 := List.length_erase (a := a) (l := l)
    rw [List.length_cons]
    split at h2 <;> omega
/-- A map has no more keys than it may have. -/
theorem SMap.few {k : Nat} {w : World} {b : Nat} {L : ByteArray → Option Nat} (h : SMap k w b L) (ts : List ByteArray) (hn : ts.Nodup) (ht : ∀ t ∈ ts, L t ≠ none) : ts.length ≤ k := by
  obtain ⟨n, D, hnk, ho, hD, hq⟩ := h
  have hsz := ho.size_le
  obtain ⟨es, rfl, _⟩ := ho.keysOf
  have h1 : ∀ t ∈ ts, t.data.toList ∈ es.map fun p => strOf p.1 := fun t htm => by
    have hx : SOk t := by
      cases Classical.em (SOk t) with
      | inl h => exact h
      | inr h => exact absurd (hq t h) (ht t htm)
    have h2 := atD_has (hD t hx)
    have h3 : (L t).isSome = true := by
      cases e : L t with
      | none => exact absurd e (ht t htm)
      | some _ => rfl
    rw [h3, Maps.has_eq, List.any_eq_true] at h2
    obtain ⟨p, hp, hs⟩ := h2
    refine List.mem_map.2 ⟨p, hp, ?_⟩
    cases e : p.1 with
    | string u => rw [e] at hs; simpa [Lit.sameKey, strOf] using hs
    | _ => rw [e] at hs; simp [Lit.sameKey] at hs
  have h2 : (ts.map fun t : ByteArray => t.data.toList).Nodup := List.pairwise_map.2 (hn.imp fun h e => h (bytes_eq e))
  have h3 := nodup_sub (es.map fun p => strOf p.1) _ h2 fun x hx => by
    obtain ⟨t, h4, rfl⟩ := List.mem_map.1 hx
    exact h1 t h4
  rw [List.length_map, List.length_map] at h3
  have h4 : es.length ≤ n := hsz
  omega
/-- Blocks of locks are no more than a map may have. -/
theorem Rp.few {k : Nat} {O : Ghost} {tb : Nat} {S : St} {ex : Option Int} {F : ByteArray → Option Nat} {G : Int → Option Nat} {lm tm : Option Nat} {w : World} (hM : Mem k O w) (h : Rp O tb S ex F G lm tm) (sn : List Nat) (hn : sn.Nodup) (hs : ∀ g ∈ sn, ∃ t, F t = some g) : sn.length ≤ k := by
  cases lm with
  | none =>
    cases sn with
    | nil => exact Nat.zero_le _
    | cons g sn =>
      obtain ⟨t, ht⟩ := hs g (List.mem_cons_self ..)
      rw [h.lm0 rfl t] at ht; cases ht
  | some lb =>
    have hb := hM.sm (h.lm1 lb rfl)
    have hch : ∀ g : Nat, ∃ t, g ∈ sn → F t = some g := fun g => by
      by_cases e : g ∈ sn
      · obtain ⟨t, ht⟩ := hs g e
        exact ⟨t, fun _ => ht⟩
      · exact ⟨⟨#[]⟩, fun x => absurd x e⟩
    have hc := fun g => Classical.choose_spec (hch g)
    have := hb.few (sn.map fun g => Classical.choose (hch g)) (by
      refine List.pairwise_map.2 (hn.imp_of_mem fun {p q} hp hq hne e => hne ?_)
      have e1 := hc p hp
      have e2 := hc q hq
      rw [e] at e1
      rw [e1] at e2
      injection e2) (fun t ht => by
      obtain ⟨g, hg, rfl⟩ := List.mem_map.1 ht
      rw [hc g hg]; simp)
    simpa using this
/-- The row of locks that are ahead, in a block of the call's own. -/
def LRow (B : Nat) (w : World) (v : Value) (ah : List Nat) : Prop := w.ownsRow B 76 1 v ah.length (ah.map fun g => ptr (some g))
theorem info76 : ∃ i z, Try.prog.info? 76 = some i ∧ i.zero = some z ∧ i.size = 1 ∧ i.bytes = 8 ∧ z.cells.size = 1 := by
  have h : (Try.prog.info? 76).map (fun i => (i.zero.map (fun z => z.cells.size), i.size, i.bytes)) = some (some 1, 1, 8) := by kernel_rfl
  cases hq : Try.prog.info? 76 with
  | none => simp [hq] at h
  | some i =>
    simp [hq] at h
    obtain ⟨⟨z, hz, h1⟩, h2, h3⟩ := h
    exact ⟨i, z, rfl, hz, h2, h3, h1⟩
def app130 (ty : TypeId) (args : Array Value) : Sem Value := Builtin.append_ #[130, 130] ty args
@[go_sem ↓] theorem append_app130 (ty : TypeId) (args : Array Value) : Builtin.append_ #[130, 130] ty args = app130 ty args := rfl
theorem LRow.push {B : Nat} {w : World} {v : Value} {ah : List Nat} (h : LRow B w v ah) (hB : B ≤ w.heap.size) (hl : ah.length ≤ 4000000) (q : Nat) :
    ∃ v' w3, (∀ ty, (app130 ty #[v, .slice (some ⟨w.heap.size, 0, none⟩) 1 1]).run Try.prog (w.alloc (.cells #[.pointer (some ⟨q, 0, none⟩)] 76)) = .ok v' w3) ∧ LRow B w3 v' (ah ++ [q]) ∧ w.grownBy w3 v.ownBlock := by
  obtain ⟨i, z, hi, hz, hsz, hby, hzs⟩ := info76
  obtain ⟨v', w3, hr, hown, hgr, _, hloc⟩ := run_append_own_at (P := Try.prog) (w.alloc (.cells #[.pointer (some ⟨q, 0, none⟩)] 76)) B 130 130 76 i z 1 8 Try.underlying130 hi hz hsz hby hzs (by omega) _ ah.length _ (World.ownsRow.alloc h _) ⟨w.heap.size, 0, none⟩ 1 1 [.pointer (some ⟨q, 0, none⟩)] rfl (cell_one_new w (.pointer (some ⟨q, 0, none⟩)) 76) (fun u hu => by simp at hu; subst hu; rfl) (by simp only [maxLen]; omega) (by omega) (by simp; omega)
  have e : (ah ++ [q]).length = ah.length + 1 := by simp
  have e2 : (ah ++ [q]).map (fun g => ptr (some g)) = ah.map (fun g => ptr (some g)) ++ [.pointer (some ⟨q, 0, none⟩)] := by simp [ptr]
  have hg := (World.grownBy_alloc w (.cells #[.pointer (some ⟨q, 0, none⟩)] 76) v.ownBlock).trans hgr
  exact ⟨v', w3, fun _ => hr, by unfold LRow; rw [e, e2]; exact hown, hg⟩
/-- The last one of the row. -/
theorem LRow.last {B : Nat} {w : World} {v : Value} {pre : List Nat} {q : Nat} (h : LRow B w v (pre ++ [q])) : ∃ g cap, v = .slice (some ⟨g, 0, none⟩) (pre.length + 1) cap ∧ B ≤ g ∧ w.cell? ⟨g, pre.length, none⟩ = some (.pointer (some ⟨q, 0, none⟩)) ∧ pre.length + 1 ≤ cap ∧ cap ≤ maxLen ∧ LRow B w (.slice (some ⟨g, 0, none⟩) pre.length cap) pre := by
  obtain ⟨h1, h2⟩ := h
  have el : (pre ++ [q]).length = pre.length + 1 := by simp
  rw [el] at h2
  rcases h2 with ⟨_, e⟩ | ⟨g, cap, cur, hv, hg, hh, hc, hm, hs, ht⟩
  · omega
  · rw [Nat.mul_one] at ht hs
    have e1 : cur.toList[pre.length]? = some (ptr (some q)) := by
      have : (cur.toList.take (pre.length + 1))[pre.length]? = some (ptr (some q)) := by rw [ht]; simp
      rw [List.getElem?_take] at this
      simpa using this
    refine ⟨g, cap, hv, hg, ?_, hc, hm, by simp, .inr ⟨g, cap, cur, rfl, hg, hh, by omega, hm, by omega, ?_⟩⟩
    · simp only [World.cell?, hh]
      rw [Array.getElem?_toList] at e1
      simpa [ptr] using e1
    · have : (cur.toList.take (pre.length + 1)).take pre.length = pre.map fun g => ptr (some g) := by rw [ht]; simp
      rw [List.take_take] at this
      rw [Nat.mul_one, ← this]
      congr 1
      omega
theorem LRow.kept {B : Nat} {w w' : World} {v : Value} {ah : List Nat} (h : LRow B w v ah) (hb : ∀ g, v.ownBlock = some g → w'.heap[g]? = w.heap[g]?) : LRow B w' v ah := ownsRow_same h hb
theorem LRow.cells {B : Nat} {w : World} {v : Value} {ah : List Nat} (h : LRow B w v ah) {g : Nat} (e : v.ownBlock = some g) : B ≤ g ∧ ∃ cur, w.heap[g]? = some (.cells cur 76 (0, 0)) := by
  obtain ⟨h1, h2⟩ := h
  rcases h2 with ⟨hv, _⟩ | ⟨g', cap, cur, hv, hg, hh, _⟩
  · rw [hv] at e; cases e
  · rw [hv] at e
    injection e with e
    subst e
    exact ⟨hg, cur, hh⟩
theorem LRow.shape {B : Nat} {w : World} {v : Value} {ah : List Nat} (h : LRow B w v ah) : ∃ a c, v = .slice a ah.length c := by
  obtain ⟨h1, h2⟩ := h
  rcases h2 with ⟨hv, e⟩ | ⟨g', cap, cur, hv, hg, hh, _⟩
  · exact ⟨none, 0, by rw [hv, e]⟩
  · exact ⟨_, _, hv⟩
/-- Nothing leads on from a task but to locks that were seen. -/
def StepOk (S : St) (n : Int) (F : ByteArray → Option Nat) (sn : List Nat) (m : Int) : Prop := m ≠ n ∧ ∀ x, S.wt m = some x → ∀ g, F x.1 = some g → g ∈ sn
theorem StepOk.mono {S : St} {n : Int} {F : ByteArray → Option Nat} {sn sn' : List Nat} {m : Int} (h : StepOk S n F sn m) (hs : ∀ g ∈ sn, g ∈ sn') : StepOk S n F sn' m := ⟨h.1, fun x hx g hg => hs g (h.2 x hx g hg)⟩
/-- What is known of the locks that were seen, but for cur: that one is being looked at. -/
structure RgI (S : St) (n : Int) (s : ByteArray) (F : ByteArray → Option Nat) (b : Nat) (cur : ByteArray → Prop) (sn ah : List Nat) : Prop where
  nd : sn.Nodup
  len : ah.length ≤ sn.length
  sub : ∀ g ∈ ah, g ∈ sn
  live : ∀ g ∈ sn, ∃ t, F t = some g ∧ Reach S s t
  here : b ∈ sn
  done : ∀ t g, F t = some g → g ∈ sn → g ∉ ah → ¬ cur t → ∀ m ∈ S.hs t, StepOk S n F sn m
theorem RgI.start {S : St} {n : Int} {s : ByteArray} {F : ByteArray → Option Nat} {b : Nat} (hb : F s = some b) : RgI S n s F b (fun _ => False) [b] [b] :=
  ⟨by simp, Nat.le_refl _, fun g h => h, fun g h => ⟨s, by rw [List.mem_singleton.1 h]; exact hb, .here⟩, List.mem_singleton.2 rfl, fun t g _ h1 h2 => absurd h1 h2⟩
/-- The last one is looked at. -/
theorem RgI.pop {S : St} {n : Int} {s : ByteArray} {F : ByteArray → Option Nat} {b : Nat} {sn pre : List Nat} {q : Nat} {c : ByteArray} (h : RgI S n s F b (fun _ => False) sn (pre ++ [q])) (hc : F c = some q) (hinj : ∀ t g, F t = some g → F c = some g → t = c) : RgI S n s F b (fun t => t = c) sn pre := by
  have hl := h.len
  rw [List.length_append] at hl
  refine ⟨h.nd, by omega, fun g hg => h.sub g (List.mem_append_left _ hg), h.live, h.here, fun t g h1 h2 h3 h4 => h.done t g h1 h2 (fun h5 => ?_) id⟩
  rcases List.mem_append.1 h5 with h6 | h6
  · exact h3 h6
  · rw [List.mem_singleton.1 h6] at h1
    exact h4 (hinj t q h1 hc)
/-- One more lock. -/
theorem RgI.push {S : St} {n : Int} {s : ByteArray} {F : ByteArray → Option Nat} {b : Nat} {cur : ByteArray → Prop} {sn ah : List Nat} {g : Nat} {t : ByteArray} (h : RgI S n s F b cur sn ah) (ht : F t = some g) (hr : Reach S s t) (hg : g ∉ sn) : RgI S n s F b cur (sn ++ [g]) (ah ++ [g]) := by
  have hs : ∀ x ∈ sn, x ∈ sn ++ [g] := fun x hx => List.mem_append_left _ hx
  refine ⟨List.nodup_append.2 ⟨h.nd, by simp, fun x hx y hy => ?_⟩, by have := h.len; simp; omega, fun x hx => ?_, fun x hx => ?_, hs _ h.here, fun u x h1 h2 h3 h4 m hm => ?_⟩
  · rw [List.mem_singleton.1 hy]
    rintro rfl
    exact hg hx
  · rcases List.mem_append.1 hx with hx | hx
    · exact hs _ (h.sub x hx)
    · exact List.mem_append_right _ hx
  · rcases List.mem_append.1 hx with hx | hx
    · exact h.live x hx
    · exact ⟨t, by rw [List.mem_singleton.1 hx]; exact ht, hr⟩
  · rcases List.mem_append.1 h2 with h2 | h2
    · exact (h.done u x h1 h2 (fun h5 => h3 (List.mem_append_left _ h5)) h4 m hm).mono hs
    · exact absurd (List.mem_append_right _ h2) h3
/-- The one that was looked at is done with. -/
theorem RgI.close {S : St} {n : Int} {s : ByteArray} {F : ByteArray → Option Nat} {b : Nat} {c : ByteArray} {sn ah : List Nat} (h : RgI S n s F b (fun t => t = c) sn ah) (hc : ∀ m ∈ S.hs c, StepOk S n F sn m) : RgI S n s F b (fun _ => False) sn ah :=
  ⟨h.nd, h.len, h.sub, h.live, h.here, fun t g h1 h2 h3 _ m hm => by
    by_cases e : t = c
    · exact hc m (e ▸ hm)
    · exact h.done t g h1 h2 h3 e m hm⟩
/-- Nothing is ahead any more: there is no ring. -/
theorem RgI.none_ahead {S : St} {n : Int} {s : ByteArray} {F : ByteArray → Option Nat} {b : Nat} {sn : List Nat} (h : RgI S n s F b (fun _ => False) sn []) (hb : F s = some b) (hw : ∀ m t x, S.wt m = some (t, x) → ∃ g, F t = some g) : ¬ S.Ring n s := by
  have key : ∀ t, Reach S s t → ∃ g, F t = some g ∧ g ∈ sn := fun t ht => by
    induction ht with
    | here => exact ⟨b, hb, h.here⟩
    | step h1 h2 h3 ih =>
      obtain ⟨g, hg, hs⟩ := ih
      obtain ⟨g', hg'⟩ := hw _ _ _ h3
      exact ⟨g', hg', (h.done _ g hg hs (by simp) id _ h2).2 _ h3 g' hg'⟩
  rintro ⟨t, ht, hn⟩
  obtain ⟨g, hg, hs⟩ := key t ht
  exact (h.done t g hg hs (by simp) id n hn).1 rfl
end Go.Proofs.Ytnlfmmempomcaaa
