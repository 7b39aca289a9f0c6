/- A row goes on: mathematics. -/
import Derived.Test.YtnlfmmempomcaaaLf
import Derived.Maps.AppendAt
namespace Go.Proofs.Ytnlfmmempomcaaa
open Go.RowKit Go.Maps
set_option linter.unusedSimpArgs false
def fset {α β : Type} [DecidableEq α] (f : α → β) (a : α) (b : β) : α → β := fun x => if x = a then b else f x
theorem fset_same {α β : Type} [DecidableEq α] (f : α → β) (a : α) (b : β) : fset f a b a = b := if_pos rfl
theorem fset_other {α β : Type} [DecidableEq α] (f : α → β) {a x : α} (b : β) (h : x ≠ a) : fset f a b x = f x := if_neg h
/-- The first of a row holds the lock. -/
def St.pop (S : St) (s : ByteArray) (n : Int) (x : Bool) (r : List (Int × Bool)) : St := ⟨fset S.hs s (S.hs s ++ [n]), fset S.sh s x, fset S.rw s r, fset S.wt n none⟩
def St.lets (S : St) (s : ByteArray) (x : Bool) : Bool := (S.hs s).isEmpty || (S.sh s && x)
/-- A row goes on: f tasks at most. -/
def St.goes (S : St) (s : ByteArray) : Nat → St × List Int
  | 0 => (S, [])
  | f + 1 => match S.rw s with
    | [] => (S, [])
    | (n, x) :: r => if S.lets s x = true then (((S.pop s n x r).goes s f).1, n :: ((S.pop s n x r).goes s f).2) else (S, [])
def St.go (S : St) (s : ByteArray) : St × List Int := S.goes s (S.rw s).length
theorem St.go_none {S : St} {s : ByteArray} (h : S.rw s = []) : S.go s = (S, []) := by unfold St.go; rw [h]; rfl
theorem St.go_stop {S : St} {s : ByteArray} {n : Int} {x : Bool} {r : List (Int × Bool)} (h : S.rw s = (n, x) :: r) (hl : S.lets s x = false) : S.go s = (S, []) := by
  unfold St.go
  rw [h]
  show S.goes s (r.length + 1) = _
  unfold St.goes
  rw [h]
  simp [hl]
theorem St.pop_rw (S : St) (s : ByteArray) (n : Int) (x : Bool) (r : List (Int × Bool)) : (S.pop s n x r).rw s = r := if_pos rfl
theorem St.go_step {S : St} {s : ByteArray} {n : Int} {x : Bool} {r : List (Int × Bool)} (h : S.rw s = (n, x) :: r) (hl : S.lets s x = true) : S.go s = (((S.pop s n x r).go s).1, n :: ((S.pop s n x r).go s).2) := by
  unfold St.go
  rw [h, S.pop_rw]
  show S.goes s (r.length + 1) = _
  conv => lhs; unfold St.goes
  rw [h]
  simp [hl]
theorem Inv.pop {S : St} (h : Inv S) {s : ByteArray} {n : Int} {x : Bool} {r : List (Int × Bool)} (hr : S.rw s = (n, x) :: r) : Inv (S.pop s n x r) := by
  have hmem : (n, x) ∈ S.rw s := by rw [hr]; exact List.mem_cons_self ..
  have hwt := (h.wait n s x).2 hmem
  have hnd : n ∉ r.map Prod.fst ∧ (r.map Prod.fst).Nodup := by
    have := h.once s
    rw [hr] at this
    exact List.nodup_cons.1 this
  have hout : ∀ s' y, (n, y) ∈ (S.pop s n x r).rw s' → False := fun s' y hy => by
    by_cases e : s' = s
    · subst e
      rw [S.pop_rw] at hy
      exact hnd.1 (List.mem_map.2 ⟨_, hy, rfl⟩)
    · rw [show (S.pop s n x r).rw s' = S.rw s' from if_neg e] at hy
      have := (h.wait n s' y).2 hy
      rw [hwt] at this
      injection this with this
      injection this with this
      exact e this.symm
  refine ⟨fun m s' y => ?_, fun s' => ?_, fun s' => ?_, fun s' m y hy => ?_⟩
  · by_cases em : m = n
    · subst em
      constructor
      · intro e
        rw [show (S.pop s m x r).wt m = none from if_pos rfl] at e
        cases e
      · intro e
        exact absurd (hout s' y e) id
    · rw [show (S.pop s n x r).wt m = S.wt m from if_neg em, h.wait m s' y]
      by_cases e : s' = s
      · subst e
        rw [S.pop_rw, hr]
        simp [em]
      · rw [show (S.pop s n x r).rw s' = S.rw s' from if_neg e]
  · by_cases e : s' = s
    · subst e
      rw [S.pop_rw]; exact hnd.2
    · rw [show (S.pop s n x r).rw s' = S.rw s' from if_neg e]; exact h.once s'
  · by_cases e : s' = s
    · subst e
      rw [show (S.pop s' n x r).hs s' = S.hs s' ++ [n] from if_pos rfl]
      refine List.nodup_append.2 ⟨h.oneh s', by simp, fun a ha b hb => ?_⟩
      simp at hb
      subst hb
      rintro rfl
      exact h.apart s' a x hmem ha
    · rw [show (S.pop s n x r).hs s' = S.hs s' from if_neg e]; exact h.oneh s'
  · by_cases e : s' = s
    · subst e
      have hmn : m ≠ n := fun e2 => by subst e2; exact hout _ _ hy
      rw [S.pop_rw] at hy
      rw [show (S.pop s' n x r).hs s' = S.hs s' ++ [n] from if_pos rfl]
      have := h.apart s' m y (by rw [hr]; exact List.mem_cons_of_mem _ hy)
      simp [this, hmn]
    · rw [show (S.pop s n x r).rw s' = S.rw s' from if_neg e] at hy
      rw [show (S.pop s n x r).hs s' = S.hs s' from if_neg e]; exact h.apart s' m y hy
section
variable {O O' : Ghost} {tb : Nat} {S S' : St} {ex : Option Int} {F : ByteArray → Option Nat} {G : Int → Option Nat} {lm tm : Option Nat}
theorem Rp.one (h : Rp O tb S ex F G lm tm) {s : ByteArray} {b : Nat} {n : Int} {a : Nat} (hF : F s = some b) (hG : G n = some a) (hk : ∀ q o, O q = some o → o.own ≠ b → o.own ≠ a → O' q = some o)
    (e1 : ∀ t, t ≠ s → S'.hs t = S.hs t ∧ S'.sh t = S.sh t ∧ S'.rw t = S.rw t) (e2 : ∀ m, m ≠ n → S'.wt m = S.wt m) (e3 : ∀ m, m ≠ n → (m ∈ S'.hs s ↔ m ∈ S.hs s)) (e4 : ∀ m x, (m, x) ∈ S'.rw s → m = n ∨ (m, x) ∈ S.rw s)
    (hb : ∃ hm z rv, O' b = some (lockO s b hm z rv) ∧ (S'.hs s ≠ [] → z = S'.sh s) ∧ O' hm = some ⟨0, b, .imap fun m => if m ∈ S'.hs s then G m else none⟩ ∧ ∃ xs, RowIs O' b rv xs ∧ xs.map some = (S'.rw s).map fun x => G x.1)
    (ha : ∃ am z u, O' a = some (askO n a am u z) ∧ (ex ≠ some n → u = (S'.wt n).bind fun x => F x.1) ∧ (∀ x, S'.wt n = some x → z = x.2) ∧ O' am = some ⟨0, a, .smap fun t => if n ∈ S'.hs t then F t else none⟩) : Rp O' tb S' ex F G lm tm := by
  have nb : ∀ t g, F t = some g → g ≠ a := fun t g e e' => by
    obtain ⟨_, _, _, x1, _⟩ := h.lock t g e
    obtain ⟨_, _, _, x2, _⟩ := h.ask n a hG
    rw [e', x2] at x1
    simp [lockO, askO] at x1
  have na : ∀ t g, G t = some g → g ≠ b := fun t g e e' => by
    obtain ⟨_, _, _, x1, _⟩ := h.lock s b hF
    obtain ⟨_, _, _, x2, _⟩ := h.ask t g e
    rw [e', x1] at x2
    simp [lockO, askO] at x2
  have ht1 : tb ≠ b := fun e => h.neF hF e.symm
  have ht2 : tb ≠ a := fun e => h.neG hG e.symm
  refine ⟨hk _ _ h.tbl ht1 ht2, h.lm0, fun g e => hk _ _ (h.lm1 g e) ht1 ht2, h.tm0, fun g e => hk _ _ (h.tm1 g e) ht1 ht2, fun t g e => ?_, fun m g e => ?_, fun t m hm => ?_, fun t m x hx => ?_, h.okF, h.okG⟩
  · by_cases et : t = s
    · subst et
      rw [hF] at e
      injection e with e
      subst e
      exact hb
    · have hgb : g ≠ b := fun e5 => et (h.injF e (e5 ▸ hF))
      obtain ⟨hm, z, rv, h1, h2, h3, xs, h4, h5⟩ := h.lock t g e
      obtain ⟨q1, q2, q3⟩ := e1 t et
      rw [q1, q2, q3]
      exact ⟨hm, z, rv, hk _ _ h1 hgb (nb t g e), h2, hk _ _ h3 hgb (nb t g e), xs, h4.re fun q o hq ho => hk q o hq (by rw [ho]; exact hgb) (by rw [ho]; exact nb t g e), h5⟩
  · by_cases em : m = n
    · subst em
      rw [hG] at e
      injection e with e
      subst e
      exact ha
    · have hga : g ≠ a := fun e5 => em (h.injG e (e5 ▸ hG))
      obtain ⟨am, z, u, h1, hu, h2, h3⟩ := h.ask m g e
      rw [e2 m em]
      refine ⟨am, z, u, hk _ _ h1 (na m g e) hga, hu, h2, ?_⟩
      have : (fun t => if m ∈ S'.hs t then F t else none) = fun t => if m ∈ S.hs t then F t else none := funext fun t => by
        by_cases et : t = s
        · subst et
          by_cases hm : m ∈ S.hs t
          · rw [if_pos hm, if_pos ((e3 m em).2 hm)]
          · rw [if_neg hm, if_neg (fun x => hm ((e3 m em).1 x))]
        · rw [(e1 t et).1]
      rw [this]
      exact hk _ _ h3 (na m g e) hga
  · by_cases et : t = s
    · subst et
      refine ⟨⟨b, hF⟩, ?_⟩
      by_cases em : m = n
      · exact ⟨a, em ▸ hG⟩
      · exact (h.liveh t m ((e3 m em).1 hm)).2
    · rw [(e1 t et).1] at hm
      exact h.liveh t m hm
  · by_cases et : t = s
    · subst et
      refine ⟨⟨b, hF⟩, ?_⟩
      rcases e4 m x hx with em | hx
      · exact ⟨a, em ▸ hG⟩
      · exact (h.livew t m x hx).2
    · rw [(e1 t et).2.2] at hx
      exact h.livew t m x hx
end
/-- A row of numbers in a new block that nobody knows. -/
def Nums (base : Nat) (O : Ghost) (w : World) (v : Value) (xs : List Int) : Prop := w.ownsRow base 3 1 v xs.length (xs.map (Value.int .i64)) ∧ ∀ g, v.ownBlock = some g → O g = none
theorem Nums.nil (base : Nat) (O : Ghost) (w : World) : Nums base O w (.slice none 0 0) [] := ⟨World.ownsRow_nil _ _ _ _, fun g e => by cases e⟩
theorem ownsRow_same {w w' : World} {base : Nat} {e : TypeId} {size : Nat} {v : Value} {n : Nat} {xs : List Value} (h : w.ownsRow base e size v n xs) (hb : ∀ g, v.ownBlock = some g → w'.heap[g]? = w.heap[g]?) : w'.ownsRow base e size v n xs := by
  obtain ⟨h1, h2⟩ := h
  refine ⟨h1, ?_⟩
  rcases h2 with h2 | ⟨g, cap, cur, hv, hg, hh, r⟩
  · exact .inl h2
  · exact .inr ⟨g, cap, cur, hv, hg, (hb g (by rw [hv]; rfl)).trans hh, r⟩
theorem Nums.lt {base : Nat} {O : Ghost} {w : World} {v : Value} {xs : List Int} (h : Nums base O w v xs) {g : Nat} (e : v.ownBlock = some g) : g < w.heap.size ∧ base ≤ g := by
  obtain ⟨⟨h1, h2⟩, _⟩ := h
  rcases h2 with ⟨h2, _⟩ | ⟨g', cap, cur, hv, hg, hh, r⟩
  · rw [h2] at e; cases e
  · rw [hv] at e
    injection e with e
    subst e
    exact ⟨(Array.getElem?_eq_some_iff.1 hh).1, hg⟩
theorem Nums.kept {base : Nat} {O O' : Ghost} {w w' : World} {v : Value} {xs : List Int} (h : Nums base O w v xs) {c : Nat} (hs : Stp c w.heap.size O O' w w') : Nums base O' w' v xs :=
  ⟨ownsRow_same h.1 fun g e => hs.rest g (h.lt e).1 (h.2 g e), fun g e => hs.dom g (h.lt e).1 (h.2 g e)⟩
theorem info3 : ∃ i z, Try.prog.info? 3 = some i ∧ i.zero = some z ∧ i.size = 1 ∧ i.bytes = 8 ∧ z.cells.size = 1 := by
  have h : (Try.prog.info? 3).map (fun i => (i.zero.map (fun z => z.cells.size), i.size, i.bytes)) = some (some 1, 1, 8) := by kernel_rfl
  cases hq : Try.prog.info? 3 with
  | none => simp [hq] at h
  | some i =>
    simp [hq] at h
    obtain ⟨⟨z, hz, h1⟩, h2, h3⟩ := h
    exact ⟨i, z, rfl, hz, h2, h3, h1⟩
def app38 (ty : TypeId) (args : Array Value) : Sem Value := Builtin.append_ #[38, 38] ty args
@[go_sem ↓] theorem append_app38 (ty : TypeId) (args : Array Value) : Builtin.append_ #[38, 38] ty args = app38 ty args := rfl
/-- A number joins a row of numbers. -/
theorem Nums.grow {k base : Nat} {O : Ghost} {w : World} {v : Value} {xs : List Int} (hM : Mem k O w) (h : Nums base O w v xs) (hB : base ≤ w.heap.size) (hl : xs.length ≤ 2000000) (x : Int) :
    ∃ v' w3, (∀ ty, (app38 ty #[v, .slice (some ⟨w.heap.size, 0, none⟩) 1 1]).run Try.prog (w.alloc (.cells #[.int .i64 x] 3)) = .ok v' w3) ∧ Nums base O w3 v' (xs ++ [x]) ∧ w.grownBy w3 v.ownBlock ∧ Mem k O w3 := by
  obtain ⟨i, z, hi, hz, hsz, hby, hzs⟩ := info3
  obtain ⟨v', w3, hr, hown, hgr, _, hloc⟩ := run_append_own_at (P := Try.prog) (w.alloc (.cells #[.int .i64 x] 3)) base 38 38 3 i z 1 8 Try.underlying38 hi hz hsz hby hzs (by omega) _ xs.length _ (h.1.alloc _) ⟨w.heap.size, 0, none⟩ 1 1 [.int .i64 x] rfl (cell_one_new w (.int .i64 x) 3) (fun u hu => by simp at hu; subst hu; rfl) (by simp only [maxLen]; omega) (by omega) (by simp; omega)
  have e : (xs ++ [x]).length = xs.length + 1 := by simp
  have e2 : (xs ++ [x]).map (Value.int .i64) = xs.map (Value.int .i64) ++ [.int .i64 x] := by simp
  have hg := (World.grownBy_alloc w (.cells #[.int .i64 x] 3) v.ownBlock).trans hgr
  refine ⟨v', w3, fun _ => hr, ⟨by rw [e, e2]; exact hown, fun g eg => ?_⟩, hg, hM.grown hg h.2⟩
  rcases hloc with hl | hl
  · exact h.2 g (hl.symm.trans eg)
  · rw [hl] at eg
    have eg' : (w.alloc (.cells #[.int .i64 x] 3)).heap.size = g := Option.some.inj eg
    rw [World.size_alloc] at eg'
    exact hM.out' (eg' ▸ Nat.le_succ _)
end Go.Proofs.Ytnlfmmempomcaaa
