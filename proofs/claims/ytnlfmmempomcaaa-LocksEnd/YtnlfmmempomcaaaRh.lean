/- A task leaves: mathematics; rows of numbers one behind the other. -/
import Derived.Test.YtnlfmmempomcaaaRg
namespace Go.Proofs.Ytnlfmmempomcaaa
open Go.RowKit Go.Maps
set_option linter.unusedSimpArgs false
/-- A task waits no more: its row goes on. -/
def St.stop (S : St) (n : Int) : St × List Int := match S.wt n with
  | none => (S, [])
  | some x => (S.unwait n x.1).go x.1
/-- It gives these locks back, one behind the other. -/
def St.leaves (n : Int) : List ByteArray → St → St × List Int
  | [], S => (S, [])
  | t :: ks, S => ((St.leaves n ks (S.give n t).1).1, (S.give n t).2 ++ (St.leaves n ks (S.give n t).1).2)
/-- How many wait for these locks. -/
def sumRw (S : St) : List ByteArray → Nat
  | [] => 0
  | t :: ks => (S.rw t).length + sumRw S ks
theorem sumRw_congr {S S' : St} : ∀ (ks : List ByteArray), (∀ t ∈ ks, S'.rw t = S.rw t) → sumRw S' ks = sumRw S ks
  | [], _ => rfl
  | t :: ks, h => by
    show (S'.rw t).length + sumRw S' ks = (S.rw t).length + sumRw S ks
    rw [h t (List.mem_cons_self ..), sumRw_congr ks fun u hu => h u (List.mem_cons_of_mem _ hu)]
/-- Who does not stand in the row holds what it held, and waits as it did. -/
theorem go_holds {n : Int} (s : ByteArray) : ∀ (f : Nat) (S : St), (S.rw s).length = f → (∀ x, (n, x) ∉ S.rw s) → (∀ t, n ∈ (S.go s).1.hs t ↔ n ∈ S.hs t) ∧ (S.go s).1.wt n = S.wt n
  | 0, S, hf, _ => by
    rw [St.go_none (List.length_eq_zero_iff.1 hf)]
    exact ⟨fun _ => Iff.rfl, rfl⟩
  | f + 1, S, hf, hn => by
    cases hr : S.rw s with
    | nil => rw [hr] at hf; cases hf
    | cons p r =>
      obtain ⟨m, x⟩ := p
      have hmn : n ≠ m := fun e => hn x (by rw [hr, e]; exact List.mem_cons_self ..)
      cases hl : S.lets s x with
      | false => rw [St.go_stop hr hl]; exact ⟨fun _ => Iff.rfl, rfl⟩
      | true =>
        rw [St.go_step hr hl]
        obtain ⟨h1, h2⟩ := go_holds s f (S.pop s m x r) (by rw [S.pop_rw]; rw [hr, List.length_cons] at hf; omega) fun y hy => hn y (by rw [S.pop_rw] at hy; rw [hr]; exact List.mem_cons_of_mem _ hy)
        refine ⟨fun t => ?_, h2.trans (if_neg hmn)⟩
        rw [h1 t]
        by_cases e : t = s
        · subst e
          rw [show (S.pop t m x r).hs t = S.hs t ++ [m] from if_pos rfl]
          simp [hmn]
        · rw [show (S.pop s m x r).hs t = S.hs t from if_neg e]
theorem go_inv (s : ByteArray) : ∀ (f : Nat) (S : St), (S.rw s).length = f → Inv S → Inv (S.go s).1
  | 0, S, hf, h => by
    rw [St.go_none (List.length_eq_zero_iff.1 hf)]
    exact h
  | f + 1, S, hf, h => by
    cases hr : S.rw s with
    | nil => rw [hr] at hf; cases hf
    | cons p r =>
      obtain ⟨m, x⟩ := p
      cases hl : S.lets s x with
      | false => rw [St.go_stop hr hl]; exact h
      | true =>
        rw [St.go_step hr hl]
        exact go_inv s f (S.pop s m x r) (by rw [S.pop_rw]; rw [hr, List.length_cons] at hf; omega) (h.pop hr)
theorem give_inv {S : St} (h : Inv S) (n : Int) (s : ByteArray) : Inv (S.give n s).1 := go_inv s _ _ rfl (h.drop n s)
theorem give_emp {S : St} (h : Emp S) (n : Int) (s : ByteArray) : Emp (S.give n s).1 := go_emp s _ (S.drop n s) rfl fun t et ht => h t (by rw [show (S.drop n s).hs t = S.hs t from if_neg et] at ht; exact ht)
theorem give_wt {S : St} (hI : Inv S) {n : Int} (h : S.wt n = none) (s : ByteArray) : (S.give n s).1.wt n = none ∧ ∀ t, n ∈ (S.give n s).1.hs t ↔ n ∈ S.hs t ∧ t ≠ s := by
  obtain ⟨h1, h2⟩ := go_holds (n := n) s _ (S.drop n s) rfl fun x hx => by
    have := (hI.wait n s x).2 hx
    rw [h] at this; cases this
  refine ⟨h2.trans h, fun t => (h1 t).trans ?_⟩
  rw [St.drop_mem]
  simp
theorem give_rw (S : St) (n : Int) {s t : ByteArray} (h : t ≠ s) : (S.give n s).1.rw t = S.rw t := (go_keep s _ (S.drop n s) rfl t h).2.2
theorem leaves_inv {n : Int} : ∀ (ks : List ByteArray) {S : St}, Inv S → Inv (St.leaves n ks S).1
  | [], _, h => h
  | t :: ks, _, h => leaves_inv ks (give_inv h n t)
theorem leaves_emp {n : Int} : ∀ (ks : List ByteArray) {S : St}, Emp S → Emp (St.leaves n ks S).1
  | [], _, h => h
  | t :: ks, _, h => leaves_emp ks (give_emp h n t)
theorem leaves_gone {n : Int} : ∀ (ks : List ByteArray) {S : St}, Inv S → S.wt n = none → (St.leaves n ks S).1.wt n = none ∧ ∀ t, n ∈ (St.leaves n ks S).1.hs t ↔ n ∈ S.hs t ∧ t ∉ ks
  | [], S, _, h => ⟨h, fun t => by simp [St.leaves]⟩
  | u :: ks, S, hI, h => by
    obtain ⟨h1, h2⟩ := give_wt hI h u
    obtain ⟨h3, h4⟩ := leaves_gone ks (give_inv hI n u) h1
    refine ⟨h3, fun t => (h4 t).trans ?_⟩
    rw [h2 t, List.mem_cons, and_assoc, not_or]
theorem stop_wt (S : St) (n : Int) : (S.stop n).1.wt n = none ∧ ∀ t, n ∈ (S.stop n).1.hs t ↔ n ∈ S.hs t := by
  unfold St.stop
  cases e : S.wt n with
  | none => exact ⟨e, fun _ => Iff.rfl⟩
  | some x =>
    obtain ⟨h1, h2⟩ := go_holds (n := n) x.1 _ (S.unwait n x.1) rfl fun y hy => by
      rw [S.unwait_rw, List.mem_filter] at hy
      simp at hy
    exact ⟨h2.trans (if_pos rfl), h1⟩
theorem stop_inv {S : St} (hI : Inv S) (n : Int) : Inv (S.stop n).1 := by
  unfold St.stop
  cases e : S.wt n with
  | none => exact hI
  | some x => exact go_inv x.1 _ _ rfl (hI.unwait (x := x.2) e)
theorem unwait_emp {S : St} (hE : Emp S) (n : Int) (s : ByteArray) : Emp (S.unwait n s) := fun t ht => by
  have h := hE t ht
  by_cases e : t = s
  · subst e
    rw [S.unwait_rw, h]; rfl
  · rw [show (S.unwait n s).rw t = S.rw t from if_neg e]; exact h
theorem stop_emp {S : St} (hE : Emp S) (n : Int) : Emp (S.stop n).1 := by
  unfold St.stop
  cases e : S.wt n with
  | none => exact hE
  | some x => exact go_emp x.1 _ _ rfl fun t _ ht => unwait_emp hE n x.1 t ht
/-- One row of numbers behind another one. -/
theorem Nums.cat {k B B2 : Nat} {O : Ghost} {w : World} {v v2 : Value} {xs ys : List Int} (hM : Mem k O w) (h : Nums B O w v xs) (h2 : Nums B2 O w v2 ys) (hB : B ≤ w.heap.size) (hl : xs.length + ys.length ≤ 4000000) :
    ∃ v' w3, (∀ ty, (app38 ty #[v, v2]).run Try.prog w = .ok v' w3) ∧ Nums B O w3 v' (xs ++ ys) ∧ w.grownBy w3 v.ownBlock ∧ Mem k O w3 := by
  obtain ⟨i, z, hi, hz, hsz, hby, hzs⟩ := info3
  have e : (xs ++ ys).length = xs.length + ys.length := by simp
  have e2 : (xs ++ ys).map (Value.int .i64) = xs.map (Value.int .i64) ++ ys.map (Value.int .i64) := by simp
  rcases h2.1.2 with ⟨rfl, h0⟩ | ⟨g, cap, cur, hv, hg, hh, hn, hc, hs, ht⟩
  · obtain rfl : ys = [] := List.length_eq_zero_iff.1 h0
    refine ⟨v, w, fun ty => run_append_owned_none (P := Try.prog) w B 38 ty 3 i 1 Try.underlying38 hi v xs.length _ h.1, by simpa using h, ⟨rfl, rfl, rfl, Nat.le_refl _, fun _ _ _ => rfl⟩, hM⟩
  · rw [Nat.mul_one] at ht
    obtain ⟨v', w3, hr, hown, hgr, _, hloc⟩ := run_append_own_at (P := Try.prog) w B 38 38 3 i z 1 8 Try.underlying38 hi hz hsz hby hzs (by omega) v xs.length _ h.1 ⟨g, 0, none⟩ ys.length cap (ys.map (Value.int .i64)) (by simp) (fun j u hj => by
      rw [← ht, List.getElem?_take] at hj
      split at hj
      · rw [Addr.add_lit]
        simp only [World.cell?, hh, Nat.zero_add]
        rw [Array.getElem?_toList] at hj
        simpa using hj
      · cases hj) (fun u hu => by obtain ⟨x, _, rfl⟩ := List.mem_map.1 hu; rfl) (by simp only [maxLen]; omega) (by omega) hB
    subst hv
    refine ⟨v', w3, fun _ => hr, ⟨by rw [e, e2]; exact hown, fun q eq => ?_⟩, hgr, hM.grown hgr h.2⟩
    rcases hloc with hl | hl
    · exact h.2 q (hl.symm.trans eq)
    · rw [hl] at eq
      have eq' : w.heap.size = q := Option.some.inj eq
      exact hM.out' (eq' ▸ Nat.le_refl _)
section
variable {O O' : Ghost} {tb : Nat} {S : St} {F : ByteArray → Option Nat} {G : Int → Option Nat} {lm : Option Nat} {mb : Nat} {n : Int}
/-- A task that is about to leave is in the map of tasks no more. -/
theorem Rp.aside (h : Rp O tb S none F G lm (some mb)) (hk : ∀ q o, q ≠ mb → O q = some o → O' q = some o) (hm : O' mb = some ⟨0, tb, .imap (iupd G n none)⟩) : Rp O' tb S (some n) F G lm (some mb) := by
  have hmb := h.tm1 mb rfl
  have nm : ∀ q o, O q = some o → o.own ≠ tb → q ≠ mb := fun q o hq ho e => ho (by rw [e, hmb] at hq; injection hq with hq; rw [← hq])
  refine ⟨hk _ _ (fun e => by rw [← e, h.tbl] at hmb; simp at hmb) h.tbl, h.lm0, fun b e => hk _ _ (fun e2 => by have := h.lm1 b e; rw [e2, hmb] at this; simp at this) (h.lm1 b e), fun e => (by cases e), fun b e => ?_, fun t b e => ?_, fun m a e => ?_, h.liveh, h.livew, h.okF, h.okG⟩
  · injection e with e
    rw [← e, hm]
    have : iupd G n none = fun m => if some n = some m then none else G m := funext fun m => by
      unfold iupd
      by_cases e2 : m = n
      · rw [if_pos e2, if_pos (by rw [e2])]
      · rw [if_neg e2, if_neg (fun e3 => e2 (Option.some.inj e3).symm)]
    rw [this]
  · obtain ⟨hm', z, rv, q1, q2, q3, xs, q4, q5⟩ := h.lock t b e
    have hb := h.neF e
    exact ⟨hm', z, rv, hk _ _ (nm _ _ q1 hb) q1, q2, hk _ _ (nm _ _ q3 hb) q3, xs, q4.re fun q o hq ho => hk q o (nm q o hq (by rw [ho]; exact hb)) hq, q5⟩
  · obtain ⟨am, z, u, q1, qu, q2, q3⟩ := h.ask m a e
    have ha := h.neG e
    exact ⟨am, z, u, hk _ _ (nm _ _ q1 ha) q1, fun _ => qu (by simp), q2, hk _ _ (nm _ _ q3 ha) q3⟩
/-- A task that holds nothing any more and does not wait has left. -/
theorem Rp.gone (h : Rp O tb S (some n) F G lm (some mb)) (h1 : ∀ s, n ∉ S.hs s) (h2 : ∀ s x, (n, x) ∉ S.rw s) : Rp O tb S none F (iupd G n none) lm (some mb) := by
  have hup : ∀ t, t ≠ n → iupd G n none t = G t := fun t e => if_neg e
  have hf : ∀ s, (fun m => if m ∈ S.hs s then iupd G n none m else none) = fun m => if m ∈ S.hs s then G m else none := fun s => funext fun m => by
    by_cases e : m ∈ S.hs s
    · rw [if_pos e, if_pos e, hup m (fun e2 => h1 s (e2 ▸ e))]
    · rw [if_neg e, if_neg e]
  refine ⟨h.tbl, h.lm0, h.lm1, fun e => (by cases e), fun b e => ?_, fun t b e => ?_, fun m a e => ?_, fun t m hm' => ?_, fun t m x hx => ?_, h.okF, fun m a e => ?_⟩
  · rw [h.tm1 b e]
    have : (fun m => if some n = some m then none else G m) = fun m => if (none : Option Int) = some m then none else iupd G n none m := funext fun m => by
      by_cases e2 : m = n
      · subst e2; simp [iupd]
      · have e3 : ¬ n = m := fun e4 => e2 e4.symm
        simp [iupd, e2, e3]
    rw [this]
  · obtain ⟨hm', z, rv, q1, q2, q3, xs, q4, q5⟩ := h.lock t b e
    refine ⟨hm', z, rv, q1, q2, ?_, xs, q4, ?_⟩
    · rw [hf t]; exact q3
    · rw [q5]
      exact List.map_congr_left fun x hx => (hup _ (fun e => h2 t x.2 (e ▸ hx))).symm
  · have et : m ≠ n := fun e2 => by rw [e2, show iupd G n none n = none from if_pos rfl] at e; cases e
    rw [hup m et] at e
    obtain ⟨am, z, u, q1, qu, q2, q3⟩ := h.ask m a e
    exact ⟨am, z, u, q1, fun _ => qu (fun e2 => et (Option.some.inj e2).symm), q2, q3⟩
  · obtain ⟨h4, a, ha⟩ := h.liveh t m hm'
    exact ⟨h4, a, by rw [hup m (fun e => h1 t (e ▸ hm'))]; exact ha⟩
  · obtain ⟨h4, a, ha⟩ := h.livew t m x hx
    exact ⟨h4, a, by rw [hup m (fun e => h2 t x (e ▸ hx))]; exact ha⟩
  · have et : m ≠ n := fun e2 => by rw [e2, show iupd G n none n = none from if_pos rfl] at e; cases e
    rw [hup m et] at e
    exact h.okG m a e
end
end Go.Proofs.Ytnlfmmempomcaaa
