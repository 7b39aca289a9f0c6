/- Locks that are given back: mathematics, and what is forgotten. -/
import Derived.Test.YtnlfmmempomcaaaLh
namespace Go.Proofs.Ytnlfmmempomcaaa
open Go.RowKit Go.Maps
set_option linter.unusedSimpArgs false
/-- A task holds a lock no more. -/
def St.drop (S : St) (n : Int) (s : ByteArray) : St := ⟨fset S.hs s ((S.hs s).filter fun m => decide (m ≠ n)), S.sh, S.rw, S.wt⟩
theorem St.drop_hs (S : St) (n : Int) (s : ByteArray) : (S.drop n s).hs s = (S.hs s).filter fun m => decide (m ≠ n) := if_pos rfl
theorem St.drop_mem {S : St} {n : Int} {s t : ByteArray} {m : Int} : m ∈ (S.drop n s).hs t ↔ m ∈ S.hs t ∧ ¬ (t = s ∧ m = n) := by
  by_cases e : t = s
  · subst e
    rw [S.drop_hs, List.mem_filter]
    simp
  · rw [show (S.drop n s).hs t = S.hs t from if_neg e]
    simp [e]
theorem Inv.drop {S : St} (h : Inv S) (n : Int) (s : ByteArray) : Inv (S.drop n s) := by
  refine ⟨h.wait, h.once, fun t => ?_, fun t m x hx hm => h.apart t m x hx (St.drop_mem.1 hm).1⟩
  by_cases e : t = s
  · subst e
    rw [S.drop_hs]
    exact (h.oneh t).filter _
  · rw [show (S.drop n s).hs t = S.hs t from if_neg e]
    exact h.oneh t
/-- Where nobody holds a lock behind its row's going on, nobody waits for it. -/
theorem go_emp (s : ByteArray) : ∀ (f : Nat) (S : St), (S.rw s).length = f → (∀ t, t ≠ s → S.hs t = [] → S.rw t = []) → Emp (S.go s).1
  | 0, S, hf, h => by
    have e := List.length_eq_zero_iff.1 hf
    rw [St.go_none e]
    intro t ht
    by_cases et : t = s
    · rw [et]; exact e
    · exact h t et ht
  | f + 1, S, hf, h => by
    cases hr : S.rw s with
    | nil => rw [hr] at hf; cases hf
    | cons p r =>
      obtain ⟨n, x⟩ := p
      cases hl : S.lets s x with
      | false =>
        rw [St.go_stop hr hl]
        intro t ht
        by_cases et : t = s
        · subst et
          unfold St.lets at hl
          rw [show (S.hs t).isEmpty = true from by rw [show S.hs t = [] from ht]; rfl] at hl
          simp at hl
        · exact h t et ht
      | true =>
        rw [St.go_step hr hl]
        refine go_emp s f (S.pop s n x r) ?_ fun t et ht => ?_
        · rw [S.pop_rw]
          rw [hr, List.length_cons] at hf
          omega
        · rw [show (S.pop s n x r).hs t = S.hs t from if_neg et] at ht
          rw [show (S.pop s n x r).rw t = S.rw t from if_neg et]
          exact h t et ht
theorem go_keep (s : ByteArray) : ∀ (f : Nat) (S : St), (S.rw s).length = f → ∀ t, t ≠ s → (S.go s).1.hs t = S.hs t ∧ (S.go s).1.sh t = S.sh t ∧ (S.go s).1.rw t = S.rw t
  | 0, S, hf, t, ht => by
    rw [St.go_none (List.length_eq_zero_iff.1 hf)]
    exact ⟨rfl, rfl, rfl⟩
  | f + 1, S, hf, t, ht => by
    cases hr : S.rw s with
    | nil => rw [hr] at hf; cases hf
    | cons p r =>
      obtain ⟨n, x⟩ := p
      cases hl : S.lets s x with
      | false => rw [St.go_stop hr hl]; exact ⟨rfl, rfl, rfl⟩
      | true =>
        rw [St.go_step hr hl]
        obtain ⟨h1, h2, h3⟩ := go_keep s f (S.pop s n x r) (by rw [S.pop_rw]; rw [hr, List.length_cons] at hf; omega) t ht
        exact ⟨h1.trans (if_neg ht), h2.trans (if_neg ht), h3.trans (if_neg ht)⟩
theorem go_less (s : ByteArray) : ∀ (f : Nat) (S : St), (S.rw s).length = f → ((S.go s).1.rw s).length + (S.go s).2.length = f
  | 0, S, hf => by
    rw [St.go_none (List.length_eq_zero_iff.1 hf)]
    simpa using hf
  | f + 1, S, hf => by
    cases hr : S.rw s with
    | nil => rw [hr] at hf; cases hf
    | cons p r =>
      obtain ⟨n, x⟩ := p
      cases hl : S.lets s x with
      | false => rw [St.go_stop hr hl]; simpa using hf
      | true =>
        rw [St.go_step hr hl]
        have := go_less s f (S.pop s n x r) (by rw [S.pop_rw]; rw [hr, List.length_cons] at hf; omega)
        simp only [List.length_cons]
        omega
section
variable {O O' : Ghost} {tb : Nat} {S : St} {ex : Option Int} {F : ByteArray → Option Nat} {G : Int → Option Nat} {lm tm : Option Nat}
/-- A lock that nobody holds is forgotten. -/
theorem Rp.forgetF (h : Rp O tb S ex F G lm tm) (hI : Inv S) {s : ByteArray} (h1 : S.hs s = []) (h2 : S.rw s = []) {mb : Nat} (hlm : lm = some mb) (hk : ∀ q o, q ≠ mb → O q = some o → O' q = some o) (hm : O' mb = some ⟨0, tb, .smap (supd F s none)⟩) : Rp O' tb S ex (supd F s none) G lm tm := by
  subst hlm
  have hmb := h.lm1 mb rfl
  have hup : ∀ t, t ≠ s → supd F s none t = F t := fun t e => if_neg e
  have nm : ∀ q o, O q = some o → o.own ≠ tb → q ≠ mb := fun q o hq ho e => ho (by rw [e, hmb] at hq; injection hq with hq; rw [← hq])
  have hin : ∀ n t, n ∈ S.hs t → supd F s none t = F t := fun n t e => hup t (fun e2 => by rw [e2, h1] at e; cases e)
  have hf : ∀ n : Int, (fun t => if n ∈ S.hs t then supd F s none t else none) = fun t => if n ∈ S.hs t then F t else none := fun n => funext fun t => by
    by_cases e : n ∈ S.hs t
    · rw [if_pos e, if_pos e, hin n t e]
    · rw [if_neg e, if_neg e]
  refine ⟨hk _ _ (fun e => by rw [← e, h.tbl] at hmb; simp at hmb) h.tbl, fun e => (by cases e), fun b e => ?_, h.tm0, fun b e => hk _ _ (fun e2 => by have := h.tm1 b e; rw [e2, hmb] at this; simp at this) (h.tm1 b e), fun t b e => ?_, fun n a e => ?_, fun t n hn => ?_, fun t n x hx => ?_, fun t b e => ?_, h.okG⟩
  · injection e with e
    rw [← e]; exact hm
  · have et : t ≠ s := fun e2 => by rw [e2, show supd F s none s = none from if_pos rfl] at e; cases e
    rw [hup t et] at e
    obtain ⟨hm', z, rv, q1, q2, q3, xs, q4, q5⟩ := h.lock t b e
    have hb := h.neF e
    exact ⟨hm', z, rv, hk _ _ (nm _ _ q1 hb) q1, q2, hk _ _ (nm _ _ q3 hb) q3, xs, q4.re fun q o hq ho => hk q o (nm q o hq (by rw [ho]; exact hb)) hq, q5⟩
  · obtain ⟨am, z, u, q1, qu, q2, q3⟩ := h.ask n a e
    have ha := h.neG e
    refine ⟨am, z, u, hk _ _ (nm _ _ q1 ha) q1, fun ee => ?_, q2, ?_⟩
    · have e3 : ((S.wt n).bind fun x => supd F s none x.1) = (S.wt n).bind fun x => F x.1 := by
        cases e4 : S.wt n with
        | none => rfl
        | some x =>
          refine hup _ fun e5 => ?_
          have := (hI.wait n x.1 x.2).1 e4
          rw [e5, h2] at this
          cases this
      rw [e3]
      exact qu ee
    · rw [hf n]
      exact hk _ _ (nm _ _ q3 ha) q3
  · obtain ⟨⟨b, hb⟩, h4⟩ := h.liveh t n hn
    exact ⟨⟨b, by rw [hin n t hn]; exact hb⟩, h4⟩
  · obtain ⟨⟨b, hb⟩, h4⟩ := h.livew t n x hx
    exact ⟨⟨b, by rw [hup t (fun e => by rw [e, h2] at hx; cases hx)]; exact hb⟩, h4⟩
  · have et : t ≠ s := fun e2 => by rw [e2, show supd F s none s = none from if_pos rfl] at e; cases e
    rw [hup t et] at e
    exact h.okF t b e
/-- A task that holds nothing and does not wait is forgotten. -/
theorem Rp.forgetG (h : Rp O tb S none F G lm tm) {n : Int} (h1 : ∀ s, n ∉ S.hs s) (h2 : ∀ s x, (n, x) ∉ S.rw s) {mb : Nat} (htm : tm = some mb) (hk : ∀ q o, q ≠ mb → O q = some o → O' q = some o) (hm : O' mb = some ⟨0, tb, .imap (iupd G n none)⟩) : Rp O' tb S none F (iupd G n none) lm tm := by
  subst htm
  have hmb := h.tm1 mb rfl
  have hup : ∀ t, t ≠ n → iupd G n none t = G t := fun t e => if_neg e
  have nm : ∀ q o, O q = some o → o.own ≠ tb → q ≠ mb := fun q o hq ho e => ho (by rw [e, hmb] at hq; injection hq with hq; rw [← hq])
  have hf : ∀ s, (fun m => if m ∈ S.hs s then iupd G n none m else none) = fun m => if m ∈ S.hs s then G m else none := fun s => funext fun m => by
    by_cases e : m ∈ S.hs s
    · rw [if_pos e, if_pos e, hup m (fun e2 => h1 s (e2 ▸ e))]
    · rw [if_neg e, if_neg e]
  refine ⟨hk _ _ (fun e => by rw [← e, h.tbl] at hmb; simp at hmb) h.tbl, h.lm0, fun b e => hk _ _ (fun e2 => by have := h.lm1 b e; rw [e2, hmb] at this; simp at this) (h.lm1 b e), fun e => (by cases e), fun b e => ?_, fun t b e => ?_, fun m a e => ?_, fun t m hm' => ?_, fun t m x hx => ?_, h.okF, fun m a e => ?_⟩
  · injection e with e
    rw [← e, hm]
    simp
  · obtain ⟨hm', z, rv, q1, q2, q3, xs, q4, q5⟩ := h.lock t b e
    have hb := h.neF e
    refine ⟨hm', z, rv, hk _ _ (nm _ _ q1 hb) q1, q2, ?_, xs, q4.re fun q o hq ho => hk q o (nm q o hq (by rw [ho]; exact hb)) hq, ?_⟩
    · rw [hf t]; exact hk _ _ (nm _ _ q3 hb) q3
    · rw [q5]
      exact List.map_congr_left fun x hx => (hup _ (fun e => h2 t x.2 (e ▸ hx))).symm
  · have et : m ≠ n := fun e2 => by rw [e2, show iupd G n none n = none from if_pos rfl] at e; cases e
    rw [hup m et] at e
    obtain ⟨am, z, u, q1, qu, q2, q3⟩ := h.ask m a e
    have ha := h.neG e
    exact ⟨am, z, u, hk _ _ (nm _ _ q1 ha) q1, qu, q2, hk _ _ (nm _ _ q3 ha) q3⟩
  · obtain ⟨h4, a, ha⟩ := h.liveh t m hm'
    exact ⟨h4, a, by rw [hup m (fun e => h1 t (e ▸ hm'))]; exact ha⟩
  · obtain ⟨h4, a, ha⟩ := h.livew t m x hx
    exact ⟨h4, a, by rw [hup m (fun e => h2 t x (e ▸ hx))]; exact ha⟩
  · have et : m ≠ n := fun e2 => by rw [e2, show iupd G n none n = none from if_pos rfl] at e; cases e
    rw [hup m et] at e
    exact h.okG m a e
end
end Go.Proofs.Ytnlfmmempomcaaa
