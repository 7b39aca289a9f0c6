/- Leave. -/
import Derived.Test.YtnlfmmempomcaaaRh
namespace Go.Proofs.Ytnlfmmempomcaaa
open Go.RowKit Go.Maps
set_option linter.unusedSimpArgs false
/-- A row of names that can be read. -/
def SRow (w : World) (g : Nat) (ks : List ByteArray) : Prop := ∃ cur, w.heap[g]? = some (.cells cur 9 (0, 0)) ∧ ∀ j x, ks[j]? = some x → w.cell? ⟨g, j, none⟩ = some (.string x)
/-- What stands at the head of Leave's loop: j names are done with. -/
def LvR (C B tb a : Nat) (S1 : St) (n : Int) (ks : List ByteArray) (g : Nat) (out1 : List Int) (G : Int → Option Nat) (mb : Nat) (O : Ghost) (w : World) (v i : Value) (wr : World) : Prop :=
  ∃ (j : Nat) (Sj : St) (Oj : Ghost) (Fj : ByteArray → Option Nat) (lmj : Option Nat) (outs : List Int) (k : Nat), i = .int .i64 (j : Int) ∧ j ≤ ks.length ∧ (St.leaves n ks S1).1 = (St.leaves n (ks.drop j) Sj).1 ∧ (St.leaves n ks S1).2 = outs ++ (St.leaves n (ks.drop j) Sj).2 ∧
    Rp Oj tb Sj (some n) Fj G lmj (some mb) ∧ Inv Sj ∧ Emp Sj ∧ Sj.wt n = none ∧ (∀ t, n ∈ Sj.hs t ↔ t ∈ ks.drop j) ∧ Mem k Oj wr ∧ k + 2 * sumRw Sj (ks.drop j) ≤ C ∧ (out1 ++ outs).length + sumRw Sj (ks.drop j) ≤ C ∧ Stp 0 B O Oj w wr ∧ Nums B Oj wr v (out1 ++ outs) ∧ SRow wr g ks ∧ Oj g = none ∧ (∀ t b, Fj t = some b → t.size ≤ 100000) ∧ G n = some a
/-- What Leave leaves. -/
def LeftE (C B tb : Nat) (S : St) (n : Int) (O : Ghost) (w : World) (v : Value) (w' : World) : Prop :=
  ∃ ks, Names (fun t => n ∈ (S.stop n).1.hs t) ks ∧ Told C B tb (St.leaves n ks (S.stop n).1).1 ((S.stop n).2 ++ (St.leaves n ks (S.stop n).1).2) O w v w'
section
variable {C B tb a : Nat} {S1 : St} {n : Int} {ks : List ByteArray} {g : Nat} {out1 : List Int} {G : Int → Option Nat} {mb : Nat} {O : Ghost} {w wr : World} {v i : Value}
/-- One name more. -/
theorem lv_round (hC : C < 1000000) (hB : B ≤ w.heap.size) (hnd : ks.Nodup) (h : LvR C B tb a S1 n ks g out1 G mb O w v i wr) :
    ∃ j : Nat, i = .int .i64 (j : Int) ∧ j ≤ ks.length ∧ ∀ t, ks[j]? = some t → wr.cell? ⟨g, j, none⟩ = some (.string t) ∧
      Calls Try.prog 45 #[.pointer (some ⟨tb, 0, none⟩), .pointer (some ⟨a, 0, none⟩), .string t] wr fun e w3 => ∃ v2, e = .returned v2 ∧ ∃ v3 w4, (∀ ty, (app38 ty #[v, v2]).run Try.prog w3 = .ok v3 w4) ∧ Hid (LvR C B tb a S1 n ks g out1 G mb O w v3 (.int .i64 ((j : Int) + 1)) w4) := by
  obtain ⟨j, Sj, Oj, Fj, lmj, outs, k, rfl, hj, q1, q2, hR, hI, hE, hwt, hhs, hM, hk, hlen, hst, hnum, hrow, hgO, hsz, hG⟩ := h
  refine ⟨j, rfl, hj, fun t ht => ?_⟩
  obtain ⟨cur, hcur, hcells⟩ := hrow
  refine ⟨hcells j t ht, ?_⟩
  have hjl : j < ks.length := (List.getElem?_eq_some_iff.1 ht).1
  have hdrop : ks.drop j = t :: ks.drop (j + 1) := by
    rw [List.drop_eq_getElem_cons hjl, (List.getElem?_eq_some_iff.1 ht).2]
  have hin : n ∈ Sj.hs t := (hhs t).2 (by rw [hdrop]; exact List.mem_cons_self ..)
  obtain ⟨⟨b, hF⟩, _⟩ := hR.liveh t n hin
  rw [hdrop] at q1 q2 hk hlen
  have hnd2 : t ∉ ks.drop (j + 1) := by
    have := hnd.sublist (List.drop_sublist j ks)
    rw [hdrop, List.nodup_cons] at this
    exact this.1
  have hk' : k + 2 * ((Sj.rw t).length + sumRw Sj (ks.drop (j + 1))) ≤ C := hk
  have hlen' : (out1 ++ outs).length + ((Sj.rw t).length + sumRw Sj (ks.drop (j + 1))) ≤ C := hlen
  refine (free_ok (B := wr.heap.size) Oj tb b a Sj t n (some n) Fj G lmj (some mb) wr hM hR hI (fun u _ => hE u) hF hG hin (by omega) (Nat.le_refl _)).mono ?_
  rintro e w3 ⟨v2, rfl, O3, F3, lm3, p1, p2, p3, p4, p5, p6⟩
  refine ⟨v2, rfl, ?_⟩
  have hB3 : B ≤ w3.heap.size := Nat.le_trans hB (Nat.le_trans hst.size p4.size)
  have hn3 := hnum.kept p4
  have hless := go_less t _ (Sj.drop n t) rfl
  have hdr : ((Sj.drop n t).rw t).length = (Sj.rw t).length := rfl
  obtain ⟨v3, w4, a1, a2, a3, a4⟩ := Nums.cat p3 hn3 p5 hB3 (by omega)
  refine ⟨v3, w4, a1, j + 1, (Sj.give n t).1, O3, F3, lm3, outs ++ (Sj.give n t).2, k + 2 * (Sj.rw t).length, by simp, by omega, q1, ?_, p1, p2, give_emp hE n t, (give_wt hI hwt t).1, fun u => ?_, a4, ?_, ?_, ?_, ?_, ?_, ?_, fun u c hu => hsz u c (p6 u c hu), hG⟩
  · rw [q2, List.append_assoc]; rfl
  · rw [(give_wt hI hwt t).2 u, hhs u, hdrop, List.mem_cons]
    constructor
    · rintro ⟨h1 | h1, h2⟩
      · exact absurd h1 h2
      · exact h1
    · intro h1
      exact ⟨.inr h1, fun e => hnd2 (e ▸ h1)⟩
  · rw [sumRw_congr (S := Sj) _ fun u hu => give_rw Sj n (s := t) fun e => hnd2 (e ▸ hu)]
    omega
  · rw [sumRw_congr (S := Sj) _ fun u hu => give_rw Sj n (s := t) fun e => hnd2 (e ▸ hu)]
    have : (Sj.give n t).2.length ≤ (Sj.rw t).length := by
      show ((Sj.drop n t).go t).2.length ≤ _
      omega
    simp only [List.length_append] at hlen' ⊢
    omega
  · exact (hst.trans (p4.mono (Nat.le_trans hB hst.size))).trans (Stp.grown a3 hB3 fun q eq => (hn3.lt eq).2)
  · rw [← List.append_assoc]; exact a2
  · have hgl : g < wr.heap.size := (Array.getElem?_eq_some_iff.1 hcur).1
    have h3 : w3.heap[g]? = wr.heap[g]? := p4.rest g hgl hgO
    have h4 : w4.heap[g]? = w3.heap[g]? := a3.block g (Nat.lt_of_lt_of_le hgl p4.size) fun e => by
      obtain ⟨_, hh⟩ := hn3.1
      rcases hh with ⟨hv, _⟩ | ⟨g', cap, cur', hv, hg', hh', _⟩
      · rw [hv] at e; cases e
      · rw [hv] at e
        injection e with e
        have e' : g = g' := e
        rw [← e', h3, hcur] at hh'
        injection hh' with hh'
        injection hh' with _ hh'
        exact absurd hh' (by decide)
    exact ⟨cur, (h4.trans h3).trans hcur, fun m x hx => (World.cell?_of_block (w := wr) (a := ⟨g, m, none⟩) (h4.trans h3)).trans (hcells m x hx)⟩
  · exact p4.dom g (Array.getElem?_eq_some_iff.1 hcur).1 hgO
theorem lv_end (h : LvR C B tb a S1 n ks g out1 G mb O w v (.int .i64 (ks.length : Int)) wr) : Told C B tb (St.leaves n ks S1).1 (out1 ++ (St.leaves n ks S1).2) O w v wr := by
  obtain ⟨j, Sj, Oj, Fj, lmj, outs, k, hi, hj, q1, q2, hR, hI, hE, hwt, hhs, hM, hk, hlen, hst, hnum, hrow, hgO, hsz, hG⟩ := h
  obtain rfl : ks.length = j := by injection hi with _ hi; omega
  rw [List.drop_length] at q1 q2 hhs
  have e1 : (St.leaves n ks S1).1 = Sj := q1
  have e2 : (St.leaves n ks S1).2 = outs := by rw [q2]; simp [St.leaves]
  rw [e1, e2]
  have hno : ∀ t, n ∉ Sj.hs t := fun t h => by have := (hhs t).1 h; cases this
  refine ⟨Oj, ⟨Fj, _, lmj, some mb, hR.gone hno fun s x hx => ?_, hI, hE, hsz⟩, hM.mono (by omega), hst, hnum⟩
  have := (hI.wait n s x).2 hx
  rw [hwt] at this
  cases this
end
end Go.Proofs.Ytnlfmmempomcaaa
