/- without: a task waits no more. -/
import Derived.Test.YtnlfmmempomcaaaRe
namespace Go.Proofs.Ytnlfmmempomcaaa
open Go.RowKit Go.Maps
set_option linter.unusedSimpArgs false
/-- A task waits for a lock no more. -/
def St.unwait (S : St) (n : Int) (s : ByteArray) : St := ⟨S.hs, S.sh, fset S.rw s ((S.rw s).filter fun p => decide (p.1 ≠ n)), fset S.wt n none⟩
theorem St.unwait_rw (S : St) (n : Int) (s : ByteArray) : (S.unwait n s).rw s = (S.rw s).filter fun p => decide (p.1 ≠ n) := if_pos rfl
theorem Inv.unwait {S : St} (h : Inv S) {n : Int} {s : ByteArray} {x : Bool} (hw : S.wt n = some (s, x)) : Inv (S.unwait n s) := by
  have hmem : ∀ t m y, (m, y) ∈ (S.unwait n s).rw t ↔ (m, y) ∈ S.rw t ∧ m ≠ n := fun t m y => by
    by_cases e : t = s
    · subst e
      rw [S.unwait_rw, List.mem_filter]
      simp
    · rw [show (S.unwait n s).rw t = S.rw t from if_neg e]
      constructor
      · intro h1
        refine ⟨h1, fun e2 => ?_⟩
        rw [e2] at h1
        have := (h.wait n t y).2 h1
        rw [hw] at this
        injection this with this
        injection this with this
        exact e this.symm
      · exact fun h1 => h1.1
  refine ⟨fun m t y => ?_, fun t => ?_, h.oneh, fun t m y hy => h.apart t m y ((hmem t m y).1 hy).1⟩
  · rw [hmem]
    by_cases e : m = n
    · subst e
      rw [show (S.unwait m s).wt m = none from if_pos rfl]
      simp
    · rw [show (S.unwait n s).wt m = S.wt m from if_neg e, h.wait]
      simp [e]
  · by_cases e : t = s
    · subst e
      rw [S.unwait_rw]
      exact (h.once t).sublist (List.filter_sublist.map _)
    · rw [show (S.unwait n s).rw t = S.rw t from if_neg e]; exact h.once t
theorem erase_filter {n : Int} : ∀ (l : List (Int × Bool)) (i : Nat) (x : Bool), l[i]? = some (n, x) → (l.map Prod.fst).Nodup → l.eraseIdx i = l.filter fun p => decide (p.1 ≠ n)
  | [], i, x, h, _ => by cases h
  | p :: l, 0, x, h, hn => by
    simp only [List.getElem?_cons_zero, Option.some.injEq] at h
    subst h
    rw [List.map_cons, List.nodup_cons] at hn
    rw [List.eraseIdx_cons_zero, List.filter_cons_of_neg (by simp)]
    refine (List.filter_eq_self.2 fun q hq => ?_).symm
    simp only [decide_eq_true_eq]
    exact fun e => hn.1 (List.mem_map.2 ⟨q, hq, e⟩)
  | p :: l, i + 1, x, h, hn => by
    rw [List.getElem?_cons_succ] at h
    rw [List.map_cons, List.nodup_cons] at hn
    have hp : p.1 ≠ n := fun e => hn.1 (List.mem_map.2 ⟨(n, x), List.mem_of_getElem? h, e.symm⟩)
    rw [List.eraseIdx_cons_succ, List.filter_cons_of_pos (by simpa using hp), erase_filter l i x h hn.2]
theorem map_erase {α β : Type} (f : α → β) : ∀ (l : List α) (i : Nat), (l.eraseIdx i).map f = (l.map f).eraseIdx i
  | [], _ => rfl
  | _ :: _, 0 => rfl
  | a :: l, i + 1 => by
    rw [List.eraseIdx_cons_succ, List.map_cons, List.map_cons, List.eraseIdx_cons_succ, map_erase f l i]
section
variable {k B : Nat} {O : Ghost} {tb b a : Nat} {S : St} {s : ByteArray} {n : Int} {F : ByteArray → Option Nat} {G : Int → Option Nat} {lm tm : Option Nat} {w : World}
/-- Where a task stands in a row. -/
theorem row_place (hM : Mem k O w) (h : Rp O tb S (some n) F G lm tm) (hI : Inv S) {x : Bool} (hw : S.wt n = some (s, x)) (hF : F s = some b) (hG : G n = some a) (hlen : (S.rw s).length ≤ 1000000) :
    ∃ (rb off c : Nat) (cs : List Value) (xs : List Nat) (i N : Nat), w.cell? ⟨b, 3, none⟩ = some (.slice (some ⟨rb, off, none⟩) N c) ∧ N = xs.length ∧ i < N ∧ N ≤ 1000000 ∧ O rb = some ⟨0, b, .raw cs 74⟩ ∧ off + c ≤ cs.length ∧ N ≤ c ∧ c ≤ maxLen ∧ (cs.drop off).take N = (xs.map fun g => ptr (some g)) ∧ xs.map some = ((S.rw s).map fun x => G x.1) ∧ (S.rw s)[i]? = some (n, x) ∧
      Calls Try.prog 61 #[.slice (some ⟨rb, off, none⟩) N c, .pointer (some ⟨a, 0, none⟩)] w fun e w' => e = .returned (.int .i64 (i : Int)) ∧ w' = w := by
  obtain ⟨hm, z, rv, h1, h2, h3, xs, h4, h5⟩ := h.lock s b hF
  have hmem := (hI.wait n s x).1 hw
  obtain ⟨i, hi⟩ := List.mem_iff_getElem?.1 hmem
  have hil : i < (S.rw s).length := (List.getElem?_eq_some_iff.1 hi).1
  have hxl : xs.length = (S.rw s).length := by have := congrArg List.length h5; simpa using this
  have hG' : ∀ j, j < xs.length → ∃ p g, (S.rw s)[j]? = some p ∧ xs[j]? = some g ∧ G p.1 = some g := fun j hj => by
    obtain ⟨p, hp⟩ : ∃ p, (S.rw s)[j]? = some p := ⟨_, List.getElem?_eq_getElem (by omega)⟩
    obtain ⟨g, hg⟩ : ∃ g, xs[j]? = some g := ⟨_, List.getElem?_eq_getElem hj⟩
    have : (xs.map some)[j]? = ((S.rw s).map fun x => G x.1)[j]? := by rw [h5]
    rw [List.getElem?_map, List.getElem?_map, hp, hg] at this
    exact ⟨p, g, hp, hg, (Option.some.inj this).symm⟩
  rcases h4 with ⟨_, e⟩ | ⟨rb, off, c, cs, e1, e2, e3, e4, e5, e6⟩
  · rw [e] at hxl; simp at hxl; omega
  · rw [e1] at h1
    refine ⟨rb, off, c, cs, xs, i, xs.length, hM.cell h1 (i := 3) rfl, rfl, by omega, by omega, e2, e3, e4, e5, e6, h5, hi, ?_⟩
    refine index_ok (some ⟨rb, off, none⟩) xs.length c (fun j => (xs[j]?).getD 0) a i w (by omega) (by omega) (fun j hj => ⟨rb, off, rfl, ?_⟩) (fun j hj => ?_) ?_ fun j hj e => ?_
    · obtain ⟨p, g, q1, q2, q3⟩ := hG' j hj
      refine hM.cell e2 ?_
      rw [win_get e6 hj, q2]
      rfl
    · obtain ⟨p, g, q1, q2, q3⟩ := hG' j hj
      simp only [q2, Option.getD_some]
      exact lives85 hM h q3
    · obtain ⟨p, g, q1, q2, q3⟩ := hG' i (by omega)
      rw [hi] at q1
      injection q1 with q1
      rw [← q1, hG] at q3
      injection q3 with q3
      simp [q2, q3]
    · obtain ⟨p, g, q1, q2, q3⟩ := hG' j (by omega)
      simp only [q2, Option.getD_some] at e
      rw [e] at q3
      have e7 : p.1 = n := h.injG q3 hG
      have hnd := List.pairwise_iff_getElem.1 (hI.once s) j i (by simp; omega) (by simp; omega) hj
      rw [List.getElem_map, List.getElem_map, (List.getElem?_eq_some_iff.1 q1).2, (List.getElem?_eq_some_iff.1 hi).2] at hnd
      exact hnd e7
theorem without_facts (h : Rp O tb S (some n) F G lm tm) (hI : Inv S) {x : Bool} (hF : F s = some b) (hG : G n = some a) {rb off c N i : Nat} {cs : List Value} {xs : List Nat} (hN : N = xs.length) (hiN : i < N) (hNc : N ≤ c) (hcm : c ≤ maxLen) (e2 : O rb = some ⟨0, b, .raw cs 74⟩) (e3 : off + c ≤ cs.length) (h5 : xs.map some = (S.rw s).map fun x => G x.1) (hi : (S.rw s)[i]? = some (n, x)) {w3 : World} (hD : DelE k B O b rb off N cs xs i w w3) :
    (∃ u, w3.cell? ⟨b, 3, none⟩ = some u) ∧ w3.frozen? ⟨b, 3, none⟩ = false ∧ ∃ O', Mem k O' (w3.setCell ⟨b, 3, none⟩ (.slice (some ⟨rb, off, none⟩) (N - 1) c)) ∧ Stp 0 B O O' w (w3.setCell ⟨b, 3, none⟩ (.slice (some ⟨rb, off, none⟩) (N - 1) c)) ∧ Rp O' tb (S.unwait n s) (some n) F G lm tm := by
  obtain ⟨cs', hM3, hs3, hl3, hw3⟩ := hD
  obtain ⟨hm, z, rv, h1, h2, h3, _⟩ := h.lock s b hF
  obtain ⟨am, z2, u, g1, gu, g2, g3⟩ := h.ask n a hG
  have nbr : b ≠ rb := fun e => by rw [← e, h1] at e2; simp [lockO] at e2
  have nar : a ≠ rb := fun e => by rw [← e, g1] at e2; simp [askO] at e2
  have nhr : hm ≠ rb := fun e => by rw [← e, h3] at e2; simp at e2
  have nmr : am ≠ rb := fun e => by rw [← e, g3] at e2; simp at e2
  have nab : a ≠ b := fun e => by rw [e, h1] at g1; simp [lockO, askO] at g1
  have nhb : hm ≠ b := fun e => by rw [e, h1] at h3; simp [lockO] at h3
  have nmb : am ≠ b := fun e => by rw [e, h1] at g3; simp [lockO] at g3
  have b3 : (put O rb ⟨0, b, .raw cs' 74⟩) b = some (lockO s b hm z rv) := by rw [put_other _ _ nbr]; exact h1
  have hM4 := hM3.set b3 3 (.slice (some ⟨rb, off, none⟩) (N - 1) c)
  have hs4 : Stp 0 B _ _ w3 _ := Stp.set b3 3 (.slice (some ⟨rb, off, none⟩) (N - 1) c)
  refine ⟨⟨_, hM3.cell b3 (i := 3) rfl⟩, hM3.frozen b3 3, _, hM4, hs3.trans hs4, h.one hF hG (fun q o hq p1 p2 => ?_) (fun t ht => ⟨rfl, rfl, if_neg ht⟩) (fun m hm => if_neg hm) (fun m _ => Iff.rfl) (fun m y hm => .inr ?_) ⟨hm, z, .slice (some ⟨rb, off, none⟩) (N - 1) c, ?_, h2, ?_, xs.eraseIdx i, ?_, ?_⟩ ⟨am, z2, u, ?_, fun e => absurd rfl e, fun y hy => ?_, ?_⟩⟩
  · rw [put_other _ _ (fun e => p1 (by rw [e, h1] at hq; exact (congrArg Ob.own (Option.some.inj hq)).symm)), put_other _ _ (fun e => p1 (by rw [e, e2] at hq; exact (congrArg Ob.own (Option.some.inj hq)).symm))]
    exact hq
  · rw [S.unwait_rw, List.mem_filter] at hm
    exact hm.1
  · rw [put_same]; rfl
  · rw [put_other _ _ nhb, put_other _ _ nhr]; exact h3
  · refine .inr ⟨rb, off, c, cs', ?_, ?_, by omega, ?_, hcm, ?_⟩
    · rw [List.length_eraseIdx_of_lt (by omega), hN]
    · rw [put_other _ _ (Ne.symm nbr), put_same]
    · rw [List.length_eraseIdx_of_lt (by omega)]; omega
    · rw [List.length_eraseIdx_of_lt (by omega), ← hN]; exact hw3
  · rw [S.unwait_rw, ← erase_filter (S.rw s) i x hi (hI.once s), map_erase, map_erase, h5]
  · rw [put_other _ _ nab, put_other _ _ nar]; exact g1
  · rw [show (S.unwait n s).wt n = none from if_pos rfl] at hy; cases hy
  · rw [put_other _ _ nmb, put_other _ _ nmr]; exact g3
end
set_option maxRecDepth 20000 in
set_option maxHeartbeats 1000000 in
theorem without_ok {k B : Nat} (O : Ghost) (tb b a : Nat) (S : St) (s : ByteArray) (n : Int) (F : ByteArray → Option Nat) (G : Int → Option Nat) (lm tm : Option Nat) (w : World) (hM : Mem k O w) (h : Rp O tb S (some n) F G lm tm) (hI : Inv S) {x : Bool} (hw : S.wt n = some (s, x)) (hF : F s = some b) (hG : G n = some a) (hk : k + 2 * (S.rw s).length < 2000000) (hB : B ≤ w.heap.size) :
    Calls Try.prog 48 #[.pointer (some ⟨b, 0, none⟩), .pointer (some ⟨a, 0, none⟩)] w fun e w' => ∃ v, e = .returned v ∧ GoE k B tb (S.unwait n s) s (some n) F G lm tm O w v w' := by
  obtain ⟨rb, off, c, cs, xs, i, N, c3, hN, hiN, hN0, e2, e3, e4, e5, e6, h5, hi, hidx⟩ := row_place hM h hI hw hF hG (by omega)
  have HX := hide hidx
  have HD := hide (delete_row (B := B) O b rb off N c cs xs i w hM e2 e3 hN e4 e5 (by omega) e6 hiN)
  have HW : Hid (∀ w3, DelE k B O b rb off N cs xs i w w3 → _) := fun w3 hD => without_facts (B := B) h hI hF hG hN hiN e4 e5 e2 e3 h5 hi hD
  have hlen : ((S.unwait n s).rw s).length ≤ (S.rw s).length := by rw [S.unwait_rw]; exact List.length_filter_le _ _
  have HG : Hid (∀ O' w4, Mem k O' w4 → Stp 0 B O O' w w4 → Rp O' tb (S.unwait n s) (some n) F G lm tm → Calls Try.prog 60 #[.pointer (some ⟨b, 0, none⟩)] w4 fun e w' => ∃ v, e = .returned v ∧ GoE k B tb (S.unwait n s) s (some n) F G lm tm O w v w') := fun O' w4 q1 q2 q3 => (goOn_ok (B := B) O' tb b (S.unwait n s) s (some n) F G lm tm w4 q1 q3 (hI.unwait hw) hF (by omega) (Nat.le_trans hB q2.size)).mono (by
    rintro e w5 ⟨v, rfl, O5, p1, p2, p3, p4, p5⟩
    exact ⟨v, rfl, O5, p1, p2, p3, q2.trans p4, p5⟩)
  have hiI : (i : Int) < 1000000 := by omega
  clear hM h hI hw hF hG hk hB hidx e2 e3 e4 e5 e6 h5 hi hN hlen hN0
  go_enter Try.func48, Try.ntmps48
  go_wp2_with (first | (go_at_call 61; refine (unhide HX).mono ?_; rintro e w' ⟨rfl, rfl⟩) | (go_at_call 62; refine (unhide HD).mono ?_; rintro e w3 ⟨rfl, hD⟩; obtain ⟨⟨u3, y1⟩, y2, O4, y3, y4, y5⟩ := unhide HW w3 hD; have HC := hide (unhide HG O4 _ y3 y4 y5); clear hD y3 y4 y5) | (go_at_call 60; refine (unhide HC).mono ?_; rintro e w5 ⟨v, rfl, hg⟩; have HE := hide hg; clear hg))
  go_ret
  exact ⟨v, rfl, unhide HE⟩
end Go.Proofs.Ytnlfmmempomcaaa
