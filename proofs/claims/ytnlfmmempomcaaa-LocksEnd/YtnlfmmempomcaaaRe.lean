/- Delete: a row of tasks without one of them. -/
import Derived.Test.YtnlfmmempomcaaaRd
import Derived.Lib.SliceRun
namespace Go.Proofs.Ytnlfmmempomcaaa
open Go.RowKit Go.Maps
set_option linter.unusedSimpArgs false
def setL : List Value → Nat → List Value → List Value
  | cs, _, [] => cs
  | cs, o, v :: r => setL (cs.set o v) (o + 1) r
theorem setL_length : ∀ (vs cs : List Value) (o : Nat), (setL cs o vs).length = cs.length
  | [], _, _ => rfl
  | v :: r, cs, o => by
    show (setL (cs.set o v) (o + 1) r).length = _
    rw [setL_length r, List.length_set]
theorem setL_out : ∀ (vs cs : List Value) (o p : Nat), p < o ∨ o + vs.length ≤ p → (setL cs o vs)[p]? = cs[p]?
  | [], _, _, _, _ => rfl
  | v :: r, cs, o, p, h => by
    show (setL (cs.set o v) (o + 1) r)[p]? = _
    rw [List.length_cons] at h
    rw [setL_out r _ _ _ (by omega), List.getElem?_set]
    rw [if_neg (by omega)]
theorem setL_in : ∀ (vs cs : List Value) (o p : Nat), o ≤ p → p < o + vs.length → p < cs.length → (setL cs o vs)[p]? = vs[p - o]?
  | [], _, _, _, h1, h2, _ => by simp at h2; omega
  | v :: r, cs, o, p, h1, h2, h3 => by
    show (setL (cs.set o v) (o + 1) r)[p]? = _
    rw [List.length_cons] at h2
    by_cases e : p = o
    · subst e
      rw [setL_out r _ _ _ (by omega), List.getElem?_set, if_pos rfl, if_pos h3]
      simp
    · rw [setL_in r _ _ _ (by omega) (by omega) (by rw [List.length_set]; exact h3)]
      obtain ⟨q, hq⟩ : ∃ q, p - o = q + 1 := ⟨p - o - 1, by omega⟩
      rw [hq, List.getElem?_cons_succ]
      congr 1
      omega
theorem put_put' (O : Ghost) (b : Nat) (o o' : Ob) : put (put O b o) b o' = put O b o' := funext fun q => by
  unfold put
  split <;> rfl
theorem put_id {O : Ghost} {b : Nat} {o : Ob} (h : O b = some o) : put O b o = O := funext fun q => by
  unfold put
  split
  · rename_i e; rw [e]; exact h.symm
  · rfl
theorem Mem.sets {k B : Nat} {b cl own : Nat} {ty : TypeId} : ∀ (vs : List Value) (o : Nat) (cs : List Value) (O : Ghost) (w : World), Mem k O w → O b = some ⟨cl, own, .raw cs ty⟩ →
    Mem k (put O b ⟨cl, own, .raw (setL cs o vs) ty⟩) (w.setCells b o vs) ∧ Stp cl B O (put O b ⟨cl, own, .raw (setL cs o vs) ty⟩) w (w.setCells b o vs)
  | [], o, cs, O, w, hM, h => by
    show Mem k (put O b ⟨cl, own, .raw cs ty⟩) w ∧ Stp cl B O (put O b ⟨cl, own, .raw cs ty⟩) w w
    rw [put_id h]
    exact ⟨hM, Stp.refl _ _ _ _⟩
  | v :: r, o, cs, O, w, hM, h => by
    have h1 := hM.set h o v
    have h2 : Stp cl B O _ w _ := Stp.set h o v
    obtain ⟨h3, h4⟩ := Mem.sets (B := B) r (o + 1) (cs.set o v) _ _ h1 (put_same _ _ _)
    rw [put_put'] at h3 h4
    exact ⟨h3, h2.trans h4⟩
/-- What Delete leaves. -/
def DelE (k B : Nat) (O : Ghost) (b rb off N : Nat) (cs : List Value) (xs : List Nat) (i : Nat) (w w' : World) : Prop :=
  ∃ cs', Mem k (put O rb ⟨0, b, .raw cs' 74⟩) w' ∧ Stp 0 B O (put O rb ⟨0, b, .raw cs' 74⟩) w w' ∧ cs'.length = cs.length ∧ (cs'.drop off).take (N - 1) = (xs.eraseIdx i).map fun g => ptr (some g)
theorem win_get {cs : List Value} {off N : Nat} {xs : List Nat} (hw : (cs.drop off).take N = xs.map fun g => ptr (some g)) {p : Nat} (hp : p < N) : cs[off + p]? = (xs[p]?).map fun g => ptr (some g) := by
  have : ((cs.drop off).take N)[p]? = (xs.map fun g => ptr (some g))[p]? := by rw [hw]
  rw [List.getElem?_take, if_pos hp, List.getElem?_drop, List.getElem?_map] at this
  exact this
theorem del_facts {k B : Nat} {O : Ghost} {b rb off N c : Nat} {cs : List Value} {xs : List Nat} {i : Nat} {w : World} (hM : Mem k O w) (h2 : O rb = some ⟨0, b, .raw cs 74⟩) (h3 : off + c ≤ cs.length) (hN : N = xs.length) (hNc : N ≤ c) (hw : (cs.drop off).take N = xs.map fun g => ptr (some g)) (hi : i < N) (offj : Nat) (hoj : i + 1 < N → offj = off + (i + 1)) :
    ∃ w1 w2, (∀ ty, (app78 ty #[.slice (some ⟨rb, off, none⟩) i c, .slice (some ⟨rb, offj, none⟩) (N - (i + 1)) (c - (i + 1))]).run Try.prog w = .ok (.slice (some ⟨rb, off, none⟩) (N - 1) c) w1) ∧ (∀ ty, (clr78 ty #[.slice (some ⟨rb, off + (N - 1), none⟩) (N - (N - 1)) (c - (N - 1))]).run Try.prog w1 = .ok (.tuple #[]) w2) ∧ DelE k B O b rb off N cs xs i w w2 := by
  obtain ⟨i74, z, q1, q2, q3, q4, q5⟩ := info74
  obtain ⟨news, hnews⟩ : ∃ news, news = (xs.drop (i + 1)).map fun g => ptr (some g) := ⟨_, rfl⟩
  have hnl : news.length = N - (i + 1) := by rw [hnews, List.length_map, List.length_drop, hN]
  have hcell : ∀ (w : World) (cs : List Value), w.heap[rb]? = some (.cells cs.toArray 74 (0, 0)) → ∀ j, off + j < cs.length → (w.cell? ⟨rb, off + j, none⟩).isSome = true := fun w cs hw j hj => by
    simp [World.cell?, hw, hj]
  have hraw := hM.raw h2
  have hA := run_append_room_cells (P := Try.prog) w 78 0 74 i74 Try.underlying78 q1 rb off i c ⟨rb, offj, none⟩ (N - (i + 1)) (c - (i + 1)) news (by rw [q3, hnl]; omega) (fun j u hj => by
      have hj' : j < news.length := (List.getElem?_eq_some_iff.1 hj).1
      rw [Addr.add_lit, hoj (by omega)]
      refine hM.cell h2 ?_
      rw [Nat.add_assoc, win_get hw (by omega)]
      rw [hnews, List.getElem?_map, List.getElem?_drop] at hj
      exact hj) (fun u hu => by rw [hnews] at hu; obtain ⟨g, _, rfl⟩ := List.mem_map.1 hu; rfl) (by omega) (fun j hj => by rw [q3, Nat.mul_one, Nat.add_assoc]; exact hcell w cs hraw _ (by omega)) (fun j hj => hM.frozen h2 _)
  rw [q3, Nat.mul_one] at hA
  obtain ⟨hM1, hs1⟩ := Mem.sets (B := B) news (off + i) cs O w hM h2
  have h21 : (put O rb ⟨0, b, .raw (setL cs (off + i) news) 74⟩) rb = some ⟨0, b, .raw (setL cs (off + i) news) 74⟩ := put_same _ _ _
  have hraw1 := hM1.raw h21
  have hl1 := setL_length news cs (off + i)
  have hC := Go.Lib.run_clear_slice (P := Try.prog) (w.setCells rb (off + i) news) 78 74 0 (.pointer none) Try.underlying78 (fun w => Try.zeroValue74 w) rfl rfl rb (off + (N - 1)) 1 (c - (N - 1)) (by omega) (fun j hj => by
      rw [Nat.add_assoc]
      exact hcell _ _ hraw1 _ (by rw [hl1]; omega)) (fun j hj => hM1.frozen h21 _)
  obtain ⟨hM2, hs2⟩ := Mem.sets (B := B) [.pointer none] (off + (N - 1)) _ _ _ hM1 h21
  rw [put_put'] at hM2 hs2
  refine ⟨w.setCells rb (off + i) news, _, fun ty => ?_, fun ty => ?_, _, hM2, hs1.trans hs2, by rw [setL_length, hl1], ?_⟩
  · have e : i + (N - (i + 1)) = N - 1 := by omega
    rw [e] at hA
    exact hA
  · rw [show N - (N - 1) = 1 by omega]
    exact hC
  · apply List.ext_getElem?
    intro p
    rw [List.getElem?_take, List.getElem?_map]
    by_cases hp : p < N - 1
    · rw [if_pos hp, List.getElem?_drop, setL_out _ _ _ _ (by omega), List.getElem?_eraseIdx]
      by_cases hpi : p < i
      · rw [if_pos hpi, setL_out _ _ _ _ (by omega), win_get hw (by omega)]
      · have e : i + 1 + (off + p - (off + i)) = p + 1 := by omega
        rw [if_neg hpi, setL_in _ _ _ _ (by omega) (by omega) (by omega), hnews, List.getElem?_map, List.getElem?_drop, e]
    · rw [if_neg hp, List.getElem?_eq_none]
      · rfl
      · rw [List.length_eraseIdx_of_lt (by omega)]; omega
set_option maxRecDepth 20000 in
set_option maxHeartbeats 1000000 in
theorem delete_row {k B : Nat} (O : Ghost) (b rb off N c : Nat) (cs : List Value) (xs : List Nat) (i : Nat) (w : World) (hM : Mem k O w) (h2 : O rb = some ⟨0, b, .raw cs 74⟩) (h3 : off + c ≤ cs.length) (hN : N = xs.length) (hNc : N ≤ c) (hcm : c ≤ maxLen) (hN0 : N ≤ 1000000) (hw : (cs.drop off).take N = xs.map fun g => ptr (some g)) (hi : i < N) :
    Calls Try.prog 62 #[.slice (some ⟨rb, off, none⟩) N c, .int .i64 (i : Int), .int .i64 ((i : Int) + 1)] w fun e w' => e = .returned (.slice (some ⟨rb, off, none⟩) (N - 1) c) ∧ DelE k B O b rb off N cs xs i w w' := by
  have hiI : (i : Int) < (N : Int) := by omega
  have hNI : (N : Int) ≤ 1000000 := by omega
  have hNcI : (N : Int) ≤ (c : Int) := by omega
  have hcI : (c : Int) ≤ maxLen := by omega
  have hic : i ≤ c := by omega
  have hic1 : i + 1 ≤ c := by omega
  by_cases hci : c = i + 1
  · obtain ⟨w1, w2, hA, hC, hD⟩ := del_facts (B := B) hM.drew h2 h3 hN hNc hw hi off fun h => by omega
    have HD : Hid (DelE k B O b rb off N cs xs i w w2) := by
      obtain ⟨cs', a1, a2, a3⟩ := hD
      exact ⟨cs', a1, (Stp.drew 0 B O w).trans a2, a3⟩
    clear hM h2 h3 hN hw hD
    have hcd : (c = i + 1) = True := by simp [hci]
    clear hci
    go_enter Try.func62, Try.ntmps62
    go_wp2_with fail
    go_region
    go_wp2_with fail
    go_ret
    exact ⟨rfl, unhide HD⟩
  · obtain ⟨w1, w2, hA, hC, hD⟩ := del_facts (B := B) hM.drew h2 h3 hN hNc hw hi (off + (i + 1)) fun h => by omega
    have HD : Hid (DelE k B O b rb off N cs xs i w w2) := by
      obtain ⟨cs', a1, a2, a3⟩ := hD
      exact ⟨cs', a1, (Stp.drew 0 B O w).trans a2, a3⟩
    clear hM h2 h3 hN hw hD
    go_enter Try.func62, Try.ntmps62
    go_wp2_with fail
    go_region
    go_wp2_with fail
    go_ret
    exact ⟨rfl, unhide HD⟩
end Go.Proofs.Ytnlfmmempomcaaa
