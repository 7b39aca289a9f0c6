/- Take: where the task waits, or would be in a ring. -/
import Derived.Test.YtnlfmmempomcaaaMc
import Derived.ArgAppend
namespace Go.Proofs.Ytnlfmmempomcaaa
open Go.RowKit Go.Maps
set_option linter.unusedSimpArgs false
/-- What ringThrough says, in whatever memory. -/
def RingIs (tb : Nat) (S : St) (n : Int) (s : ByteArray) (r : Bool) (k : Nat) : Prop :=
  ∀ O F G lm tm w a b, Rp O tb S none F G lm tm → Mem k O w → F s = some b → G n = some a → Calls Try.prog 41 #[.pointer (some ⟨a, 0, none⟩), .pointer (some ⟨b, 0, none⟩)] w fun e w' => e = .returned (.bool r) ∧ Below w.heap.size w w'
def app78 (ty : TypeId) (args : Array Value) : Sem Value := Builtin.append_ #[78, 78] ty args
@[go_sem ↓] theorem append_app78 (ty : TypeId) (args : Array Value) : Builtin.append_ #[78, 78] ty args = app78 ty args := rfl
theorem info74 : ∃ i z, Try.prog.info? 74 = some i ∧ i.zero = some z ∧ i.size = 1 ∧ i.bytes = 8 ∧ z.cells.size = 1 := by
  have h : (Try.prog.info? 74).map (fun i => (i.zero.map (fun z => z.cells.size), i.size, i.bytes)) = some (some 1, 1, 8) := by kernel_rfl
  cases hq : Try.prog.info? 74 with
  | none => simp [hq] at h
  | some i =>
    simp [hq] at h
    obtain ⟨⟨z, hz, h1⟩, h2, h3⟩ := h
    exact ⟨i, z, rfl, hz, h2, h3, h1⟩
/-- A row in a new block. -/
theorem row_new {k B : Nat} {O : Ghost} {w w' : World} {b : Nat} {v' : Value} {n : Nat} {xs : List Nat} (hM : Mem k O w) (hB : B ≤ w.heap.size) (hg : w.grownBy w' none) (h : w'.ownsRow w.heap.size 74 1 v' n (xs.map fun g => ptr (some g))) (hn : n = xs.length) (h0 : 0 < n) :
    ∃ O', Mem k O' w' ∧ Stp 0 B O O' w w' ∧ RowIs O' b v' xs ∧ ∀ q o, O q = some o → O' q = some o := by
  obtain ⟨h1, h2⟩ := h
  rcases h2 with ⟨_, e⟩ | ⟨g, cap, cur, hv, hgs, hh, hnc, hcm, hcs, hct⟩
  · omega
  · have hO : O g = none := hM.out' hgs
    refine ⟨put O g ⟨0, b, .raw cur.toList 74⟩, fun q o hq => ?_, ⟨hg.os, hg.tape, hg.output, hg.size, fun q h1 _ => hg.block q (by omega) (by simp), fun q h1 h2 => by rw [put_other _ _ (by omega)]; exact h2, fun q o h1 _ => by rw [put_other _ _ (fun e => by rw [e, hO] at h1; cases h1)]; exact h1⟩, ?_, fun q o hq => by rw [put_other _ _ (fun e => by rw [e, hO] at hq; cases hq)]; exact hq⟩
    · unfold put at hq
      split at hq
      · rename_i e
        subst e
        injection hq with hq
        subst hq
        exact hh
      · exact (hM q o hq).same (hg.block q (hM.lt hq) (by simp))
    · refine .inr ⟨g, 0, cap, cur.toList, by rw [hv, hn], put_same _ _ _, ?_, by omega, hcm, ?_⟩
      · rw [Array.length_toList, hcs]; omega
      · rw [List.drop_zero, ← hct, hn, Nat.mul_one]
theorem RowIs.push {k B : Nat} {O : Ghost} {w : World} {b : Nat} {v : Value} {xs : List Nat} (hM : Mem k O w) (h : RowIs O b v xs) (hB : B ≤ w.heap.size) (hl : xs.length ≤ 100000) (a : Nat) :
    ∃ v' w' O', (∀ ty, (app78 ty #[v, .slice (some ⟨w.heap.size, 0, none⟩) 1 1]).run Try.prog (w.alloc (.cells #[.pointer (some ⟨a, 0, none⟩)] 74)) = .ok v' w') ∧ Mem k O' w' ∧ Stp 0 B O O' w w' ∧ RowIs O' b v' (xs ++ [a]) ∧ (∀ q o, O q = some o → (o.own ≠ b ∨ ∀ cs, o.th ≠ .raw cs 74) → O' q = some o) := by
  obtain ⟨i, z, hi, hz, hsz, hby, hzs⟩ := info74
  obtain ⟨W, hW⟩ : ∃ W, W = w.alloc (.cells #[.pointer (some ⟨a, 0, none⟩)] 74) := ⟨_, rfl⟩
  have hMW : Mem k O W := by rw [hW]; exact hM.loose _
  have hsW : Stp 0 B O O w W := by rw [hW]; exact Stp.loose O hB _
  have hzW : W.heap.size = w.heap.size + 1 := by rw [hW]; simp
  have hBW : B ≤ W.heap.size := by omega
  have hnew : ∀ j u, [Value.pointer (some ⟨a, 0, none⟩)][j]? = some u → W.cell? (Addr.add ⟨w.heap.size, 0, none⟩ j) = some u := by rw [hW]; exact cell_one_new w (.pointer (some ⟨a, 0, none⟩)) 74
  have hone : ∀ u ∈ [Value.pointer (some ⟨a, 0, none⟩)], u.oneCell' = true := fun u hu => by simp at hu; subst hu; rfl
  have e2 : (xs ++ [a]).map (fun g => ptr (some g)) = xs.map (fun g => ptr (some g)) ++ [.pointer (some ⟨a, 0, none⟩)] := by simp [ptr]
  have e1 : xs.length + 1 = (xs ++ [a]).length := by simp
  rw [← hW]
  have h63 : xs.length + 1 ≤ maxLen := by simp only [maxLen]; omega
  rcases h with ⟨rfl, rfl⟩ | ⟨rb, off, c, cs, rfl, h2, h3, h4, h5, h6⟩
  · obtain ⟨v', w', hr, hown, hgr, _⟩ := run_append_own_at (P := Try.prog) W W.heap.size 78 78 74 i z 1 8 Try.underlying78 hi hz hsz hby hzs (by omega) _ 0 [] (World.ownsRow_nil _ _ _ _) ⟨w.heap.size, 0, none⟩ 1 1 [.pointer (some ⟨a, 0, none⟩)] rfl hnew hone h63 (by omega) (Nat.le_refl _)
    obtain ⟨O', q1, q2, q3, q4⟩ := row_new (B := B) (b := b) (xs := [a]) hMW hBW hgr hown rfl (by omega)
    exact ⟨v', w', O', fun _ => hr, q1, hsW.trans q2, q3, fun q o h _ => q4 q o h⟩
  · have holds : ∀ j u, (xs.map fun g => ptr (some g))[j]? = some u → W.cell? ⟨rb, off + j, none⟩ = some u := fun j u hj => by
      rw [← h6, List.getElem?_take] at hj
      split at hj
      · exact hMW.cell h2 (by simpa using hj)
      · cases hj
    by_cases hroom : xs.length + 1 ≤ c
    · have hlt : off + xs.length < cs.length := by omega
      have hr : ∀ ty, (app78 ty #[.slice (some ⟨rb, off, none⟩) xs.length c, .slice (some ⟨w.heap.size, 0, none⟩) 1 1]).run Try.prog W = .ok (.slice (some ⟨rb, off, none⟩) (xs.length + 1) c) (W.setCell ⟨rb, off + xs.length, none⟩ (.pointer (some ⟨a, 0, none⟩))) := fun ty => by
        have := run_append_room_cells (P := Try.prog) W 78 ty 74 i Try.underlying78 hi rb off xs.length c ⟨w.heap.size, 0, none⟩ 1 1 [.pointer (some ⟨a, 0, none⟩)] (by rw [hsz]; rfl) hnew hone hroom (fun j hj => by
          simp at hj
          subst hj
          rw [hsz, Nat.mul_one, Nat.add_zero, hMW.cell h2 (List.getElem?_eq_getElem hlt)]
          rfl) (fun j hj => hMW.frozen h2 _)
        rw [hsz, Nat.mul_one] at this
        exact this
      refine ⟨_, _, _, hr, hMW.set h2 _ _, hsW.trans (Stp.set h2 _ _), .inr ⟨rb, off, c, cs.set (off + xs.length) (ptr (some a)), by rw [e1], put_same _ _ _, by rw [List.length_set]; exact h3, by rw [← e1]; exact hroom, h5, ?_⟩, fun q o hq ho => ?_⟩
      · rw [e2, ← h6, ← e1]
        apply List.ext_getElem?
        intro j
        rw [List.getElem?_take, List.getElem?_drop, List.getElem?_set]
        by_cases hj : j < xs.length
        · rw [if_pos (by omega), if_neg (by omega), List.getElem?_append_left (by rw [h6]; simpa using hj), List.getElem?_take, if_pos hj, List.getElem?_drop]
        · have hlen : ((cs.drop off).take xs.length).length = xs.length := by rw [h6]; simp
          by_cases hj2 : j = xs.length
          · subst hj2
            rw [if_pos (by omega), if_pos rfl, if_pos hlt, List.getElem?_append_right (by omega), hlen]
            simp [ptr]
          · rw [if_neg (by omega), List.getElem?_append_right (by omega), hlen]
            rw [List.getElem?_eq_none (by simp; omega)]
      · refine (put_other _ _ fun e => ?_).trans hq
        rw [e, h2] at hq
        have e5 := Option.some.inj hq
        rcases ho with ho | ho
        · exact ho (congrArg Ob.own e5).symm
        · exact ho cs (congrArg Ob.th e5).symm
    · obtain ⟨v', w', hr, hown, hgr⟩ := run_append_arg_grows (P := Try.prog) W 78 78 74 i z 1 8 Try.underlying78 hi hz hsz hby hzs (by omega) ⟨rb, off, none⟩ xs.length c (xs.map fun g => ptr (some g)) (by simp) (fun j u hj => by rw [Addr.add_lit]; exact holds j u hj) ⟨w.heap.size, 0, none⟩ 1 1 [.pointer (some ⟨a, 0, none⟩)] rfl hnew (by omega) h63 (by omega)
      rw [← e2] at hown
      obtain ⟨O', q1, q2, q3, q4⟩ := row_new (B := B) (b := b) (xs := xs ++ [a]) hMW hBW hgr hown e1 (by omega)
      exact ⟨v', w', O', fun _ => hr, q1, hsW.trans q2, q3, fun q o h _ => q4 q o h⟩
section
variable {k B : Nat} {O : Ghost} {tb : Nat} {S : St} {s : ByteArray} {n : Int} {w w1 w2 w3 : World}
theorem TkR.below {a b : Nat} (h : TkR k B tb S n s O w a b w3) {w4 : World} (hb : Below w3.heap.size w3 w4) (hB : B ≤ w.heap.size) : TkR k B tb S n s O w a b w4 := by
  obtain ⟨O3, F3, G3, lm3, tm3, q1, q2, q3, q4, q5, q6⟩ := h
  exact ⟨O3, F3, G3, lm3, tm3, q1, Rp.below q2 hb, q3.trans ((Stp.ofBelow hb).mono (Nat.le_trans hB q3.size)), q4, q5, q6⟩
theorem tk_ring {a b : Nat} (h : TkR k B tb S n s O w a b w3) {r : Bool} (hR : RingIs tb S n s r (k + 2)) : Calls Try.prog 41 #[.pointer (some ⟨a, 0, none⟩), .pointer (some ⟨b, 0, none⟩)] w3 fun e w' => e = .returned (.bool r) ∧ Below w3.heap.size w3 w' := by
  obtain ⟨O3, F3, G3, lm3, tm3, q1, q2, q3, q4, q5, q6⟩ := h
  exact hR O3 F3 G3 lm3 tm3 w3 a b q1 q2 q4 q5
theorem tk_left {a b : Nat} (hI : Inv S) (hE : Emp S) (h : TkR k B tb S n s O w a b w3) : Left (k + 4) B tb S O w w3 := by
  obtain ⟨O3, F3, G3, lm3, tm3, q1, q2, q3, q4, q5, q6⟩ := h
  exact ⟨O3, ⟨F3, G3, lm3, tm3, q1, hI, hE, q6⟩, q2.mono (by omega), q3⟩
theorem tk_wait {a b : Nat} (hI : Inv S) (hE : Emp S) (hw : S.wt n = none) (hh : n ∉ S.hs s) (hne : S.hs s ≠ []) (h : TkR k B tb S n s O w a b w3) (x : Bool) (hl : (S.rw s).length ≤ 100000) (hB : B ≤ w.heap.size) {ra : Option Addr} {N rc : Nat} (hc : w3.cell? ⟨b, 3, none⟩ = some (.slice ra N rc)) :
    ∃ va vn vc w5, (∀ ty, (app78 ty #[.slice ra N rc, .slice (some ⟨w3.heap.size, 0, none⟩) 1 1]).run Try.prog (w3.alloc (.cells #[.pointer (some ⟨a, 0, none⟩)] 74)) = .ok (.slice va vn vc) w5) ∧ (∃ u, w5.cell? ⟨b, 3, none⟩ = some u) ∧ w5.frozen? ⟨b, 3, none⟩ = false ∧
      (∃ u, (w5.setCell ⟨b, 3, none⟩ (.slice va vn vc)).cell? ⟨a, 2, none⟩ = some u) ∧ (w5.setCell ⟨b, 3, none⟩ (.slice va vn vc)).frozen? ⟨a, 2, none⟩ = false ∧
      (∃ u, ((w5.setCell ⟨b, 3, none⟩ (.slice va vn vc)).setCell ⟨a, 2, none⟩ (.pointer (some ⟨b, 0, none⟩))).cell? ⟨a, 3, none⟩ = some u) ∧ ((w5.setCell ⟨b, 3, none⟩ (.slice va vn vc)).setCell ⟨a, 2, none⟩ (.pointer (some ⟨b, 0, none⟩))).frozen? ⟨a, 3, none⟩ = false ∧
      Left (k + 4) B tb (S.wait n s x) O w (((w5.setCell ⟨b, 3, none⟩ (.slice va vn vc)).setCell ⟨a, 2, none⟩ (.pointer (some ⟨b, 0, none⟩))).setCell ⟨a, 3, none⟩ (.bool x)) := by
  obtain ⟨O3, F3, G3, lm3, tm3, q1, q2, q3, q4, q5, q6⟩ := h
  obtain ⟨hm, z, rv, h1, h2, h3, xs, h4, h5⟩ := q1.lock s b q4
  obtain ⟨am, z2, u, g1, gu, g2, g3⟩ := q1.ask n a q5
  obtain rfl := gu (by simp)
  have hab : a ≠ b := fun e => by rw [e, h1] at g1; simp [lockO, askO] at g1
  have hma : hm ≠ a := fun e => by rw [e, g1] at h3; simp [askO] at h3
  have hmb : hm ≠ b := fun e => by rw [e, h1] at h3; simp [lockO] at h3
  have ama : am ≠ a := fun e => by rw [e, g1] at g3; simp [askO] at g3
  have amb : am ≠ b := fun e => by rw [e, h1] at g3; simp [lockO] at g3
  have hxl : xs.length = (S.rw s).length := by have := congrArg List.length h5; simpa using this
  have c3 := q2.cell h1 (i := 3) rfl
  rw [hc] at c3
  obtain rfl : .slice ra N rc = rv := Option.some.inj c3
  obtain ⟨v', w5, O5, r1, r2, r3, r4, r5⟩ := RowIs.push (B := B) q2 h4 (Nat.le_trans hB q3.size) (by omega) a
  obtain ⟨va, vn, vc, hv'⟩ : ∃ va vn vc, v' = .slice va vn vc := by
    rcases r4 with ⟨e, _⟩ | ⟨_, _, _, _, e, _⟩
    · exact ⟨_, _, _, e⟩
    · exact ⟨_, _, _, e⟩
  subst hv'
  have b5 : O5 b = some (lockO s b hm z (.slice ra N rc)) := r5 _ _ h1 (.inr fun cs e => by simp [lockO] at e)
  have a5 : O5 a = some (askO n a am ((S.wt n).bind fun x => F3 x.1) z2) := r5 _ _ g1 (.inr fun cs e => by simp [askO] at e)
  have hm5 : O5 hm = _ := r5 _ _ h3 (.inr fun cs e => by simp at e)
  have am5 : O5 am = _ := r5 _ _ g3 (.inr fun cs e => by simp at e)
  have hM6 := r2.set b5 3 (.slice va vn vc)
  have hs6 : Stp 0 B O5 _ w5 _ := Stp.set b5 3 (.slice va vn vc)
  have a6 : (put O5 b ⟨0, b, .raw ([.string s, .map (some hm), .bool z, .slice ra N rc].set 3 (.slice va vn vc)) 80⟩) a = some (askO n a am ((S.wt n).bind fun x => F3 x.1) z2) := by rw [put_other _ _ hab]; exact a5
  obtain ⟨O6, hO6⟩ : ∃ O6, O6 = put O5 b (lockO s b hm z (.slice va vn vc)) := ⟨_, rfl⟩
  have hO6' : put O5 b ⟨0, b, .raw ([.string s, .map (some hm), .bool z, .slice ra N rc].set 3 (.slice va vn vc)) 80⟩ = O6 := by rw [hO6]; rfl
  rw [hO6'] at hM6 hs6 a6
  have hM7 := hM6.set a6 2 (.pointer (some ⟨b, 0, none⟩))
  have hs7 : Stp 0 B O6 _ (w5.setCell ⟨b, 3, none⟩ (.slice va vn vc)) _ := Stp.set a6 2 (.pointer (some ⟨b, 0, none⟩))
  obtain ⟨O7, hO7⟩ : ∃ O7, O7 = put O6 a (askO n a am (some b) z2) := ⟨_, rfl⟩
  have hO7' : put O6 a ⟨0, a, .raw ([.int .i64 n, .map (some am), ptr ((S.wt n).bind fun x => F3 x.1), .bool z2].set 2 (.pointer (some ⟨b, 0, none⟩))) 85⟩ = O7 := by rw [hO7]; rfl
  rw [hO7'] at hM7 hs7
  have a7 : O7 a = some (askO n a am (some b) z2) := by rw [hO7, put_same]
  have hM8 := hM7.set a7 3 (.bool x)
  have hs8 : Stp 0 B O7 _ ((w5.setCell ⟨b, 3, none⟩ (.slice va vn vc)).setCell ⟨a, 2, none⟩ (.pointer (some ⟨b, 0, none⟩))) _ := Stp.set a7 3 (.bool x)
  obtain ⟨O8, hO8⟩ : ∃ O8, O8 = put O7 a (askO n a am (some b) x) := ⟨_, rfl⟩
  have hO8' : put O7 a ⟨0, a, .raw ([.int .i64 n, .map (some am), ptr (some b), .bool z2].set 3 (.bool x)) 85⟩ = O8 := by rw [hO8]; rfl
  rw [hO8'] at hM8 hs8
  have hO58 : ∀ q, q ≠ a → q ≠ b → O8 q = O5 q := fun q n1 n2 => by rw [hO8, put_other _ _ n1, hO7, put_other _ _ n1, hO6, put_other _ _ n2]
  refine ⟨va, vn, vc, w5, r1, ⟨_, r2.cell b5 (i := 3) rfl⟩, r2.frozen b5 3, ⟨_, hM6.cell a6 (i := 2) rfl⟩, hM6.frozen a6 2, ⟨_, hM7.cell a7 (i := 3) rfl⟩, hM7.frozen a7 3, O8, ⟨F3, G3, lm3, tm3, q1.one q4 q5 (fun q o hq p1 p2 => ?_) (fun t ht => ⟨rfl, rfl, if_neg ht⟩) (fun m hm => if_neg hm) (fun m _ => Iff.rfl) (fun m y hm => ?_) ⟨hm, z, (.slice va vn vc), ?_, h2, ?_, xs ++ [a], ?_, ?_⟩ ⟨am, x, some b, by rw [hO8, put_same], fun _ => by rw [show (S.wait n s x).wt n = some (s, x) from if_pos rfl]; simp [q4], fun y hy => ?_, ?_⟩, hI.waits x hh hw, hE.waits n s x hne, q6⟩, hM8.mono (by omega), ((((q3.trans r3).trans hs6).trans hs7).trans hs8)⟩
  · have n1 : q ≠ b := fun e => p1 (by rw [e, h1] at hq; exact (congrArg Ob.own (Option.some.inj hq)).symm)
    have n2 : q ≠ a := fun e => p2 (by rw [e, g1] at hq; exact (congrArg Ob.own (Option.some.inj hq)).symm)
    rw [hO58 q n2 n1]
    exact r5 q o hq (.inl p1)
  · rw [show (S.wait n s x).rw s = S.rw s ++ [(n, x)] from if_pos rfl] at hm
    rcases List.mem_append.1 hm with hm | hm
    · exact .inr hm
    · simp at hm
      exact .inl hm.1
  · rw [hO8, put_other _ _ (Ne.symm hab), hO7, put_other _ _ (Ne.symm hab), hO6, put_same]
  · rw [hO58 hm hma hmb]; exact hm5
  · rcases r4 with e | ⟨rb, off, c, cs, e1, e2, e3⟩
    · exact .inl e
    · exact .inr ⟨rb, off, c, cs, e1, by rw [hO58 rb (fun e => by rw [e, a5] at e2; simp [askO] at e2) (fun e => by rw [e, b5] at e2; simp [lockO] at e2)]; exact e2, e3⟩
  · rw [show (S.wait n s x).rw s = S.rw s ++ [(n, x)] from if_pos rfl, List.map_append, List.map_append, h5]
    simp [q5]
  · rw [show (S.wait n s x).wt n = some (s, x) from if_pos rfl] at hy
    injection hy with hy
    rw [← hy]
  · rw [hO58 am ama amb]; exact am5
end
/-- What is known where the task can't hold the lock at once. -/
theorem tk_facts {k : Nat} {O : Ghost} {tb : Nat} {S : St} {s : ByteArray} {n : Int} {w : World} {a b : Nat} {w3 : World} {x r : Bool} (hr : ¬ (S.rw s = [] ∧ S.lets s x = true)) (hR : RingIs tb S n s r (k + 2)) (ht : TkR k w.heap.size tb S n s O w a b w3) :
    ∃ ra rc, ∃ N : Nat, w3.cell? ⟨b, 3, none⟩ = some (.slice ra N rc) ∧ (¬ ((N : Int) = 0) ∨ (N = 0 ∧ Hid (Calls Try.prog 39 #[.pointer (some ⟨b, 0, none⟩), .bool x] w3 fun e w' => e = .returned (.bool false) ∧ w' = w3))) ∧
      Hid (Calls Try.prog 41 #[.pointer (some ⟨a, 0, none⟩), .pointer (some ⟨b, 0, none⟩)] w3 fun e w' => e = .returned (.bool r) ∧ TkR k w.heap.size tb S n s O w a b w' ∧ w'.cell? ⟨b, 3, none⟩ = some (.slice ra N rc)) := by
  obtain ⟨ra, rc, h1⟩ := tk_row ht
  refine ⟨ra, rc, _, h1, ?_, ?_⟩
  · by_cases e : S.rw s = []
    · have hl : S.lets s x = false := by
        cases hq : S.lets s x with
        | false => rfl
        | true => exact absurd ⟨e, hq⟩ hr
      have := tk_lets ht x
      rw [hl] at this
      exact .inr ⟨by rw [e]; rfl, this⟩
    · refine .inl fun h0 => e (List.length_eq_zero_iff.1 (by omega))
  · refine (tk_ring ht hR).mono ?_
    rintro e w4 ⟨rfl, hb⟩
    refine ⟨rfl, ht.below hb (Nat.le_refl _), ?_⟩
    rw [hb.cell (p := ⟨b, 3, none⟩)]
    · exact h1
    · unfold World.cell? at h1; split at h1; (· rename_i q; exact (Array.getElem?_eq_some_iff.1 q).1); (· simp at h1)
set_option maxRecDepth 20000 in
set_option maxHeartbeats 2000000 in
theorem take_rings {k : Nat} (O : Ghost) (tb : Nat) (S : St) (w : World) (hM : Mem k O w) (h : TbIs O tb S) (n : Int) (s : ByteArray) (x : Bool) (hn : IOk n) (hs : s.size ≤ 100000) (h0 : ¬ n < 0) (hk : k < 1000000) (hw : (S.waits n).2 = false) (hh : S.holds n s = false) (hr : ¬ (S.rw s = [] ∧ S.lets s x = true)) (hR : RingIs tb S n s true (k + 2)) :
    Calls Try.prog 12 #[.pointer (some ⟨tb, 0, none⟩), .int .i64 n, .string s, .bool x] w fun e w' => e = .returned (.tuple #[.bool false, .int .i64 17]) ∧ Left (k + 4) w.heap.size tb S O w w' := by
  have hI : Inv S := by obtain ⟨_, _, _, _, _, hI, _⟩ := h; exact hI
  have hE : Emp S := by obtain ⟨_, _, _, _, _, _, hE, _⟩ := h; exact hE
  have HW := hide (waits_tb O tb S w hM h n hn)
  rw [hw] at HW
  have HH : Hid (∀ w1, Below w.heap.size w w1 → _) := fun w1 hb => holds_tb O tb S w1 (Rp.below hM hb) h n s hn (by unfold SOk maxLen; omega)
  rw [hh] at HH
  have HA : Hid (∀ w1, Below w.heap.size w w1 → _) := fun w1 hb => tk_asker (w1 := w1) hM h hn hk hb
  have HT : Hid (∀ a b w3, TkR k w.heap.size tb S n s O w a b w3 → _) := fun a b w3 ht => tk_facts hr hR ht
  have HL2 : Hid (∀ a b w4, TkR k w.heap.size tb S n s O w a b w4 → Left (k + 4) w.heap.size tb S O w w4) := fun a b w4 ht => tk_left hI hE ht
  have HK := hide hk
  have HS := hide hs
  clear h hM hn hs hw hh hI hE hk hr hR
  go_enter Try.func12, Try.ntmps12
  go_wp2_with (first | (go_at_call 19; refine (unhide HW).mono ?_; rintro e w1 ⟨rfl, hb⟩) | (go_at_call 21; refine (unhide HH w1 hb).mono ?_; rintro e w2 ⟨rfl, rfl⟩) | (go_at_call 37; refine (unhide HA _ hb).mono ?_; rintro e w2 ⟨a, rfl, F, lm, hsz, hI, hA⟩; have HL := hide (tk_lock hI hsz hA (unhide HS) (unhide HK)); clear hsz hI hA) | (go_at_call 38; refine (unhide HL).mono ?_; rintro e w3 ⟨b, rfl, ht⟩; obtain ⟨ra, rc, N, y1, yd, y4⟩ := unhide HT a b w3 ht; clear ht; rcases yd with y2 | ⟨rfl, y2⟩) | (go_at_call 39; refine (unhide y2).mono ?_; rintro e w4 ⟨rfl, rfl⟩) | (go_at_call 41; refine (unhide y4).mono ?_; rintro e w4 ⟨rfl, ht, hc4⟩; have hE := unhide HL2 _ _ _ ht; clear ht))
  · go_ret2
    exact ⟨rfl, hE⟩
  · go_ret2
    exact ⟨rfl, hE⟩
set_option maxRecDepth 20000 in
set_option maxHeartbeats 2000000 in
theorem take_waits {k : Nat} (O : Ghost) (tb : Nat) (S : St) (w : World) (hM : Mem k O w) (h : TbIs O tb S) (n : Int) (s : ByteArray) (x : Bool) (hn : IOk n) (hs : s.size ≤ 100000) (h0 : ¬ n < 0) (hk : k < 1000000) (hw : (S.waits n).2 = false) (hh : S.holds n s = false) (hr : ¬ (S.rw s = [] ∧ S.lets s x = true)) (hR : RingIs tb S n s false (k + 2)) (hlen : (S.rw s).length ≤ 100000) :
    Calls Try.prog 12 #[.pointer (some ⟨tb, 0, none⟩), .int .i64 n, .string s, .bool x] w fun e w' => e = .returned (.tuple #[.bool false, .int .i64 0]) ∧ Left (k + 4) w.heap.size tb (S.wait n s x) O w w' := by
  have hI : Inv S := by obtain ⟨_, _, _, _, _, hI, _⟩ := h; exact hI
  have hE : Emp S := by obtain ⟨_, _, _, _, _, _, hE, _⟩ := h; exact hE
  have hne : S.hs s ≠ [] := fun e => hr ⟨hE s e, by unfold St.lets; rw [e]; rfl⟩
  have HW := hide (waits_tb O tb S w hM h n hn)
  rw [hw] at HW
  have HH : Hid (∀ w1, Below w.heap.size w w1 → _) := fun w1 hb => holds_tb O tb S w1 (Rp.below hM hb) h n s hn (by unfold SOk maxLen; omega)
  rw [hh] at HH
  have HA : Hid (∀ w1, Below w.heap.size w w1 → _) := fun w1 hb => tk_asker (w1 := w1) hM h hn hk hb
  have HT : Hid (∀ a b w3, TkR k w.heap.size tb S n s O w a b w3 → _) := fun a b w3 ht => tk_facts hr hR ht
  have HL2 : Hid (∀ a b w4, TkR k w.heap.size tb S n s O w a b w4 → ∀ ra N rc, w4.cell? ⟨b, 3, none⟩ = some (.slice ra N rc) → _) := fun a b w4 ht ra N rc hc => tk_wait hI hE (waits_none hw) (holds_not hh) hne ht x hlen (Nat.le_refl _) hc
  have HK := hide hk
  have HS := hide hs
  clear h hM hn hs hw hh hI hE hk hr hR hne hlen
  go_enter Try.func12, Try.ntmps12
  go_wp2_with (first | (go_at_call 19; refine (unhide HW).mono ?_; rintro e w1 ⟨rfl, hb⟩) | (go_at_call 21; refine (unhide HH w1 hb).mono ?_; rintro e w2 ⟨rfl, rfl⟩) | (go_at_call 37; refine (unhide HA _ hb).mono ?_; rintro e w2 ⟨a, rfl, F, lm, hsz, hI, hA⟩; have HL := hide (tk_lock hI hsz hA (unhide HS) (unhide HK)); clear hsz hI hA) | (go_at_call 38; refine (unhide HL).mono ?_; rintro e w3 ⟨b, rfl, ht⟩; obtain ⟨ra, rc, N, y1, yd, y4⟩ := unhide HT a b w3 ht; clear ht; rcases yd with y2 | ⟨rfl, y2⟩) | (go_at_call 39; refine (unhide y2).mono ?_; rintro e w4 ⟨rfl, rfl⟩) | (go_at_call 41; refine (unhide y4).mono ?_; rintro e w4 ⟨rfl, ht, hc4⟩; obtain ⟨va, vn, vc, w5, z1, ⟨u1, z2⟩, z3, ⟨u2, z4⟩, z5, ⟨u3, z6⟩, z7, hE⟩ := unhide HL2 _ _ _ ht _ _ _ hc4; clear ht))
  · go_ret2
    exact ⟨rfl, hE⟩
  · go_ret2
    exact ⟨rfl, hE⟩
end Go.Proofs.Ytnlfmmempomcaaa
