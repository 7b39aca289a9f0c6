/- Lay, in the document's own answer. -/
import Derived.Test.YthfjofmfiklegaaDoorPutR
import Derived.Test.YthfjofmfiklegaaDoorFind
import Derived.Test.YthfjofmfiklegaaDoorSpoilt
namespace Go.Proofs.YthfjofmfiklegaaDoor
open Go.RowKit
set_option linter.unusedSimpArgs false
attribute [local go_sem ↓] slice_sl23 slice_sl24
theorem fresh23o (w : World) (lo hi : Nat) (a : Option Addr) (m c : Nat) (ys : List Value) (hr : Row lo hi w (.slice a m c) m ys) (hl : ys.length = m) (h1 : ∀ u ∈ ys, u.oneCell' = true) (hmax : m ≤ 100000000) (hhi : hi ≤ w.heap.size) :
    ∃ a1 c1 w1, (∀ ty, (app23 ty #[.slice (some ⟨w.heap.size, 0, none⟩) 0 0, .slice a m c]).run Tryd.prog (w.alloc (.cells #[] 9)) = .ok (.slice a1 m c1) w1) ∧ Below w.heap.size w w1 ∧ w1.ownsRow w.heap.size 9 1 (.slice a1 m c1) m ys := by
  have hb : Below w.heap.size w (w.alloc (.cells #[] 9)) := (Below.refl _ _).alloc (Nat.le_refl _) _
  obtain ⟨v1, w1, happ, ho, hg, _⟩ := app23_own _ _ lo hi _ 0 [] a m c ys (owns_new w 9 1) (hr.below hb hhi) hl h1 (by omega) (by simp)
  rw [Nat.zero_add, List.nil_append] at ho
  obtain ⟨a1, c1, rfl, _⟩ := owns_slice ho
  exact ⟨a1, c1, w1, happ, hb.grown hg (by simp) (fun k hk => by simp [Value.ownBlock] at hk; omega), ho⟩
theorem fresh24o (w : World) (lo hi : Nat) (a : Option Addr) (m c : Nat) (ys : List Value) (hr : Row lo hi w (.slice a m c) m ys) (hl : ys.length = m * 5) (h1 : ∀ u ∈ ys, u.oneCell' = true) (hmax : m ≤ 100000000) (hhi : hi ≤ w.heap.size) :
    ∃ a1 c1 w1, (∀ ty, (app24 ty #[.slice (some ⟨w.heap.size, 0, none⟩) 0 0, .slice a m c]).run Tryd.prog (w.alloc (.cells #[] 26)) = .ok (.slice a1 m c1) w1) ∧ Below w.heap.size w w1 ∧ w1.ownsRow w.heap.size 26 5 (.slice a1 m c1) m ys := by
  have hb : Below w.heap.size w (w.alloc (.cells #[] 26)) := (Below.refl _ _).alloc (Nat.le_refl _) _
  obtain ⟨v1, w1, happ, ho, hg, _⟩ := app24_own _ _ lo hi _ 0 [] a m c ys (owns_new w 26 5) (hr.below hb hhi) hl h1 (by omega) (by simp)
  rw [Nat.zero_add, List.nil_append] at ho
  obtain ⟨a1, c1, rfl, _⟩ := owns_slice ho
  exact ⟨a1, c1, w1, happ, hb.grown hg (by simp) (fun k hk => by simp [Value.ownBlock] at hk; omega), ho⟩
theorem flat_set (Ks : List (List Value)) (v0 v1 v2 v3 v4 : Value) : ∀ (i : Nat), (∀ c ∈ Ks, c.length = 5) → i < Ks.length →
    ((((Ks.flatten.set (i * 5) v0).set (i * 5 + 1) v1).set (i * 5 + 2) v2).set (i * 5 + 3) v3).set (i * 5 + 4) v4 = (Ks.take i ++ [[v0, v1, v2, v3, v4]] ++ Ks.drop (i + 1)).flatten := by
  induction Ks with
  | nil => intro i _ h; simp at h
  | cons a r ih =>
    intro i h5 hi
    have ha : a.length = 5 := h5 a (by simp)
    cases i with
    | zero =>
      match a, ha with
      | [a0, a1, a2, a3, a4], _ => simp
    | succ i =>
      have e := ih i (fun c hc => h5 c (by simp [hc])) (by simpa using hi)
      have hs : ∀ (m : Nat) (l : List Value) (v : Value), (a ++ l).set (5 + m) v = a ++ l.set m v := fun m l v => by
        rw [List.set_append_right _ _ (by omega), ha, Nat.add_sub_cancel_left]
      have e0 : (i + 1) * 5 = 5 + i * 5 := by omega
      rw [List.flatten_cons, e0, hs, Nat.add_assoc, hs, Nat.add_assoc, hs, Nat.add_assoc, hs, Nat.add_assoc, hs, e]
      simp
theorem ins_has {ns : List ByteArray} {a : ByteArray} (h : has ns a = true) : ns.take (pos ns a) ++ [a] ++ ns.drop (nextAt ns a) = ns := by
  have hlt := has_lt h
  rw [nextAt_yes h]
  unfold has at h
  have h1 := of_decide_eq_true h
  rw [List.getElem?_eq_getElem hlt] at h1
  have h2 := Option.some.inj h1
  have : ns = ns.take (pos ns a) ++ ns.drop (pos ns a) := (List.take_append_drop _ _).symm
  rw [List.drop_eq_getElem_cons hlt, h2] at this
  rw [List.append_assoc, List.singleton_append]
  exact this.symm
theorem bel_set {B : Nat} {a w : World} (h : Below B a w) {g : Nat} (o : Nat) (v : Value) (hg : B ≤ g) : Below B a (w.setCell ⟨g, o, none⟩ v) := h.setCell hg v
/-- What Lay answers. -/
def LayA (lo hi : Nat) (w w' : World) (k : Int) (x : Bool) (vd : Value) (ns : List ByteArray) (Ks : List (List Value)) (nm : ByteArray) (cx : List Value) (e : Ending) : Prop :=
  ∃ an n cn ak m ck, e = .returned (.agg #[.int .i64 k, .bool x, vd, .slice an n cn, .slice ak m ck]) ∧ Hid (
    n = (ns.take (pos ns nm) ++ [nm] ++ ns.drop (nextAt ns nm)).length ∧ m = (Ks.take (pos ns nm) ++ [cx] ++ Ks.drop (nextAt ns nm)).length ∧
    (Row lo hi w' (.slice an n cn) n ((ns.take (pos ns nm) ++ [nm] ++ ns.drop (nextAt ns nm)).map .string) ∨ Row w.heap.size w'.heap.size w' (.slice an n cn) n ((ns.take (pos ns nm) ++ [nm] ++ ns.drop (nextAt ns nm)).map .string)) ∧
    Row w.heap.size w'.heap.size w' (.slice ak m ck) m (Ks.take (pos ns nm) ++ [cx] ++ Ks.drop (nextAt ns nm)).flatten)
set_option maxRecDepth 20000 in
set_option maxHeartbeats 4000000 in
theorem lay_any (k : Int) (x : Bool) (ad an ak : Option Addr) (D cd cn ck N : Nat) (ns : List ByteArray) (Ks : List (List Value)) (nm : ByteArray) (lo hi : Nat) (kx : Int) (xx : Bool) (a1 a2 a3 : Option Addr) (n1 c1 n2 c2 n3 c3 : Nat) (w : World)
    (hn : Row lo hi w (.slice an N cn) N (ns.map .string)) (hk : Row lo hi w (.slice ak N ck) N Ks.flatten) (hcn : N ≤ cn) (hck : N ≤ ck) (hN : ns.length = N) (hK : Ks.length = N) (h5 : ∀ c ∈ Ks, c.length = 5) (hone : ∀ u ∈ Ks.flatten, u.oneCell' = true) (hmax : N ≤ 100000) (hhi : hi ≤ w.heap.size) :
    Calls Tryd.prog 60 #[.agg #[.int .i64 k, .bool x, .slice ad D cd, .slice an N cn, .slice ak N ck], .string nm, .agg #[.int .i64 kx, .bool xx, .slice a1 n1 c1, .slice a2 n2 c2, .slice a3 n3 c3]] w fun e w' =>
      Below w.heap.size w w' ∧ LayA lo hi w w' k x (.slice ad D cd) ns Ks nm [.int .i64 kx, .bool xx, .slice a1 n1 c1, .slice a2 n2 c2, .slice a3 n3 c3] e := by
  have hB := box3_new w (.int .i64 k) (.bool x) (.slice ad D cd) (.slice an N cn) (.slice ak N ck) (.int .i64 kx) (.bool xx) (.slice a1 n1 c1) (.slice a2 n2 c2) (.slice a3 n3 c3)
  obtain ⟨wA, hwA⟩ : ∃ wA, wA = (((w.alloc (.cells #[.int .i64 k, .bool x, .slice ad D cd, .slice an N cn, .slice ak N ck] 26)).alloc (.cells #[.int .i64 kx, .bool xx, .slice a1 n1 c1, .slice a2 n2 c2, .slice a3 n3 c3] 26)).alloc (.cells #[.int .i64 0, .bool false, .slice none 0 0, .slice none 0 0, .slice none 0 0] 26)) := ⟨_, rfl⟩
  rw [← hwA] at hB
  have hsA : wA.heap.size = w.heap.size + 1 + 1 + 1 := by rw [hwA]; simp
  have hnA := hn.below hB.b hhi
  have hkA := hk.below hB.b hhi
  have HC : Hid (∀ i, i < N → ∃ g o, an = some ⟨g, o, none⟩ ∧ wA.cell? ⟨g, o + i, none⟩ = some (.string (ns.getD i ⟨#[]⟩))) := fun i hi => row_str hnA hN i hi
  have HB := hide hB
  have HwA := hide hwA
  have HR := hide (And.intro hnA (And.intro hkA (And.intro hK (And.intro h5 hone))))
  have HN := hide hN
  obtain ⟨bb0, bb1, bb2, bb3, bb4⟩ := hB.t.cells
  clear hn hk hnA hkA hwA hB hN hK h5 hone
  go_enter Tryd.func60, Tryd.ntmps60
  go_wp2_with fail
  rw [← unhide HwA]
  go_loopw [7] (fun vi wr => ∃ i : Nat, i ≤ N ∧ vi = .int .i64 (i : Int) ∧ wr = wA ∧ Hid (∀ j, j < i → (ns.getD j ⟨#[]⟩).toList < nm.toList)) (fun vi _ => N - (intOf vi).toNat)
  case atStart => exact ⟨0, by omega, rfl, rfl, fun j h => by omega⟩
  case round =>
    obtain ⟨i, hiN, rfl, rfl, hlo⟩ := hrel
    by_cases hgo : i < N ∧ (ns.getD i ⟨#[]⟩).toList < nm.toList
    · obtain ⟨hlt, hls⟩ := hgo
      obtain ⟨g, o, rfl, hcx⟩ := unhide HC i hlt
      have hlo' : Hid (∀ j, j < i + 1 → (ns.getD j ⟨#[]⟩).toList < nm.toList) := fun j hj => by
        rcases Nat.lt_or_ge j i with h | h
        · exact unhide hlo j h
        · obtain rfl : j = i := by omega
          exact hls
      have hbl : Op.bytesLess (ns.getD i ⟨#[]⟩).toList nm.toList = true := by rw [Go.Proofs.bytesLess_eq]; exact decide_eq_true hls
      clear hls hlo
      generalize ns.getD i ⟨#[]⟩ = si at *
      go_wp2_with fail
      go_roundw
      case rel => exact ⟨i + 1, by omega, by go_num, trivial, hlo'⟩
      case measure => simp [intOf]; try omega
    have HP : Hid (pos ns nm = i) := by
      refine takeWhile_len _ ns i (by rw [unhide HN]; omega) (fun j hj hji => ?_) (fun h => ?_)
      · have := unhide hlo j hji
        rw [List.getD_eq_getElem?_getD, List.getElem?_eq_getElem hj] at this
        simpa using this
      · have : ¬ (ns.getD i ⟨#[]⟩).toList < nm.toList := fun e => hgo ⟨by rw [← unhide HN]; exact h, e⟩
        rw [List.getD_eq_getElem?_getD, List.getElem?_eq_getElem h] at this
        simpa using this
    clear hlo
    by_cases hh : has ns nm = true
    · have hat : i < N ∧ ns.getD i ⟨#[]⟩ = nm := by
        have h1 := has_lt hh
        rw [unhide HP] at h1
        unfold has at hh
        have h2 := of_decide_eq_true hh
        rw [unhide HP] at h2
        exact ⟨by rw [← unhide HN]; exact h1, by rw [List.getD_eq_getElem?_getD, h2]; rfl⟩
      obtain ⟨hlt, hat⟩ := hat
      obtain ⟨g, o, rfl, hcx⟩ := unhide HC i hlt
      rw [hat] at hcx
      have hbl : Op.bytesLess nm.toList nm.toList = false := by rw [Go.Proofs.bytesLess_eq]; exact decide_eq_false (List.lt_irrefl _)
      have hbe : (nm.toList == nm.toList) = true := beq_self_eq_true _
      obtain ⟨hnA, hkA, hK, h5, hone⟩ := unhide HR
      obtain ⟨k1, e1, w1, happ1, hb1, ho1⟩ := fresh24o wr lo hi ak N ck Ks.flatten hkA (by rw [flat5_length Ks h5, hK]) hone (by omega) (by omega)
      obtain ⟨g1, rfl⟩ := own_at ho1 (by omega)
      have hg1 := (owns_lt ho1 g1 rfl).1
      have hs1 := hb1.size
      have hB1 := (unhide HB).kept hb1 (by omega)
      obtain ⟨x0, x1, x2, x3, x4⟩ := hB1.x.cells
      obtain ⟨t0, t1, t2, t3, t4⟩ := hB1.t.cells
      have tf := hB1.t.fr 4
      obtain ⟨r0, r1, r2, r3, r4⟩ := hB1.r.cells
      have rf0 := hB1.r.fr 0
      have rf1 := hB1.r.fr 1
      have rf2 := hB1.r.fr 2
      have rf3 := hB1.r.fr 3
      have rf4 := hB1.r.fr 4
      have f0 : w1.frozen? ⟨g1, i * 5, none⟩ = false := ho1.frozenAt _
      have f1 : w1.frozen? ⟨g1, i * 5 + 1, none⟩ = false := ho1.frozenAt _
      have f2 : w1.frozen? ⟨g1, i * 5 + 2, none⟩ = false := ho1.frozenAt _
      have f3 : w1.frozen? ⟨g1, i * 5 + 3, none⟩ = false := ho1.frozenAt _
      have f4 : w1.frozen? ⟨g1, i * 5 + 4, none⟩ = false := ho1.frozenAt _
      obtain ⟨⟨v0, y0⟩, ⟨v1, y1⟩, ⟨v2, y2⟩, ⟨v3, y3⟩, ⟨v4, y4⟩⟩ : (∃ v, w1.cell? ⟨g1, i * 5, none⟩ = some v) ∧ (∃ v, w1.cell? ⟨g1, i * 5 + 1, none⟩ = some v) ∧ (∃ v, w1.cell? ⟨g1, i * 5 + 2, none⟩ = some v) ∧ (∃ v, w1.cell? ⟨g1, i * 5 + 3, none⟩ = some v) ∧ (∃ v, w1.cell? ⟨g1, i * 5 + 4, none⟩ = some v) := by
        have hx : Ks.flatten.length = N * 5 := ho1.1
        have hq : ∀ j, j < N * 5 → ∃ v, w1.cell? ⟨g1, j, none⟩ = some v := fun j hj => ⟨Ks.flatten[j], by rw [ho1.cellAt j hj, List.getElem?_eq_getElem (by omega)]⟩
        exact ⟨hq _ (by omega), hq _ (by omega), hq _ (by omega), hq _ (by omega), hq _ (by omega)⟩
      have hne1 : w.heap.size ≠ g1 := by omega
      have hne2 : w.heap.size + 1 ≠ g1 := by omega
      have hne3 : w.heap.size + 1 + 1 ≠ g1 := by omega
      have HE := hide (And.intro ho1 (And.intro hB1 hb1))
      have Hh := hide hh
      rw [hsA] at happ1
      clear hh hat hgo hnA hkA hK h5 hone ho1 hB1 hb1
      go_wp2_with fail
      refine bodyPost_ret (v := .agg #[.int .i64 k, .bool x, .slice ad D cd, .slice (some ⟨g, o, none⟩) N cn, .slice (some ⟨g1, 0, none⟩) N e1]) (by simp [results, Tryd.results60, go_sem, r0, r1, r2, r3, r4]) rfl ?_
      obtain ⟨ho1, hB1, hb1⟩ := unhide HE
      obtain ⟨hnA, hkA, hK, h5, hone⟩ := unhide HR
      have hrow := (((((ho1.stored (i * 5) (.int .i64 kx)).1.stored (i * 5 + 1) (.bool xx)).1.stored (i * 5 + 2) (.slice a1 n1 c1)).1.stored (i * 5 + 3) (.slice a2 n2 c2)).1.stored (i * 5 + 4) (.slice a3 n3 c3)).1
      rw [flat_set Ks _ _ _ _ _ i h5 (by omega)] at hrow
      have hgw : w.heap.size ≤ g1 := by omega
      have hr2 : w.heap.size ≤ w.heap.size + 1 + 1 := by omega
      have hbel := bel_set (bel_set (bel_set (bel_set (bel_set (bel_set (bel_set (bel_set (bel_set (bel_set (bel_set hB1.b (i * 5) (.int .i64 kx) hgw) (i * 5 + 1) (.bool xx) hgw) (i * 5 + 2) (.slice a1 n1 c1) hgw) (i * 5 + 3) (.slice a2 n2 c2) hgw) (i * 5 + 4) (.slice a3 n3 c3) hgw) 4 (.slice (some ⟨g1, 0, none⟩) N e1) (Nat.le_refl w.heap.size)) 0 (.int .i64 k) hr2) 1 (.bool x) hr2) 2 (.slice ad D cd) hr2) 3 (.slice (some ⟨g, o, none⟩) N cn) hr2) 4 (.slice (some ⟨g1, 0, none⟩) N e1) hr2
      have hq : nextAt ns nm = i + 1 := by rw [nextAt_yes (unhide Hh), unhide HP]
      have hlen : (Ks.take i ++ [[Value.int .i64 kx, .bool xx, .slice a1 n1 c1, .slice a2 n2 c2, .slice a3 n3 c3]] ++ Ks.drop (i + 1)).length = N := by
        simp only [List.length_append, List.length_take, List.length_drop, List.length_cons, List.length_nil]; omega
      refine ⟨hbel, _, _, _, _, _, _, rfl, ?_, ?_, .inl ?_, ?_⟩
      · rw [ins_has (unhide Hh)]; exact (unhide HN).symm
      · rw [unhide HP, hq, hlen]
      · rw [ins_has (unhide Hh)]
        have h0 := hnA.below (w' := wr) (Below.refl hi wr) (Nat.le_refl _)
        refine Row.same (w := w1) ((hnA.below hb1 (by omega))) (fun b h1 h2 => ?_)
        rw [set_other _ _ _ _ _ (by omega), set_other _ _ _ _ _ (by omega), set_other _ _ _ _ _ (by omega), set_other _ _ _ _ _ (by omega), set_other _ _ _ _ _ (by omega), set_other _ _ _ _ _ (by omega), set_other _ _ _ _ _ (by omega), set_other _ _ _ _ _ (by omega), set_other _ _ _ _ _ (by omega), set_other _ _ _ _ _ (by omega), set_other _ _ _ _ _ (by omega)]
      · rw [unhide HP, hq]
        refine Row.mono (lo := wr.heap.size) (hi := w1.heap.size) (Row.same (owns_row hrow (lo := wr.heap.size) (hi := w1.heap.size) (fun b hb => by cases hb; have := (owns_lt ho1 g1 rfl).2; exact ⟨by omega, this⟩)) (fun b h1 h2 => ?_)) (by omega) (by simp)
        rw [set_other _ _ _ _ _ (by omega), set_other _ _ _ _ _ (by omega), set_other _ _ _ _ _ (by omega), set_other _ _ _ _ _ (by omega), set_other _ _ _ _ _ (by omega), set_other _ _ _ _ _ (by omega)]
    have hq : nextAt ns nm = i := by rw [nextAt_no (by simpa using hh), unhide HP]
    obtain ⟨hnA, hkA, hK, h5, hone⟩ := unhide HR
    have hfl : Ks.flatten.length = N * 5 := by rw [flat5_length Ks h5, hK]
    have hnl : (ns.map Value.string).length = N := by rw [List.length_map]; exact unhide HN
    obtain ⟨u1, hc1, hr1⟩ := cut_hi23 lo hi an N cn i hcn hiN
    obtain ⟨u2, hc2, hr2⟩ := cut_hi24 lo hi ak N ck i hck hiN
    obtain ⟨u3, hc3, hr3⟩ := cut_lo23 lo hi an N cn i hcn hiN
    obtain ⟨u4, hc4, hr4⟩ := cut_lo24 lo hi ak N ck i hck hiN
    -- the names ahead of it
    obtain ⟨b1, d1, w1, happ1, hb1, ho1⟩ := fresh23o wr lo hi u1 i cn ((ns.map Value.string).take i) (hr1 wr _ hnl hnA) (by rw [List.length_take]; omega) (fun u hu => one_strs ns u (List.mem_of_mem_take hu)) (by omega) (by omega)
    have hs1 := hb1.size
    -- the name
    obtain ⟨v2, w2, happ2, ho2, hg2, hv2⟩ := app23_own (w1.alloc (.cells #[.string nm] 9)) wr.heap.size _ _ (.slice b1 i d1) i _ _ 1 1 [.string nm] (ho1.alloc _) (one_row w1 [.string nm] 9) rfl (fun u hu => by simp at hu; subst hu; rfl) (by omega) (by simp; omega)
    obtain ⟨b2, d2, rfl, _⟩ := owns_slice ho2
    have hb2 : Below wr.heap.size wr w2 := (hb1.alloc (by omega) (.cells #[.string nm] 9)).grown hg2 (by simp; omega) (fun b hb => (owns_lt ho1 b hb).1)
    have hs2 : w1.heap.size + 1 ≤ w2.heap.size := by have := hg2.size; simpa using this
    -- the kids ahead of it
    obtain ⟨k1, e1, w3, happ3, hb3, ho3⟩ := fresh24o w2 lo hi u2 i ck (Ks.flatten.take (i * 5)) (hr2 w2 _ hfl (hkA.below hb2 (by omega))) (by rw [List.length_take]; omega) (fun u hu => hone u (List.mem_of_mem_take hu)) (by omega) (by omega)
    have hs3 := hb3.size
    -- the kid
    obtain ⟨v4, w4, happ4, ho4, hg4, hv4⟩ := app24_own (w3.alloc (.cells #[.int .i64 kx, .bool xx, .slice a1 n1 c1, .slice a2 n2 c2, .slice a3 n3 c3] 26)) w2.heap.size _ _ (.slice k1 i e1) i _ _ 1 1 [.int .i64 kx, .bool xx, .slice a1 n1 c1, .slice a2 n2 c2, .slice a3 n3 c3] (ho3.alloc _) (one_row w3 [.int .i64 kx, .bool xx, .slice a1 n1 c1, .slice a2 n2 c2, .slice a3 n3 c3] 26) rfl (fun u hu => by simp at hu; rcases hu with rfl | rfl | rfl | rfl | rfl <;> rfl) (by omega) (by simp; omega)
    obtain ⟨k2, e2, rfl, _⟩ := owns_slice ho4
    have hb4 : Below w2.heap.size w2 w4 := (hb3.alloc (by omega) (.cells #[.int .i64 kx, .bool xx, .slice a1 n1 c1, .slice a2 n2 c2, .slice a3 n3 c3] 26)).grown hg4 (by simp; omega) (fun b hb => (owns_lt ho3 b hb).1)
    have hs4 : w3.heap.size + 1 ≤ w4.heap.size := by have := hg4.size; simpa using this
    have ho2' := owns_same (base' := wr.heap.size) ho2 (fun b hb => hb4.block b (owns_lt ho2 b hb).2) (fun _ _ h => h)
    have hb24 : Below wr.heap.size wr w4 := hb2.trans (hb4.mono (by omega))
    -- the names behind it
    obtain ⟨v5, w5, happ5, ho5, hg5, hv5⟩ := app23_own w4 wr.heap.size _ _ (.slice b2 (i + 1) d2) (i + 1) _ u3 (N - i) (cn - i) ((ns.map Value.string).drop i) ho2' (hr3 w4 _ hnl (hnA.below hb24 (by omega))) (by rw [List.length_drop]; omega) (fun u hu => one_strs ns u (List.mem_of_mem_drop hu)) (by omega) (by omega)
    obtain ⟨b3, d3, rfl, _⟩ := owns_slice ho5
    have hb5 : Below wr.heap.size wr w5 := hb24.grown hg5 (by omega) (fun b hb => (owns_lt ho2 b hb).1)
    have hs5 := hg5.size
    obtain ⟨w5', hw5'⟩ : ∃ w5', w5' = w5.setCell ⟨w.heap.size, 3, none⟩ (.slice b3 (i + 1 + (N - i)) d3) := ⟨_, rfl⟩
    have hs5' : w5'.heap.size = w5.heap.size := by rw [hw5']; simp
    have hsm : ∀ b, b ≠ w.heap.size → w5'.heap[b]? = w5.heap[b]? := fun b hb => by rw [hw5']; exact set_other _ _ _ _ _ hb
    have ho4' : w5'.ownsRow w2.heap.size 26 5 (.slice k2 (i + 1) e2) (i + 1) _ := owns_same (base' := w2.heap.size) ho4 (fun b hb => by
      have h1 := owns_lt ho4 b hb
      rw [hsm b (by omega), hg5.block b h1.2 (fun e => by have := (owns_lt ho2 b e.symm).2; omega)]) (fun _ _ h => h)
    have ho5' : w5'.ownsRow wr.heap.size 9 1 (.slice b3 (i + 1 + (N - i)) d3) (i + 1 + (N - i)) _ := owns_same (base' := wr.heap.size) ho5 (fun b hb => hsm b (by have := (owns_lt ho5 b hb).1; omega)) (fun _ _ h => h)
    -- the kids behind it
    have hk5' : Row lo hi w5' (.slice ak N ck) N Ks.flatten := (hkA.below hb5 (by omega)).same (fun b h1 h2 => hsm b (by omega))
    obtain ⟨v6, w6, happ6, ho6, hg6, hv6⟩ := app24_own w5' w2.heap.size _ _ (.slice k2 (i + 1) e2) (i + 1) _ u4 (N - i) (ck - i) (Ks.flatten.drop (i * 5)) ho4' (hr4 w5' _ hfl hk5') (by rw [List.length_drop]; omega) (fun u hu => hone u (List.mem_of_mem_drop hu)) (by omega) (by omega)
    obtain ⟨k3, e3, rfl, _⟩ := owns_slice ho6
    have hs6 := hg6.size
    have hkb : ∀ b, (Value.slice k2 (i + 1) e2).ownBlock = some b → w2.heap.size ≤ b ∧ b < w4.heap.size := owns_lt ho4
    have ho56 : w6.ownsRow wr.heap.size 9 1 (.slice b3 (i + 1 + (N - i)) d3) (i + 1 + (N - i)) _ := owns_same (base' := wr.heap.size) ho5' (fun b hb => hg6.block b (owns_lt ho5' b hb).2 (fun e => by
      have h1 := hkb b e.symm
      rcases hv5 with h2 | h2
      · rw [h2] at hb; have := (owns_lt ho2 b hb).2; omega
      · rw [h2] at hb; cases hb; omega)) (fun _ _ h => h)
    have hB0 := unhide HB
    have hB2 := hB0.kept hb2 (by omega)
    have hB3 := hB2.kept hb3 (by omega)
    have hB4 := hB2.kept hb4 (by omega)
    have hB5 := hB0.kept hb5 (by omega)
    have hT5 : Bx w5' w.heap.size (.int .i64 k) (.bool x) (.slice ad D cd) (.slice b3 (i + 1 + (N - i)) d3) (.slice ak N ck) := by rw [hw5']; exact hB5.t.set3 _
    have hno : ∀ b, b < w2.heap.size → some b ≠ (Value.slice k2 (i + 1) e2).ownBlock := fun b hb e => by have := (hkb b e.symm).1; omega
    have hT6 := hT5.of (hg6.block w.heap.size (by omega) (hno _ (by omega)))
    have hR6 := hB5.r.of (show w6.heap[w.heap.size + 1 + 1]? = w5.heap[w.heap.size + 1 + 1]? by rw [hg6.block _ (by omega) (hno _ (by omega)), hsm _ (by omega)])
    obtain ⟨p0, p1, p2, p3, p4⟩ := hB2.t.cells
    obtain ⟨x0, x1, x2, x3, x4⟩ := hB3.x.cells
    obtain ⟨q0, q1, q2, q3, q4⟩ := hB4.t.cells
    obtain ⟨s0, s1, s2, s3, s4⟩ := hB5.t.cells
    have sf := hB5.t.fr 3
    obtain ⟨t0, t1, t2, t3, t4⟩ := hT6.cells
    have tf := hT6.fr 4
    obtain ⟨r0, r1, r2, r3, r4⟩ := hR6.cells
    have rf0 := hR6.fr 0
    have rf1 := hR6.fr 1
    have rf2 := hR6.fr 2
    have rf3 := hR6.fr 3
    have rf4 := hR6.fr 4
    have hb6 : Below w.heap.size w w6 := by
      have h1 : Below w.heap.size w w5' := by rw [hw5']; exact bel_set hB5.b 3 _ (Nat.le_refl _)
      exact h1.grown hg6 (by omega) (fun b hb => by have := (hkb b hb).1; omega)
    have HE := hide (And.intro ho56 (And.intro ho6 hb6))
    have hfin : Hid (∀ W : World, Below w.heap.size w W → W.heap.size = w6.heap.size → (∀ b, w.heap.size + 1 + 1 + 1 ≤ b → W.heap[b]? = w6.heap[b]?) → Below w.heap.size w W ∧ LayA lo hi w W k x (.slice ad D cd) ns Ks nm [.int .i64 kx, .bool xx, .slice a1 n1 c1, .slice a2 n2 c2, .slice a3 n3 c3] (.returned (.agg #[.int .i64 k, .bool x, .slice ad D cd, .slice b3 (i + 1 + (N - i)) d3, .slice k3 (i + 1 + (N - i)) e3]))) := by
      intro W hbW hsW hW
      have hN := unhide HN
      refine ⟨hbW, _, _, _, _, _, _, rfl, ?_, ?_, .inr ?_, ?_⟩
      · rw [unhide HP, hq]; simp only [List.length_append, List.length_take, List.length_drop, List.length_cons, List.length_nil]; omega
      · rw [unhide HP, hq]; simp only [List.length_append, List.length_take, List.length_drop, List.length_cons, List.length_nil]; omega
      · rw [unhide HP, hq, List.map_append, List.map_append, List.map_take, List.map_drop]
        refine Row.mono (lo := wr.heap.size) (hi := w6.heap.size) (Row.same (owns_row ho56 (owns_lt ho56)) (fun b h1 h2 => hW b (by omega))) (by omega) (by omega)
      · rw [unhide HP, hq, List.flatten_append, List.flatten_append, ← flat5_take Ks h5, ← flat5_drop Ks h5]
        refine Row.mono (lo := w2.heap.size) (hi := w6.heap.size) (Row.same ?_ (fun b h1 h2 => hW b (by omega))) (by omega) (by omega)
        have := owns_row ho6 (owns_lt ho6)
        simpa using this
    rw [hsA] at happ1
    rw [hw5'] at happ6
    have l2 : w.heap.size < w2.heap.size := by omega
    have hbl : ∀ h : i < N, Op.bytesLess (ns.getD i ⟨#[]⟩).toList nm.toList = false := fun h => by rw [Go.Proofs.bytesLess_eq]; exact decide_eq_false (fun e => hgo ⟨h, e⟩)
    have hbe : ∀ h : i < N, ((ns.getD i ⟨#[]⟩).toList == nm.toList) = false := fun h => bytes_ne (fun e => hh (by
      unfold has
      rw [unhide HP]
      have h2 : i < ns.length := by rw [unhide HN]; exact h
      rw [List.getD_eq_getElem?_getD, List.getElem?_eq_getElem h2] at e
      exact decide_eq_true (by rw [List.getElem?_eq_getElem h2]; exact congrArg some e)))
    clear hB0 hB2 hB3 hB4 hB5 hT5 hno hT6 hR6 hb6 ho56 ho6 hkb hg6 hk5' ho5' ho4' hsm hs5' hw5' hb5 hs5 hg5 hv5 ho5 ho2' hb24 hs4 hb4 ho4 hg4 hv4 hs3 hb3 ho3 hs2 hb2 hg2 ho2 hv2 hb1 ho1 hr1 hr2 hr3 hr4 hnl hfl hnA hkA hK h5 hone hv6 hs6 hs1
    by_cases hlt : i < N
    · obtain ⟨g, o, rfl, hcx⟩ := unhide HC i hlt
      have hbl' := hbl hlt
      have hbe' := hbe hlt
      clear hbl hbe hgo hh
      generalize ns.getD i ⟨#[]⟩ = si at *
      have hrr : w.heap.size ≤ w.heap.size + 1 + 1 := by omega
      go_wp2_with fail
      refine bodyPost_ret (v := .agg #[.int .i64 k, .bool x, .slice ad D cd, .slice b3 (i + 1 + (N - i)) d3, .slice k3 (i + 1 + (N - i)) e3]) (by simp [results, Tryd.results60, go_sem, r0, r1, r2, r3, r4]) rfl ?_
      refine unhide hfin _ (bel_set (bel_set (bel_set (bel_set (bel_set (bel_set (unhide HE).2.2 4 _ (Nat.le_refl _)) 0 _ hrr) 1 _ hrr) 2 _ hrr) 3 _ hrr) 4 _ hrr) (by simp) (fun b hb => ?_)
      rw [set_other _ _ _ _ _ (by omega), set_other _ _ _ _ _ (by omega), set_other _ _ _ _ _ (by omega), set_other _ _ _ _ _ (by omega), set_other _ _ _ _ _ (by omega), set_other _ _ _ _ _ (by omega)]
    · clear hbl hbe hgo hh
      have hrr : w.heap.size ≤ w.heap.size + 1 + 1 := by omega
      go_wp2_with fail
      refine bodyPost_ret (v := .agg #[.int .i64 k, .bool x, .slice ad D cd, .slice b3 (i + 1 + (N - i)) d3, .slice k3 (i + 1 + (N - i)) e3]) (by simp [results, Tryd.results60, go_sem, r0, r1, r2, r3, r4]) rfl ?_
      refine unhide hfin _ (bel_set (bel_set (bel_set (bel_set (bel_set (bel_set (unhide HE).2.2 4 _ (Nat.le_refl _)) 0 _ hrr) 1 _ hrr) 2 _ hrr) 3 _ hrr) 4 _ hrr) (by simp) (fun b hb => ?_)
      rw [set_other _ _ _ _ _ (by omega), set_other _ _ _ _ _ (by omega), set_other _ _ _ _ _ (by omega), set_other _ _ _ _ _ (by omega), set_other _ _ _ _ _ (by omega), set_other _ _ _ _ _ (by omega)]
end Go.Proofs.YthfjofmfiklegaaDoor
