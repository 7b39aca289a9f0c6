import Derived.Test.YtlbfcneboaihnaaK3
import Derived.WalkKit
import Derived.ProofKit
import Derived.OpenShut
import Derived.ChangeOld
import Derived.SizedLaws
/- Check, in the code and in the document's own answer: one and the same. -/
namespace Go.Proofs.Ytlbfcneboaihnaa.Tn
open Go.RowKit
theorem Lies.form {lo hi : Nat} {w : World} {T : Tr} {cs : List Value} (h : Lies lo hi w T cs) : ∃ k x a1 n1 c1 a2 n2 c2 a3 n3 c3, cs = [.int .i64 k, .bool x, .slice a1 n1 c1, .slice a2 n2 c2, .slice a3 n3 c3] := by
  cases h with
  | mk k x d ns ks vd vn vk Ks hl hd hn hk hK =>
    obtain ⟨a1, c1, rfl, _⟩ := hd.slice
    obtain ⟨a2, c2, rfl, _⟩ := hn.slice
    obtain ⟨a3, c3, rfl, _⟩ := hk.slice
    exact ⟨k, x, a1, _, c1, a2, _, c2, a3, _, c3, rfl⟩
set_option maxRecDepth 20000 in
set_option maxHeartbeats 1000000 in
theorem check_any (T : Tr) (lo hi : Nat) (cs : List Value) (w : World) (hL : Lies lo hi w T cs) (hW : Fit T) (hhi : hi ≤ w.heap.size) :
    Calls Try.prog 31 #[.agg cs.toArray] w fun e w' => e = .returned (.int .i64 (((chk T 1 0).1 : Nat) : Int)) ∧ Below w.heap.size w w' := by
  obtain ⟨k, x, a1, n1, c1, a2, n2, c2, a3, n3, c3, rfl⟩ := hL.form
  have hb0 : Below w.heap.size w ((w.alloc (.cells #[.int .i64 k, .bool x, .slice a1 n1 c1, .slice a2 n2 c2, .slice a3 n3 c3] 34)).alloc (.cells #[.int .i64 0] 3)) := ((Below.refl _ _).alloc (Nat.le_refl _) _).alloc (by simp) _
  have hC0 : Ctr ((w.alloc (.cells #[.int .i64 k, .bool x, .slice a1 n1 c1, .slice a2 n2 c2, .slice a3 n3 c3] 34)).alloc (.cells #[.int .i64 0] 3)) (w.heap.size + 1) (.int .i64 ((0 : Nat) : Int)) := ⟨by simp [go_sem], by simp [go_sem]⟩
  have HI := hide (chkC_any T lo hi _ _ (w.heap.size + 1) 1 0 (hL.kept hb0 hhi) hW hC0 (by omega) (by omega) (by omega))
  clear hL hC0
  obtain ⟨E, M, hEM⟩ : ∃ E M, chk T 1 0 = (E, M) := ⟨_, _, rfl⟩
  rw [hEM] at HI ⊢
  clear hEM
  go_enter Try.func31, Try.ntmps31
  go_wp2_with fail
  refine (unhide HI).mono ?_
  rintro e w1 ⟨rfl, hS, _⟩
  have hbl : Below w.heap.size w w1 := hb0.trans (hS.below (by omega) (by simp; omega))
  go_wp2_with fail
  go_ret
  exact ⟨rfl, hbl⟩
set_option maxRecDepth 20000 in
set_option maxHeartbeats 1000000 in
theorem checkR_any (T : Tr) (lo hi : Nat) (cs : List Value) (w : World) (hL : Lies lo hi w T cs) (hW : Fit T) (hhi : hi ≤ w.heap.size) :
    Calls Try.prog 33 #[.agg cs.toArray] w fun e w' => e = .returned (.int .i64 (((chk T 1 0).1 : Nat) : Int)) ∧ Below w.heap.size w w' := by
  obtain ⟨k, x, a1, n1, c1, a2, n2, c2, a3, n3, c3, rfl⟩ := hL.form
  have hb0 : Below w.heap.size w ((w.alloc (.cells #[.int .i64 k, .bool x, .slice a1 n1 c1, .slice a2 n2 c2, .slice a3 n3 c3] 34)).alloc (.cells #[.int .i64 0] 3)) := ((Below.refl _ _).alloc (Nat.le_refl _) _).alloc (by simp) _
  have hC0 : Ctr ((w.alloc (.cells #[.int .i64 k, .bool x, .slice a1 n1 c1, .slice a2 n2 c2, .slice a3 n3 c3] 34)).alloc (.cells #[.int .i64 0] 3)) (w.heap.size + 1) (.int .i64 ((0 : Nat) : Int)) := ⟨by simp [go_sem], by simp [go_sem]⟩
  have HI := hide (chkR_any T lo hi _ _ (w.heap.size + 1) 1 0 (hL.kept hb0 hhi) hW hC0 (by omega) (by omega) (by omega))
  clear hL hC0
  obtain ⟨E, M, hEM⟩ : ∃ E M, chk T 1 0 = (E, M) := ⟨_, _, rfl⟩
  rw [hEM] at HI ⊢
  clear hEM
  go_enter Try.func33, Try.ntmps33
  go_wp2_with fail
  refine (unhide HI).mono ?_
  rintro e w1 ⟨rfl, hS, _⟩
  have hbl : Below w.heap.size w w1 := hb0.trans (hS.below (by omega) (by simp; omega))
  go_wp2_with fail
  go_ret
  exact ⟨rfl, hbl⟩
end Go.Proofs.Ytlbfcneboaihnaa.Tn
/- Rows appended to rows of the call's own. -/
namespace Go.Proofs.Ytlbfcneboaihnaa.Tn
open Go.RowKit
def app22 (ty : TypeId) (args : Array Value) : Sem Value := Builtin.append_ #[22, 22] ty args
@[go_sem ↓] theorem append_app22 (ty : TypeId) (args : Array Value) : Builtin.append_ #[22, 22] ty args = app22 ty args := rfl
def app23 (ty : TypeId) (args : Array Value) : Sem Value := Builtin.append_ #[31, 31] ty args
@[go_sem ↓] theorem append_app23 (ty : TypeId) (args : Array Value) : Builtin.append_ #[31, 31] ty args = app23 ty args := rfl
def app24 (ty : TypeId) (args : Array Value) : Sem Value := Builtin.append_ #[32, 32] ty args
@[go_sem ↓] theorem append_app24 (ty : TypeId) (args : Array Value) : Builtin.append_ #[32, 32] ty args = app24 ty args := rfl
theorem info_at (e : TypeId) (z : Value) (size bytes : Nat) (h : (Try.prog.info? e).map (fun i => (i.zero, i.size, i.bytes)) = some (some z, size, bytes)) : ∃ i, Try.prog.info? e = some i ∧ i.zero = some z ∧ i.size = size ∧ i.bytes = bytes := by
  cases hq : Try.prog.info? e with
  | none => simp [hq] at h
  | some i => simp [hq] at h; exact ⟨i, rfl, h.1, h.2.1, h.2.2⟩
theorem info5 : ∃ i, Try.prog.info? 5 = some i ∧ i.zero = some (.int .u8 0) ∧ i.size = 1 ∧ i.bytes = 1 := info_at _ _ _ _ (by kernel_rfl)
theorem info9 : ∃ i, Try.prog.info? 9 = some i ∧ i.zero = some (.string ⟨#[]⟩) ∧ i.size = 1 ∧ i.bytes = 16 := info_at _ _ _ _ (by kernel_rfl)
theorem info26 : ∃ i, Try.prog.info? 34 = some i ∧ i.zero = some (.agg #[.int .i64 0, .bool false, .slice none 0 0, .slice none 0 0, .slice none 0 0]) ∧ i.size = 5 ∧ i.bytes = 88 := info_at _ _ _ _ (by kernel_rfl)
/-- Whatever has turned besides, the call's own row stands. -/
theorem owns_same {w w' : World} {base base' : Nat} {e : TypeId} {size : Nat} {v : Value} {n : Nat} {xs : List Value} (h : w.ownsRow base e size v n xs) (hs : ∀ g, v.ownBlock = some g → w'.heap[g]? = w.heap[g]?) (hb : ∀ g, v.ownBlock = some g → base ≤ g → base' ≤ g) : w'.ownsRow base' e size v n xs := by
  refine ⟨h.1, ?_⟩
  rcases h.2 with h2 | ⟨g, cap, cur, rfl, hg, hh, r⟩
  · exact .inl h2
  · exact .inr ⟨g, cap, cur, rfl, hb g rfl hg, by rw [hs g rfl]; exact hh, r⟩
theorem addr_mid (g o j : Nat) : (⟨g, o, none⟩ : Addr).add j = ⟨g, o + j, none⟩ := by unfold Addr.add; split <;> simp_all
theorem Row.src {lo hi : Nat} {w : World} {a : Option Addr} {n c : Nat} {xs : List Value} (h : Row lo hi w (.slice a n c) n xs) (h0 : 0 < n) : ∃ b : Addr, a = some b ∧ ∀ j u, xs[j]? = some u → w.cell? (b.add j) = some u := by
  obtain ⟨g, o, rfl, _, _, hcell⟩ := h.at h0
  exact ⟨_, rfl, fun j u hj => by rw [addr_mid]; exact hcell j u hj⟩
/-- The one law of append onto a row of one's own: for every element type here. -/
theorem app_own {t e : TypeId} {i : TypeInfo} {z : Value} {size bytes : Nat} (ht : Try.prog.underlying t = some (.slice e)) (hi : Try.prog.info? e = some i) (hz : i.zero = some z) (hsize : i.size = size) (hby : i.bytes = bytes) (hzs : z.cells.size = size) (hsz : 0 < size)
    (w : World) (base lo hi' : Nat) (v : Value) (n : Nat) (xs : List Value) (a : Option Addr) (m c : Nat) (ys : List Value) (ty : TypeId) (ho : w.ownsRow base e size v n xs) (hr : Row lo hi' w (.slice a m c) m ys) (hl : ys.length = m * size) (h1 : ∀ u ∈ ys, u.oneCell' = true) (hmax : (n + m) * bytes ≤ 140737488355328) (hbytes : 0 < bytes) (hbase : base ≤ w.heap.size) :
    ∃ v' w', (Builtin.append_ #[t, t] ty #[v, .slice a m c]).run Try.prog w = .ok v' w' ∧ w'.ownsRow base e size v' (n + m) (xs ++ ys) ∧ w.grownBy w' v.ownBlock ∧ (v'.ownBlock = v.ownBlock ∨ v'.ownBlock = some w.heap.size) := by
  have hnm : n + m ≤ 140737488355328 := Nat.le_trans (Nat.le_mul_of_pos_right _ hbytes) hmax
  by_cases h0 : 0 < m
  · obtain ⟨b, rfl, hcell⟩ := hr.src h0
    obtain ⟨v', w', hr', h2, h3, -⟩ := run_append_own (P := Try.prog) w base t ty e i z size bytes ht hi hz hsize hby hzs hsz v n xs ho b m c ys hl hcell h1 (by simp only [maxLen]; omega) (by omega) hbase
    refine ⟨v', w', hr', h2, h3, ?_⟩
    subst hsize
    subst hby
    rcases ho.2 with ⟨rfl, rfl⟩ | ⟨g, cap, cur, rfl, hg, hh, hcap, hm, hcs, htk⟩
    · rw [run_append_nil (P := Try.prog) w t ty e i z ht hi hz b m c ys hl hcell h0 (by omega) (by rw [Nat.zero_add] at hmax; omega)] at hr'
      injection hr' with e1 e2
      subst e1
      exact .inr rfl
    · by_cases hroom : n + m ≤ cap
      · rw [run_append_room (P := Try.prog) w t ty e i ht hi g n cap cur hh b m c ys hl hcell h1 hroom (by rw [hl, hcs, ← Nat.add_mul]; exact Nat.mul_le_mul_right _ hroom)] at hr'
        injection hr' with e1 e2
        subst e1
        exact .inl rfl
      · have hold : ∀ j u, xs[j]? = some u → w.cell? ((⟨g, 0, none⟩ : Addr).add j) = some u := fun j u hj => by
          rw [addr_mid, Nat.zero_add]
          have e0 : w.cell? ⟨g, j, none⟩ = cur[j]? := by unfold World.cell?; simp [hh]
          rw [e0]
          rw [← htk] at hj
          have hj2 := (List.getElem?_eq_some_iff.1 hj).1
          rw [List.length_take] at hj2
          rw [List.getElem?_take_of_lt (by omega)] at hj
          rw [← hj]; simp
        have hfit : Builtin.nextslicecap (n + m) cap * i.bytes ≤ 281474976710656 := growslice_fits (by omega) (by omega)
        rw [run_append_grow (P := Try.prog) w t ty e i z ht hi hz ⟨g, 0, none⟩ n cap xs ho.1 hold b m c ys hl hcell (by omega) (by omega) hfit] at hr'
        injection hr' with e1 e2
        subst e1
        exact .inr rfl
  · obtain rfl : m = 0 := by omega
    obtain rfl : ys = [] := List.eq_nil_of_length_eq_zero (by rw [hl]; omega)
    have hsrc : Src Try.prog i.size t (.slice a 0 c) 0 [] w := by
      cases a with
      | none => exact Src.ofNil w ht c
      | some x => exact Src.ofSlice w ht x 0 c [] (by simp) (fun j u hj => by simp at hj) (fun u hu => by simp at hu)
    obtain ⟨b, n', cp, rfl, hle, hn⟩ : ∃ b n' cp, v = .slice b n' cp ∧ n' ≤ cp ∧ n' = n := by
      rcases ho.2 with ⟨rfl, h⟩ | ⟨g, cap, cur, rfl, _, _, h, _⟩
      · exact ⟨none, 0, 0, rfl, Nat.le_refl _, h.symm⟩
      · exact ⟨_, _, _, rfl, h, rfl⟩
    refine ⟨_, w, run_append_nothing w t t ty e i ht hi b n' cp hle _ hsrc, ?_, ?_, .inl rfl⟩
    · rw [List.append_nil]; exact ho
    · exact ⟨rfl, rfl, rfl, Nat.le_refl _, fun _ _ _ => rfl⟩
theorem app22_own (w : World) (base lo hi : Nat) (v : Value) (n : Nat) (xs : List Value) (a : Option Addr) (m c : Nat) (ys : List Value) (ho : w.ownsRow base 5 1 v n xs) (hr : Row lo hi w (.slice a m c) m ys) (hl : ys.length = m) (h1 : ∀ u ∈ ys, u.oneCell' = true) (hmax : n + m ≤ 140737488355328) (hbase : base ≤ w.heap.size) :
    ∃ v' w', (∀ ty, (app22 ty #[v, .slice a m c]).run Try.prog w = .ok v' w') ∧ w'.ownsRow base 5 1 v' (n + m) (xs ++ ys) ∧ w.grownBy w' v.ownBlock ∧ (v'.ownBlock = v.ownBlock ∨ v'.ownBlock = some w.heap.size) := by
  obtain ⟨i, hi', hz, hsz, hby⟩ := info5
  obtain ⟨v', w', hr', h2, h3, h4⟩ := app_own Try.underlying22 hi' hz hsz hby rfl (by omega) w base lo hi v n xs a m c ys 22 ho hr (by omega) h1 (by omega) (by omega) hbase
  exact ⟨v', w', fun ty => hr', h2, h3, h4⟩
theorem app23_own (w : World) (base lo hi : Nat) (v : Value) (n : Nat) (xs : List Value) (a : Option Addr) (m c : Nat) (ys : List Value) (ho : w.ownsRow base 9 1 v n xs) (hr : Row lo hi w (.slice a m c) m ys) (hl : ys.length = m) (h1 : ∀ u ∈ ys, u.oneCell' = true) (hmax : n + m ≤ 8796093022208) (hbase : base ≤ w.heap.size) :
    ∃ v' w', (∀ ty, (app23 ty #[v, .slice a m c]).run Try.prog w = .ok v' w') ∧ w'.ownsRow base 9 1 v' (n + m) (xs ++ ys) ∧ w.grownBy w' v.ownBlock ∧ (v'.ownBlock = v.ownBlock ∨ v'.ownBlock = some w.heap.size) := by
  obtain ⟨i, hi', hz, hsz, hby⟩ := info9
  obtain ⟨v', w', hr', h2, h3, h4⟩ := app_own Try.underlying31 hi' hz hsz hby rfl (by omega) w base lo hi v n xs a m c ys 23 ho hr (by omega) h1 (by omega) (by omega) hbase
  exact ⟨v', w', fun ty => hr', h2, h3, h4⟩
theorem app24_own (w : World) (base lo hi : Nat) (v : Value) (n : Nat) (xs : List Value) (a : Option Addr) (m c : Nat) (ys : List Value) (ho : w.ownsRow base 34 5 v n xs) (hr : Row lo hi w (.slice a m c) m ys) (hl : ys.length = m * 5) (h1 : ∀ u ∈ ys, u.oneCell' = true) (hmax : n + m ≤ 1599289640401) (hbase : base ≤ w.heap.size) :
    ∃ v' w', (∀ ty, (app24 ty #[v, .slice a m c]).run Try.prog w = .ok v' w') ∧ w'.ownsRow base 34 5 v' (n + m) (xs ++ ys) ∧ w.grownBy w' v.ownBlock ∧ (v'.ownBlock = v.ownBlock ∨ v'.ownBlock = some w.heap.size) := by
  obtain ⟨i, hi', hz, hsz, hby⟩ := info26
  obtain ⟨v', w', hr', h2, h3, h4⟩ := app_own Try.underlying32 hi' hz hsz hby rfl (by omega) w base lo hi v n xs a m c ys 24 ho hr hl h1 (by omega) (by omega) hbase
  exact ⟨v', w', fun ty => hr', h2, h3, h4⟩
end Go.Proofs.Ytlbfcneboaihnaa.Tn
/- What stands where it stood while other blocks turn. -/
namespace Go.Proofs.Ytlbfcneboaihnaa.Tn
open Go.RowKit
theorem Row.same {lo hi : Nat} {w w' : World} {v : Value} {n : Nat} {xs : List Value} (h : Row lo hi w v n xs) (hs : ∀ k, lo ≤ k → k < hi → w'.heap[k]? = w.heap[k]?) : Row lo hi w' v n xs := by
  obtain ⟨a, c, e, hc, hx⟩ := h
  refine ⟨a, c, e, hc, fun h0 => ?_⟩
  obtain ⟨g, o, ea, hg1, hg2, hcell⟩ := hx h0
  exact ⟨g, o, ea, hg1, hg2, fun j u hj => by rw [World.cell?_of_block (w := w) (a := ⟨g, o + j, none⟩) (hs g hg1 hg2)]; exact hcell j u hj⟩
theorem Lies.same {lo hi : Nat} {w w' : World} {T : Tr} {cs : List Value} (h : Lies lo hi w T cs) (hs : ∀ k, lo ≤ k → k < hi → w'.heap[k]? = w.heap[k]?) : Lies lo hi w' T cs := by
  induction h with
  | mk k x d ns ks vd vn vk Ks hl hd hn hk hK ih => exact .mk k x d ns ks vd vn vk Ks hl (hd.same hs) (hn.same hs) (hk.same hs) ih
theorem cell_of_row (w : World) (g j : Nat) (c : Array Value) (t : TypeId) (f : Nat × Nat) (h : w.heap[g]? = some (.cells c t f)) : w.cell? ⟨g, j, none⟩ = c[j]? := by
  unfold World.cell?; simp [h]
theorem owns_row {w : World} {base lo hi : Nat} {e : TypeId} {size : Nat} {v : Value} {n : Nat} {xs : List Value} (h : w.ownsRow base e size v n xs) (hb : ∀ g, v.ownBlock = some g → lo ≤ g ∧ g < hi) : Row lo hi w v n xs := by
  rcases h.2 with ⟨rfl, rfl⟩ | ⟨g, cap, cur, rfl, hg, hh, hcap, hm, hsz, ht⟩
  · exact ⟨none, 0, rfl, Nat.le_refl _, fun h => by omega⟩
  · refine ⟨_, cap, rfl, hcap, fun _ => ⟨g, 0, rfl, (hb g rfl).1, (hb g rfl).2, fun j u hj => ?_⟩⟩
    rw [cell_of_row w g (0 + j) cur e _ hh, Nat.zero_add]
    rw [← ht] at hj
    have hj2 := (List.getElem?_eq_some_iff.1 hj).1
    rw [List.length_take] at hj2
    rw [List.getElem?_take_of_lt (by omega)] at hj
    rw [← hj]; simp
theorem owns_lt {w : World} {base : Nat} {e : TypeId} {size : Nat} {v : Value} {n : Nat} {xs : List Value} (h : w.ownsRow base e size v n xs) : ∀ g, v.ownBlock = some g → base ≤ g ∧ g < w.heap.size := by
  intro g hg
  rcases h.2 with ⟨rfl, rfl⟩ | ⟨g', cap, cur, rfl, hg', hh, _⟩
  · simp [Value.ownBlock] at hg
  · simp [Value.ownBlock] at hg; subst hg; exact ⟨hg', (Array.getElem?_eq_some_iff.1 hh).1⟩
theorem owns_slice {w : World} {base : Nat} {e : TypeId} {size : Nat} {v : Value} {n : Nat} {xs : List Value} (h : w.ownsRow base e size v n xs) : ∃ a c, v = .slice a n c ∧ n ≤ c := by
  rcases h.2 with ⟨rfl, rfl⟩ | ⟨g', cap, cur, rfl, hg', hh, hc, _⟩
  · exact ⟨none, 0, rfl, Nat.le_refl _⟩
  · exact ⟨_, _, rfl, hc⟩
theorem Bx.fr {w : World} {b : Nat} {v0 v1 v2 v3 v4 : Value} (h : Bx w b v0 v1 v2 v3 v4) (o : Nat) : w.frozen? ⟨b, o, none⟩ = false := by
  unfold World.frozen?; rw [show w.heap[b]? = _ from h]; simp
theorem Bx.set2 {w : World} {b : Nat} {v0 v1 v2 v3 v4 : Value} (h : Bx w b v0 v1 v2 v3 v4) (v : Value) : Bx (w.setCell ⟨b, 2, none⟩ v) b v0 v1 v v3 v4 := by
  unfold Bx at *; simp [World.setCell, Array.getElem?_modify, h]
theorem Bx.set3 {w : World} {b : Nat} {v0 v1 v2 v3 v4 : Value} (h : Bx w b v0 v1 v2 v3 v4) (v : Value) : Bx (w.setCell ⟨b, 3, none⟩ v) b v0 v1 v2 v v4 := by
  unfold Bx at *; simp [World.setCell, Array.getElem?_modify, h]
theorem Bx.set4 {w : World} {b : Nat} {v0 v1 v2 v3 v4 : Value} (h : Bx w b v0 v1 v2 v3 v4) (v : Value) : Bx (w.setCell ⟨b, 4, none⟩ v) b v0 v1 v2 v3 v := by
  unfold Bx at *; simp [World.setCell, Array.getElem?_modify, h]
theorem set_other (w : World) (b o k : Nat) (v : Value) (h : k ≠ b) : (w.setCell ⟨b, o, none⟩ v).heap[k]? = w.heap[k]? := Below.heap_setCell _ _ _ _ h
end Go.Proofs.Ytlbfcneboaihnaa.Tn
/- The document's Count, in the code. -/
namespace Go.Proofs.Ytlbfcneboaihnaa.Tn
open Go.RowKit
mutual
/-- Nodes. -/
def cn : Tr → Nat | .mk _ _ _ _ ks => 1 + cns ks
def cns : List Tr → Nat | [] => 0 | t :: r => cn t + cns r
end
mutual
/-- Bytes of files. -/
def cb : Tr → Nat | .mk k _ d _ ks => (if k = 1 then d.size else 0) + cbs ks
def cbs : List Tr → Nat | [] => 0 | t :: r => cb t + cbs r
end
theorem cns_append (a b : List Tr) : cns (a ++ b) = cns a + cns b := by
  induction a with
  | nil => simp [cns]
  | cons x r ih => simp only [List.cons_append, cns, ih]; omega
theorem cbs_append (a b : List Tr) : cbs (a ++ b) = cbs a + cbs b := by
  induction a with
  | nil => simp [cbs]
  | cons x r ih => simp only [List.cons_append, cbs, ih]; omega
theorem cns_take (l : List Tr) (i : Nat) (h : i < l.length) : cns (l.take (i + 1)) = cns (l.take i) + cn l[i] := by
  rw [List.take_succ_eq_append_getElem h, cns_append]; simp [cns]
theorem cbs_take (l : List Tr) (i : Nat) (h : i < l.length) : cbs (l.take (i + 1)) = cbs (l.take i) + cb l[i] := by
  rw [List.take_succ_eq_append_getElem h, cbs_append]; simp [cbs]
/-- Each node alone is right. -/
inductive Vld : Tr → Prop
  | mk (k : Int) (x : Bool) (d : ByteArray) (ns : List ByteArray) (ks : List Tr) (h0 : locErr k x d.size ns ks.length = 0) (h5 : ∀ t ∈ ks, Vld t) : Vld (.mk k x d ns ks)
theorem Vld.here {k : Int} {x : Bool} {d : ByteArray} {ns : List ByteArray} {ks : List Tr} (h : Vld (.mk k x d ns ks)) : locErr k x d.size ns ks.length = 0 ∧ ∀ t ∈ ks, Vld t := by
  cases h with
  | mk _ _ _ _ _ h0 h5 => exact ⟨h0, h5⟩
theorem loc_ok {k : Int} {x : Bool} {d : Nat} {ns : List ByteArray} {nk : Nat} (h : locErr k x d ns nk = 0) : d ≤ 1048576 ∧ ns.length = nk ∧ (0 < ns.length → okNames ns) := by
  unfold locErr at h
  split at h
  · split at h
    · omega
    · split at h
      · omega
      · exact ⟨by omega, by omega, by omega⟩
  · split at h
    · split at h
      · omega
      · split at h
        · omega
        · split at h
          · omega
          · exact ⟨by omega, by omega, by omega⟩
    · split at h
      · split at h
        · omega
        · split at h
          · rename_i h1 h2; exact ⟨by omega, by omega, fun _ => h2⟩
          · omega
      · omega
theorem chk_vld (T : Tr) : ∀ deep n, (chk T deep n).1 = 0 → Vld T ∧ (chk T deep n).2 = n + cn T := by
  induction T using Tr.ind with
  | h k x d ns ks ih =>
  have hs : ∀ l : List Tr, (∀ t ∈ l, t ∈ ks) → ∀ deep n, (chks l deep n).1 = 0 → (∀ t ∈ l, Vld t) ∧ (chks l deep n).2 = n + cns l := by
    intro l
    induction l with
    | nil => intro _ deep n _; exact ⟨fun t ht => by simp at ht, by simp [chks, cns]⟩
    | cons t r ihr =>
      intro hm deep n h
      rw [chks] at h ⊢
      by_cases he : (chk t deep n).1 = 0
      · rw [if_pos he] at h ⊢
        obtain ⟨h1, h2⟩ := ih t (hm t (by simp)) deep n he
        obtain ⟨h3, h4⟩ := ihr (fun t ht => hm t (by simp [ht])) deep _ h
        exact ⟨fun u hu => by rcases List.mem_cons.1 hu with rfl | hu; exact h1; exact h3 u hu, by rw [h4, h2, cns]; omega⟩
      · rw [if_neg he] at h
        exact absurd h he
  intro deep n h
  rw [chk] at h ⊢
  split at h
  · simp at h
  · rename_i hb
    rw [if_neg hb]
    split at h
    · rename_i h0
      rw [if_pos h0]
      obtain ⟨h1, h2⟩ := hs ks (fun _ h => h) _ _ h
      exact ⟨.mk k x d ns ks h0 h1, by rw [h2, cn]; omega⟩
    · rename_i h0; exact absurd h h0
theorem cb_le (T : Tr) : Vld T → cb T ≤ 1048576 * cn T := by
  induction T using Tr.ind with
  | h k x d ns ks ih =>
    intro hv
    obtain ⟨h0, h5⟩ := hv.here
    have h2 : ∀ l : List Tr, (∀ t ∈ l, cb t ≤ 1048576 * cn t) → cbs l ≤ 1048576 * cns l := by
      intro l
      induction l with
      | nil => intro _; simp [cns, cbs]
      | cons t r ih2 =>
        intro h
        have h3 := h t (by simp)
        have h4 := ih2 (fun t ht => h t (by simp [ht]))
        rw [cns, cbs]
        omega
    have h3 := h2 ks fun t ht => ih t ht (h5 t ht)
    have h4 := (loc_ok h0).1
    rw [cn, cb]
    split <;> omega
theorem cbs_le {l : List Tr} (h : ∀ t ∈ l, Vld t) : cbs l ≤ 1048576 * cns l := by
  induction l with
  | nil => simp [cns, cbs]
  | cons t r ih => have h1 := cb_le t (h t (by simp)); have h2 := ih fun u hu => h u (by simp [hu]); rw [cns, cbs]; omega
theorem cns_take_le (l : List Tr) (i : Nat) : cns (l.take i) ≤ cns l := by
  conv => rhs; rw [← List.take_append_drop i l, cns_append]
  omega
theorem cns_mem {l : List Tr} {t : Tr} (h : t ∈ l) : cn t ≤ cns l := by
  induction l with
  | nil => simp at h
  | cons a r ih =>
    rw [cns]
    rcases List.mem_cons.1 h with rfl | h
    · omega
    · have := ih h; omega
set_option maxRecDepth 20000 in
set_option maxHeartbeats 2000000 in
theorem rcount_any (T : Tr) : ∀ (lo hi : Nat) (cs : List Value) (w : World), Lies lo hi w T cs → Fit T → Vld T → cn T ≤ 65536 → hi ≤ w.heap.size →
    Calls Try.prog 48 #[.agg cs.toArray] w fun e w' => e = .returned (.tuple #[.int .i64 ((cn T : Nat) : Int), .int .i64 ((cb T : Nat) : Int)]) ∧ Below w.heap.size w w' := by
  induction T using Tr.ind with
  | h k x d ns ks ih =>
  intro lo hi cs w hL hW hV hCN hhi
  have hSm := small_of hW
  cases hL with
  | mk _ _ _ _ _ vd vn vk Ks hl hd hn hk hK =>
  obtain ⟨ad, cd, rfl, hcd⟩ := hd.slice
  obtain ⟨an, cn', rfl, hcn⟩ := hn.slice
  obtain ⟨ak, ck, rfl, hck⟩ := hk.slice
  have HE : Hid (cn (.mk k x d ns ks) = 1 + cns ks ∧ cb (.mk k x d ns ks) = (if k = 1 then d.size else 0) + cbs ks) := ⟨by rw [cn], by rw [cb]⟩
  obtain ⟨wA, hwA⟩ : ∃ wA, wA = w.alloc (.cells #[.int .i64 k, .bool x, .slice ad d.size cd, .slice an ns.length cn', .slice ak ks.length ck] 34) := ⟨_, rfl⟩
  have hbA : Below w.heap.size w wA := by rw [hwA]; exact (Below.refl _ _).alloc (Nat.le_refl _) _
  have hsA : wA.heap.size = w.heap.size + 1 := by rw [hwA]; simp
  have hbx : Bx wA w.heap.size (.int .i64 k) (.bool x) (.slice ad d.size cd) (.slice an ns.length cn') (.slice ak ks.length ck) := by rw [hwA]; exact bx_new _ _ _ _ _ _
  have hds := hSm.d
  have hkl := hSm.k
  have hwk : cns ks ≤ 65536 := by rw [cn] at hCN; omega
  have hVk := hV.here.2
  have hd20 := (loc_ok hV.here.1).1
  have HVK := hide hVk
  have HR := hide (And.intro hk (And.intro hl (And.intro hK hwk)))
  have HIH := hide ih
  have HSm := hide hSm
  have HwA := hide hwA
  have H0 := hide (And.intro hbA (And.intro hbx hsA))
  obtain ⟨N, hN⟩ : ∃ N, ks.length = N := ⟨_, rfl⟩
  rw [hN] at hkl hck
  have HN := hide hN
  obtain ⟨c0, c1, c2, c3, c4⟩ := hbx.cells
  clear hk hl hK ih hSm hbA hbx hwA hd hn hW hwk hV hCN hVk
  obtain ⟨B0, hB0⟩ : ∃ B0 : Nat, B0 = if k = 1 then d.size else 0 := ⟨_, rfl⟩
  have HB0 := hide hB0
  have hB0l : B0 ≤ 1048576 := by rw [hB0]; split <;> omega
  clear hd20
  rw [hN] at HwA
  rw [hN]
  go_enter Try.func48, Try.ntmps48
  by_cases hk1 : k = 1
  case pos =>
    have hB1 : B0 = d.size := by rw [hB0, if_pos hk1]
    subst hk1
    clear hB0
    go_wp2_with fail
    rw [← unhide HwA]
    clear c0 c1 c2 c3 c4
    go_loopw [4, 5, 6] (fun vn vb vi wr => ∃ i : Nat, i ≤ N ∧ vi = .int .i64 (i : Int) ∧ vn = .int .i64 ((1 + cns (ks.take i) : Nat) : Int) ∧ vb = .int .i64 ((B0 + cbs (ks.take i) : Nat) : Int) ∧ Below w.heap.size w wr ∧ Bx wr w.heap.size (.int .i64 1) (.bool x) (.slice ad d.size cd) (.slice an ns.length cn') (.slice ak N ck) ∧ w.heap.size + 1 ≤ wr.heap.size) (fun _ _ vi _ => N - (intOf vi).toNat)
    case atStart => exact ⟨0, by omega, rfl, by simp [cns], by simp [cbs, hB1], (unhide H0).1, by have := (unhide H0).2.1; rw [unhide HN] at this; exact this, by have := (unhide H0).2.2; omega⟩
    case round =>
      obtain ⟨i, hiN, rfl, rfl, rfl, hbr, hbx, hsr⟩ := hrel
      obtain ⟨c0, c1, c2, c3, c4⟩ := hbx.cells
      have hle := cbs_le (l := ks.take i) fun t ht => unhide HVK t (List.mem_of_mem_take ht)
      have hle2 := cns_take_le ks i
      have hwk := (unhide HR).2.2.2
      by_cases hlt : i < N
      · have hk1' : i < ks.length := by rw [unhide HN]; exact hlt
        obtain ⟨g', o', rfl, hg1', hg2', hcell'⟩ := (unhide HR).1.at (by omega)
        obtain ⟨q0, q1, f1, g1, h1, f2, g2, h2, f3, g3, h3, hLi, m0, m1, m2, m3, m4⟩ := kid_sl (unhide HR).2.1 (fun j u hj => by rw [hbr.cell (p := ⟨g', o' + j, none⟩) (show g' < w.heap.size by omega)]; exact hcell' j u hj) (fun i t c h1 h2 => ((unhide HR).2.2.1 i t c h1 h2).kept hbr hhi) i hk1'
        have HI := hide (unhide HIH ks[i] (List.getElem_mem hk1') lo hi _ wr hLi ((unhide HSm).t _ (List.getElem_mem hk1')) (unhide HVK _ (List.getElem_mem hk1')) (by have h7 := cns_mem (List.getElem_mem hk1'); have h8 := (unhide HR).2.2.2; omega) (by omega))
        have HS1 := hide (And.intro (cns_take ks i hk1') (cbs_take ks i hk1'))
        have hci := cb_le ks[i] (unhide HVK _ (List.getElem_mem hk1'))
        have hwi := cns_mem (List.getElem_mem hk1')
        have HW := hide (And.intro hbr hbx)
        clear hcell' hLi hbr hbx
        generalize ks[i] = t at *
        clear hk1'
        have hA1 : cns (ks.take i) ≤ 65536 := by omega
        have hA2 : cbs (ks.take i) ≤ 68719476736 := by omega
        have hA3 : cn t ≤ 65536 := by omega
        have hA4 : cb t ≤ 68719476736 := by omega
        clear hle hle2 hwk hci hwi
        generalize cns (ks.take i) = sn at *
        generalize cbs (ks.take i) = sb at *
        go_wp2_with fail
        refine (unhide HI).mono ?_
        rintro e w5 ⟨rfl, hb5⟩
        have hs5 := hb5.size
        have HW5 := hide (And.intro ((unhide HW).1.trans (hb5.mono (by omega))) ((unhide HW).2.kept hb5 (by omega)))
        generalize cn t = tn at *
        generalize cb t = tb at *
        clear HI hb5
        go_wp2_with fail
        go_roundw
        case rel => exact ⟨i + 1, by omega, by go_num, by rw [(unhide HS1).1]; go_num, by rw [(unhide HS1).2]; go_num, (unhide HW5).1, (unhide HW5).2, by omega⟩
        case measure => simp [intOf]; try omega
      · obtain rfl : i = N := by omega
        have hfull : ks.take i = ks := List.take_of_length_le (by rw [unhide HN]; omega)
        have HEE := unhide HE
        have HFin : Hid (cn (.mk 1 x d ns ks) = 1 + cns (ks.take i) ∧ cb (.mk 1 x d ns ks) = B0 + cbs (ks.take i)) := by rw [hfull]; exact ⟨HEE.1, by rw [HEE.2, unhide HB0]⟩
        have HB := hide hbr
        clear HEE hfull hbr hbx hle hle2 hwk
        generalize cns (ks.take i) = sn at *
        generalize cbs (ks.take i) = sb at *
        go_wp2_with fail
        go_ret2
        exact ⟨by rw [(unhide HFin).1, (unhide HFin).2]; first | rfl | simp, unhide HB⟩
  case neg =>
    have hB1 : B0 = 0 := by rw [hB0, if_neg hk1]
    have e2 : (k == 1) = false := by simpa using hk1
    clear hB0 hk1
    go_wp2_with fail
    rw [← unhide HwA]
    clear c0 c1 c2 c3 c4
    go_loopw [4, 5, 6] (fun vn vb vi wr => ∃ i : Nat, i ≤ N ∧ vi = .int .i64 (i : Int) ∧ vn = .int .i64 ((1 + cns (ks.take i) : Nat) : Int) ∧ vb = .int .i64 ((B0 + cbs (ks.take i) : Nat) : Int) ∧ Below w.heap.size w wr ∧ Bx wr w.heap.size (.int .i64 k) (.bool x) (.slice ad d.size cd) (.slice an ns.length cn') (.slice ak N ck) ∧ w.heap.size + 1 ≤ wr.heap.size) (fun _ _ vi _ => N - (intOf vi).toNat)
    case atStart => exact ⟨0, by omega, rfl, by simp [cns], by simp [cbs, hB1], (unhide H0).1, by have := (unhide H0).2.1; rw [unhide HN] at this; exact this, by have := (unhide H0).2.2; omega⟩
    case round =>
      obtain ⟨i, hiN, rfl, rfl, rfl, hbr, hbx, hsr⟩ := hrel
      obtain ⟨c0, c1, c2, c3, c4⟩ := hbx.cells
      have hle := cbs_le (l := ks.take i) fun t ht => unhide HVK t (List.mem_of_mem_take ht)
      have hle2 := cns_take_le ks i
      have hwk := (unhide HR).2.2.2
      by_cases hlt : i < N
      · have hk1' : i < ks.length := by rw [unhide HN]; exact hlt
        obtain ⟨g', o', rfl, hg1', hg2', hcell'⟩ := (unhide HR).1.at (by omega)
        obtain ⟨q0, q1, f1, g1, h1, f2, g2, h2, f3, g3, h3, hLi, m0, m1, m2, m3, m4⟩ := kid_sl (unhide HR).2.1 (fun j u hj => by rw [hbr.cell (p := ⟨g', o' + j, none⟩) (show g' < w.heap.size by omega)]; exact hcell' j u hj) (fun i t c h1 h2 => ((unhide HR).2.2.1 i t c h1 h2).kept hbr hhi) i hk1'
        have HI := hide (unhide HIH ks[i] (List.getElem_mem hk1') lo hi _ wr hLi ((unhide HSm).t _ (List.getElem_mem hk1')) (unhide HVK _ (List.getElem_mem hk1')) (by have h7 := cns_mem (List.getElem_mem hk1'); have h8 := (unhide HR).2.2.2; omega) (by omega))
        have HS1 := hide (And.intro (cns_take ks i hk1') (cbs_take ks i hk1'))
        have hci := cb_le ks[i] (unhide HVK _ (List.getElem_mem hk1'))
        have hwi := cns_mem (List.getElem_mem hk1')
        have HW := hide (And.intro hbr hbx)
        clear hcell' hLi hbr hbx
        generalize ks[i] = t at *
        clear hk1'
        have hA1 : cns (ks.take i) ≤ 65536 := by omega
        have hA2 : cbs (ks.take i) ≤ 68719476736 := by omega
        have hA3 : cn t ≤ 65536 := by omega
        have hA4 : cb t ≤ 68719476736 := by omega
        clear hle hle2 hwk hci hwi
        generalize cns (ks.take i) = sn at *
        generalize cbs (ks.take i) = sb at *
        go_wp2_with fail
        refine (unhide HI).mono ?_
        rintro e w5 ⟨rfl, hb5⟩
        have hs5 := hb5.size
        have HW5 := hide (And.intro ((unhide HW).1.trans (hb5.mono (by omega))) ((unhide HW).2.kept hb5 (by omega)))
        generalize cn t = tn at *
        generalize cb t = tb at *
        clear HI hb5
        go_wp2_with fail
        go_roundw
        case rel => exact ⟨i + 1, by omega, by go_num, by rw [(unhide HS1).1]; go_num, by rw [(unhide HS1).2]; go_num, (unhide HW5).1, (unhide HW5).2, by omega⟩
        case measure => simp [intOf]; try omega
      · obtain rfl : i = N := by omega
        have hfull : ks.take i = ks := List.take_of_length_le (by rw [unhide HN]; omega)
        have HEE := unhide HE
        have HFin : Hid (cn (.mk k x d ns ks) = 1 + cns (ks.take i) ∧ cb (.mk k x d ns ks) = B0 + cbs (ks.take i)) := by rw [hfull]; exact ⟨HEE.1, by rw [HEE.2, unhide HB0]⟩
        have HB := hide hbr
        clear HEE hfull hbr hbx hle hle2 hwk
        generalize cns (ks.take i) = sn at *
        generalize cbs (ks.take i) = sb at *
        go_wp2_with fail
        go_ret2
        exact ⟨by rw [(unhide HFin).1, (unhide HFin).2]; first | rfl | simp, unhide HB⟩
end Go.Proofs.Ytlbfcneboaihnaa.Tn
/- The document's Count: checked first. -/
namespace Go.Proofs.Ytlbfcneboaihnaa.Tn
open Go.RowKit
theorem ne0 {n : Nat} (h : n ≠ 0) : ¬ ((n : Int) = 0) := by omega
/-- Nodes and bytes, or nothing. -/
noncomputable def countS (T : Tr) : Nat × Nat := if (chk T 1 0).1 = 0 then (cn T, cb T) else (0, 0)
set_option maxRecDepth 20000 in
set_option maxHeartbeats 1000000 in
theorem rcounts_any (T : Tr) (lo hi : Nat) (cs : List Value) (w : World) (hL : Lies lo hi w T cs) (hW : Fit T) (hhi : hi ≤ w.heap.size) :
    Calls Try.prog 30 #[.agg cs.toArray] w fun e w' => e = .returned (.tuple #[.int .i64 (((countS T).1 : Nat) : Int), .int .i64 (((countS T).2 : Nat) : Int)]) ∧ Below w.heap.size w w' := by
  obtain ⟨kt, xt, at0, nt, ct, bt, mt, dt, et, pt, qt, rfl⟩ := hL.form
  have HC1 := hide (fun W (h : Below w.heap.size w W) => checkR_any T lo hi _ W (hL.kept h hhi) hW (by have := h.size; omega))
  have HC2 : Hid (∀ W (_ : Below w.heap.size w W), (chk T 1 0).1 = 0 → Calls Try.prog 48 #[.agg _] W _) := fun W (h : Below w.heap.size w W) hc => rcount_any T lo hi _ W (hL.kept h hhi) hW (chk_vld T 1 0 hc).1 (by have h1 := (chk_vld T 1 0 hc).2; have h2 := chk_ok T 1 0 hc; omega) (by have := h.size; omega)
  obtain ⟨wA, hwA⟩ : ∃ wA, wA = w.alloc (.cells #[.int .i64 kt, .bool xt, .slice at0 nt ct, .slice bt mt dt, .slice et pt qt] 34) := ⟨_, rfl⟩
  have hbA : Below w.heap.size w wA := by rw [hwA]; exact (Below.refl _ _).alloc (Nat.le_refl _) _
  have hsA : wA.heap.size = w.heap.size + 1 := by rw [hwA]; simp
  have hbx : Bx wA w.heap.size (.int .i64 kt) (.bool xt) (.slice at0 nt ct) (.slice bt mt dt) (.slice et pt qt) := by rw [hwA]; exact bx_new _ _ _ _ _ _
  have HA := hide (And.intro hbA (And.intro hsA hbx))
  have HwA := hide hwA
  have HF : Hid (countS T = if (chk T 1 0).1 = 0 then (cn T, cb T) else (0, 0)) := rfl
  clear hL hwA hbA hsA hbx
  go_enter Try.func30, Try.ntmps30
  go_wp2_with fail
  rw [← unhide HwA]
  refine (unhide HC1 wA (unhide HA).1).mono ?_
  rintro e w1 ⟨rfl, hb1⟩
  have hs1 := hb1.size
  have HA1 := hide (And.intro ((unhide HA).1.trans (hb1.mono (by have := (unhide HA).2.1; omega))) ((unhide HA).2.2.kept hb1 (by have := (unhide HA).2.1; omega)))
  clear HC1 HwA hb1 HA
  by_cases hc1 : (chk T 1 0).1 = 0
  case neg =>
    have hn1 := ne0 hc1
    rw [if_neg hc1] at HF
    clear hc1
    generalize (chk T 1 0).1 = c1 at *
    go_wp2_with fail
    rw [unhide HF]
    go_ret2
    exact ⟨rfl, (unhide HA1).1⟩
  case pos =>
  rw [if_pos hc1] at HF
  have HC3 := hide (unhide HC2 w1 (unhide HA1).1 hc1)
  rw [hc1]
  clear hc1
  obtain ⟨y0, y1, y2, y3, y4⟩ := (unhide HA1).2.cells
  go_wp2_with fail
  refine (unhide HC3).mono ?_
  rintro e w2 ⟨rfl, hb2⟩
  have hs2 := (unhide HA1).1.size
  generalize cn T = a at *
  generalize cb T = b at *
  go_wp2_with fail
  rw [unhide HF]
  go_ret2
  exact ⟨rfl, (unhide HA1).1.trans (hb2.mono (by omega))⟩
end Go.Proofs.Ytlbfcneboaihnaa.Tn
/- The law's heavy: by what the document counts. -/
namespace Go.Proofs.Ytlbfcneboaihnaa.Tn
open Go.RowKit
set_option linter.unusedSimpArgs false
set_option maxRecDepth 20000 in
set_option maxHeartbeats 1000000 in
theorem heavy_any (T : Tr) (lo hi : Nat) (cs : List Value) (w : World) (hL : Lies lo hi w T cs) (hF : Fit T) (hhi : hi ≤ w.heap.size) :
    Calls Try.prog 13 #[.agg cs.toArray] w fun e w' => Below w.heap.size w w' ∧ (e = .returned (.bool true) ∨ (e = .returned (.bool false) ∧ (countS T).1 ≤ 300 ∧ (countS T).2 ≤ 4000)) := by
  obtain ⟨kt, xt, at0, nt, ct, bt, mt, dt, et, pt, qt, rfl⟩ := hL.form
  have HC := hide (fun W (h : Below w.heap.size w W) => rcounts_any T lo hi _ W (hL.kept h hhi) hF (by have := h.size; omega))
  generalize (countS T).1 = n at *
  generalize (countS T).2 = b at *
  clear hL hF
  go_enter Try.func13, Try.ntmps13
  go_wp2_with fail
  refine (unhide HC _ ?_).mono ?_
  · first | exact Below.refl _ _ | exact (Below.refl _ _).alloc (Nat.le_refl _) _
  rintro e w1 ⟨rfl, hb1⟩
  have HB : Hid (Below w.heap.size w w1) := by
    first
      | exact hb1
      | exact ((Below.refl w.heap.size w).alloc (Nat.le_refl _) _).trans (hb1.mono (by simp))
  clear hb1 HC
  obtain ⟨u, hu⟩ : ∃ u, decide ((300 : Int) < (n : Int)) = u := ⟨_, rfl⟩
  obtain ⟨v, hv⟩ : ∃ v, decide ((4000 : Int) < (b : Int)) = v := ⟨_, rfl⟩
  have HU := hide (And.intro hu hv)
  cases u
  · cases v
    · have HNB : Hid (n ≤ 300 ∧ b ≤ 4000) := by
        have h1 := of_decide_eq_false hu
        have h2 := of_decide_eq_false hv
        exact ⟨by omega, by omega⟩
      go_wp2_with fail
      go_ret
      exact ⟨unhide HB, .inr ⟨rfl, unhide HNB⟩⟩
    · go_wp2_with fail
      go_ret
      exact ⟨unhide HB, .inl rfl⟩
  · go_wp2_with fail
    go_ret
    exact ⟨unhide HB, .inl rfl⟩
end Go.Proofs.Ytlbfcneboaihnaa.Tn
/- A tree that came in as an argument. -/
namespace Go.Proofs.Ytlbfcneboaihnaa.Tn
open Go.RowKit
theorem cell_spot {w : World} {x : Addr} {v : Value} (h : w.cell? x = some v) : x = ⟨x.block, x.off, none⟩ ∧ x.block < w.heap.size := by
  refine ⟨?_, cell_lt h⟩
  unfold World.cell? at h
  split at h
  · cases x with
    | mk b o s => cases s with
      | none => rfl
      | some s => simp at h
  · simp at h
theorem flatN (s : Nat) (Ks : List (List Value)) (h : ∀ c ∈ Ks, c.length = s) (i j : Nat) (c : List Value) (hi : Ks[i]? = some c) (hj : j < s) : Ks.flatten[i * s + j]? = c[j]? := by
  induction Ks generalizing i with
  | nil => simp at hi
  | cons a r ih =>
    have ha : a.length = s := h a (by simp)
    cases i with
    | zero => simp at hi; subst hi; simp [List.flatten_cons, List.getElem?_append_left (by omega : j < a.length)]
    | succ i =>
      have e : (i + 1) * s = i * s + s := by rw [Nat.add_mul, Nat.one_mul]
      rw [List.flatten_cons, List.getElem?_append_right (by omega), ← ih (fun c hc => h c (by simp [hc])) i (by simpa using hi)]
      congr 1; omega
theorem flatN_length (s : Nat) (Ks : List (List Value)) (h : ∀ c ∈ Ks, c.length = s) : Ks.flatten.length = Ks.length * s := by
  induction Ks with
  | nil => simp
  | cons a r ih => rw [List.flatten_cons, List.length_append, ih (fun c hc => h c (by simp [hc])), h a (by simp), List.length_cons, Nat.add_mul]; omega
section
variable {H : Type} {enc : TypeId × Value → H} {W : World} {sp : Nat → Bool} {held : Bool}
/-- A slice that came in: its elements' cells, and what each reads as. -/
theorem open_rows {t e : TypeId} {size fuel : Nat} {cs : List Value} {x : DataW H × List MemPlace} (hsz : 0 < size) (ht : Try.prog.underlying t = some (.slice e)) (hc : Try.prog.cellsOf e = size) (h : DataW.trod enc Try.prog W 0 sp held fuel t cs = some x) :
    ∃ (v : Value) (Cs : List (List Value)) (ds : List (DataW H)), cs = [v] ∧ ds.length = Cs.length ∧ Row 0 W.heap.size W v Cs.length Cs.flatten ∧ (x.1 = .nil ∧ Cs = [] ∨ ∃ spr, x.1 = .slice ds spr) ∧ ∀ (i : Nat) (c : List Value) (d : DataW H), Cs[i]? = some c → ds[i]? = some d → c.length = size ∧ ∃ n q, n < fuel ∧ DataW.trod enc Try.prog W 0 sp held n e c = some (d, q) := by
  rcases DataW.trod_slice ht h with ⟨rfl, rfl⟩ | ⟨a, len, cap, elems, rest, n, rfl, rfl, rfl, _, hl, _, hlen, hel, _, _⟩
  · exact ⟨_, [], [], rfl, rfl, ⟨none, 0, rfl, Nat.le_refl _, fun h => absurd h (Nat.lt_irrefl _)⟩, .inl ⟨rfl, rfl⟩, fun i c d h => by simp at h⟩
  · rw [hc] at hel
    have hE : ∀ i, (hi : i < len) → ∃ c, W.cells? 0 (a.add (i * size)) size = some c ∧ DataW.trod enc Try.prog W 0 sp held n e c = elems[i]? := fun i hi => by
      have h1 := hel i hi
      rw [List.getElem?_eq_getElem (by omega)] at h1
      obtain ⟨c, h2, h3⟩ := Option.bind_eq_some_iff.1 h1
      exact ⟨c, h2, by rw [h3, List.getElem?_eq_getElem (by omega)]⟩
    obtain ⟨f, hf⟩ : ∃ f : Nat → List Value, ∀ i, i < len → W.cells? 0 (a.add (i * size)) size = some (f i) ∧ DataW.trod enc Try.prog W 0 sp held n e (f i) = elems[i]? := by
      refine ⟨fun i => (W.cells? 0 (a.add (i * size)) size).getD [], fun i hi => ?_⟩
      obtain ⟨c, h1, h2⟩ := hE i hi
      simp only [h1, Option.getD_some]
      exact ⟨trivial, h2⟩
    have hsome : ∀ i, i < len → (f i).length = size ∧ ∀ j u, (f i)[j]? = some u → W.cell? ((a.add (i * size)).add j) = some u := fun i hi => by
      obtain ⟨_, h1, h2⟩ := World.cells?_some (hf i hi).1
      exact ⟨h1, fun j u hj => by rw [h2 j (by have := (List.getElem?_eq_some_iff.1 hj).1; omega)]; exact hj⟩
    have hCl : ∀ c ∈ (List.range len).map f, c.length = size := fun c hc => by
      obtain ⟨i, hi, rfl⟩ := List.mem_map.1 hc
      exact (hsome i (List.mem_range.1 hi)).1
    refine ⟨_, (List.range len).map f, elems.map (·.1), rfl, by simp [hlen], ?_, .inr ⟨_, rfl⟩, fun i c d h1 h2 => ?_⟩
    · rw [List.length_map, List.length_range]
      refine ⟨some a, cap, rfl, hl, fun h0 => ?_⟩
      have h00 := (hsome 0 h0).2 0 _ (List.getElem?_eq_getElem (by rw [(hsome 0 h0).1]; exact hsz))
      obtain ⟨hx, hlt⟩ := cell_spot (show W.cell? a = some _ from by simpa [Addr.add] using h00)
      refine ⟨a.block, a.off, congrArg some hx, Nat.zero_le _, hlt, fun j u hj => ?_⟩
      have hjl : j < len * size := by
        have := (List.getElem?_eq_some_iff.1 hj).1
        rw [flatN_length size _ hCl] at this
        simpa using this
      have hq : j / size < len := Nat.div_lt_of_lt_mul (by rw [Nat.mul_comm]; exact hjl)
      have hr : j % size < size := Nat.mod_lt _ hsz
      have ej : j / size * size + j % size = j := by rw [Nat.mul_comm]; exact Nat.div_add_mod j size
      have h1 := flatN size _ hCl (j / size) (j % size) (f (j / size)) (by rw [List.getElem?_map, List.getElem?_range hq]; rfl) hr
      rw [ej, hj] at h1
      have h2 := (hsome _ hq).2 _ u h1.symm
      rw [hx, addr_mid, addr_mid, Nat.add_assoc, ej] at h2
      exact h2
    · have hi : i < len := by have := (List.getElem?_eq_some_iff.1 h1).1; simpa using this
      rw [List.getElem?_map, List.getElem?_range hi] at h1
      simp at h1
      subst h1
      rw [List.getElem?_map] at h2
      refine ⟨(hsome i hi).1, n, ?_⟩
      have h3 := (hf i hi).2
      rw [List.getElem?_eq_getElem (by omega)] at h2 h3
      simp at h2
      subst h2
      exact ⟨_, Nat.lt_succ_self _, h3⟩
theorem weights_memA {P : Program} {e : TypeId} : ∀ {l : List (DataW H)} {d : DataW H}, d ∈ l → ∀ n ∈ d.weights P e, n ∈ DataW.weightsAll P e l
  | x :: r, d, hd, n, hn => by
    simp only [DataW.weightsAll, List.mem_append]
    rcases List.mem_cons.1 hd with rfl | h
    · exact Or.inl hn
    · exact Or.inr (weights_memA h n hn)
theorem slice_len {t e : TypeId} {x : DataW H} {Cs : List (List Value)} {ds : List (DataW H)} (ht : Try.prog.underlying t = some (.slice e)) (hl : ds.length = Cs.length) (hs : x = .nil ∧ Cs = [] ∨ ∃ spr, x = .slice ds spr) (hw : ∀ n ∈ x.weights Try.prog t, n ≤ reachBytes) : Cs.length * Try.prog.bytesOf e ≤ reachBytes ∧ ∀ d ∈ ds, ∀ n ∈ d.weights Try.prog e, n ≤ reachBytes := by
  rcases hs with ⟨_, rfl⟩ | ⟨spr, rfl⟩
  · obtain rfl : ds = [] := List.eq_nil_of_length_eq_zero (by simpa using hl)
    exact ⟨by simp, fun d hd => by simp at hd⟩
  · simp only [DataW.weights, ht] at hw
    have h1 := hw _ (List.mem_cons_self ..)
    refine ⟨?_, fun d hd n hn => hw n (List.mem_cons_of_mem _ (List.mem_append.2 (.inl (weights_memA hd n hn))))⟩
    exact Nat.le_trans (Nat.mul_le_mul_right _ (by omega)) h1
theorem bytes_of (Cs : List (List Value)) (h : ∀ c ∈ Cs, ∃ b : UInt8, c = [.int .u8 (b.toNat : Int)]) : ∃ l : List UInt8, l.length = Cs.length ∧ l.map (fun b => Value.int .u8 (b.toNat : Int)) = Cs.flatten := by
  induction Cs with
  | nil => exact ⟨[], rfl, rfl⟩
  | cons c r ih =>
    obtain ⟨b, hb⟩ := h c (by simp)
    obtain ⟨l, h1, h2⟩ := ih (fun c hc => h c (by simp [hc]))
    exact ⟨b :: l, by simp [h1], by rw [List.map_cons, h2, List.flatten_cons, hb]; rfl⟩
theorem strs_of {P : ByteArray → Prop} (Cs : List (List Value)) (h : ∀ c ∈ Cs, ∃ s : ByteArray, c = [.string s] ∧ P s) : ∃ l : List ByteArray, l.length = Cs.length ∧ l.map Value.string = Cs.flatten ∧ ∀ s ∈ l, P s := by
  induction Cs with
  | nil => exact ⟨[], rfl, rfl, fun s hs => by simp at hs⟩
  | cons c r ih =>
    obtain ⟨b, hb, hP⟩ := h c (by simp)
    obtain ⟨l, h1, h2, h3⟩ := ih (fun c hc => h c (by simp [hc]))
    exact ⟨b :: l, by simp [h1], by rw [List.map_cons, h2, List.flatten_cons, hb]; rfl, fun s hs => by rcases List.mem_cons.1 hs with rfl | hs; exact hP; exact h3 s hs⟩
theorem trees_of {Q : Tr → List Value → Prop} (Cs : List (List Value)) (h : ∀ c ∈ Cs, ∃ T, Q T c) : ∃ ks : List Tr, ks.length = Cs.length ∧ ∀ (i : Nat) (t : Tr) (c : List Value), ks[i]? = some t → Cs[i]? = some c → Q t c := by
  induction Cs with
  | nil => exact ⟨[], rfl, fun i t c h => by simp at h⟩
  | cons c r ih =>
    obtain ⟨T, hT⟩ := h c (by simp)
    obtain ⟨l, h1, h2⟩ := ih (fun c hc => h c (by simp [hc]))
    refine ⟨T :: l, by simp [h1], fun i t c' ht hc => ?_⟩
    cases i with
    | zero => simp at ht hc; subst ht hc; exact hT
    | succ i => exact h2 i t c' (by simpa using ht) (by simpa using hc)
theorem list5 {α : Type} {l : List α} (h : l.length = 5) : ∃ a b c d e, l = [a, b, c, d, e] := by
  match l, h with
  | [a, b, c, d, e], _ => exact ⟨a, b, c, d, e, rfl⟩
theorem cells3 : Try.prog.cellsOf 3 = 1 := by kernel_rfl
theorem cells4 : Try.prog.cellsOf 4 = 1 := by kernel_rfl
theorem cells5' : Try.prog.cellsOf 5 = 1 := by kernel_rfl
theorem cells9 : Try.prog.cellsOf 9 = 1 := by kernel_rfl
theorem cells22 : Try.prog.cellsOf 22 = 1 := by kernel_rfl
theorem cells23 : Try.prog.cellsOf 31 = 1 := by kernel_rfl
theorem cells24 : Try.prog.cellsOf 32 = 1 := by kernel_rfl
theorem cells26 : Try.prog.cellsOf 34 = 5 := by kernel_rfl
/-- A tree that came in lies there, and its lengths are those of slices. -/
theorem open_tree : ∀ (fuel : Nat) (cs : List Value) (x : DataW H × List MemPlace), DataW.trod enc Try.prog W 0 sp held fuel 34 cs = some x → (∀ n ∈ x.1.weights Try.prog 34, n ≤ reachBytes) → ∃ T, Lies 0 W.heap.size W T cs ∧ Fit T := by
  intro fuel
  induction fuel using Nat.strongRecOn with
  | ind fuel ih =>
  intro cs x h hw
  have hR : reachBytes = 140737488351232 := rfl
  obtain ⟨xs, n, rfl, rfl, hcl, hxl, hf⟩ := DataW.trod_struct Try.underlying34 h
  rw [cells26] at hcl
  have hxl5 : xs.length = 5 := hxl
  obtain ⟨c0, c1, c2, c3, c4, rfl⟩ := list5 hcl
  obtain ⟨x0, x1, x2, x3, x4, rfl⟩ := list5 hxl5
  have h0 : DataW.trod enc Try.prog W 0 sp held n 3 [c0] = some x0 := by have := hf 0 _ rfl; simpa [cells3] using this
  have h1 : DataW.trod enc Try.prog W 0 sp held n 4 [c1] = some x1 := by have := hf 1 _ rfl; simpa [cells4] using this
  have h2 : DataW.trod enc Try.prog W 0 sp held n 22 [c2] = some x2 := by have := hf 2 _ rfl; simpa [cells22] using this
  have h3 : DataW.trod enc Try.prog W 0 sp held n 31 [c3] = some x3 := by have := hf 3 _ rfl; simpa [cells23] using this
  have h4 : DataW.trod enc Try.prog W 0 sp held n 32 [c4] = some x4 := by have := hf 4 _ rfl; simpa [cells24] using this
  have hwE : ∀ (j : Nat) (t : TypeId) (d : DataW H), ([3, 4, 22, 31, 32] : List TypeId)[j]? = some t → [x0.1, x1.1, x2.1, x3.1, x4.1][j]? = some d → ∀ n ∈ d.weights Try.prog t, n ≤ reachBytes := fun j t d e1 e2 n hn => hw n (by
    simp only [DataW.weights, Try.underlying34]
    exact DataW.weights_mem_each (ts := [3, 4, 22, 31, 32]) (ds := [x0.1, x1.1, x2.1, x3.1, x4.1]) e1 e2 n hn)
  obtain ⟨k, e0, -, -⟩ := DataW.trod_int Try.underlying3 h0
  obtain ⟨b, e1, -⟩ := DataW.trod_bool Try.underlying4 h1
  simp at e0 e1
  subst e0 e1
  obtain ⟨v2, C2, d2, e2, l2, r2, s2, q2⟩ := open_rows (size := 1) (by omega) Try.underlying22 cells5' h2
  obtain ⟨v3, C3, d3, e3, l3, r3, s3, q3⟩ := open_rows (size := 1) (by omega) Try.underlying31 cells9 h3
  obtain ⟨v4, C4, d4, e4, l4, r4, s4, q4⟩ := open_rows (size := 5) (by omega) Try.underlying32 cells26 h4
  simp at e2 e3 e4
  subst e2 e3 e4
  obtain ⟨z2, -⟩ := slice_len Try.underlying22 l2 s2 (hwE 2 22 _ rfl rfl)
  obtain ⟨z3, w3⟩ := slice_len Try.underlying31 l3 s3 (hwE 3 31 _ rfl rfl)
  obtain ⟨z4, w4⟩ := slice_len Try.underlying32 l4 s4 (hwE 4 32 _ rfl rfl)
  rw [show Try.prog.bytesOf 5 = 1 by kernel_rfl] at z2
  rw [show Try.prog.bytesOf 9 = 16 by kernel_rfl] at z3
  rw [show Try.prog.bytesOf 34 = 88 by kernel_rfl] at z4
  obtain ⟨dl, hd1, hd2⟩ := bytes_of C2 (fun c hc => by
    obtain ⟨i, hi, rfl⟩ := List.getElem_of_mem hc
    obtain ⟨_, m, q, _, ht⟩ := q2 i _ _ (List.getElem?_eq_getElem hi) (List.getElem?_eq_getElem (by omega : i < d2.length))
    obtain ⟨z, hz, -, hwf⟩ := DataW.trod_int Try.underlying5 ht
    have hb := bounds_u8 hwf
    refine ⟨UInt8.ofNat z.toNat, ?_⟩
    rw [hz]
    have : ((UInt8.ofNat z.toNat).toNat : Int) = z := by
      rw [UInt8.toNat_ofNat']
      omega
    rw [this])
  obtain ⟨ns, hn1, hn2, hn3⟩ := strs_of (P := fun s => s.size ≤ reachBytes) C3 (fun c hc => by
    obtain ⟨i, hi, rfl⟩ := List.getElem_of_mem hc
    have hdi : i < d3.length := by omega
    obtain ⟨_, m, q, _, ht⟩ := q3 i _ _ (List.getElem?_eq_getElem hi) (List.getElem?_eq_getElem hdi)
    obtain ⟨s, hs, hx, -⟩ := DataW.trod_string Try.underlying9 ht
    refine ⟨s, hs, ?_⟩
    have := w3 d3[i] (List.getElem_mem hdi)
    rw [(Prod.mk.inj hx).1] at this
    exact this _ (by simp [DataW.weights]))
  obtain ⟨ks, hk1, hk2⟩ := trees_of (Q := fun T c => Lies 0 W.heap.size W T c ∧ Fit T) C4 (fun c hc => by
    obtain ⟨i, hi, rfl⟩ := List.getElem_of_mem hc
    have hdi : i < d4.length := by omega
    obtain ⟨_, m, q, hm, ht⟩ := q4 i _ _ (List.getElem?_eq_getElem hi) (List.getElem?_eq_getElem hdi)
    exact ih m (by omega) _ _ ht (w4 _ (List.getElem_mem hdi)))
  have hds : (⟨dl.toArray⟩ : ByteArray).size = C2.length := by rw [← hd1]; rfl
  refine ⟨.mk k b ⟨dl.toArray⟩ ns ks, .mk k b ⟨dl.toArray⟩ ns ks _ _ _ C4 hk1.symm ?_ ?_ ?_ (fun i t c e1 e2 => (hk2 i t c e1 e2).1), .mk _ _ _ _ _ (by rw [hds]; omega) (by omega) (fun s hs => by have := hn3 s hs; omega) (by omega) (fun t ht => ?_)⟩
  · rw [hds, show byteVals ⟨dl.toArray⟩ = C2.flatten from hd2]; exact r2
  · rw [hn1, hn2]; exact r3
  · rw [hk1]; exact r4
  · obtain ⟨i, hi, rfl⟩ := List.getElem_of_mem ht
    exact (hk2 i _ _ (List.getElem?_eq_getElem hi) (List.getElem?_eq_getElem (by omega : i < C4.length))).2
end
end Go.Proofs.Ytlbfcneboaihnaa.Tn
/- Rows of the call's own, made one behind the other: bytes, names, kids. -/
namespace Go.Proofs.Ytlbfcneboaihnaa.Tn
open Go.RowKit
theorem owns_new (w : World) (e : TypeId) (size : Nat) : (w.alloc (.cells #[] e)).ownsRow w.heap.size e size (.slice (some ⟨w.heap.size, 0, none⟩) 0 0) 0 [] :=
  ⟨by simp, .inr ⟨w.heap.size, 0, #[], rfl, Nat.le_refl _, by show (w.heap.push _)[w.heap.size]? = _; rw [Array.getElem?_push, if_pos rfl], Nat.le_refl _, Nat.zero_le _, by simp, by simp⟩⟩
theorem one_bytes (d : ByteArray) : ∀ u ∈ byteVals d, u.oneCell' = true := fun u hu => by obtain ⟨b, -, rfl⟩ := List.mem_map.1 hu; rfl
theorem one_strs (ns : List ByteArray) : ∀ u ∈ ns.map Value.string, u.oneCell' = true := fun u hu => by obtain ⟨b, -, rfl⟩ := List.mem_map.1 hu; rfl
/-- What is appended to an empty literal is a row of its own. -/
theorem fresh22 (w : World) (lo hi : Nat) (a : Option Addr) (m c : Nat) (ys : List Value) (hr : Row lo hi w (.slice a m c) m ys) (hl : ys.length = m) (h1 : ∀ u ∈ ys, u.oneCell' = true) (hmax : m ≤ 140737488355328) (hhi : hi ≤ w.heap.size) :
    ∃ a1 c1 w1, (∀ ty, (app22 ty #[.slice (some ⟨w.heap.size, 0, none⟩) 0 0, .slice a m c]).run Try.prog (w.alloc (.cells #[] 5)) = .ok (.slice a1 m c1) w1) ∧ Below w.heap.size w w1 ∧ Row w.heap.size w1.heap.size w1 (.slice a1 m c1) m ys := by
  have hb : Below w.heap.size w (w.alloc (.cells #[] 5)) := (Below.refl _ _).alloc (Nat.le_refl _) _
  obtain ⟨v1, w1, happ, ho, hg, _⟩ := app22_own _ _ lo hi _ 0 [] a m c ys (owns_new w 5 1) (hr.below hb hhi) hl h1 (by omega) (by simp)
  rw [Nat.zero_add, List.nil_append] at ho
  obtain ⟨a1, c1, rfl, _⟩ := owns_slice ho
  exact ⟨a1, c1, w1, happ, hb.grown hg (by simp) (fun k hk => by simp [Value.ownBlock] at hk; omega), owns_row ho (owns_lt ho)⟩
theorem fresh23 (w : World) (lo hi : Nat) (a : Option Addr) (m c : Nat) (ys : List Value) (hr : Row lo hi w (.slice a m c) m ys) (hl : ys.length = m) (h1 : ∀ u ∈ ys, u.oneCell' = true) (hmax : m ≤ 8796093022208) (hhi : hi ≤ w.heap.size) :
    ∃ a1 c1 w1, (∀ ty, (app23 ty #[.slice (some ⟨w.heap.size, 0, none⟩) 0 0, .slice a m c]).run Try.prog (w.alloc (.cells #[] 9)) = .ok (.slice a1 m c1) w1) ∧ Below w.heap.size w w1 ∧ Row w.heap.size w1.heap.size w1 (.slice a1 m c1) m ys := by
  have hb : Below w.heap.size w (w.alloc (.cells #[] 9)) := (Below.refl _ _).alloc (Nat.le_refl _) _
  obtain ⟨v1, w1, happ, ho, hg, _⟩ := app23_own _ _ lo hi _ 0 [] a m c ys (owns_new w 9 1) (hr.below hb hhi) hl h1 (by omega) (by simp)
  rw [Nat.zero_add, List.nil_append] at ho
  obtain ⟨a1, c1, rfl, _⟩ := owns_slice ho
  exact ⟨a1, c1, w1, happ, hb.grown hg (by simp) (fun k hk => by simp [Value.ownBlock] at hk; omega), owns_row ho (owns_lt ho)⟩
/-- Kids of the call's own, so many yet, in a row of its own. -/
def KidsAt (Z : Nat) (w : World) (v : Value) (ks : List Tr) (i : Nat) : Prop :=
  ∃ Ks : List (List Value), Ks.length = i ∧ (∀ c ∈ Ks, c.length = 5) ∧ w.ownsRow Z 34 5 v i Ks.flatten ∧
    ∀ (j : Nat) (t : Tr) (c : List Value), ks[j]? = some t → Ks[j]? = some c → ∃ L H, Lies L H w t c ∧ Z ≤ L ∧ H ≤ w.heap.size ∧ ∀ g, v.ownBlock = some g → g < L ∨ H ≤ g
theorem kids_none (Z : Nat) (w : World) (ks : List Tr) : KidsAt Z w (.slice none 0 0) ks 0 :=
  ⟨[], rfl, fun c hc => by simp at hc, ⟨rfl, .inl ⟨rfl, rfl⟩⟩, fun j t c _ hc => by simp at hc⟩
theorem Lies.one {lo hi : Nat} {w : World} {T : Tr} {cs : List Value} (h : Lies lo hi w T cs) : ∀ u ∈ cs, u.oneCell' = true := by
  obtain ⟨k, x, a1, n1, c1, a2, n2, c2, a3, n3, c3, rfl⟩ := h.form
  intro u hu
  simp at hu
  rcases hu with rfl | rfl | rfl | rfl | rfl <;> rfl
theorem one_row (w : World) (cs : List Value) (e : TypeId) : Row w.heap.size (w.heap.size + 1) (w.alloc (.cells cs.toArray e)) (.slice (some ⟨w.heap.size, 0, none⟩) 1 1) 1 cs := by
  refine ⟨_, 1, rfl, Nat.le_refl _, fun _ => ⟨w.heap.size, 0, rfl, Nat.le_refl _, by omega, fun j u hj => ?_⟩⟩
  rw [cell_of_row (w.alloc (.cells cs.toArray e)) w.heap.size (0 + j) cs.toArray e (0, 0) (by show (w.heap.push _)[w.heap.size]? = _; rw [Array.getElem?_push, if_pos rfl]), Nat.zero_add]
  simpa using hj
/-- One more kid is appended. -/
theorem kids_step {Z : Nat} {wr w1 : World} {v : Value} {ks : List Tr} {i : Nat} {cs : List Value} {t : Tr} (h : KidsAt Z wr v ks i) (hb : Below wr.heap.size wr w1) (hL : Lies wr.heap.size w1.heap.size w1 t cs) (ht : ks[i]? = some t) (hmax : i + 1 ≤ 1599289640401) (hZ : Z ≤ wr.heap.size) :
    ∃ a' c' w2, (∀ ty, (app24 ty #[v, .slice (some ⟨w1.heap.size, 0, none⟩) 1 1]).run Try.prog (w1.alloc (.cells cs.toArray 34)) = .ok (.slice a' (i + 1) c') w2) ∧ KidsAt Z w2 (.slice a' (i + 1) c') ks (i + 1) ∧ Below Z wr w2 := by
  obtain ⟨Ks, hKl, hK5, ho, hK⟩ := h
  have hb1 : Below w1.heap.size w1 (w1.alloc (.cells cs.toArray 34)) := (Below.refl _ _).alloc (Nat.le_refl _) _
  have hb2 : Below wr.heap.size wr (w1.alloc (.cells cs.toArray 34)) := hb.trans (hb1.mono hb.size)
  have hsz := hb.size
  have ho1 : (w1.alloc (.cells cs.toArray 34)).ownsRow Z 34 5 v i Ks.flatten := owns_same ho (fun g hg => hb2.block g (owns_lt ho g hg).2) (fun g _ h => h)
  obtain ⟨v', w2, happ, ho2, hg, hf⟩ := app24_own _ Z _ _ v i Ks.flatten _ 1 1 cs ho1 (one_row w1 cs 34) (by rw [hL.length]) hL.one (by omega) (by simp; omega)
  obtain ⟨a', c', rfl, _⟩ := owns_slice ho2
  have hbw : Below Z wr w2 := (hb2.mono hZ).grown hg (by simp; omega) (fun k hk => (owns_lt ho1 k hk).1)
  have hs1 : (w1.alloc (.cells cs.toArray 34)).heap.size = w1.heap.size + 1 := by simp
  have hs2 := hg.size
  rw [hs1] at hs2 hf
  refine ⟨a', c', w2, happ, ⟨Ks ++ [cs], by rw [List.length_append, hKl]; rfl, ?_, ?_, ?_⟩, hbw⟩
  · intro c hc
    rcases List.mem_append.1 hc with h | h
    · exact hK5 c h
    · simp at h; subst h; exact hL.length
  · rw [List.flatten_append]; simpa using ho2
  · intro j t' c' hj hc
    by_cases hji : j < i
    · rw [List.getElem?_append_left (by omega)] at hc
      obtain ⟨L, H, hLj, hZL, hHw, hap⟩ := hK j t' c' hj hc
      refine ⟨L, H, hLj.same (fun k hk1 hk2 => ?_), hZL, by omega, fun g hgv => ?_⟩
      · rw [hg.block k (by rw [hs1]; omega) (fun e => by have := hap k e.symm; omega), hb2.block k (by omega)]
      · rcases hf with h | h
        · exact hap g (by rw [← h]; exact hgv)
        · rw [h] at hgv; simp at hgv; omega
    · obtain rfl : j = i := by
        have := (List.getElem?_eq_some_iff.1 hc).1
        simp at this; omega
      rw [ht] at hj
      cases hj
      rw [List.getElem?_append_right (by omega), hKl] at hc
      simp at hc
      subst hc
      refine ⟨wr.heap.size, w1.heap.size, hL.same (fun k hk1 hk2 => ?_), hZ, by omega, fun g hgv => ?_⟩
      · rw [hg.block k (by rw [hs1]; omega) (fun e => by have := (owns_lt ho k e.symm).2; omega), hb1.block k (by omega)]
      · rcases hf with h | h
        · have := (owns_lt ho g (by rw [← h]; exact hgv)).2; omega
        · rw [h] at hgv; simp at hgv; omega
theorem kids_end {Z : Nat} {w : World} {v : Value} {ks : List Tr} (h : KidsAt Z w v ks ks.length) :
    ∃ Ks : List (List Value), Ks.length = ks.length ∧ Row Z w.heap.size w v ks.length Ks.flatten ∧ ∀ (j : Nat) (t : Tr) (c : List Value), ks[j]? = some t → Ks[j]? = some c → Lies Z w.heap.size w t c := by
  obtain ⟨Ks, hKl, hK5, ho, hK⟩ := h
  exact ⟨Ks, hKl, owns_row ho (owns_lt ho), fun j t c hj hc => by obtain ⟨L, H, hL, h1, h2, _⟩ := hK j t c hj hc; exact hL.mono h1 h2⟩
/-- What the row of kids is in a world in which nothing of it has turned. -/
theorem KidsAt.same {Z : Nat} {w w' : World} {v : Value} {ks : List Tr} {i : Nat} (h : KidsAt Z w v ks i) (hs : ∀ k, Z ≤ k → k < w.heap.size → w'.heap[k]? = w.heap[k]?) (hz : w.heap.size ≤ w'.heap.size) : KidsAt Z w' v ks i := by
  obtain ⟨Ks, hKl, hK5, ho, hK⟩ := h
  refine ⟨Ks, hKl, hK5, owns_same ho (fun g hg => hs g (owns_lt ho g hg).1 (owns_lt ho g hg).2) (fun g _ h => h), fun j t c hj hc => ?_⟩
  obtain ⟨L, H, hL, h1, h2, h3⟩ := hK j t c hj hc
  exact ⟨L, H, hL.same (fun k hk1 hk2 => hs k (by omega) (by omega)), h1, by omega, h3⟩
end Go.Proofs.Ytlbfcneboaihnaa.Tn
/- Clone, in the document's own answer. -/
namespace Go.Proofs.Ytlbfcneboaihnaa.Tn
open Go.RowKit
set_option maxRecDepth 20000 in
set_option maxHeartbeats 1000000 in
theorem cloneR_any (T : Tr) : ∀ (lo hi : Nat) (cs : List Value) (w : World), Lies lo hi w T cs → Fit T → hi ≤ w.heap.size →
    Calls Try.prog 14 #[.agg cs.toArray] w fun e w' => ∃ cs', e = .returned (.agg cs'.toArray) ∧ Below w.heap.size w w' ∧ Lies w.heap.size w'.heap.size w' T cs' := by
  induction T using Tr.ind with
  | h k x d ns ks ih =>
  intro lo hi cs w hL hW hhi
  have hSm := small_of hW
  cases hL with
  | mk _ _ _ _ _ vd vn vk Ks hl hd hn hk hK =>
  obtain ⟨ad, cd, rfl, hcd⟩ := hd.slice
  obtain ⟨an, cn, rfl, hcn⟩ := hn.slice
  obtain ⟨ak, ck, rfl, hck⟩ := hk.slice
  have hkl := hSm.k
  have HSm := hide hSm
  have HR := hide (And.intro hd (And.intro hn (And.intro hk (And.intro hl hK))))
  have hbx0 := bx_new w (.int .i64 k) (.bool x) (.slice ad d.size cd) (.slice an ns.length cn) (.slice ak ks.length ck)
  have hbx1 : Bx ((w.alloc (.cells #[.int .i64 k, .bool x, .slice ad d.size cd, .slice an ns.length cn, .slice ak ks.length ck] 34)).alloc (.cells #[.int .i64 0, .bool false, .slice none 0 0, .slice none 0 0, .slice none 0 0] 34)) (w.heap.size + 1) (.int .i64 0) (.bool false) (.slice none 0 0) (.slice none 0 0) (.slice none 0 0) := by
    have := bx_new (w.alloc (.cells #[.int .i64 k, .bool x, .slice ad d.size cd, .slice an ns.length cn, .slice ak ks.length ck] 34)) (.int .i64 0) (.bool false) (.slice none 0 0) (.slice none 0 0) (.slice none 0 0)
    rwa [World.size_alloc] at this
  have hbw0 : Below w.heap.size w ((w.alloc (.cells #[.int .i64 k, .bool x, .slice ad d.size cd, .slice an ns.length cn, .slice ak ks.length ck] 34)).alloc (.cells #[.int .i64 0, .bool false, .slice none 0 0, .slice none 0 0, .slice none 0 0] 34)) := ((Below.refl _ _).alloc (Nat.le_refl _) _).alloc (by simp) _
  have hbx2 : Bx ((w.alloc (.cells #[.int .i64 k, .bool x, .slice ad d.size cd, .slice an ns.length cn, .slice ak ks.length ck] 34)).alloc (.cells #[.int .i64 0, .bool false, .slice none 0 0, .slice none 0 0, .slice none 0 0] 34)) w.heap.size (.int .i64 k) (.bool x) (.slice ad d.size cd) (.slice an ns.length cn) (.slice ak ks.length ck) := hbx0.kept ((Below.refl (w.heap.size + 1) _).alloc (by simp) _) (by omega)
  obtain ⟨a1, c1, w1, happ1, hb1, hr1⟩ := fresh22 _ lo hi ad d.size cd (byteVals d) (hd.below hbw0 hhi) (byteVals_length d) (one_bytes d) (by have := hSm.d; omega) (by simp; omega)
  have hs1 := hb1.size
  have hbw1 : Below w.heap.size w w1 := hbw0.trans (hb1.mono (by simp; omega))
  have hbx3 := hbx2.kept hb1 (by simp; omega)
  have hbx4 := hbx1.kept hb1 (by simp)
  simp only [World.size_alloc] at happ1 hr1 hs1
  have hl1 : w.heap.size < w1.heap.size := by omega
  obtain ⟨z0, z1, z2, z3, z4⟩ := hbx3.cells
  have f2 := hbx3.fr 2
  -- the names
  obtain ⟨wB, hwB⟩ : ∃ wB, wB = w1.setCell ⟨w.heap.size, 2, none⟩ (.slice a1 d.size c1) := ⟨_, rfl⟩
  have hsB : wB.heap.size = w1.heap.size := by rw [hwB]; simp
  have hbwB : Below w.heap.size w wB := by rw [hwB]; exact hbw1.setCell (by simp) _
  have hbxB : Bx wB w.heap.size (.int .i64 k) (.bool x) (.slice a1 d.size c1) (.slice an ns.length cn) (.slice ak ks.length ck) := by rw [hwB]; exact hbx3.set2 _
  have hbrB : Bx wB (w.heap.size + 1) (.int .i64 0) (.bool false) (.slice none 0 0) (.slice none 0 0) (.slice none 0 0) := by rw [hwB]; exact hbx4.of (set_other _ _ _ _ _ (by omega))
  have hrB : Row (w.heap.size + 1 + 1) w1.heap.size wB (.slice a1 d.size c1) d.size (byteVals d) := by rw [hwB]; exact hr1.same (fun k hk _ => set_other _ _ _ _ _ (by omega))
  obtain ⟨a2, c2, w2, happ2, hb2, hr2⟩ := fresh23 wB lo hi an ns.length cn (ns.map .string) (hn.below hbwB hhi) (by simp) (one_strs ns) (by have := hSm.n; omega) (by omega)
  have hs2 := hb2.size
  have hbw2 : Below w.heap.size w w2 := hbwB.trans (hb2.mono (by omega))
  have hbx5 := hbxB.kept hb2 (by omega)
  have hbr5 := hbrB.kept hb2 (by omega)
  have hd5 := hrB.below hb2 (by omega)
  have hl2 : w.heap.size < w2.heap.size := by omega
  obtain ⟨y0, y1, y2, y3, y4⟩ := hbx5.cells
  have f3 := hbx5.fr 3
  rw [hsB] at happ2 hr2
  rw [hwB] at happ2
  -- what stands ahead of the kids
  obtain ⟨wC, hwC⟩ : ∃ wC, wC = w2.setCell ⟨w.heap.size, 3, none⟩ (.slice a2 ns.length c2) := ⟨_, rfl⟩
  have hsC : wC.heap.size = w2.heap.size := by rw [hwC]; simp
  have hbwC : Below w.heap.size w wC := by rw [hwC]; exact hbw2.setCell (by simp) _
  have hbxC : Bx wC w.heap.size (.int .i64 k) (.bool x) (.slice a1 d.size c1) (.slice a2 ns.length c2) (.slice ak ks.length ck) := by rw [hwC]; exact hbx5.set3 _
  have hbrC : Bx wC (w.heap.size + 1) (.int .i64 0) (.bool false) (.slice none 0 0) (.slice none 0 0) (.slice none 0 0) := by rw [hwC]; exact hbr5.of (set_other _ _ _ _ _ (by omega))
  have hdC : Row (w.heap.size + 1 + 1) wC.heap.size wC (.slice a1 d.size c1) d.size (byteVals d) := by
    rw [hsC]
    refine Row.mono (lo := w.heap.size + 1 + 1) (hi := w1.heap.size) ?_ (Nat.le_refl _) (by omega)
    rw [hwC]; exact hd5.same (fun k hk _ => set_other _ _ _ _ _ (by omega))
  have hnC : Row (w.heap.size + 1 + 1) wC.heap.size wC (.slice a2 ns.length c2) ns.length (ns.map .string) := by
    rw [hsC]
    refine Row.mono (lo := w1.heap.size) (hi := w2.heap.size) ?_ (by omega) (Nat.le_refl _)
    rw [hwC]; exact hr2.same (fun k hk _ => set_other _ _ _ _ _ (by omega))
  have hlC : w.heap.size + 1 + 1 ≤ wC.heap.size := by omega
  have HC := hide (And.intro hbwC (And.intro hbxC (And.intro hbrC (And.intro hdC hnC))))
  have HwC := hide hwC
  clear hbx0 hbx1 hbx2 hbx3 hbx4 hr1 hb1 hs1 hbw1 hbw0 hd hn hk hl hK hSm hwB hsB hbwB hbxB hbrB hrB hb2 hr2 hs2 hbw2 hbx5 hbr5 hd5 hsC hbwC hbxC hbrC hdC hnC hwC
  go_enter Try.func14, Try.ntmps14
  go_wp2_with fail
  rw [← unhide HwC]
  clear happ1 happ2 z0 z1 z2 z3 z4 f2 y0 y1 y2 y3 y4 f3 HwC
  go_loopw [3, 4] (fun vk vi wr => ∃ i : Nat, i ≤ ks.length ∧ vi = .int .i64 (i : Int) ∧ (∃ a c, vk = .slice a i c) ∧ KidsAt wC.heap.size wr vk ks i ∧ Below wC.heap.size wC wr) (fun _ vi _ => ks.length - (intOf vi).toNat)
  case atStart => exact ⟨0, by omega, rfl, ⟨_, _, rfl⟩, kids_none _ _ _, Below.refl _ _⟩
  case round =>
    obtain ⟨i, hik, rfl, ⟨av, cv, rfl⟩, hKi, hbr⟩ := hrel
    have hszr := hbr.size
    obtain ⟨z0, z1, z2, z3, z4⟩ := ((unhide HC).2.1.kept hbr (by omega)).cells
    by_cases hlt : i < ks.length
    · obtain ⟨-, -, hk, hl, hK⟩ := unhide HR
      obtain ⟨g, o, rfl, hg1, hg2, hcell⟩ := hk.at (by omega)
      have hbel : Below w.heap.size w wr := (unhide HC).1.trans (hbr.mono (by omega))
      have hcell' : ∀ j u, Ks.flatten[j]? = some u → wr.cell? ⟨g, o + j, none⟩ = some u := fun j u hj => by rw [hbel.cell (p := ⟨g, o + j, none⟩) (show g < w.heap.size by omega)]; exact hcell j u hj
      obtain ⟨k', x', b1, n1, c1', b2, n2, c2', b3, n3, c3', hLi, y0, y1, y2, y3, y4⟩ := kid_sl hl hcell' (fun i t c h1 h2 => (hK i t c h1 h2).kept hbel hhi) i hlt
      have HI := hide (ih ks[i] (List.getElem_mem hlt) lo hi _ wr hLi ((unhide HSm).t _ (List.getElem_mem hlt)) (by omega))
      have HKi := hide hKi
      have HT : Hid (ks[i]? = some ks[i]) := List.getElem?_eq_getElem hlt
      clear hcell hcell' hl hK hLi hk hbel hKi
      generalize ks[i] = t at *
      go_wp2_with fail
      refine (unhide HI).mono ?_
      rintro e w3 ⟨cs3, rfl, hb3, hL3⟩
      obtain ⟨k3, x3, d1, m1, e1, d2, m2, e2, d3, m3, e3, rfl⟩ := hL3.form
      have hs3 := hb3.size
      obtain ⟨a', c', w4, happ, hK4, hb4⟩ := kids_step (unhide HKi) hb3 hL3 (unhide HT) (by omega) hszr
      have HN := hide (And.intro hK4 (hbr.trans hb4))
      clear hK4 hb4 hL3 hb3 HI HKi HT z0 z1 z2 z3 z4 y0 y1 y2 y3 y4
      go_wp2_with fail
      go_roundw
      case rel => exact ⟨i + 1, by omega, by go_num, ⟨_, _, rfl⟩, (unhide HN).1, (unhide HN).2⟩
      case measure => simp [intOf]; omega
    · obtain rfl : i = ks.length := by omega
      have f4 := ((unhide HC).2.1.kept hbr (by omega)).fr 4
      obtain ⟨x0, x1, x2, x3, x4⟩ := ((unhide HC).2.2.1.kept hbr (by omega)).cells
      have g0 := ((unhide HC).2.2.1.kept hbr (by omega)).fr 0
      have g1 := ((unhide HC).2.2.1.kept hbr (by omega)).fr 1
      have g2 := ((unhide HC).2.2.1.kept hbr (by omega)).fr 2
      have g3 := ((unhide HC).2.2.1.kept hbr (by omega)).fr 3
      have g4 := ((unhide HC).2.2.1.kept hbr (by omega)).fr 4
      have HKi := hide hKi
      clear hKi
      go_wp2_with fail
      refine bodyPost_ret (v := .agg #[.int .i64 k, .bool x, .slice a1 d.size c1, .slice a2 ns.length c2, .slice av ks.length cv]) (by simp [results, Try.results14, go_sem, x0, x1, x2, x3, x4]) rfl ⟨[.int .i64 k, .bool x, .slice a1 d.size c1, .slice a2 ns.length c2, .slice av ks.length cv], rfl, ?_, ?_⟩
      · exact ((((((((unhide HC).1.trans (hbr.mono (by omega))).setCell (by simp) _).setCell (by simp) _).setCell (by simp) _).setCell (by simp) _).setCell (by simp) _).setCell (by simp) _)
      · have hother : ∀ k', w.heap.size + 1 + 1 ≤ k' → ((((((wr.setCell ⟨w.heap.size, 4, none⟩ (.slice av ks.length cv)).setCell ⟨w.heap.size + 1, 0, none⟩ (.int .i64 k)).setCell ⟨w.heap.size + 1, 1, none⟩ (.bool x)).setCell ⟨w.heap.size + 1, 2, none⟩ (.slice a1 d.size c1)).setCell ⟨w.heap.size + 1, 3, none⟩ (.slice a2 ns.length c2)).setCell ⟨w.heap.size + 1, 4, none⟩ (.slice av ks.length cv)).heap[k']? = wr.heap[k']? := fun k' hk' => by
          rw [set_other _ _ _ _ _ (by omega), set_other _ _ _ _ _ (by omega), set_other _ _ _ _ _ (by omega), set_other _ _ _ _ _ (by omega), set_other _ _ _ _ _ (by omega), set_other _ _ _ _ _ (by omega)]
        obtain ⟨Ks2, hKl2, hkr, hK2⟩ := kids_end ((unhide HKi).same (w' := ((((((wr.setCell ⟨w.heap.size, 4, none⟩ (.slice av ks.length cv)).setCell ⟨w.heap.size + 1, 0, none⟩ (.int .i64 k)).setCell ⟨w.heap.size + 1, 1, none⟩ (.bool x)).setCell ⟨w.heap.size + 1, 2, none⟩ (.slice a1 d.size c1)).setCell ⟨w.heap.size + 1, 3, none⟩ (.slice a2 ns.length c2)).setCell ⟨w.heap.size + 1, 4, none⟩ (.slice av ks.length cv))) (fun k' h1 _ => hother k' (by omega)) (by simp))
        refine .mk k x d ns ks _ _ _ Ks2 hKl2 ?_ ?_ ?_ ?_
        · refine Row.mono (lo := w.heap.size + 1 + 1) (hi := wC.heap.size) ?_ (by omega) (by simp; omega)
          exact ((unhide HC).2.2.2.1.below hbr (Nat.le_refl _)).same (fun k' h1 _ => hother k' h1)
        · refine Row.mono (lo := w.heap.size + 1 + 1) (hi := wC.heap.size) ?_ (by omega) (by simp; omega)
          exact ((unhide HC).2.2.2.2.below hbr (Nat.le_refl _)).same (fun k' h1 _ => hother k' h1)
        · exact hkr.mono (by omega) (Nat.le_refl _)
        · exact fun i t c h1 h2 => (hK2 i t c h1 h2).mono (by omega) (Nat.le_refl _)
end Go.Proofs.Ytlbfcneboaihnaa.Tn
