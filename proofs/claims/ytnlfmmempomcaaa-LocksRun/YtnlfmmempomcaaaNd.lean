/- Block, Wake: a job is looked for by its number. -/
import Derived.Test.YtnlfmmempomcaaaNc
namespace Go.Proofs.Ytnlfmmempomcaaa
open Go.RowKit Go.Maps
set_option linter.unusedSimpArgs false
def cmpI (x y : Int) : Int := if x < y then -1 else if y < x then 1 else 0
set_option maxRecDepth 20000 in
theorem isnan_ok (x : Int) (w : World) : Calls Try.prog 84 #[.int .i64 x] w fun e w' => e = .returned (.bool false) ∧ w' = w := by
  go_enter Try.func84, Try.ntmps84
  go_wp2_with fail
  go_ret
  exact ⟨by simp, rfl⟩
set_option maxRecDepth 20000 in
theorem compare_ok (x y : Int) (w : World) : Calls Try.prog 74 #[.int .i64 x, .int .i64 y] w fun e w' => e = .returned (.int .i64 (cmpI x y)) ∧ w' = w := by
  by_cases h1 : x < y
  · go_enter Try.func74, Try.ntmps74
    go_wp2_with (go_at_call 84; refine (isnan_ok _ _).mono ?_; rintro e w' ⟨rfl, rfl⟩)
    go_ret
    exact ⟨by simp [cmpI, h1], rfl⟩
  · by_cases h2 : y < x
    · go_enter Try.func74, Try.ntmps74
      go_wp2_with (go_at_call 84; refine (isnan_ok _ _).mono ?_; rintro e w' ⟨rfl, rfl⟩)
      go_ret
      exact ⟨by simp [cmpI, h1, h2], rfl⟩
    · go_enter Try.func74, Try.ntmps74
      go_wp2_with (go_at_call 84; refine (isnan_ok _ _).mono ?_; rintro e w' ⟨rfl, rfl⟩)
      go_ret
      exact ⟨by unfold cmpI; rw [if_neg (by omega), if_neg (by omega)]; rfl, rfl⟩
set_option maxRecDepth 20000 in
theorem cmp73 (a : Nat) (x y : Int) (w : World) (hc : w.cell? ⟨a, 0, none⟩ = some (.int .i64 x)) : Calls Try.prog 73 #[.pointer (some ⟨a, 0, none⟩), .int .i64 y] w fun e w' => e = .returned (.int .i64 (cmpI x y)) ∧ w' = w := by
  go_enter Try.func73, Try.ntmps73
  go_wp2_with (go_at_call 74; refine (compare_ok _ _ _).mono ?_; rintro e w' ⟨rfl, rfl⟩)
  go_ret
  exact ⟨rfl, rfl⟩
/-- Where a number stands, or would. -/
def FoundI (Z : Nat → Int) (n : Nat) (y : Int) (e : Ending) : Prop :=
  ∃ (i : Nat) (b : Bool), e = .returned (.tuple #[.int .i64 (i : Int), .bool b]) ∧ i ≤ n ∧ (∀ j, j < i → Z j < y) ∧ (∀ j, i ≤ j → j < n → y ≤ Z j) ∧ (b = true ↔ i < n ∧ Z i = y)
theorem foundI_mk {Z : Nat → Int} {n i : Nat} {y : Int} {b : Bool} (h1 : i ≤ n) (h2 : ∀ j, j < i → Z j < y) (h3 : ∀ j, i ≤ j → j < n → y ≤ Z j) (h4 : b = true ↔ i < n ∧ Z i = y) : FoundI Z n y (.returned (.tuple #[.int .i64 (i : Int), .bool b])) := ⟨i, b, rfl, h1, h2, h3, h4⟩
theorem cmpI_neg (x y : Int) : cmpI x y < 0 ↔ x < y := by unfold cmpI; split <;> (try split) <;> omega
theorem cmpI_zero (x y : Int) : cmpI x y = 0 ↔ x = y := by unfold cmpI; split <;> (try split) <;> omega
set_option maxRecDepth 20000 in
set_option maxHeartbeats 1000000 in
theorem bsearch_ok (ra : Option Addr) (n rc : Nat) (y : Int) (Z : Nat → Int) (w : World) (hmax : n ≤ 1000) (hC : ∀ i, i < n → ∃ g o a, ra = some ⟨g, o, none⟩ ∧ w.cell? ⟨g, o + i, none⟩ = some (.pointer (some ⟨a, 0, none⟩)) ∧ w.cell? ⟨a, 0, none⟩ = some (.int .i64 (Z i))) (hZ : ∀ i j, i < j → j < n → Z i < Z j) :
    Calls Try.prog 72 #[.slice ra n rc, .int .i64 y, .func (.func 73) #[] #[]] w fun e w' => w' = w ∧ FoundI Z n y e := by
  have HC := hide hC
  have HZ := hide hZ
  clear hC hZ
  go_enter Try.func72, Try.ntmps72
  go_wp2_with fail
  go_loop [9, 10] (fun vl vh => ∃ l h : Nat, l ≤ h ∧ h ≤ n ∧ vl = .int .i64 (l : Int) ∧ vh = .int .i64 (h : Int) ∧ Hid (∀ j, j < l → Z j < y) ∧ Hid (∀ j, h ≤ j → j < n → y ≤ Z j)) (fun vl vh => (intOf vh).toNat - (intOf vl).toNat)
  case atStart => exact ⟨0, n, by omega, by omega, rfl, rfl, fun j h => by omega, fun j h h' => by omega⟩
  case round =>
    obtain ⟨l, h, hlh, hhn, rfl, rfl, hlo, hhi⟩ := hrel
    by_cases hlt : l < h
    · obtain ⟨m, hm⟩ : ∃ m : Nat, (l + h) / 2 = m := ⟨_, rfl⟩
      have hmi : ((l : Int) + (h : Int)) / 2 = (m : Int) := by omega
      have hm1 : l ≤ m := by omega
      have hm2 : m < h := by omega
      obtain ⟨g, o, a, rfl, hcm, hca⟩ := unhide HC m (by omega)
      clear hm
      by_cases hz : Z m < y
      · have hlo' : Hid (∀ j, j < m + 1 → Z j < y) := fun j hj => by
          rcases Nat.lt_or_ge j m with h | h
          · exact Int.lt_trans (unhide HZ j m h (by omega)) hz
          · obtain rfl : j = m := by omega
            exact hz
        have HK := hide (cmp73 a (Z m) y w hca)
        have hcn : cmpI (Z m) y < 0 := (cmpI_neg _ _).2 hz
        clear hz hlo hca
        generalize cmpI (Z m) y = z at *
        go_wp2_with (go_at_call 73; refine (unhide HK).mono ?_; rintro e w' ⟨rfl, hw⟩; rw [hw]; clear hw w')
        go_round
        case rel => exact ⟨m + 1, h, by omega, hhn, by go_num, rfl, hlo', hhi⟩
        case measure => simp [intOf]; try omega
      · have hhi' : Hid (∀ j, m ≤ j → j < n → y ≤ Z j) := fun j hj hjn => by
          rcases Nat.lt_or_ge m j with h | h
          · have := unhide HZ m j h hjn
            omega
          · obtain rfl : j = m := by omega
            omega
        have HK := hide (cmp73 a (Z m) y w hca)
        have hcn : ¬ cmpI (Z m) y < 0 := fun e => hz ((cmpI_neg _ _).1 e)
        clear hz hhi hca
        generalize cmpI (Z m) y = z at *
        go_wp2_with (go_at_call 73; refine (unhide HK).mono ?_; rintro e w' ⟨rfl, hw⟩; rw [hw]; clear hw w')
        go_round
        case rel => exact ⟨l, m, hm1, by omega, rfl, by first | rfl | (rw [hmi]), hlo, hhi'⟩
        case measure => simp [intOf]; try omega
    · obtain rfl : l = h := by omega
      by_cases hln : l < n
      · obtain ⟨g, o, a, rfl, hcm, hca⟩ := unhide HC l hln
        have HK := hide (cmp73 a (Z l) y w hca)
        have hlnI : (l : Int) < (n : Int) := by omega
        have HE : Hid (∀ b : Bool, b = (cmpI (Z l) y == 0) → FoundI Z n y (.returned (.tuple #[.int .i64 (l : Int), .bool b]))) := fun b hb => foundI_mk hhn (unhide hlo) (unhide hhi) (by rw [hb, beq_iff_eq, cmpI_zero]; exact ⟨fun e => ⟨hln, e⟩, fun e => e.2⟩)
        clear hca hlo hhi
        generalize cmpI (Z l) y = z at *
        go_wp2_with (go_at_call 73; refine (unhide HK).mono ?_; rintro e w' ⟨rfl, hw⟩; rw [hw]; clear hw w')
        go_ret2
        exact ⟨rfl, unhide HE _ rfl⟩
      · have hlnI : ¬ ((l : Int) < (n : Int)) := by omega
        have HE : Hid (FoundI Z n y (.returned (.tuple #[.int .i64 (l : Int), .bool false]))) := foundI_mk hhn (unhide hlo) (unhide hhi) (by simp [hln])
        clear hlo hhi
        go_wp2_with fail
        go_ret2
        exact ⟨rfl, unhide HE⟩
/-- Which job is blocked or not. -/
def Rn.mark (R : Rn) (n : Int) (b : Bool) : Rn := ⟨R.js.map fun j => if (j.no : Int) = n then ⟨j.no, j.fn, b, j.at_, j.lk⟩ else j, R.next, R.busy, R.steps⟩
def Rn.has (R : Rn) (n : Int) : Bool := R.js.any fun j => decide ((j.no : Int) = n)
section
variable {k : Nat} {O : Ghost} {rb : Nat} {R : Rn} {w : World}
theorem Rn.sorted_lt (h : (R.js.map Jb.no).Pairwise (· < ·)) {i j : Nat} {a b : Jb} (hij : i < j) (ha : R.js[i]? = some a) (hb : R.js[j]? = some b) : a.no < b.no := by
  have hj : j < R.js.length := (List.getElem?_eq_some_iff.1 hb).1
  have hi : i < R.js.length := (List.getElem?_eq_some_iff.1 ha).1
  have := List.pairwise_iff_getElem.1 h i j (by simpa using hi) (by simpa using hj) hij
  rw [List.getElem_map, List.getElem_map] at this
  rw [(List.getElem?_eq_some_iff.1 ha).2, (List.getElem?_eq_some_iff.1 hb).2] at this
  exact this
theorem Rn.one (h : (R.js.map Jb.no).Pairwise (· < ·)) {a b : Jb} (ha : a ∈ R.js) (hb : b ∈ R.js) (e : a.no = b.no) : a = b := by
  obtain ⟨i, hi⟩ := List.mem_iff_getElem?.1 ha
  obtain ⟨j, hj⟩ := List.mem_iff_getElem?.1 hb
  rcases Nat.lt_trichotomy i j with h1 | h1 | h1
  · have := Rn.sorted_lt h h1 hi hj; omega
  · subst h1
    rw [hi] at hj
    exact Option.some.inj hj
  · have := Rn.sorted_lt h h1 hj hi; omega
theorem RnIs.apart (h : RnIs O rb R) {a b : Jb} (ha : a ∈ R.js) (hb : b ∈ R.js) (e : a.at_ = b.at_) : a.no = b.no := by
  have h1 := h.jobs a ha
  have h2 := h.jobs b hb
  rw [e, h2] at h1
  simp [jobO] at h1
  exact Int.ofNat.inj h1.2.1.symm
theorem RnIs.Z (h : RnIs O rb R) (hM : Mem k O w) {ra : Option Addr} {rc : Nat} (hr : RowJ O rb (.slice ra R.js.length rc) (R.js.map Jb.at_)) : ∃ Z : Nat → Int, (∀ i j, R.js[i]? = some j → Z i = j.no) ∧ (∀ i, i < R.js.length → ∃ g o a, ra = some ⟨g, o, none⟩ ∧ w.cell? ⟨g, o + i, none⟩ = some (.pointer (some ⟨a, 0, none⟩)) ∧ w.cell? ⟨a, 0, none⟩ = some (.int .i64 (Z i))) ∧ ∀ i j, i < j → j < R.js.length → Z i < Z j := by
  refine ⟨fun i => match R.js[i]? with | some j => (j.no : Int) | none => 0, fun i j e => by simp only [e], fun i hi => ?_, fun i j hij hj => ?_⟩
  · have e := List.getElem?_eq_getElem hi
    obtain ⟨g, o, e1, e2⟩ := hr.cell hM (m := i) (g := (R.js[i]).at_) (by rw [List.getElem?_map, e]; rfl)
    refine ⟨g, o, _, e1, e2, ?_⟩
    simp only [e]
    exact hM.cell (h.jobs _ (List.getElem_mem hi)) (i := 0) rfl
  · have e1 := List.getElem?_eq_getElem hj
    have e2 := List.getElem?_eq_getElem (Nat.lt_trans hij hj)
    simp only [e1, e2]
    have := Rn.sorted_lt h.sorted hij e2 e1
    omega
theorem Rn.mark_no {n : Int} {b : Bool} (h : R.has n = false) : R.mark n b = R := by
  have e : R.js.map (fun j => if (j.no : Int) = n then ⟨j.no, j.fn, b, j.at_, j.lk⟩ else j) = R.js := by
    conv => rhs; rw [← List.map_id R.js]
    refine List.map_congr_left fun j hj => ?_
    rw [if_neg]
    · rfl
    · have := List.any_eq_false.1 h j hj
      simpa using this
  unfold Rn.mark
  rw [e]
theorem mark_facts (hM : Mem k O w) (h : RnIs O rb R) {j : Jb} (hj : j ∈ R.js) (b : Bool) : RLeft k w.heap.size rb (R.mark j.no b) O w (w.setCell ⟨j.at_, 2, none⟩ (.bool b)) := by
  have ho := h.jobs j hj
  have hM1 := hM.set ho 2 (.bool b)
  have hs1 : Stp 3 w.heap.size O _ w _ := Stp.set ho 2 (.bool b)
  obtain ⟨O1, hO1⟩ : ∃ O1, O1 = put O j.at_ (jobO ⟨j.no, j.fn, b, j.at_, j.lk⟩) := ⟨_, rfl⟩
  have hO1' : put O j.at_ ⟨3, j.at_, .raw ([.int .i64 j.no, j.fn, .bool j.bl, .int .u32 0, .int .i32 j.lk, .int .u32 0].set 2 (.bool b)) 125⟩ = O1 := by rw [hO1]; rfl
  rw [hO1'] at hM1 hs1
  have hmm : (R.mark j.no b).js.map Jb.at_ = R.js.map Jb.at_ := by
    unfold Rn.mark
    rw [List.map_map]
    refine List.map_congr_left fun x _ => ?_
    simp only [Function.comp]
    split <;> rfl
  have hmn : (R.mark j.no b).js.map Jb.no = R.js.map Jb.no := by
    unfold Rn.mark
    rw [List.map_map]
    refine List.map_congr_left fun x _ => ?_
    simp only [Function.comp]
    split <;> rfl
  obtain ⟨rv, h1, h2⟩ := h.run
  have hne : rb ≠ j.at_ := fun e => by rw [e, ho] at h1; simp [runO, jobO] at h1
  refine ⟨O1, ⟨⟨rv, by rw [hO1, put_other _ _ hne]; exact h1, ?_⟩, fun x hx => ?_, by rw [hmn]; exact h.sorted, fun x hx => ?_, by unfold Rn.mark; rw [List.length_map]; exact h.room⟩, hM1, hs1⟩
  · rw [hmm]
    rcases h2 with e | ⟨rb', off, c, cs, e1, e2, e3⟩
    · exact .inl e
    · exact .inr ⟨rb', off, c, cs, e1, by rw [hO1, put_other _ _ (fun e => by rw [e, ho] at e2; simp [jobO] at e2)]; exact e2, e3⟩
  · obtain ⟨y, hy, rfl⟩ := List.mem_map.1 hx
    by_cases e : (y.no : Int) = j.no
    · obtain rfl : y = j := Rn.one h.sorted hy hj (by omega)
      rw [if_pos e, hO1, put_same]
    · rw [if_neg e, hO1, put_other _ _ (fun e2 => e (by have := h.apart hy hj e2; omega))]
      exact h.jobs y hy
  · obtain ⟨y, hy, rfl⟩ := List.mem_map.1 hx
    have := h.lt y hy
    split <;> exact this
end
set_option maxRecDepth 20000 in
set_option maxHeartbeats 1000000 in
theorem mark_ok {k : Nat} (O : Ghost) (rb : Nat) (R : Rn) (w : World) (hM : Mem k O w) (h : RnIs O rb R) (n : Int) (b : Bool) :
    Calls Try.prog 55 #[.pointer (some ⟨rb, 0, none⟩), .int .i64 n, .bool b] w fun e w' => e = .returned (.bool (R.has n)) ∧ RLeft k w.heap.size rb (R.mark n b) O w w' := by
  obtain ⟨rv, h1, h2⟩ := h.run
  obtain ⟨ra, rc, rfl⟩ := h2.shape
  rw [List.length_map] at h1 h2
  have c0 := hM.cell h1 (i := 0) rfl
  obtain ⟨Z, z1, z2, z3⟩ := h.Z hM h2
  have HB := hide (bsearch_ok ra R.js.length rc n Z w (by have := h.room; omega) z2 z3)
  have HY : Hid (∀ e, FoundI Z R.js.length n e → ∃ i bb, e = .returned (.tuple #[.int .i64 i, .bool bb]) ∧ ((bb = false ∧ Hid (R.has n = false ∧ RLeft k w.heap.size rb (R.mark n b) O w w)) ∨ (bb = true ∧ ∃ m : Nat, i = (m : Int) ∧ (m : Int) < (R.js.length : Int) ∧ ∃ g o a, ra = some ⟨g, o, none⟩ ∧ w.cell? ⟨g, o + m, none⟩ = some (.pointer (some ⟨a, 0, none⟩)) ∧ (∃ u, w.cell? ⟨a, 2, none⟩ = some u) ∧ w.frozen? ⟨a, 2, none⟩ = false ∧ Hid (R.has n = true ∧ RLeft k w.heap.size rb (R.mark n b) O w (w.setCell ⟨a, 2, none⟩ (.bool b)))))) := fun e ⟨i, bb, he, q1, q2, q3, q4⟩ => by
    refine ⟨_, bb, he, ?_⟩
    cases bb with
    | false =>
      refine .inl ⟨rfl, ?_⟩
      have hno : R.has n = false := by
        refine List.any_eq_false.2 fun j hj => ?_
        obtain ⟨m, hm⟩ := List.mem_iff_getElem?.1 hj
        have hml := (List.getElem?_eq_some_iff.1 hm).1
        simp
        intro e5
        have hz := z1 m j hm
        by_cases hmi : m < i
        · have := q2 m hmi; omega
        · have h6 := q3 m (by omega) hml
          have h7 : i = m ∨ i < m := by omega
          rcases h7 with h7 | h7
          · have := q4.2 ⟨by omega, by rw [h7]; omega⟩
            cases this
          · have h8 := z3 i m h7 hml
            have h9 := q3 i (Nat.le_refl _) (by omega)
            omega
      exact ⟨hno, by rw [Rn.mark_no hno]; exact ⟨O, h, hM, Stp.refl _ _ _ _⟩⟩
    | true =>
      obtain ⟨h7, h8⟩ := q4.1 rfl
      have e := List.getElem?_eq_getElem h7
      have hj := List.getElem_mem h7
      have hz := z1 i _ e
      obtain ⟨g, o, e1, e2⟩ := h2.cell hM (m := i) (g := (R.js[i]).at_) (by rw [List.getElem?_map, e]; rfl)
      have ho := h.jobs _ hj
      refine .inr ⟨rfl, i, rfl, by omega, g, o, _, e1, e2, ⟨_, hM.cell ho (i := 2) rfl⟩, hM.frozen ho 2, ?_⟩
      have hn : ((R.js[i]).no : Int) = n := by omega
      refine ⟨List.any_eq_true.2 ⟨_, hj, by simpa using hn⟩, ?_⟩
      have := mark_facts hM h hj b
      rw [hn] at this
      exact this
  clear hM h h1 h2 z1 z2 z3
  generalize R.js.length = N at *
  go_enter Try.func55, Try.ntmps55
  go_wp2_with (go_at_call 72; refine (unhide HB).mono ?_; rintro e w' ⟨rfl, hf⟩; obtain ⟨i, bb, rfl, hy⟩ := unhide HY e hf; clear hf; rcases hy with ⟨rfl, y1⟩ | ⟨rfl, m, rfl, y1, g, o, a, rfl, y2, ⟨u, y3⟩, y4, y5⟩)
  · go_ret
    exact ⟨by rw [(unhide y1).1]; rfl, (unhide y1).2⟩
  · go_ret
    exact ⟨by rw [(unhide y5).1]; rfl, (unhide y5).2⟩
set_option maxRecDepth 20000 in
theorem block_ok {k : Nat} (O : Ghost) (rb : Nat) (R : Rn) (w : World) (hM : Mem k O w) (h : RnIs O rb R) (n : Int) :
    Calls Try.prog 30 #[.pointer (some ⟨rb, 0, none⟩), .int .i64 n] w fun e w' => e = .returned (.bool (R.has n)) ∧ RLeft k w.heap.size rb (R.mark n true) O w w' := by
  have HC := hide (mark_ok O rb R w hM h n true)
  clear hM h
  go_enter Try.func30, Try.ntmps30
  go_wp2_with (go_at_call 55; refine (unhide HC).mono ?_; rintro e w' ⟨rfl, hE⟩)
  go_ret
  exact ⟨rfl, hE⟩
set_option maxRecDepth 20000 in
theorem wake_ok {k : Nat} (O : Ghost) (rb : Nat) (R : Rn) (w : World) (hM : Mem k O w) (h : RnIs O rb R) (n : Int) :
    Calls Try.prog 32 #[.pointer (some ⟨rb, 0, none⟩), .int .i64 n] w fun e w' => e = .returned (.bool (R.has n)) ∧ RLeft k w.heap.size rb (R.mark n false) O w w' := by
  have HC := hide (mark_ok O rb R w hM h n false)
  clear hM h
  go_enter Try.func32, Try.ntmps32
  go_wp2_with (go_at_call 55; refine (unhide HC).mono ?_; rintro e w' ⟨rfl, hE⟩)
  go_ret
  exact ⟨rfl, hE⟩
end Go.Proofs.Ytnlfmmempomcaaa
