/- spoilt: a tree of one's own is written over: of what was there only its own blocks turn. -/
import Derived.Test.YthfjofmfiklegaaDoorKp
namespace Go.Proofs.YthfjofmfiklegaaDoor
open Go.RowKit
/-- What stands while it goes on. -/
structure SpW (w wr : World) (lo hi : Nat) (t0 t1 t2 t3 t4 : Value) : Prop where
  k : Kp lo hi w wr
  s : w.heap.size + 1 ≤ wr.heap.size
  b : Bx wr w.heap.size t0 t1 t2 t3 t4
theorem SpW.set {w wr : World} {lo hi : Nat} {t0 t1 t2 t3 t4 : Value} (h : SpW w wr lo hi t0 t1 t2 t3 t4) {g : Nat} (o : Nat) (v : Value) (hg : lo ≤ g ∧ g < hi) (hh : hi ≤ w.heap.size) : SpW w (wr.setCell ⟨g, o, none⟩ v) lo hi t0 t1 t2 t3 t4 :=
  ⟨h.k.setCell o v (.inl hg), by simpa using h.s, h.b.of (set_other _ _ _ _ _ (by omega))⟩
theorem SpW.drew {w wr : World} {lo hi : Nat} {t0 t1 t2 t3 t4 : Value} (h : SpW w wr lo hi t0 t1 t2 t3 t4) : SpW w wr.drew lo hi t0 t1 t2 t3 t4 := ⟨h.k.drew, h.s, h.b⟩
/-- A slice of so many bytes, whatever they are. -/
def Bytes5 (lo : Nat) (wr : World) (v : Value) (n : Nat) : Prop := ∃ xs : List Value, wr.ownsRow lo 5 1 v n xs ∧ xs.length = n ∧ ∀ u ∈ xs, ∃ b : Int, u = .int .u8 b
def Strs9 (lo : Nat) (wr : World) (v : Value) (n : Nat) : Prop := ∃ xs : List Value, wr.ownsRow lo 9 1 v n xs ∧ xs.length = n
def Kids26 (lo : Nat) (wr : World) (v : Value) (n i : Nat) (ys : List Value) : Prop := ∃ xs : List Value, wr.ownsRow lo 26 5 v n xs ∧ xs.length = ys.length ∧ ∀ j, i * 5 ≤ j → xs[j]? = ys[j]?
theorem own_at {w : World} {base : Nat} {e : TypeId} {size : Nat} {a : Option Addr} {n m c : Nat} {xs : List Value} (h : w.ownsRow base e size (.slice a n c) m xs) (h0 : 0 < m) : ∃ g, a = some ⟨g, 0, none⟩ := by
  rcases h.2 with ⟨h1, h2⟩ | ⟨g, cap, cur, h1, _⟩
  · simp at h1; omega
  · cases h1; exact ⟨g, rfl⟩
theorem Bytes5.at {lo : Nat} {wr : World} {g n c : Nat} (h : Bytes5 lo wr (.slice (some ⟨g, 0, none⟩) n c) n) {i : Nat} (hi : i < n) : ∃ b : Int, wr.cell? ⟨g, i, none⟩ = some (.int .u8 b) ∧ wr.frozen? ⟨g, i, none⟩ = false := by
  obtain ⟨xs, ho, hl, hx⟩ := h
  obtain ⟨b, hb⟩ := hx xs[i] (List.getElem_mem (by omega))
  refine ⟨b, ?_, ho.frozenAt i⟩
  rw [ho.cellAt i (by omega), List.getElem?_eq_getElem (by omega), hb]
theorem Bytes5.set {lo : Nat} {wr : World} {g n c : Nat} (h : Bytes5 lo wr (.slice (some ⟨g, 0, none⟩) n c) n) (i : Nat) (b : Int) : Bytes5 lo (wr.setCell ⟨g, i, none⟩ (.int .u8 b)) (.slice (some ⟨g, 0, none⟩) n c) n := by
  obtain ⟨xs, ho, hl, hx⟩ := h
  refine ⟨_, (ho.stored i _).1, by simpa using hl, fun u hu => ?_⟩
  rcases List.mem_or_eq_of_mem_set hu with h1 | h1
  · exact hx u h1
  · exact ⟨b, h1⟩
theorem Strs9.fr {lo : Nat} {wr : World} {g n c : Nat} (h : Strs9 lo wr (.slice (some ⟨g, 0, none⟩) n c) n) {i : Nat} (hi : i < n) : (∃ v, wr.cell? ⟨g, i, none⟩ = some v) ∧ wr.frozen? ⟨g, i, none⟩ = false := by
  obtain ⟨xs, ho, hl⟩ := h
  refine ⟨⟨xs[i], ?_⟩, ho.frozenAt i⟩
  rw [ho.cellAt i (by omega), List.getElem?_eq_getElem (by omega)]
theorem Strs9.set {lo : Nat} {wr : World} {g n c : Nat} (h : Strs9 lo wr (.slice (some ⟨g, 0, none⟩) n c) n) (i : Nat) (u : Value) : Strs9 lo (wr.setCell ⟨g, i, none⟩ u) (.slice (some ⟨g, 0, none⟩) n c) n := by
  obtain ⟨xs, ho, hl⟩ := h
  exact ⟨_, (ho.stored i _).1, by simpa using hl⟩
theorem Kids26.set {lo : Nat} {wr : World} {g n c i : Nat} {ys : List Value} (h : Kids26 lo wr (.slice (some ⟨g, 0, none⟩) n c) n i ys) (i' o : Nat) (u : Value) (hi : i ≤ i') (ho : o < i' * 5) : Kids26 lo (wr.setCell ⟨g, o, none⟩ u) (.slice (some ⟨g, 0, none⟩) n c) n i' ys := by
  obtain ⟨xs, hw, hl, hx⟩ := h
  refine ⟨_, (hw.stored o u).1, by simpa using hl, fun j hj => ?_⟩
  rw [List.getElem?_set_ne (by omega)]
  exact hx j (by omega)
theorem kid_own {lo : Nat} {wr : World} {g n c i : Nat} {Ks : List (List Value)} {cs : List Value} (h : Kids26 lo wr (.slice (some ⟨g, 0, none⟩) n c) n i Ks.flatten) (h5 : ∀ c ∈ Ks, c.length = 5) (hn : Ks.length = n) (hi : Ks[i]? = some cs) : ∀ j, j < 5 → wr.cell? ⟨g, i * 5 + j, none⟩ = cs[j]? ∧ wr.frozen? ⟨g, i * 5 + j, none⟩ = false := by
  obtain ⟨xs, hw, hl, hx⟩ := h
  intro j hj
  have hin := (List.getElem?_eq_some_iff.1 hi).1
  refine ⟨?_, hw.frozenAt _⟩
  rw [hw.cellAt _ (by omega), hx _ (by omega), flat5 Ks h5 i j cs hi hj]
set_option maxRecDepth 20000 in
set_option maxHeartbeats 2000000 in
theorem spoilt_any (T : Tr) : ∀ (lo hi : Nat) (cs : List Value) (w : World), Own w lo hi T cs → hi ≤ w.heap.size → wt T ≤ 100000 →
    Calls Tryd.prog 24 #[.agg cs.toArray] w fun e w' => e = .returned (.tuple #[]) ∧ Kp lo hi w w' := by
  induction T using Tr.ind with
  | h k x d ns ks ih =>
  intro lo hi cs w hO hhi hW
  have hSm := small_of hW
  have h5 : ∀ {Ks : List (List Value)}, Ks.length = ks.length → (∀ (i : Nat) (t : Tr) (c : List Value), ks[i]? = some t → Ks[i]? = some c → ∃ lo hi, Own w lo hi t c) → ∀ c ∈ Ks, c.length = 5 := fun hl hK c hc => by
    obtain ⟨i, hi, rfl⟩ := List.getElem_of_mem hc
    obtain ⟨lo, hi, h⟩ := hK i ks[i] _ (List.getElem?_eq_getElem (by omega)) (List.getElem?_eq_getElem hi)
    exact h.lies.length
  cases hO with
  | mk _ _ _ _ _ _ _ vd vn vk Ks L H hl hd hn hk hin hne hdn hK hLH hdis =>
  have h5' := h5 hl (fun i t c h1 h2 => ⟨_, _, hK i t c h1 h2⟩)
  clear h5
  obtain ⟨ad, cd, rfl, hcd⟩ := owns_slice hd
  obtain ⟨an, cn, rfl, hcn⟩ := owns_slice hn
  obtain ⟨ak, ck, rfl, hck⟩ := owns_slice hk
  have hds := hSm.d
  have hns := hSm.n
  have hkl := hSm.k
  obtain ⟨N, hN⟩ : ∃ N, ks.length = N := ⟨_, rfl⟩
  have HN := hide hN
  have HR := hide (And.intro hl (And.intro hK (And.intro hLH (And.intro hdis (And.intro h5' hSm.t)))))
  have HO0 := hide (And.intro hd (And.intro hn (And.intro hk (And.intro hin (And.intro hne hdn)))))
  have HIH := hide ih
  rw [hN] at hkl hck
  rw [hN]
  obtain ⟨D, hD⟩ : ∃ D, d.size = D := ⟨_, rfl⟩
  obtain ⟨M, hM⟩ : ∃ M, ns.length = M := ⟨_, rfl⟩
  have HD := hide (And.intro hD hM)
  rw [hD] at hds hcd
  rw [hM] at hns hcn
  rw [hD, hM]
  have HO := HO0
  rw [hD, hM, hN] at HO
  clear HO0
  have hB0 : SpW w (w.alloc (.cells #[.int .i64 k, .bool x, .slice ad D cd, .slice an M cn, .slice ak N ck] 26)) lo hi (.int .i64 k) (.bool x) (.slice ad D cd) (.slice an M cn) (.slice ak N ck) :=
    ⟨Kp.of_below ((Below.refl _ _).alloc (Nat.le_refl _) _), by simp, bx_new _ _ _ _ _ _⟩
  have HB0 := hide hB0
  have Hd0 : Hid (Bytes5 lo (w.alloc (.cells #[.int .i64 k, .bool x, .slice ad D cd, .slice an M cn, .slice ak N ck] 26)) (.slice ad D cd) D) := by
    rw [hD] at hd
    refine ⟨_, hd.alloc _, by rw [byteVals_length, hD], fun u hu => ?_⟩
    unfold byteVals at hu
    obtain ⟨b, _, rfl⟩ := List.mem_map.1 hu
    exact ⟨_, rfl⟩
  clear hd hn hk hin hne hdn hK hLH hdis hl ih hSm h5' hN hD hM hB0 hW
  go_enter Tryd.func24, Tryd.ntmps24
  go_wp2_with fail
  go_loopw [2] (fun vi wr => ∃ i : Nat, i ≤ D ∧ vi = .int .i64 (i : Int) ∧ SpW w wr lo hi (.int .i64 k) (.bool x) (.slice ad D cd) (.slice an M cn) (.slice ak N ck) ∧ Bytes5 lo wr (.slice ad D cd) D ∧ ∀ b, b < hi → (Value.slice ad D cd).ownBlock ≠ some b → wr.heap[b]? = w.heap[b]?) (fun vi _ => D - (intOf vi).toNat)
  case atStart => exact ⟨0, by omega, rfl, unhide HB0, unhide Hd0, fun b hb _ => Below.heap_alloc _ _ _ (by omega)⟩
  case round =>
    obtain ⟨i, hiD, rfl, hB, hd, ho⟩ := hrel
    have hs := hB.s
    obtain ⟨z0, z1, z2, z3, z4⟩ := hB.b.cells
    by_cases hlt : i < D
    · obtain ⟨g, rfl⟩ : ∃ g, ad = some ⟨g, 0, none⟩ := by obtain ⟨xs, h, _⟩ := hd; exact own_at h (by omega)
      obtain ⟨b, y0, yf⟩ := hd.at hlt
      have hgl : lo ≤ g ∧ g < hi := ⟨(owns_lt (unhide HO).1 g rfl).1, (unhide HO).2.2.2.1 g (.inl rfl)⟩
      have HB := hide (And.intro hB (And.intro hd ho))
      clear hB hd ho
      go_wp2_with fail
      go_region
      go_wp2_with fail
      go_roundw
      case rel =>
        obtain ⟨hB, hd, ho⟩ := unhide HB
        refine ⟨i + 1, by omega, by go_num, (hB.set i _ hgl hhi).drew, hd.set i _, fun b' hb' hne => ?_⟩
        show (wr.setCell _ _).heap[b']? = _
        rw [set_other _ _ _ _ _ (fun e => hne (by rw [e]; rfl))]
        exact ho b' hb' hne
      case measure => simp [intOf]; try omega
    · obtain rfl : D = i := by omega
      have HB := hide hB
      have HO1 := hide ho
      have Hn0 : Hid (Strs9 lo wr (.slice an M cn) M) := by
        obtain ⟨hd', hn', hk', hin', hne', hdn'⟩ := unhide HO
        exact ⟨ns.map .string, owns_same (base' := lo) hn' (fun g hg => ho g (hin' g (.inr (.inl hg))) (hdn' g hg)) (fun _ _ h => h), by rw [List.length_map]; exact (unhide HD).2⟩
      clear hB hd ho Hd0 HB0
      go_wp2_with fail
      go_loopw [3] (fun vi wr' => ∃ i : Nat, i ≤ M ∧ vi = .int .i64 (i : Int) ∧ SpW w wr' lo hi (.int .i64 k) (.bool x) (.slice ad D cd) (.slice an M cn) (.slice ak N ck) ∧ Strs9 lo wr' (.slice an M cn) M ∧ ∀ b, b < hi → (Value.slice ad D cd).ownBlock ≠ some b → (Value.slice an M cn).ownBlock ≠ some b → wr'.heap[b]? = w.heap[b]?) (fun vi _ => M - (intOf vi).toNat)
      case atStart => exact ⟨0, by omega, rfl, unhide HB, unhide Hn0, fun b hb h1 _ => unhide HO1 b hb h1⟩
      case round =>
        obtain ⟨i, hiM, rfl, hB, hd, ho⟩ := hrel
        have hs := hB.s
        obtain ⟨z0, z1, z2, z3, z4⟩ := hB.b.cells
        by_cases hlt : i < M
        · obtain ⟨g, rfl⟩ : ∃ g, an = some ⟨g, 0, none⟩ := by obtain ⟨xs, h, _⟩ := hd; exact own_at h (by omega)
          obtain ⟨⟨b, y0⟩, yf⟩ := hd.fr hlt
          have hgl : lo ≤ g ∧ g < hi := ⟨(owns_lt (unhide HO).2.1 g rfl).1, (unhide HO).2.2.2.1 g (.inr (.inl rfl))⟩
          have HB2 := hide (And.intro hB (And.intro hd ho))
          clear hB hd ho
          go_wp2_with fail
          go_roundw
          case rel =>
            obtain ⟨hB, hd, ho⟩ := unhide HB2
            refine ⟨i + 1, by omega, by go_num, hB.set i _ hgl hhi, hd.set i _, fun b' hb' hne1 hne => ?_⟩
            rw [set_other _ _ _ _ _ (fun e => hne (by rw [e]; rfl))]
            exact ho b' hb' hne1 hne
          case measure => simp [intOf]; try omega
        · obtain rfl : M = i := by omega
          have HB2 := hide hB
          have HO2 := hide ho
          have Hk0 : Hid (Kids26 lo wr (.slice ak N ck) N 0 Ks.flatten) := by
            obtain ⟨hd', hn', hk', hin', hne', hdn'⟩ := unhide HO
            exact ⟨_, owns_same (base' := lo) hk' (fun g hg => ho g (hin' g (.inr (.inr hg))) (hne' g hg).1 (hne' g hg).2) (fun _ _ h => h), rfl, fun _ _ => rfl⟩
          have Hj0 : Hid (∀ (j : Nat) (t : Tr) (c : List Value), 0 ≤ j → ks[j]? = some t → Ks[j]? = some c → Own wr (L j) (H j) t c) := fun j t c _ h1 h2 => by
            obtain ⟨hl, hK, hLH, hdis, h5, hwt⟩ := unhide HR
            have hj := (List.getElem?_eq_some_iff.1 h1).1
            obtain ⟨q1, q2, q3⟩ := hLH j hj
            refine (hK j t c h1 h2).same (fun b hb1 hb2 => ho b (by omega) (fun e => ?_) (fun e => ?_))
            · have := q3 b (.inl (by rw [← (unhide HD).1] at e; exact e)); omega
            · have := q3 b (.inr (.inl (by rw [← (unhide HD).2] at e; exact e))); omega
          clear hB hd ho HB HO1 Hn0
          go_wp2_with fail
          go_loopw [4] (fun vi wr' => ∃ i : Nat, i ≤ N ∧ vi = .int .i64 (i : Int) ∧ SpW w wr' lo hi (.int .i64 k) (.bool x) (.slice ad D cd) (.slice an M cn) (.slice ak N ck) ∧ Kids26 lo wr' (.slice ak N ck) N i Ks.flatten ∧ Hid (∀ (j : Nat) (t : Tr) (c : List Value), i ≤ j → ks[j]? = some t → Ks[j]? = some c → Own wr' (L j) (H j) t c)) (fun vi _ => N - (intOf vi).toNat)
          case atStart => exact ⟨0, by omega, rfl, unhide HB2, unhide Hk0, unhide Hj0⟩
          case round =>
            obtain ⟨i, hiN, rfl, hB, hk, hj⟩ := hrel
            have hs := hB.s
            obtain ⟨z0, z1, z2, z3, z4⟩ := hB.b.cells
            by_cases hlt : i < N
            · obtain ⟨hl, hK, hLH, hdis, h5, hwt⟩ := unhide HR
              have hik : i < ks.length := by rw [unhide HN]; exact hlt
              have hiK : i < Ks.length := by rw [hl]; exact hik
              have hO := unhide hj i ks[i] Ks[i] (Nat.le_refl _) (List.getElem?_eq_getElem hik) (List.getElem?_eq_getElem hiK)
              obtain ⟨g, rfl⟩ : ∃ g, ak = some ⟨g, 0, none⟩ := by obtain ⟨xs, h, _⟩ := hk; exact own_at h (by omega)
              have hcs := kid_own hk h5 (by rw [hl]; exact unhide HN) (List.getElem?_eq_getElem hiK)
              generalize hc : Ks[i] = c at *
              obtain ⟨k', x', b1, n1, c1, b2, n2, c2, b3, n3, c3, rfl⟩ := hO.lies.form
              obtain ⟨y0, e0⟩ := hcs 0 (by omega)
              obtain ⟨y1, e1⟩ := hcs 1 (by omega)
              obtain ⟨y2, e2⟩ := hcs 2 (by omega)
              obtain ⟨y3, e3⟩ := hcs 3 (by omega)
              obtain ⟨y4, e4⟩ := hcs 4 (by omega)
              simp only [List.getElem?_cons_zero, List.getElem?_cons_succ, Nat.add_zero] at y0 y1 y2 y3 y4 e0
              obtain ⟨q1, q2, q3⟩ := hLH i hik
              have hgl : lo ≤ g ∧ g < hi := ⟨(owns_lt (unhide HO).2.2.1 g rfl).1, (unhide HO).2.2.2.1 g (.inr (.inr rfl))⟩
              have HI := hide (unhide HIH ks[i] (List.getElem_mem hik) (L i) (H i) _ wr hO (by omega) (hwt _ (List.getElem_mem hik)))
              have HB3 := hide (And.intro hB (And.intro hk hj))
              have hgo : g < L i ∨ H i ≤ g := q3 g (.inr (.inr rfl))
              clear hB hk hj hO hcs hc hK hLH hdis h5 hwt hl hik hiK q3
              go_wp2_with fail
              refine (unhide HI).mono ?_
              rintro e w5 ⟨rfl, hk5⟩
              obtain ⟨hB, hk, hj⟩ := unhide HB3
              have hs5 := hk5.size
              have hB5 : SpW w w5 lo hi (.int .i64 k) (.bool x) (.slice ad D cd) (.slice an M cn) (.slice (some ⟨g, 0, none⟩) N ck) := ⟨hB.k.trans (hk5.mono q1 q2), by omega, hB.b.of (hk5.block _ (by omega) (.inr (by omega)))⟩
              have hk5' : Kids26 lo w5 (.slice (some ⟨g, 0, none⟩) N ck) N i Ks.flatten := by
                obtain ⟨xs, h1, h2⟩ := hk
                exact ⟨xs, hk5.row h1 (fun b hb => by cases hb; exact hgo), h2⟩
              obtain ⟨t0, t1, t2, t3, t4⟩ := hB5.b.cells
              have hlw5 : w.heap.size < w5.heap.size := by omega
              have HB5 := hide (And.intro hB5 (And.intro hk5' hk5))
              have e0' : w5.frozen? ⟨g, i * 5, none⟩ = false := by obtain ⟨xs, h1, h2⟩ := hk5'; exact h1.frozenAt _
              have e1' : w5.frozen? ⟨g, i * 5 + 1, none⟩ = false := by obtain ⟨xs, h1, h2⟩ := hk5'; exact h1.frozenAt _
              have e2' : w5.frozen? ⟨g, i * 5 + 2, none⟩ = false := by obtain ⟨xs, h1, h2⟩ := hk5'; exact h1.frozenAt _
              have e3' : w5.frozen? ⟨g, i * 5 + 3, none⟩ = false := by obtain ⟨xs, h1, h2⟩ := hk5'; exact h1.frozenAt _
              have e4' : w5.frozen? ⟨g, i * 5 + 4, none⟩ = false := by obtain ⟨xs, h1, h2⟩ := hk5'; exact h1.frozenAt _
              obtain ⟨⟨v0, x0⟩, ⟨v1, x1⟩, ⟨v2, x2⟩, ⟨v3, x3⟩, ⟨v4, x4⟩⟩ : (∃ v, w5.cell? ⟨g, i * 5, none⟩ = some v) ∧ (∃ v, w5.cell? ⟨g, i * 5 + 1, none⟩ = some v) ∧ (∃ v, w5.cell? ⟨g, i * 5 + 2, none⟩ = some v) ∧ (∃ v, w5.cell? ⟨g, i * 5 + 3, none⟩ = some v) ∧ (∃ v, w5.cell? ⟨g, i * 5 + 4, none⟩ = some v) := by
                obtain ⟨xs, h1, h2, h3⟩ := hk5'
                have hx : xs.length = N * 5 := h1.1
                have hh : ∀ j, j < N * 5 → ∃ v, w5.cell? ⟨g, j, none⟩ = some v := fun j hj => ⟨xs[j], by rw [h1.cellAt j hj, List.getElem?_eq_getElem (by omega)]⟩
                exact ⟨hh _ (by omega), hh _ (by omega), hh _ (by omega), hh _ (by omega), hh _ (by omega)⟩
              clear hB hk hj hB5 hk5' hk5 y0 y1 y2 y3 y4 e0 e1 e2 e3 e4 z0 z1 z2 z3 z4 HI
              go_wp2_with fail
              go_roundw
              case rel =>
                obtain ⟨hB5, hk5', hk5⟩ := unhide HB5
                obtain ⟨-, -, hj⟩ := unhide HB3
                obtain ⟨hl, hK, hLH, hdis, h5, hwt⟩ := unhide HR
                refine ⟨i + 1, by omega, by go_num, ((((hB5.set _ _ hgl hhi).set _ _ hgl hhi).set _ _ hgl hhi).set _ _ hgl hhi).set _ _ hgl hhi, ((((hk5'.set (i + 1) _ _ (by omega) (by omega)).set (i + 1) _ _ (by omega) (by omega)).set (i + 1) _ _ (by omega) (by omega)).set (i + 1) _ _ (by omega) (by omega)).set (i + 1) _ _ (by omega) (by omega), fun j t c hij h1 h2 => ?_⟩
                have hjk := (List.getElem?_eq_some_iff.1 h1).1
                have hLj := (hLH j hjk).2.2 g (.inr (.inr rfl))
                have hij' := hdis i j (by omega) hjk
                refine (unhide hj j t c (by omega) h1 h2).same (fun b hb1 hb2 => ?_)
                have hjh := (hLH j hjk).2.1
                rw [set_other _ _ _ _ _ (by omega), set_other _ _ _ _ _ (by omega), set_other _ _ _ _ _ (by omega), set_other _ _ _ _ _ (by omega), set_other _ _ _ _ _ (by omega)]
                exact hk5.block b (by omega) (.inr (by omega))
              case measure => simp [intOf]; try omega
            · obtain rfl : N = i := by omega
              have HB3 := hide hB
              clear hB hk hj
              go_wp2_with fail
              exact bodyPost_end (v := .tuple #[]) (by simp [results, Tryd.results24, go_sem]) rfl ⟨rfl, (unhide HB3).k⟩
end Go.Proofs.YthfjofmfiklegaaDoor
