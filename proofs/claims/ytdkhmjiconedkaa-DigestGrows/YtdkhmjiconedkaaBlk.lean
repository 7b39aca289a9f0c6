/- The document's own block. -/
import Derived.Test.YtdkhmjiconedkaaFold
import Derived.Deep.RegionHeld3
namespace Go.Proofs.Ytdkhmjiconedkaa
open Go.RowKit Go.Great

theorem cell_set_other (w : World) (b i j : Nat) (v : Value) (h : i ≠ j) : (w.setCell ⟨b, i, none⟩ v).cell? ⟨b, j, none⟩ = w.cell? ⟨b, j, none⟩ := by
  refine World.cell?_setCell_other _ _ _ _ (fun e => ?_)
  simp_all
theorem wrap_add (a b : Nat) : IntKind.u32.wrap ((a : Int) + (b : Int)) = ((Sha.add a b : Nat) : Int) := by rw [IntKind.wrap_u32]; exact f_add a b
theorem row_cell32 (w : World) (b : Nat) (l : List Nat) (h : rowOf w b = E32 l) (i : Nat) (hi : i < l.length) : w.cell? ⟨b, i, none⟩ = some (.int .u32 ((Sha.nth l i : Nat) : Int)) :=
  cell_row _ _ _ _ (by rw [h]; exact E32_get _ _ hi)
theorem block_plus (s : Sha.St) (p : List Nat) : Sha.block s p = Sha.plus s (Sha.rounds s (Sha.sched p) 64) := by unfold Sha.block; rfl
/-- The cells that one of the document's rounds reads. -/
structure R3 (wr : World) (kb z k : Nat) (t : Sha.St) (kk ss : Nat) : Prop where
  ck : wr.cell? ⟨kb, k, none⟩ = some (.int .u32 (kk : Int))
  cs : wr.cell? ⟨z + 1 + 1, k, none⟩ = some (.int .u32 (ss : Int))
  c0 : wr.cell? ⟨z + 1 + 1 + 1, 0, none⟩ = some (.int .u32 (t.a : Int))
  c1 : wr.cell? ⟨z + 1 + 1 + 1, 1, none⟩ = some (.int .u32 (t.b : Int))
  c2 : wr.cell? ⟨z + 1 + 1 + 1, 2, none⟩ = some (.int .u32 (t.c : Int))
  c3 : wr.cell? ⟨z + 1 + 1 + 1, 3, none⟩ = some (.int .u32 (t.d : Int))
  c4 : wr.cell? ⟨z + 1 + 1 + 1, 4, none⟩ = some (.int .u32 (t.e : Int))
  c5 : wr.cell? ⟨z + 1 + 1 + 1, 5, none⟩ = some (.int .u32 (t.f : Int))
  c6 : wr.cell? ⟨z + 1 + 1 + 1, 6, none⟩ = some (.int .u32 (t.g : Int))
  c7 : wr.cell? ⟨z + 1 + 1 + 1, 7, none⟩ = some (.int .u32 (t.h : Int))
theorem R3.drews {wr : World} {kb z k : Nat} {t : Sha.St} {kk ss : Nat} (h : R3 wr kb z k t kk ss) (n : Nat) : R3 (wr.drewN n) kb z k t kk ss :=
  ⟨h.ck, h.cs, h.c0, h.c1, h.c2, h.c3, h.c4, h.c5, h.c6, h.c7⟩
theorem R3.mk' {wr : World} {kb z k : Nat} {t : Sha.St} {kk ss : Nat} (ck : wr.cell? ⟨kb, k, none⟩ = some (.int .u32 (kk : Int))) (cs : wr.cell? ⟨z + 1 + 1, k, none⟩ = some (.int .u32 (ss : Int))) (h : rowOf wr (z + 1 + 1 + 1) = E32 t.list) : R3 wr kb z k t kk ss := by
  have e : ∀ i, i < 8 → wr.cell? ⟨z + 1 + 1 + 1, i, none⟩ = some (.int .u32 ((Sha.nth t.list i : Nat) : Int)) := fun i hi => row_cell32 _ _ _ h i (by simpa using hi)
  exact ⟨ck, cs, e 0 (by omega), e 1 (by omega), e 2 (by omega), e 3 (by omega), e 4 (by omega), e 5 (by omega), e 6 (by omega), e 7 (by omega)⟩
theorem fits_setRow_at (w : World) (n k : Nat) (c : Array Value) (h : fits w n k = true) (hc : c.size = k) : fits (w.setRow n c) n k = true := by
  obtain ⟨cs, t, e, -, -⟩ := fits_some h
  unfold fits; rw [setRow_heap w n cs c t _ e]; simp [hc]
set_option linter.unusedSimpArgs false in
set_option maxRecDepth 20000 in
set_option maxHeartbeats 2000000 in
theorem block_any (s : Sha.St) (b o cap kb : Nat) (p : List Nat) (w : World) (hs : s.ok) (hb : Sha.Bytes p) (_hcap : 64 ≤ cap) (hB : b < w.heap.size) (hK : kb < w.heap.size) (hk : rowOf w kb = E32 Sha.K)
    (hc : ∀ i, i < 64 → w.cell? ⟨b, o + i, none⟩ = some (.int .u8 ((Sha.nth p i : Nat) : Int))) :
    Calls Try.prog 30 #[.agg (E32 s.list), .slice (some ⟨b, o, none⟩) 64 cap, .pointer (some ⟨kb, 0, none⟩)] w fun e w' => e = .returned (.agg (E32 (Sha.block s p).list)) ∧ Below w.heap.size w w' := by
  obtain ⟨F, hF⟩ : ∃ F : Nat → List Nat, F = fun k => pad64 (Sha.first p k) := ⟨_, rfl⟩
  have h0 : Z54 = E32 (F 0) := by rw [hF]; rfl
  have hlen : ∀ k, k ≤ 16 → (F k).length = 64 := fun k hk => by rw [hF]; exact pad64_length _ (by rw [Sha.first_length]; omega)
  have HS : Hid (∀ k, k < 16 → (F k).set k (Sha.wordAt p k) = F (k + 1)) := fun k hk => by rw [hF]; exact first_pad p k hk
  have HE : Hid (F 16 = pad64 (Sha.first p 16)) := by rw [hF]; exact rfl
  have HL := hide hlen
  have H0 := hide h0
  have HC := hide hc
  generalize hR : Sha.block s p = R at *
  have HR := hide hR
  clear hF h0 hlen hc hR
  have hs8 := list_eight s
  go_enter Try.func30, Try.ntmps30
  go_wp2
  go_loopw [8] (fun c wr => ∃ k n : Nat, k ≤ 16 ∧ c = .int .i64 (k : Int) ∧ wr = (((w.alloc (.cells (E32 s.list) 50)).alloc (.cells #[.int .u32 0, .int .u32 0, .int .u32 0, .int .u32 0, .int .u32 0, .int .u32 0, .int .u32 0, .int .u32 0] 50)).alloc (.cells (E32 (F k)) 54)).drewN n) (fun c _ => 16 - (intOf c).toNat)
  case atStart => exact ⟨0, 0, by omega, rfl, by rw [← unhide H0]; rfl⟩
  case round =>
    obtain ⟨k, n, hk', rfl, rfl⟩ := hrel
    have hpl := unhide HL k hk'
    by_cases hlt : k < 16
    · have c0 := unhide HC (4 * k) (by omega)
      have c1 := unhide HC (4 * k + 1) (by omega)
      have c2 := unhide HC (4 * k + 2) (by omega)
      have c3 := unhide HC (4 * k + 3) (by omega)
      have l0 := hb.at (4 * k)
      have l1 := hb.at (4 * k + 1)
      have l2 := hb.at (4 * k + 2)
      have l3 := hb.at (4 * k + 3)
      have hk64 : k < 64 := by omega
      have hB1 : b < w.heap.size + 1 := by omega
      have hB2 : b < w.heap.size + 1 + 1 := by omega
      go_wp2
      go_region
      go_wp2
      go_roundw
      case rel => exact ⟨k + 1, n + 1, by omega, by go_num, by rw [or_word _ _ _ _ l0 l1 l2 l3, E32_set, ← unhide HS k hlt]; rfl⟩
      case measure => simp [intOf]; omega
    · have hk16 : k = 16 := by omega
      subst hk16
      obtain ⟨G, hG⟩ : ∃ G : Nat → List Nat, G = fun i => pad64 (Sha.more (Sha.first p 16) (i - 16)) := ⟨_, rfl⟩
      have hG16 : F 16 = G 16 := by rw [unhide HE, hG]; rfl
      have hglen : ∀ i, i ≤ 64 → (G i).length = 64 := fun i hi => by rw [hG]; exact pad64_length _ (by rw [Sha.more_length, Sha.first_length]; omega)
      have hgw : ∀ i j, 16 ≤ i → j < i → Sha.nth (G i) j < 4294967296 := fun i j h1 h2 => by
        rw [hG]; simp only; rw [pad64_get _ _ (by rw [Sha.more_length, Sha.first_length]; omega)]; exact (Sha.more_words (Sha.first_words hb 16) (i - 16)).at j
      have HGS : Hid (∀ i, 16 ≤ i → i < 64 → (G i).set i (Sha.next (G i) i) = G (i + 1)) := fun i h1 h2 => by
        rw [hG]; simp only
        have := more_pad (Sha.first p 16) (Sha.first_length p 16) (i - 16) (by omega)
        rw [show 16 + (i - 16) = i by omega, show i - 16 + 1 = i + 1 - 16 by omega] at this
        have e : ∀ j, j < i → Sha.nth (pad64 (Sha.more (Sha.first p 16) (i - 16))) j = Sha.nth (Sha.more (Sha.first p 16) (i - 16)) j := fun j hj => pad64_get _ _ (by rw [Sha.more_length, Sha.first_length]; omega)
        rw [← this]; unfold Sha.next
        rw [e _ (by omega), e _ (by omega), e _ (by omega), e _ (by omega)]
      have HGE : Hid (G 64 = Sha.sched p) := by rw [hG]; exact pad64_full _ (Sha.sched_length p)
      have HGL := hide hglen
      have HGW := hide hgw
      rw [hG16, show ((16 : Nat) : Int) = 16 from rfl]
      clear hG hG16 hpl hlt hglen hgw HS HE HL H0 HC
      go_wp2
      go_loopw [9] (fun c wr => ∃ i n : Nat, 16 ≤ i ∧ i ≤ 64 ∧ c = .int .i64 (i : Int) ∧ wr = (((w.alloc (.cells (E32 s.list) 50)).alloc (.cells #[.int .u32 0, .int .u32 0, .int .u32 0, .int .u32 0, .int .u32 0, .int .u32 0, .int .u32 0, .int .u32 0] 50)).alloc (.cells (E32 (G i)) 54)).drewN n) (fun c _ => 64 - (intOf c).toNat)
      case atStart => exact ⟨16, n, by omega, by omega, rfl, rfl⟩
      case round =>
        obtain ⟨i, m, hi1, hi2, rfl, rfl⟩ := hrel
        have hpl := unhide HGL i hi2
        by_cases hlt : i < 64
        · have l15 := unhide HGW i (i - 15) hi1 (by omega)
          have l2 := unhide HGW i (i - 2) hi1 (by omega)
          have e15 : IntKind.i64.wrap ((i : Int) - 15) = ((i - 15 : Nat) : Int) := wrap_sub i 15 (by omega) (by omega)
          have e2 : IntKind.i64.wrap ((i : Int) - 2) = ((i - 2 : Nat) : Int) := wrap_sub i 2 (by omega) (by omega)
          have e16 : IntKind.i64.wrap ((i : Int) - 16) = ((i - 16 : Nat) : Int) := wrap_sub i 16 (by omega) (by omega)
          have e7 : IntKind.i64.wrap ((i : Int) - 7) = ((i - 7 : Nat) : Int) := wrap_sub i 7 (by omega) (by omega)
          have b15 : i - 15 < 64 := by omega
          have b2 : i - 2 < 64 := by omega
          have b16 : i - 16 < 64 := by omega
          have b7 : i - 7 < 64 := by omega
          have n16 : i ≠ i - 16 := by omega
          have n7 : i ≠ i - 7 := by omega
          go_wp2
          obtain ⟨W, hWe⟩ : ∃ W, (((w.alloc (.cells (E32 s.list) 50)).alloc (.cells #[.int .u32 0, .int .u32 0, .int .u32 0, .int .u32 0, .int .u32 0, .int .u32 0, .int .u32 0, .int .u32 0] 50)).alloc (.cells (E32 (G i)) 54)).drewN m = W := ⟨_, rfl⟩
          have hS16 : W.cell? ⟨w.heap.size + 1 + 1, i - 16, none⟩ = some (.int .u32 ((Sha.nth (G i) (i - 16) : Nat) : Int)) := by rw [← hWe]; simp [go_sem, hpl, b16]
          have hS7 : W.cell? ⟨w.heap.size + 1 + 1, i - 7, none⟩ = some (.int .u32 ((Sha.nth (G i) (i - 7) : Nat) : Int)) := by rw [← hWe]; simp [go_sem, hpl, b7]
          have hSi : W.cell? ⟨w.heap.size + 1 + 1, i, none⟩ = some (.int .u32 ((Sha.nth (G i) i : Nat) : Int)) := by rw [← hWe]; simp [go_sem, hpl, hlt]
          have hfzi : W.frozen? ⟨w.heap.size + 1 + 1, i, none⟩ = false := by rw [← hWe]; simp [go_sem]
          have hst : ∀ V : Nat, (W.setCell ⟨w.heap.size + 1 + 1, i, none⟩ (.int .u32 (V : Int))).drew = (((w.alloc (.cells (E32 s.list) 50)).alloc (.cells #[.int .u32 0, .int .u32 0, .int .u32 0, .int .u32 0, .int .u32 0, .int .u32 0, .int .u32 0, .int .u32 0] 50)).alloc (.cells (E32 ((G i).set i V)) 54)).drewN (m + 1) := fun V => by
            rw [← hWe, drewN_setCell, World.setCell_alloc_at _ _ _ _ _ (by simp), E32_set]; rfl
          have HST := hide hst
          have hnx := unhide HGS i hi1 hlt
          unfold Sha.next at hnx
          clear hst
          have HWe := hide hWe
          rw [hWe]
          generalize hx15 : Sha.nth (G i) (i - 15) = x at *
          generalize hy2 : Sha.nth (G i) (i - 2) = y at *
          generalize ha16 : Sha.nth (G i) (i - 16) = A16 at *
          generalize ha7 : Sha.nth (G i) (i - 7) = A7 at *
          have HX := hide hx15
          have HY := hide hy2
          have HA16 := hide ha16
          have HA7 := hide ha7
          have HNX := hide hnx
          clear hnx
          clear hWe hx15 hy2 ha16 ha7 n16 n7
          refine wp_region_noPanic ?_
          refine wp_region_held_drew (S := fun w' => w'.cell? ⟨w.heap.size + 1 + 1, i - 16, none⟩ = some (.int .u32 ((A16 : Nat) : Int)) ∧ w'.cell? ⟨w.heap.size + 1 + 1, i - 7, none⟩ = some (.int .u32 ((A7 : Nat) : Int))) (by kernel_rfl) ⟨hS16, hS7⟩ (fun hHeld => ?_)
          refine wpAnyH_take (i := 0) (v := .int .i64 (i : Int)) rfl (by kernel_rfl) (by kernel_rfl) (by kernel_rfl) (fun _ _ _ h => h) (Or.inl ⟨by rfl, ?_⟩) hHeld ?_
          · rintro w' ⟨q1, q2⟩; go_simp; all_goals (first | (intro hx; omega) | exact wrap_add _ _)
          try simp only [Act.put, List.getElem_toArray, List.getElem_cons_zero, List.getElem_cons_succ, List.setIfInBounds_toArray, List.set_cons_zero, List.set_cons_succ]
          refine wpAnyH_take (i := 1) (v := .int .i64 (i : Int)) rfl (by kernel_rfl) (by kernel_rfl) (by kernel_rfl) (fun _ _ _ h => h) (Or.inl ⟨by rfl, ?_⟩) hHeld ?_
          · rintro w' ⟨q1, q2⟩; go_simp; all_goals (first | (intro hx; omega) | exact wrap_add _ _)
          try simp only [Act.put, List.getElem_toArray, List.getElem_cons_zero, List.getElem_cons_succ, List.setIfInBounds_toArray, List.set_cons_zero, List.set_cons_succ]
          refine wpAnyH_take (i := 14) (v := .int .i64 (i : Int)) rfl (by kernel_rfl) (by kernel_rfl) (by kernel_rfl) (fun _ _ _ h => h) (Or.inl ⟨by rfl, ?_⟩) hHeld ?_
          · rintro w' ⟨q1, q2⟩; go_simp; all_goals (first | (intro hx; omega) | exact wrap_add _ _)
          try simp only [Act.put, List.getElem_toArray, List.getElem_cons_zero, List.getElem_cons_succ, List.setIfInBounds_toArray, List.set_cons_zero, List.set_cons_succ]
          refine wpAnyH_take (i := 2) (v := .int .i64 ((i - 16 : Nat) : Int)) rfl (by kernel_rfl) (by kernel_rfl) (by kernel_rfl) (fun _ _ _ h => h) (Or.inl ⟨by rfl, ?_⟩) hHeld ?_
          · rintro w' ⟨q1, q2⟩; go_simp; all_goals (first | (intro hx; omega) | exact wrap_add _ _)
          try simp only [Act.put, List.getElem_toArray, List.getElem_cons_zero, List.getElem_cons_succ, List.setIfInBounds_toArray, List.set_cons_zero, List.set_cons_succ]
          refine wpAnyH_take (i := 15) (v := .int .i64 ((i - 7 : Nat) : Int)) rfl (by kernel_rfl) (by kernel_rfl) (by kernel_rfl) (fun _ _ _ h => h) (Or.inl ⟨by rfl, ?_⟩) hHeld ?_
          · rintro w' ⟨q1, q2⟩; go_simp; all_goals (first | (intro hx; omega) | exact wrap_add _ _)
          try simp only [Act.put, List.getElem_toArray, List.getElem_cons_zero, List.getElem_cons_succ, List.setIfInBounds_toArray, List.set_cons_zero, List.set_cons_succ]
          refine wpAnyH_take (i := 3) (v := .pointer (some ⟨w.heap.size + 1 + 1, i - 16, none⟩)) rfl (by kernel_rfl) (by kernel_rfl) (by kernel_rfl) (fun _ _ _ h => h) (Or.inl ⟨by rfl, ?_⟩) hHeld ?_
          · rintro w' ⟨q1, q2⟩; go_simp; all_goals (first | (intro hx; omega) | exact wrap_add _ _)
          try simp only [Act.put, List.getElem_toArray, List.getElem_cons_zero, List.getElem_cons_succ, List.setIfInBounds_toArray, List.set_cons_zero, List.set_cons_succ]
          refine wpAnyH_take (i := 16) (v := .pointer (some ⟨w.heap.size + 1 + 1, i - 7, none⟩)) rfl (by kernel_rfl) (by kernel_rfl) (by kernel_rfl) (fun _ _ _ h => h) (Or.inl ⟨by rfl, ?_⟩) hHeld ?_
          · rintro w' ⟨q1, q2⟩; go_simp; all_goals (first | (intro hx; omega) | exact wrap_add _ _)
          try simp only [Act.put, List.getElem_toArray, List.getElem_cons_zero, List.getElem_cons_succ, List.setIfInBounds_toArray, List.set_cons_zero, List.set_cons_succ]
          refine wpAnyH_take (i := 4) (v := .int .u32 ((A16 : Nat) : Int)) rfl (by kernel_rfl) (by kernel_rfl) (by kernel_rfl) (fun _ _ _ h => h) (Or.inl ⟨by rfl, ?_⟩) hHeld ?_
          · rintro w' ⟨q1, q2⟩; go_simp; all_goals (first | (intro hx; omega) | exact wrap_add _ _)
          try simp only [Act.put, List.getElem_toArray, List.getElem_cons_zero, List.getElem_cons_succ, List.setIfInBounds_toArray, List.set_cons_zero, List.set_cons_succ]
          refine wpAnyH_take (i := 17) (v := .int .u32 ((A7 : Nat) : Int)) rfl (by kernel_rfl) (by kernel_rfl) (by kernel_rfl) (fun _ _ _ h => h) (Or.inl ⟨by rfl, ?_⟩) hHeld ?_
          · rintro w' ⟨q1, q2⟩; go_simp; all_goals (first | (intro hx; omega) | exact wrap_add _ _)
          try simp only [Act.put, List.getElem_toArray, List.getElem_cons_zero, List.getElem_cons_succ, List.setIfInBounds_toArray, List.set_cons_zero, List.set_cons_succ]
          refine wpAnyH_take (i := 5) (v := .int .u32 ((x : Nat) : Int)) rfl (by kernel_rfl) (by kernel_rfl) (by kernel_rfl) (fun _ _ _ h => h) (Or.inl ⟨by rfl, ?_⟩) hHeld ?_
          · rintro w' ⟨q1, q2⟩; go_simp; all_goals (first | (intro hx; omega) | exact wrap_add _ _)
          try simp only [Act.put, List.getElem_toArray, List.getElem_cons_zero, List.getElem_cons_succ, List.setIfInBounds_toArray, List.set_cons_zero, List.set_cons_succ]
          refine wpAnyH_take (i := 7) (v := .int .u32 ((x : Nat) : Int)) rfl (by kernel_rfl) (by kernel_rfl) (by kernel_rfl) (fun _ _ _ h => h) (Or.inl ⟨by rfl, ?_⟩) hHeld ?_
          · rintro w' ⟨q1, q2⟩; go_simp; all_goals (first | (intro hx; omega) | exact wrap_add _ _)
          try simp only [Act.put, List.getElem_toArray, List.getElem_cons_zero, List.getElem_cons_succ, List.setIfInBounds_toArray, List.set_cons_zero, List.set_cons_succ]
          refine wpAnyH_take (i := 10) (v := .int .u32 ((x : Nat) : Int)) rfl (by kernel_rfl) (by kernel_rfl) (by kernel_rfl) (fun _ _ _ h => h) (Or.inl ⟨by rfl, ?_⟩) hHeld ?_
          · rintro w' ⟨q1, q2⟩; go_simp; all_goals (first | (intro hx; omega) | exact wrap_add _ _)
          try simp only [Act.put, List.getElem_toArray, List.getElem_cons_zero, List.getElem_cons_succ, List.setIfInBounds_toArray, List.set_cons_zero, List.set_cons_succ]
          refine wpAnyH_take (i := 19) (v := .int .u32 ((y : Nat) : Int)) rfl (by kernel_rfl) (by kernel_rfl) (by kernel_rfl) (fun _ _ _ h => h) (Or.inl ⟨by rfl, ?_⟩) hHeld ?_
          · rintro w' ⟨q1, q2⟩; go_simp; all_goals (first | (intro hx; omega) | exact wrap_add _ _)
          try simp only [Act.put, List.getElem_toArray, List.getElem_cons_zero, List.getElem_cons_succ, List.setIfInBounds_toArray, List.set_cons_zero, List.set_cons_succ]
          refine wpAnyH_take (i := 21) (v := .int .u32 ((y : Nat) : Int)) rfl (by kernel_rfl) (by kernel_rfl) (by kernel_rfl) (fun _ _ _ h => h) (Or.inl ⟨by rfl, ?_⟩) hHeld ?_
          · rintro w' ⟨q1, q2⟩; go_simp; all_goals (first | (intro hx; omega) | exact wrap_add _ _)
          try simp only [Act.put, List.getElem_toArray, List.getElem_cons_zero, List.getElem_cons_succ, List.setIfInBounds_toArray, List.set_cons_zero, List.set_cons_succ]
          refine wpAnyH_take (i := 24) (v := .int .u32 ((y : Nat) : Int)) rfl (by kernel_rfl) (by kernel_rfl) (by kernel_rfl) (fun _ _ _ h => h) (Or.inl ⟨by rfl, ?_⟩) hHeld ?_
          · rintro w' ⟨q1, q2⟩; go_simp; all_goals (first | (intro hx; omega) | exact wrap_add _ _)
          try simp only [Act.put, List.getElem_toArray, List.getElem_cons_zero, List.getElem_cons_succ, List.setIfInBounds_toArray, List.set_cons_zero, List.set_cons_succ]
          refine wpAnyH_take (i := 11) (v := .int .u32 ((Sha.shr x 3 : Nat) : Int)) rfl (by kernel_rfl) (by kernel_rfl) (by kernel_rfl) (fun _ _ _ h => h) (Or.inl ⟨by rfl, ?_⟩) hHeld ?_
          · rintro w' ⟨q1, q2⟩; go_simp; all_goals (first | (intro hx; omega) | exact wrap_add _ _)
          try simp only [Act.put, List.getElem_toArray, List.getElem_cons_zero, List.getElem_cons_succ, List.setIfInBounds_toArray, List.set_cons_zero, List.set_cons_succ]
          refine wpAnyH_take (i := 25) (v := .int .u32 ((Sha.shr y 10 : Nat) : Int)) rfl (by kernel_rfl) (by kernel_rfl) (by kernel_rfl) (fun _ _ _ h => h) (Or.inl ⟨by rfl, ?_⟩) hHeld ?_
          · rintro w' ⟨q1, q2⟩; go_simp; all_goals (first | (intro hx; omega) | exact wrap_add _ _)
          try simp only [Act.put, List.getElem_toArray, List.getElem_cons_zero, List.getElem_cons_succ, List.setIfInBounds_toArray, List.set_cons_zero, List.set_cons_succ]
          refine wpAnyH_ready (rs := [6]) (by kernel_rfl) (by simp) (AllReadyH.cons rfl (fun K hK => ?_) AllReadyH.nil)
          simp only [List.getElem_toArray, List.getElem_cons_zero, List.getElem_cons_succ]
          go_simp
          refine (r_i _ _ _ l15 (by omega) (by omega)).mono ?_; rintro e w' ⟨rfl, rfl⟩
          refine hK.out _ _ hHeld (fun hHeld => ?_)
          clear hK K
          try simp only [Act.put, List.getElem_toArray, List.getElem_cons_zero, List.getElem_cons_succ, List.setIfInBounds_toArray, List.set_cons_zero, List.set_cons_succ]
          refine wpAnyH_ready (rs := [8]) (by kernel_rfl) (by simp) (AllReadyH.cons rfl (fun K hK => ?_) AllReadyH.nil)
          simp only [List.getElem_toArray, List.getElem_cons_zero, List.getElem_cons_succ]
          go_simp
          refine (r_i _ _ _ l15 (by omega) (by omega)).mono ?_; rintro e w' ⟨rfl, rfl⟩
          refine hK.out _ _ hHeld (fun hHeld => ?_)
          clear hK K
          try simp only [Act.put, List.getElem_toArray, List.getElem_cons_zero, List.getElem_cons_succ, List.setIfInBounds_toArray, List.set_cons_zero, List.set_cons_succ]
          refine wpAnyH_take (i := 9) (v := .int .u32 ((x32 (Sha.rotr x 7) (Sha.rotr x 18) : Nat) : Int)) rfl (by kernel_rfl) (by kernel_rfl) (by kernel_rfl) (fun _ _ _ h => h) (Or.inl ⟨by rfl, ?_⟩) hHeld ?_
          · rintro w' ⟨q1, q2⟩; go_simp; all_goals (first | (intro hx; omega) | exact wrap_add _ _)
          try simp only [Act.put, List.getElem_toArray, List.getElem_cons_zero, List.getElem_cons_succ, List.setIfInBounds_toArray, List.set_cons_zero, List.set_cons_succ]
          refine wpAnyH_take (i := 12) (v := .int .u32 ((Sha.sig0 x : Nat) : Int)) rfl (by kernel_rfl) (by kernel_rfl) (by kernel_rfl) (fun _ _ _ h => h) (Or.inl ⟨by rfl, ?_⟩) hHeld ?_
          · rintro w' ⟨q1, q2⟩; go_simp; all_goals (first | (intro hx; omega) | exact wrap_add _ _)
          try simp only [Act.put, List.getElem_toArray, List.getElem_cons_zero, List.getElem_cons_succ, List.setIfInBounds_toArray, List.set_cons_zero, List.set_cons_succ]
          refine wpAnyH_take (i := 13) (v := .int .u32 ((Sha.add A16 (Sha.sig0 x) : Nat) : Int)) rfl (by kernel_rfl) (by kernel_rfl) (by kernel_rfl) (fun _ _ _ h => h) (Or.inl ⟨by rfl, ?_⟩) hHeld ?_
          · rintro w' ⟨q1, q2⟩; go_simp; all_goals (first | (intro hx; omega) | exact wrap_add _ _)
          try simp only [Act.put, List.getElem_toArray, List.getElem_cons_zero, List.getElem_cons_succ, List.setIfInBounds_toArray, List.set_cons_zero, List.set_cons_succ]
          refine wpAnyH_take (i := 18) (v := .int .u32 ((Sha.add (Sha.add A16 (Sha.sig0 x)) A7 : Nat) : Int)) rfl (by kernel_rfl) (by kernel_rfl) (by kernel_rfl) (fun _ _ _ h => h) (Or.inl ⟨by rfl, ?_⟩) hHeld ?_
          · rintro w' ⟨q1, q2⟩; go_simp; all_goals (first | (intro hx; omega) | exact wrap_add _ _)
          try simp only [Act.put, List.getElem_toArray, List.getElem_cons_zero, List.getElem_cons_succ, List.setIfInBounds_toArray, List.set_cons_zero, List.set_cons_succ]
          refine wpAnyH_ready (rs := [20]) (by kernel_rfl) (by simp) (AllReadyH.cons rfl (fun K hK => ?_) AllReadyH.nil)
          simp only [List.getElem_toArray, List.getElem_cons_zero, List.getElem_cons_succ]
          go_simp
          refine (r_i _ _ _ l2 (by omega) (by omega)).mono ?_; rintro e w' ⟨rfl, rfl⟩
          refine hK.out _ _ hHeld (fun hHeld => ?_)
          clear hK K
          try simp only [Act.put, List.getElem_toArray, List.getElem_cons_zero, List.getElem_cons_succ, List.setIfInBounds_toArray, List.set_cons_zero, List.set_cons_succ]
          refine wpAnyH_ready (rs := [22]) (by kernel_rfl) (by simp) (AllReadyH.cons rfl (fun K hK => ?_) AllReadyH.nil)
          simp only [List.getElem_toArray, List.getElem_cons_zero, List.getElem_cons_succ]
          go_simp
          refine (r_i _ _ _ l2 (by omega) (by omega)).mono ?_; rintro e w' ⟨rfl, rfl⟩
          refine hK.out _ _ hHeld (fun hHeld => ?_)
          clear hK K
          try simp only [Act.put, List.getElem_toArray, List.getElem_cons_zero, List.getElem_cons_succ, List.setIfInBounds_toArray, List.set_cons_zero, List.set_cons_succ]
          refine wpAnyH_take (i := 23) (v := .int .u32 ((x32 (Sha.rotr y 17) (Sha.rotr y 19) : Nat) : Int)) rfl (by kernel_rfl) (by kernel_rfl) (by kernel_rfl) (fun _ _ _ h => h) (Or.inl ⟨by rfl, ?_⟩) hHeld ?_
          · rintro w' ⟨q1, q2⟩; go_simp; all_goals (first | (intro hx; omega) | exact wrap_add _ _)
          try simp only [Act.put, List.getElem_toArray, List.getElem_cons_zero, List.getElem_cons_succ, List.setIfInBounds_toArray, List.set_cons_zero, List.set_cons_succ]
          refine wpAnyH_take (i := 26) (v := .int .u32 ((Sha.sig1 y : Nat) : Int)) rfl (by kernel_rfl) (by kernel_rfl) (by kernel_rfl) (fun _ _ _ h => h) (Or.inl ⟨by rfl, ?_⟩) hHeld ?_
          · rintro w' ⟨q1, q2⟩; go_simp; all_goals (first | (intro hx; omega) | exact wrap_add _ _)
          try simp only [Act.put, List.getElem_toArray, List.getElem_cons_zero, List.getElem_cons_succ, List.setIfInBounds_toArray, List.set_cons_zero, List.set_cons_succ]
          refine wpAnyH_take (i := 27) (v := .int .u32 ((Sha.add (Sha.add (Sha.add A16 (Sha.sig0 x)) A7) (Sha.sig1 y) : Nat) : Int)) rfl (by kernel_rfl) (by kernel_rfl) (by kernel_rfl) (fun _ _ _ h => h) (Or.inl ⟨by rfl, ?_⟩) hHeld ?_
          · rintro w' ⟨q1, q2⟩; go_simp; all_goals (first | (intro hx; omega) | exact wrap_add _ _)
          try simp only [Act.put, List.getElem_toArray, List.getElem_cons_zero, List.getElem_cons_succ, List.setIfInBounds_toArray, List.set_cons_zero, List.set_cons_succ]
          refine wpAnyH_take (i := 28) (v := .pointer (some ⟨w.heap.size + 1 + 1, i, none⟩)) rfl (by kernel_rfl) (by kernel_rfl) (by kernel_rfl) (fun _ _ _ h => h) (Or.inl ⟨by rfl, ?_⟩) hHeld ?_
          · rintro w' ⟨q1, q2⟩; go_simp; all_goals (first | (intro hx; omega) | exact wrap_add _ _)
          try simp only [Act.put, List.getElem_toArray, List.getElem_cons_zero, List.getElem_cons_succ, List.setIfInBounds_toArray, List.set_cons_zero, List.set_cons_succ]
          refine wpAnyH_ready (rs := [29]) (by kernel_rfl) (by simp) (AllReadyH.cons rfl (fun K hK => ?_) AllReadyH.nil)
          simp only [List.getElem_toArray, List.getElem_cons_zero, List.getElem_cons_succ]
          go_simp
          refine hK.out _ _ ⟨?_, ?_⟩ (fun hHeld => ?_)
          · exact (cell_set_other W (w.heap.size + 1 + 1) i (i - 16) _ (by omega)).trans hS16
          · exact (cell_set_other W (w.heap.size + 1 + 1) i (i - 7) _ (by omega)).trans hS7
          clear hK K
          refine wpAnyH_done (by kernel_rfl) ?_ _
          refine NoPanic.normal ?_
          clear hS16 hS7 hSi hfzi hHeld
          go_wp2
          go_roundw
          case rel => exact ⟨i + 1, m + 1, by omega, by omega, by go_num, by rw [unhide HST, unhide HNX]⟩
          case measure => simp [intOf]; omega
        · obtain rfl : i = 64 := by omega
          obtain ⟨W3, hW3⟩ : ∃ W3, (((w.alloc (.cells (E32 s.list) 50)).alloc (.cells #[.int .u32 0, .int .u32 0, .int .u32 0, .int .u32 0, .int .u32 0, .int .u32 0, .int .u32 0, .int .u32 0] 50)).alloc (.cells (E32 (G 64)) 54)).drewN m = W3 := ⟨_, rfl⟩
          have hz3 : W3.heap.size = w.heap.size + 1 + 1 + 1 := by rw [← hW3]; simp [World.drewN]
          have hbl3 : Below w.heap.size w W3 := by rw [← hW3]; exact below_drews ((((Below.refl _ _).alloc (Nat.le_refl _) _).alloc (by simp) _).alloc (by simp; omega) _) _
          have hk3 : rowOf W3 kb = E32 Sha.K := by rw [below_rowOf hbl3 hK]; exact hk
          have hs3 : rowOf W3 (w.heap.size + 1 + 1) = E32 (G 64) := by rw [← hW3]; simp [go_sem]
          rw [unhide HGE] at hs3
          have hst3 : rowOf W3 w.heap.size = E32 s.list := by rw [← hW3]; simp [go_sem]
          have hf3 : fits W3 w.heap.size 8 = true := by rw [← hW3]; simp [go_sem]
          have hf4 : fits W3 (w.heap.size + 1) 8 = true := by rw [← hW3]; simp [go_sem]
          have HK3 : Hid (∀ k, k < 64 → W3.cell? ⟨kb, k, none⟩ = some (.int .u32 ((Sha.nth Sha.K k : Nat) : Int))) := fun k hk' => row_cell32 _ _ _ hk3 k (by simp; omega)
          have HS3 : Hid (∀ k, k < 64 → W3.cell? ⟨w.heap.size + 1 + 1, k, none⟩ = some (.int .u32 ((Sha.nth (Sha.sched p) k : Nat) : Int))) := fun k hk' => row_cell32 _ _ _ hs3 k (by simp; omega)
          obtain ⟨T, hT⟩ : ∃ T : Nat → Sha.St, T = Sha.rounds s (Sha.sched p) := ⟨_, rfl⟩
          have HT0 : Hid (s = T 0) := by rw [hT]; exact rfl
          have HTN : Hid (∀ k, T (k + 1) = Sha.round (T k) (Sha.nth Sha.K k) (Sha.nth (Sha.sched p) k)) := fun k => by rw [hT]; exact rfl
          have HTok : Hid (∀ k, (T k).ok) := fun k => by rw [hT]; exact Sha.rounds_ok hs _ k
          have HTE : Hid (R = Sha.plus s (T 64)) := by rw [hT]; exact (unhide HR).symm.trans (block_plus s p)
          have hkz : kb < W3.heap.size := by omega
          have hsz3 : w.heap.size + 1 + 1 < W3.heap.size := by omega
          have hwz3 : w.heap.size < W3.heap.size := by omega
          have HST3 := hide hst3
          have HF3 := hide hf3
          have HF4 := hide hf4
          have HB3 := hide hbl3
          clear hT hk3 hs3 HGS HGE HGL HGW HR hpl hlt hf4 hbl3 hk hi1 hi2
          rw [hW3]
          clear hW3
          generalize Sha.sched p = ps at *
          have hrs : (rowOf W3 w.heap.size).size = 8 := by rw [hst3]; simp
          rw [show ((64 : Nat) : Int) = 64 from rfl]
          go_wp2
          have hkz' : kb < w.heap.size + 1 + 1 + 1 := by omega
          go_loopw [13] (fun q wr => ∃ k : Nat, k ≤ 64 ∧ q = .int .i64 (k : Int) ∧ Below (w.heap.size + 1 + 1 + 1) W3 wr ∧ rowOf wr (w.heap.size + 1 + 1 + 1) = E32 (T k).list ∧ fits wr (w.heap.size + 1 + 1 + 1) 8 = true) (fun q _ => 64 - (intOf q).toNat)
          case atStart => exact ⟨0, by omega, rfl, (Below.refl _ _).alloc (by omega) _, by rw [← unhide HT0]; simp [go_sem, hz3], by simp [go_sem, hz3]⟩
          case round =>
            obtain ⟨k, hk64, rfl, hbr, hrow, hfit⟩ := hrel
            have HROW := hide hrow
            by_cases hlt : k < 64
            · have hR : R3 wr kb w.heap.size k (T k) (Sha.nth Sha.K k) (Sha.nth ps k) := R3.mk' (by rw [hbr.cell (p := ⟨kb, k, none⟩) hkz']; exact unhide HK3 k hlt) (by rw [hbr.cell (p := ⟨w.heap.size + 1 + 1, k, none⟩) (by simp)]; exact unhide HS3 k hlt) hrow
              have hN := hide (unhide HTN k)
              obtain ⟨ha, hb', hc', hd', he, hf', hg', hh'⟩ := unhide HTok k
              clear hrs hst3 hf3 hb hrow
              generalize hTK : T k = t at *
              generalize Sha.nth Sha.K k = kk at *
              generalize Sha.nth ps k = ss at *
              obtain ⟨ck, cs, c0, c1, c2, c3, c4, c5, c6, c7⟩ := hR
              go_wp2
              go_quiet (fail)
              have hR1 := R3.drews ⟨ck, cs, c0, c1, c2, c3, c4, c5, c6, c7⟩ nq
              have hbr1 := below_drews hbr nq
              have hfit1 : fits (wr.drewN nq) (w.heap.size + 1 + 1 + 1) 8 = true := hfit
              clear ck cs c0 c1 c2 c3 c4 c5 c6 c7
              generalize wr.drewN nq = wr1 at *
              obtain ⟨ck, cs, c0, c1, c2, c3, c4, c5, c6, c7⟩ := hR1
              go_wp2
              go_quiet ((go_at_call 44; exact Calls.quiet_of_same (r_i _ _ _ he (by omega) (by omega))))
              have hR2 := R3.drews ⟨ck, cs, c0, c1, c2, c3, c4, c5, c6, c7⟩ nq
              have hbr2 := below_drews hbr1 nq
              have hfit2 : fits (wr1.drewN nq) (w.heap.size + 1 + 1 + 1) 8 = true := hfit1
              clear ck cs c0 c1 c2 c3 c4 c5 c6 c7
              generalize wr1.drewN nq = wr2 at *
              obtain ⟨ck, cs, c0, c1, c2, c3, c4, c5, c6, c7⟩ := hR2
              go_wp2
              go_quiet ((go_at_call 44; exact Calls.quiet_of_same (r_i _ _ _ ha (by omega) (by omega))))
              have hR3 := R3.drews ⟨ck, cs, c0, c1, c2, c3, c4, c5, c6, c7⟩ nq
              have hbr3 := below_drews hbr2 nq
              have hfit3 : fits (wr2.drewN nq) (w.heap.size + 1 + 1 + 1) 8 = true := hfit2
              clear ck cs c0 c1 c2 c3 c4 c5 c6 c7 hfit hfit1 hfit2 hbr hbr1 hbr2
              generalize wr2.drewN nq = wr3 at *
              obtain ⟨ck, cs, c0, c1, c2, c3, c4, c5, c6, c7⟩ := hR3
              go_wp2
              go_roundw
              case rel =>
                refine ⟨k + 1, by omega, by go_num, below_setRow hbr3 (Nat.le_refl _) _, ?_, fits_setRow_at _ _ _ _ hfit3 rfl⟩
                rw [rowOf_setRow_at _ _ 8 _ hfit3, unhide hN]; rfl
              case measure => simp [intOf]; omega
            · obtain rfl : k = 64 := by omega
              have hbw : Below w.heap.size w wr := (unhide HB3).trans (hbr.mono (by omega))
              have hst4 : rowOf wr w.heap.size = E32 s.list := by rw [below_rowOf hbr (by omega)]; exact unhide HST3
              have hf5 : fits wr w.heap.size 8 = true := by rw [below_fits hbr (by omega)]; exact unhide HF3
              have hf6 : fits wr (w.heap.size + 1) 8 = true := by rw [below_fits hbr (by omega)]; exact unhide HF4
              generalize hTT : T 64 = t at *
              clear hrs hst3 hf3 hb hfit hlt HST3 HF3 HF4 HB3 HK3 HS3 HTN HTok hbr hTT
              rw [show ((64 : Nat) : Int) = 64 from rfl]
              have hd64 : ((64 : Int) < 64) = False := by simp
              go_wp2
              go_loopw [18] (fun q wr => ∃ i : Nat, i ≤ 8 ∧ q = .int .i64 (i : Int) ∧ Below w.heap.size w wr ∧ rowOf wr w.heap.size = E32 (addTo s.list t.list i) ∧ fits wr w.heap.size 8 = true ∧ fits wr (w.heap.size + 1) 8 = true ∧ rowOf wr (w.heap.size + 1 + 1 + 1) = E32 t.list) (fun q _ => 8 - (intOf q).toNat)
              case atStart => exact ⟨0, by omega, rfl, hbw, hst4, hf5, hf6, unhide HROW⟩
              case round =>
                clear hbw hst4 hf5 hf6 hrow HROW
                obtain ⟨i, hi, rfl, hbw, hst, hfst, hfres, hrt⟩ := hrel
                have hlen := addTo_length s.list t.list i
                have l8 := list_eight s
                have l8t := list_eight t
                by_cases hi8 : i < 8
                · have hc1 : wr.cell? ⟨w.heap.size, i, none⟩ = some (.int .u32 ((Sha.nth s.list i : Nat) : Int)) := by
                    rw [← addTo_nth s.list t.list i i (Nat.le_refl _)]
                    exact cell_row _ _ _ _ (by rw [hst]; exact E32_get _ _ (by omega))
                  have hc2 : wr.cell? ⟨w.heap.size + 1 + 1 + 1, i, none⟩ = some (.int .u32 ((Sha.nth t.list i : Nat) : Int)) := cell_row _ _ _ _ (by rw [hrt]; exact E32_get _ _ (by omega))
                  have hfz := frozen_fits hfst i
                  have HRT := hide hrt
                  have HST := hide hst
                  have HFS := hide hfst
                  have HFR := hide hfres
                  clear hst hfst hlen hrt hfres
                  go_wp2
                  go_region
                  go_wp2
                  go_roundw
                  case rel =>
                    refine ⟨i + 1, by omega, by go_num, (hbw.setCell (Nat.le_refl _) _).drew, ?_, ?_, ?_, ?_⟩
                    · rw [rowOf_drew, rowOf_setCell_at _ _ _ _ _ (unhide HFS), unhide HST, E32_set]; rfl
                    · rw [fits_drew]; exact fits_setCell_at _ _ _ _ _ (unhide HFS)
                    · rw [fits_drew, fits_setCell_other _ _ _ _ _ (by simp)]; exact unhide HFR
                    · rw [rowOf_drew, rowOf_setCell_other _ _ _ _ (by simp; omega)]; exact unhide HRT
                  case measure => simp [intOf]; omega
                · obtain rfl : i = 8 := by omega
                  rw [addTo_plus, ← unhide HTE] at hst
                  have hrs : (rowOf wr w.heap.size).size = 8 := by rw [hst]; simp
                  go_wp2
                  exact bodyPost_ret (v := .agg (E32 R.list)) (res50 Try.results30 rfl (rowOf_setRow_at _ _ 8 _ hfres) (by simp)) rfl ⟨rfl, below_setRow hbw (by omega) _⟩
end Go.Proofs.Ytdkhmjiconedkaa
