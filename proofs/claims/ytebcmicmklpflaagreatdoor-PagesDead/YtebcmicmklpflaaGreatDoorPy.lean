/- Pages: what is dirty goes into the log: the walk, whatever its calls leave. -/
import Derived.Test.YtebcmicmklpflaaGreatDoorPx
import Derived.Test.YtebcmicmklpflaaGreatDoorUe
namespace Go.Proofs.YtebcmicmklpflaaGreatDoor
open Go.RowKit Go.Maps
set_option linter.unusedSimpArgs false
set_option maxHeartbeats 1000000 in
theorem drop_deferred (j : Nat) (x y : Value) (w : World) (h8 : w.cell? ⟨j, 8, none⟩ = some x) (h9 : w.cell? ⟨j, 9, none⟩ = some y) (hz : ∀ k, w.frozen? ⟨j, k, none⟩ = false) :
    CallsD Tryz.prog 32 #[.pointer (some ⟨j, 0, none⟩)] .returning w fun e u' w' => u' = .returning ∧ (e = .returned (.tuple #[]) ∧ w' = (w.setCell ⟨j, 8, none⟩ (.slice none 0 0)).setCell ⟨j, 9, none⟩ (.int .i64 0)) := by
  have z8 := hz 8
  have z9 := hz 9
  clear hz
  go_enter_d Tryz.func32, Tryz.ntmps32
  go_wp2_with fail
  go_end0
  exact ⟨rfl, rfl⟩
/-- The marks of what the log has, behind the first words. -/
def stTo (st s : Nat → Bool) (k : Nat) : Nat → Bool := fun i => if i < k then st i || !(decide (word s i = 0)) else st i
theorem pcell_else {F F' : Fl} {lv nv : Value} {fr di : Nat → Bool} {dd : Bool} (i : Nat) (h1 : F'.f = F.f) (h2 : F'.nm = F.nm) (h3 : F'.j = F.j) (h4 : F'.fv = F.fv) (h5 : F'.sl = F.sl) (h6 : i ≠ 3) (h7 : 4 ≤ i → i < 260 → F'.st (i - 4) = F.st (i - 4)) : pcell F' lv nv fr di dd i = pcell F lv nv fr di dd i := by
  unfold pcell
  rw [h1, h2, h3, h4, h5, if_neg h6, if_neg h6]
  by_cases e : 4 ≤ i ∧ i < 260
  · rw [h7 e.1 e.2]
  · by_cases e2 : i < 260
    · rcases (show i = 0 ∨ i = 1 ∨ i = 2 by omega) with rfl | rfl | rfl <;> rfl
    · simp [e2]
theorem PB.setLogged {w : World} {p : Nat} {F : Fl} {lv nv : Value} {fr di : Nat → Bool} {dd : Bool} (h : PB w p (pcell F lv nv fr di dd)) (v : Int) : PB (w.setCell ⟨p, 3, none⟩ (.int .i64 v)) p (pcell { F with lg := v } lv nv fr di dd) := by
  refine (h.set (by omega) _).congr fun i hi => ?_
  unfold updC
  by_cases e : i = 3
  · subst e; rfl
  · rw [if_neg e]
    exact (pcell_else (F := F) (F' := { F with lg := v }) i rfl rfl rfl rfl rfl e (fun _ _ => rfl)).symm
theorem PB.setFresh {w : World} {p : Nat} {F : Fl} {lv nv : Value} {fr di : Nat → Bool} {dd : Bool} (h : PB w p (pcell F lv nv fr di dd)) (v : Value) : PB (w.setCell ⟨p, 260, none⟩ v) p (pcell { F with fv := v } lv nv fr di dd) := by
  refine (h.set (by omega) _).congr fun i hi => ?_
  unfold updC
  by_cases e : i = 260
  · subst e; rfl
  · rw [if_neg e]; unfold pcell; simp [e]
theorem PB.setStale {w : World} {p : Nat} {F : Fl} {lv nv : Value} {fr di : Nat → Bool} {dd : Bool} (st s : Nat → Bool) (k : Nat) (hk : k < 256) (h : PB w p (pcell { F with st := stTo st s k } lv nv fr di dd)) : PB (w.setCell ⟨p, 4 + k, none⟩ (.bool (st k || !(decide (word s k = 0))))) p (pcell { F with st := stTo st s (k + 1) } lv nv fr di dd) := by
  refine (h.set (by omega) _).congr fun i hi => ?_
  unfold updC
  by_cases e : i = 4 + k
  · subst e
    rw [if_pos rfl, pcell_stale _ _ _ _ _ _ k hk]
    simp [stTo]
  · rw [if_neg e]
    by_cases e3 : i = 3
    · subst e3; rfl
    refine (pcell_else (F := { F with st := stTo st s k }) (F' := { F with st := stTo st s (k + 1) }) i rfl rfl rfl rfl rfl e3 (fun h1 h2 => ?_)).symm
    simp only [stTo]
    by_cases e4 : i - 4 < k
    · rw [if_pos e4, if_pos (by omega)]
    · rw [if_neg e4, if_neg (by omega)]
/-- What stands behind the loop that marks what the log has. -/
structure RecM (W1 W : World) (p : Nat) (F : Fl) (lv nv : Value) (fr s : Nat → Bool) (dd : Bool) (lg : Int) (k : Nat) : Prop where
  pb : PB W p (pcell { F with lg := lg, st := stTo F.st s k } lv nv fr s dd)
  sole : Dg.Sole p W1 W
set_option maxRecDepth 20000 in
set_option maxHeartbeats 4000000 in
theorem record_walk (p j : Nat) (nv lv : Value) (s fr : Nat → Bool) (dd : Bool) (F : Fl) (Z : Nat → Nat) (T : Nat → World → Prop) (R : Int → World → Prop) (w : World) (ga : Option Addr) (gl gc : Nat) (hnv : nv = .slice ga gl gc)
    (hj : F.j = j) (hlg : 0 ≤ F.lg ∧ F.lg ≤ 1000000000) (hZ0 : Z 0 = 40) (hZ : ∀ k, Z k ≤ 1000000000) (h0 : T 0 w)
    (hT : ∀ k W, T k W → PB W p (pcell F lv nv fr s dd))
    (hskip : ∀ k W, k < 256 → T k W → word s k = 0 → T (k + 1) W ∧ Z (k + 1) = Z k)
    (hstep : ∀ k W, k < 256 → T k W → word s k ≠ 0 → Calls Tryz.prog 167 #[nv, .int .i64 (k : Int), .int .u64 ((word s k : Nat) : Int)] W fun e W1 => ∃ a l c, e = .returned (.slice a l c) ∧ Z (k + 1) = Z k + l ∧ PB W1 p (pcell F lv nv fr s dd) ∧ Hid (Calls Tryz.prog 22 #[.pointer (some ⟨j, 0, none⟩), .slice a l c] W1 fun e W2 => e = .returned (.int .i64 0) ∧ Hid (T (k + 1) W2)))
    (hcom : ∀ W, T 256 W → Calls Tryz.prog 24 #[.pointer (some ⟨j, 0, none⟩)] W fun e W1 => ∃ c : Int, e = .returned (.int .i64 c) ∧ (c ≠ 0 → CallsD Tryz.prog 32 #[.pointer (some ⟨j, 0, none⟩)] .returning W1 fun e u' W2 => u' = .returning ∧ e = .returned (.tuple #[]) ∧ R c W2) ∧
      (c = 0 → PB W1 p (pcell F lv nv fr s dd) ∧ ∀ W2, RecM W1 W2 p F lv nv fr s dd (F.lg + (Z 256 : Int)) 256 → CallsD Tryz.prog 32 #[.pointer (some ⟨j, 0, none⟩)] .returning W2 fun e u' W3 => u' = .returning ∧ e = .returned (.tuple #[]) ∧ R 0 W3)) :
    Calls Tryz.prog 169 #[.pointer (some ⟨p, 0, none⟩), nv, .pointer (some ⟨p, 520, none⟩)] w fun e w' => ∃ c : Int, e = .returned (.int .i64 c) ∧ R c w' := by
  have c2 : ∀ {W c}, PB W p (pcell F lv nv fr s dd) → c = W.cell? ⟨p, 2, none⟩ → c = some (.pointer (some ⟨j, 0, none⟩)) := fun h e => by rw [e, h.cell (by omega), ← hj]; rfl
  have cw : c2 (hT 0 w h0) rfl = c2 (hT 0 w h0) rfl := rfl
  have cj : w.cell? ⟨p, 2, none⟩ = some (.pointer (some ⟨j, 0, none⟩)) := c2 (hT 0 w h0) rfl
  have HT := hide hT
  have HSk := hide hskip
  have HSt := hide hstep
  have HC := hide hcom
  have HZ := hide (And.intro hZ0 hZ)
  have HL := hide (And.intro hj hlg)
  have H0 := hide h0
  subst hnv
  clear hT hskip hstep hcom hZ0 hZ hj hlg h0 cw c2
  go_enter_defers Tryz.func169, Tryz.ntmps169
  go_wp2_with fail
  go_loopw [7, 18] (fun vs vi W => ∃ k : Nat, k ≤ 256 ∧ vs = .int .i64 ((Z k : Nat) : Int) ∧ vi = .int .i64 (k : Int) ∧ Hid (T k W)) (fun _ vi _ => 256 - (intOf vi).toNat)
  case atStart => exact ⟨0, Nat.zero_le _, by rw [(unhide HZ).1]; rfl, rfl, H0⟩
  case round =>
    obtain ⟨k, hk, rfl, rfl, HTk⟩ := hrel
    have hpb := unhide HT k wr (unhide HTk)
    by_cases hlt : k < 256
    · have hki : (k : Int) < 256 := by omega
      have HLd := hide (uload ⟨p, 520 + k, none⟩ _ wr (by rw [hpb.cell (by omega), pcell_dirty _ _ _ _ _ _ k hlt]))
      by_cases h0 : word s k = 0
      · obtain ⟨h1, h2⟩ := unhide HSk k wr hlt (unhide HTk) h0
        have HK : Hid (T (k + 1) wr ∧ Z (k + 1) = Z k) := ⟨h1, h2⟩
        rw [h0] at HLd
        clear h0 h1 h2 hpb HTk
        go_wp2_with fail
        refine (unhide HLd).mono ?_
        rintro e w' ⟨rfl, hw⟩
        have hw2 := hw.symm
        subst hw2
        clear hw
        go_wp2_with fail
        go_roundw
        case rel => exact ⟨k + 1, by omega, by rw [(unhide HK).2], by go_num, (unhide HK).1⟩
        case measure => simp [intOf]; omega
      · have HK := hide (unhide HSt k wr hlt (unhide HTk) h0)
        have hne : (((word s k : Nat) : Int) == 0) = false := by rw [beq_eq_false_iff_ne]; omega
        have HZk := hide ((unhide HZ).2 (k + 1))
        generalize word s k = X at *
        clear h0 hpb HTk
        go_wp2_with fail
        refine (unhide HLd).mono ?_
        rintro e w' ⟨rfl, hw⟩
        have hw2 := hw.symm
        subst hw2
        clear hw
        go_wp2_with fail
        refine (unhide HK).mono ?_
        rintro e w1 ⟨a, l, c, rfl, hz, hpb1, HA⟩
        have cj1 : w1.cell? ⟨p, 2, none⟩ = some (.pointer (some ⟨j, 0, none⟩)) := by rw [hpb1.cell (by omega), ← (unhide HL).1]; rfl
        have HZz := hide hz
        clear hpb1 hz HK HLd
        go_wp2_with fail
        refine (unhide HA).mono ?_
        rintro e w2 ⟨rfl, HT2⟩
        clear HA cj1
        have hwr : IntKind.i64.wrap (((Z k : Nat) : Int) + (l : Int)) = ((Z (k + 1) : Nat) : Int) := by
          have h1 := unhide HZz
          have h2 := unhide HZk
          rw [IntKind.wrap_i64]; omega
        go_wp2_with fail
        go_roundw
        case rel => exact ⟨k + 1, by omega, rfl, by go_num, HT2⟩
        case measure => simp [intOf]; omega
    · obtain rfl : k = 256 := by omega
      have HCm := hide (unhide HC wr (unhide HTk))
      have cj1 : wr.cell? ⟨p, 2, none⟩ = some (.pointer (some ⟨j, 0, none⟩)) := by rw [hpb.cell (by omega), ← (unhide HL).1]; rfl
      clear hpb HTk
      go_wp2_with fail
      refine (unhide HCm).mono ?_
      rintro e w1 ⟨c, rfl, hc1, hc2⟩
      clear cj1 HCm
      by_cases h0 : c = 0
      · subst h0
        obtain ⟨hpb1, hfin⟩ := hc2 rfl
        have HF := hide hfin
        have HPB := hide hpb1
        have c3 : w1.cell? ⟨p, 3, none⟩ = some (.int .i64 F.lg) := hpb1.cell (by omega)
        have z3 := hpb1.frozen 3
        clear hc1 hc2 hfin hpb1
        have hwr : IntKind.i64.wrap (F.lg + ((Z 256 : Nat) : Int)) = F.lg + ((Z 256 : Nat) : Int) := by
          have h1 := (unhide HZ).2 256
          have h2 := (unhide HL).2
          rw [IntKind.wrap_i64]; omega
        go_wp2_with fail
        have HM0 : Hid (RecM w1 (w1.setCell ⟨p, 3, none⟩ (.int .i64 (F.lg + ((Z 256 : Nat) : Int)))) p F lv (.slice ga gl gc) fr s dd (F.lg + ((Z 256 : Nat) : Int)) 0) := by
          refine ⟨?_, Dg.Sole.setCell p 3 w1 _⟩
          have h1 := (unhide HPB).setLogged (F.lg + ((Z 256 : Nat) : Int))
          have h2 : stTo F.st s 0 = F.st := by funext i; simp [stTo]
          rw [h2]; exact h1
        go_loopw [62] (fun vi W => ∃ k : Nat, k ≤ 256 ∧ vi = .int .i64 (k : Int) ∧ Hid (RecM w1 W p F lv (.slice ga gl gc) fr s dd (F.lg + ((Z 256 : Nat) : Int)) k)) (fun vi _ => 256 - (intOf vi).toNat)
        case atStart => exact ⟨0, Nat.zero_le _, rfl, HM0⟩
        case round =>
          obtain ⟨k, hk, rfl, HR⟩ := hrel
          clear c3 z3
          by_cases hlt : k < 256
          · have hki : (k : Int) < 256 := by omega
            have hR := unhide HR
            have cst : wr.cell? ⟨p, 4 + k, none⟩ = some (.bool (F.st k)) := by
              rw [hR.pb.cell (by omega), pcell_stale _ _ _ _ _ _ k hlt]
              simp [stTo]
            have zst := hR.pb.frozen (4 + k)
            have HLd : Hid (∀ W : World, W.heap = wr.heap → Calls Tryz.prog 125 #[.pointer (some ⟨p, 520 + k, none⟩)] W fun e w' => e = .returned (.int .u64 ((word s k : Nat) : Int)) ∧ w' = W) := fun W hW => uload _ _ W (by rw [World.cell?_of_block (w := wr) (a := ⟨p, 520 + k, none⟩) (by rw [hW]), hR.pb.cell (by omega), pcell_dirty _ _ _ _ _ _ k hlt])
            have HN : Hid (∀ W : World, W.heap = wr.heap → W.os = wr.os → W.tape = wr.tape → W.output = wr.output → RecM w1 (W.setCell ⟨p, 4 + k, none⟩ (.bool (F.st k || !(decide (word s k = 0))))) p F lv (.slice ga gl gc) fr s dd (F.lg + ((Z 256 : Nat) : Int)) (k + 1)) := fun W h1 h2 h3 h4 => by
              have hS : Dg.Sole p wr W := ⟨h2, h3, h4, by rw [h1]; exact Nat.le_refl _, fun q _ _ => by rw [h1]⟩
              exact ⟨PB.setStale (F := { F with lg := F.lg + ((Z 256 : Nat) : Int) }) F.st s k hlt (hR.pb.kept (by rw [h1])), (hR.sole.trans hS).trans (Dg.Sole.setCell p (4 + k) W _)⟩
            have hbb : (((word s k : Nat) : Int) == 0) = decide (word s k = 0) := by
              by_cases e : word s k = 0
              · simp [e]
              · have : ¬ ((word s k : Nat) : Int) = 0 := by omega
                simp [e]
            obtain ⟨st, hst⟩ : ∃ st, st = F.st k := ⟨_, rfl⟩
            rw [← hst] at cst HN
            clear hR hst
            generalize word s k = X at *
            go_wp2_with fail
            have cst2 : wr.drew.cell? ⟨p, 4 + k, none⟩ = some (.bool st) := cst
            have zst2 : wr.drew.frozen? ⟨p, 4 + k, none⟩ = false := zst
            cases st with
            | false =>
              refine wp_region_noPanic ?_
              go_region_law (go_simp; refine (unhide HLd wr.drew rfl).mono ?_; rintro e w' ⟨rfl, rfl⟩; simp only [])
              all_goals
                refine NoPanic.normal ?_
                have HN2 : Hid (RecM w1 (wr.setCell ⟨p, 4 + k, none⟩ (.bool ((X : Int) != 0))).drew p F lv (.slice ga gl gc) fr s dd (F.lg + ((Z 256 : Nat) : Int)) (k + 1)) := by
                  have h1 := unhide HN wr.drew rfl rfl rfl rfl
                  have h2 : ((X : Int) != 0) = (false || !decide (X = 0)) := by
                    by_cases e : X = 0
                    · simp [e]
                    · simp [e]
                  rw [h2]
                  exact h1
                clear cst zst cst2 zst2 HLd HN
                go_wp2_with fail
                go_roundw
                case rel => exact ⟨k + 1, by omega, by go_num, HN2⟩
                case measure => simp [intOf]; omega
            | true =>
              refine wp_region_noPanic ?_
              refine wp_region_held_drew (S := fun _ => True) (by kernel_rfl) trivial (fun hH => ?_)
              refine wpAnyH_take (i := 0) (v := .pointer (some ⟨p, 0, none⟩)) rfl (by kernel_rfl) (by kernel_rfl) (by kernel_rfl) (fun _ _ _ h => h) (Or.inl ⟨by rfl, ?_⟩) hH ?_
              · intro w hSw; go_simp
              try simp only [Act.put, List.getElem_toArray, List.getElem_cons_zero, List.getElem_cons_succ, List.setIfInBounds_toArray, List.set_cons_zero, List.set_cons_succ]
              refine wpAnyH_take (i := 1) (v := .int .i64 (k : Int)) rfl (by kernel_rfl) (by kernel_rfl) (by kernel_rfl) (fun _ _ _ h => h) (Or.inl ⟨by rfl, ?_⟩) hH ?_
              · intro w hSw; go_simp
              try simp only [Act.put, List.getElem_toArray, List.getElem_cons_zero, List.getElem_cons_succ, List.setIfInBounds_toArray, List.set_cons_zero, List.set_cons_succ]
              refine wpAnyH_take (i := 2) (v := .pointer (some ⟨p, 0, none⟩)) rfl (by kernel_rfl) (by kernel_rfl) (by kernel_rfl) (fun _ _ _ h => h) (Or.inl ⟨by rfl, ?_⟩) hH ?_
              · intro w hSw; go_simp
              try simp only [Act.put, List.getElem_toArray, List.getElem_cons_zero, List.getElem_cons_succ, List.setIfInBounds_toArray, List.set_cons_zero, List.set_cons_succ]
              refine wpAnyH_take (i := 3) (v := .int .i64 (k : Int)) rfl (by kernel_rfl) (by kernel_rfl) (by kernel_rfl) (fun _ _ _ h => h) (Or.inl ⟨by rfl, ?_⟩) hH ?_
              · intro w hSw; go_simp
              try simp only [Act.put, List.getElem_toArray, List.getElem_cons_zero, List.getElem_cons_succ, List.setIfInBounds_toArray, List.set_cons_zero, List.set_cons_succ]
              refine wpAnyH_take (i := 4) (v := .pointer (some ⟨p, 0, none⟩)) rfl (by kernel_rfl) (by kernel_rfl) (by kernel_rfl) (fun _ _ _ h => h) (Or.inl ⟨by rfl, ?_⟩) hH ?_
              · intro w hSw; go_simp
              try simp only [Act.put, List.getElem_toArray, List.getElem_cons_zero, List.getElem_cons_succ, List.setIfInBounds_toArray, List.set_cons_zero, List.set_cons_succ]
              refine wpAnyH_take (i := 5) (v := .pointer (some ⟨p, 4, none⟩)) rfl (by kernel_rfl) (by kernel_rfl) (by kernel_rfl) (fun _ _ _ h => h) (Or.inl ⟨by rfl, ?_⟩) hH ?_
              · intro w hSw; go_simp
              try simp only [Act.put, List.getElem_toArray, List.getElem_cons_zero, List.getElem_cons_succ, List.setIfInBounds_toArray, List.set_cons_zero, List.set_cons_succ]
              refine wpAnyH_take (i := 6) (v := .pointer (some ⟨p, 4 + k, none⟩)) rfl (by kernel_rfl) (by kernel_rfl) (by kernel_rfl) (fun _ _ _ h => h) (Or.inl ⟨by rfl, ?_⟩) hH ?_
              · intro w hSw; go_simp
              try simp only [Act.put, List.getElem_toArray, List.getElem_cons_zero, List.getElem_cons_succ, List.setIfInBounds_toArray, List.set_cons_zero, List.set_cons_succ]
              refine wpAnyH_take (i := 16) (v := .pointer (some ⟨p, 0, none⟩)) rfl (by kernel_rfl) (by kernel_rfl) (by kernel_rfl) (fun _ _ _ h => h) (Or.inl ⟨by rfl, ?_⟩) hH ?_
              · intro w hSw; go_simp
              try simp only [Act.put, List.getElem_toArray, List.getElem_cons_zero, List.getElem_cons_succ, List.setIfInBounds_toArray, List.set_cons_zero, List.set_cons_succ]
              refine wpAnyH_take (i := 17) (v := .pointer (some ⟨p, 4, none⟩)) rfl (by kernel_rfl) (by kernel_rfl) (by kernel_rfl) (fun _ _ _ h => h) (Or.inl ⟨by rfl, ?_⟩) hH ?_
              · intro w hSw; go_simp
              try simp only [Act.put, List.getElem_toArray, List.getElem_cons_zero, List.getElem_cons_succ, List.setIfInBounds_toArray, List.set_cons_zero, List.set_cons_succ]
              refine wpAnyH_ready (rs := [7]) (by kernel_rfl) (by simp) (AllReadyH.cons rfl (fun K hK => ?_) AllReadyH.nil)
              simp only [List.getElem_toArray, List.getElem_cons_zero, List.getElem_cons_succ]
              go_simp
              refine hK.out _ _ trivial (fun hH2 => ?_)
              clear hK K
              try simp only [Act.put, List.getElem_toArray, List.getElem_cons_zero, List.getElem_cons_succ, List.setIfInBounds_toArray, List.set_cons_zero, List.set_cons_succ]
              refine wpAnyH_take (i := 8) (v := .bool true) rfl (by kernel_rfl) (by kernel_rfl) (by kernel_rfl) (fun _ _ _ h => h) (Or.inl ⟨by rfl, ?_⟩) hH2 ?_
              · intro w hSw; go_simp
              try simp only [Act.put, List.getElem_toArray, List.getElem_cons_zero, List.getElem_cons_succ, List.setIfInBounds_toArray, List.set_cons_zero, List.set_cons_succ]
              refine wpAnyH_take (i := 9) (v := undef) rfl (by kernel_rfl) (by kernel_rfl) (by kernel_rfl) (fun _ _ _ h => h) (Or.inr ⟨by rfl, rfl⟩) hH2 ?_
              try simp only [Act.put, List.getElem_toArray, List.getElem_cons_zero, List.getElem_cons_succ, List.setIfInBounds_toArray, List.set_cons_zero, List.set_cons_succ]
              refine wpAnyH_take (i := 10) (v := undef) rfl (by kernel_rfl) (by kernel_rfl) (by kernel_rfl) (fun _ _ _ h => h) (Or.inr ⟨by rfl, rfl⟩) hH2 ?_
              try simp only [Act.put, List.getElem_toArray, List.getElem_cons_zero, List.getElem_cons_succ, List.setIfInBounds_toArray, List.set_cons_zero, List.set_cons_succ]
              refine wpAnyH_take (i := 11) (v := undef) rfl (by kernel_rfl) (by kernel_rfl) (by kernel_rfl) (fun _ _ _ h => h) (Or.inr ⟨by rfl, rfl⟩) hH2 ?_
              try simp only [Act.put, List.getElem_toArray, List.getElem_cons_zero, List.getElem_cons_succ, List.setIfInBounds_toArray, List.set_cons_zero, List.set_cons_succ]
              refine wpAnyH_take (i := 12) (v := undef) rfl (by kernel_rfl) (by kernel_rfl) (by kernel_rfl) (fun _ _ _ h => h) (Or.inr ⟨by rfl, rfl⟩) hH2 ?_
              try simp only [Act.put, List.getElem_toArray, List.getElem_cons_zero, List.getElem_cons_succ, List.setIfInBounds_toArray, List.set_cons_zero, List.set_cons_succ]
              refine wpAnyH_take (i := 13) (v := undef) rfl (by kernel_rfl) (by kernel_rfl) (by kernel_rfl) (fun _ _ _ h => h) (Or.inr ⟨by rfl, rfl⟩) hH2 ?_
              try simp only [Act.put, List.getElem_toArray, List.getElem_cons_zero, List.getElem_cons_succ, List.setIfInBounds_toArray, List.set_cons_zero, List.set_cons_succ]
              refine wpAnyH_take (i := 14) (v := undef) rfl (by kernel_rfl) (by kernel_rfl) (by kernel_rfl) (fun _ _ _ h => h) (Or.inr ⟨by rfl, rfl⟩) hH2 ?_
              try simp only [Act.put, List.getElem_toArray, List.getElem_cons_zero, List.getElem_cons_succ, List.setIfInBounds_toArray, List.set_cons_zero, List.set_cons_succ]
              refine wpAnyH_take (i := 15) (v := .bool true) rfl (by kernel_rfl) (by kernel_rfl) (by kernel_rfl) (fun _ _ _ h => h) (Or.inl ⟨by rfl, ?_⟩) hH2 ?_
              · intro w hSw; go_simp
              try simp only [Act.put, List.getElem_toArray, List.getElem_cons_zero, List.getElem_cons_succ, List.setIfInBounds_toArray, List.set_cons_zero, List.set_cons_succ]
              refine wpAnyH_take (i := 18) (v := .pointer (some ⟨p, 4 + k, none⟩)) rfl (by kernel_rfl) (by kernel_rfl) (by kernel_rfl) (fun _ _ _ h => h) (Or.inl ⟨by rfl, ?_⟩) hH2 ?_
              · intro w hSw; go_simp
              try simp only [Act.put, List.getElem_toArray, List.getElem_cons_zero, List.getElem_cons_succ, List.setIfInBounds_toArray, List.set_cons_zero, List.set_cons_succ]
              refine wpAnyH_ready (rs := [19]) (by kernel_rfl) (by simp) (AllReadyH.cons rfl (fun K hK => ?_) AllReadyH.nil)
              simp only [List.getElem_toArray, List.getElem_cons_zero, List.getElem_cons_succ]
              go_simp
              refine hK.out _ _ trivial (fun hH3 => ?_)
              clear hK K
              try simp only [Act.put, List.getElem_toArray, List.getElem_cons_zero, List.getElem_cons_succ, List.setIfInBounds_toArray, List.set_cons_zero, List.set_cons_succ]
              refine wpAnyH_done (by kernel_rfl) ?_ _
              refine NoPanic.normal ?_
              have HN2 : Hid (RecM w1 (wr.setCell ⟨p, 4 + k, none⟩ (.bool true)).drew p F lv (.slice ga gl gc) fr s dd (F.lg + ((Z 256 : Nat) : Int)) (k + 1)) := by
                have h1 := unhide HN wr.drew rfl rfl rfl rfl
                rw [Bool.true_or] at h1
                exact h1
              clear cst zst cst2 zst2 HLd HN
              go_wp2_with fail
              go_roundw
              case rel => exact ⟨k + 1, by omega, by go_num, HN2⟩
              case measure => simp [intOf]; omega
          · obtain rfl : k = 256 := by omega
            have HE := hide (unhide HF wr (unhide HR))
            clear HR
            go_wp2_with fail
            refine leaves_cons (f := 32) (args := #[.pointer (some ⟨j, 0, none⟩)]) (by simp) (by simp [go_sem]) ?_
            refine (unhide HE).mono ?_
            rintro e u' w3 ⟨rfl, rfl, hR⟩
            exact ⟨_, results_tmp rfl _ _ _, 0, rfl, hR⟩
      · have HF := hide (hc1 h0)
        have hb : (c == 0) = false := by rw [beq_eq_false_iff_ne]; exact h0
        clear hc1 hc2 h0
        go_wp2_with fail
        refine leaves_cons (f := 32) (args := #[.pointer (some ⟨j, 0, none⟩)]) (by simp) (by simp [go_sem]) ?_
        refine (unhide HF).mono ?_
        rintro e u' w3 ⟨rfl, rfl, hR⟩
        exact ⟨_, results_tmp rfl _ _ _, c, rfl, hR⟩
end Go.Proofs.YtebcmicmklpflaaGreatDoor
