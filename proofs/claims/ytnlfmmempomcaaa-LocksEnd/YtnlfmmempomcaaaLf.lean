/- lock: the lock with a name, a new one if there is none. -/
import Derived.Test.YtnlfmmempomcaaaLe
namespace Go.Proofs.Ytnlfmmempomcaaa
open Go.RowKit Go.Maps
set_option linter.unusedSimpArgs false
/-- What lock leaves. -/
def Locked (k B : Nat) (O : Ghost) (tb : Nat) (S : St) (F : ByteArray → Option Nat) (G : Int → Option Nat) (tm : Option Nat) (n : ByteArray) (w : World) (a : Nat) (w' : World) : Prop :=
  ∃ O' F' lm', Rp O' tb S none F' G lm' tm ∧ Mem (k + 1) O' w' ∧ Stp 0 B O O' w w' ∧ F' n = some a ∧ (∀ m g, F m = some g → F' m = some g) ∧ ∀ m g, F' m = some g → F m = some g ∨ m = n
/-- A new lock's block. -/
def lkW (n : ByteArray) (w : World) : World := (w.alloc (.map #[] 0)).alloc (.cells #[.string n, .map (some w.heap.size), .bool false, .slice none 0 0] 80)
section
variable {k B : Nat} {O : Ghost} {tb : Nat} {S : St} {F : ByteArray → Option Nat} {G : Int → Option Nat} {lm tm : Option Nat} {w : World}
theorem lock_new (hM : Mem k O w) (n : ByteArray) (hB : B ≤ w.heap.size) : ∃ O2, Mem k O2 (lkW n w) ∧ Stp 0 B O O2 w (lkW n w) ∧ (∀ q o, O q = some o → O2 q = some o) ∧
    O2 (w.heap.size + 1) = some (lockO n (w.heap.size + 1) w.heap.size false (.slice none 0 0)) ∧ O2 w.heap.size = some ⟨0, w.heap.size + 1, .imap fun _ => none⟩ := by
  have hM1 := hM.newI 0 (w.heap.size + 1)
  have hs1 : Stp 0 B O _ w _ := Stp.alloc hM hB ⟨0, w.heap.size + 1, .imap fun _ => none⟩ (.map #[] 0)
  have hz1 : (w.alloc (.map #[] 0)).heap.size = w.heap.size + 1 := by simp
  have hM2 := hM1.alloc 0 (w.heap.size + 1) [.string n, .map (some w.heap.size), .bool false, .slice none 0 0] 80
  have hs2 : Stp 0 B _ _ (w.alloc (.map #[] 0)) _ := Stp.alloc hM1 (by omega) ⟨0, w.heap.size + 1, .raw [.string n, .map (some w.heap.size), .bool false, .slice none 0 0] 80⟩ (.cells #[.string n, .map (some w.heap.size), .bool false, .slice none 0 0] 80)
  rw [hz1] at hM2 hs2
  refine ⟨_, hM2, hs1.trans hs2, fun q o e => ?_, by rw [put_same]; rfl, by rw [put_other _ _ (by omega), put_same]⟩
  have := hM.lt e
  rw [put_other _ _ (by omega), put_other _ _ (by omega)]
  exact e
theorem lock_some (hM : Mem k O w) (h : Rp O tb S none F G lm tm) (hI : Inv S) (n : ByteArray) (hn : SOk n) (hF : F n = none) (hk : k < maxLen) (hB : B ≤ w.heap.size) {mb : Nat} (hlm : lm = some mb) :
    (lkW n w).cell? ⟨tb, 0, none⟩ = some (.map (some mb)) ∧ (lkW n w).cell? ⟨w.heap.size + 1, 0, none⟩ = some (.string n) ∧
    ∃ w3, (Instr.mapUpdate 70 (.map (some mb)) (.string n) (.pointer (some ⟨w.heap.size + 1, 0, none⟩))).run Try.prog (lkW n w).drew = .ok () w3 ∧ Locked k B O tb S F G tm n w (w.heap.size + 1) w3 := by
  subst hlm
  obtain ⟨O2, hM2, hs2, hold, h1, h2⟩ := lock_new (B := B) hM n hB
  refine ⟨hM2.cell (hold _ _ h.tbl) (i := 0) rfl, hM2.cell h1 (i := 0) rfl, ?_⟩
  have htm := hold _ _ (h.lm1 mb rfl)
  obtain ⟨w3, hr3, hS3, ht3⟩ := S_store (hM2.drew.sm htm) hn hk (w.heap.size + 1)
  have hM3 : Mem (k + 1) _ w3 := hM2.drew.turn (o := ⟨0, tb, .smap (supd F n (some (w.heap.size + 1)))⟩) ht3 hS3 (by omega)
  have hs3 : Stp 0 B O _ w w3 := hs2.trans ((Stp.drew 0 B _ _).trans (Stp.turn (t' := .smap (supd F n (some (w.heap.size + 1)))) htm (by show B ≤ (lkW n w).heap.size; exact Nat.le_trans hB hs2.size) ht3))
  have n1 : tb ≠ mb := fun e => by have := h.lm1 mb rfl; rw [← e, h.tbl] at this; simp at this
  have hml := hM.lt (h.lm1 mb rfl)
  refine ⟨w3, hr3, _, supd F n (some (w.heap.size + 1)), some mb, h.addF hI hn hF (b := w.heap.size + 1) (hm := w.heap.size) (mb := mb) (fun q o e1 e2 => ?_) (by rw [put_other _ _ (by omega)]; exact h1) (by rw [put_other _ _ (by omega)]; exact h2)
    (by rw [put_other _ _ n1]; exact hold _ _ h.tbl) (fun b e => ?_) (put_same _ _ _), hM3, hs3, if_pos rfl, fun m g e => ?_, fun m g e => ?_⟩
  · rw [put_other _ _ (fun e => by rw [e, h.lm1 mb rfl] at e1; injection e1 with e1; subst e1; exact e2 rfl)]
    exact hold q o e1
  · have e3 := h.tm1 b e
    simp at e3
    rw [put_other _ _ (fun e2 => by rw [e2, h.lm1 mb rfl] at e3; simp at e3)]; exact hold _ _ e3
  · rw [show supd F n (some (w.heap.size + 1)) m = F m from if_neg (fun e2 => by rw [e2, hF] at e; cases e)]; exact e
  · by_cases e2 : m = n
    · exact .inr e2
    · rw [show supd F n (some (w.heap.size + 1)) m = F m from if_neg e2] at e; exact .inl e
theorem lock_none (hM : Mem k O w) (h : Rp O tb S none F G lm tm) (hI : Inv S) (n : ByteArray) (hn : SOk n) (hF : F n = none) (hk : k < maxLen) (hB : B ≤ w.heap.size) (hlm : lm = none) :
    (lkW n w).cell? ⟨tb, 0, none⟩ = some (.map none) ∧ ((lkW n w).alloc (.map #[] 0)).cell? ⟨tb, 0, none⟩ = some (.map none) ∧ ((lkW n w).alloc (.map #[] 0)).frozen? ⟨tb, 0, none⟩ = false ∧
    (((lkW n w).alloc (.map #[] 0)).setCell ⟨tb, 0, none⟩ (.map (some (w.heap.size + 1 + 1)))).cell? ⟨tb, 0, none⟩ = some (.map (some (w.heap.size + 1 + 1))) ∧
    (((lkW n w).alloc (.map #[] 0)).setCell ⟨tb, 0, none⟩ (.map (some (w.heap.size + 1 + 1)))).cell? ⟨w.heap.size + 1, 0, none⟩ = some (.string n) ∧
    ∃ w3, (Instr.mapUpdate 70 (.map (some (w.heap.size + 1 + 1))) (.string n) (.pointer (some ⟨w.heap.size + 1, 0, none⟩))).run Try.prog (((lkW n w).alloc (.map #[] 0)).setCell ⟨tb, 0, none⟩ (.map (some (w.heap.size + 1 + 1)))).drew = .ok () w3 ∧ Locked k B O tb S F G tm n w (w.heap.size + 1) w3 := by
  subst hlm
  obtain ⟨O2, hM2, hs2, hold, h1, h2⟩ := lock_new (B := B) hM n hB
  have htl := hM.lt h.tbl
  have hz2 : (lkW n w).heap.size = w.heap.size + 1 + 1 := by unfold lkW; simp
  have hM3 := hM2.newS 0 tb
  have hs3 : Stp 0 B _ _ (lkW n w) _ := Stp.alloc hM2 (by omega) ⟨0, tb, .smap fun _ => none⟩ (.map #[] 0)
  rw [hz2] at hM3 hs3
  have ht3 : (put O2 (w.heap.size + 1 + 1) ⟨0, tb, .smap fun _ => none⟩) tb = some ⟨0, tb, .raw [.map none, .map tm] 73⟩ := by rw [put_other _ _ (by omega)]; exact hold _ _ h.tbl
  have hM4 := hM3.set ht3 0 (.map (some (w.heap.size + 1 + 1)))
  have hs4 : Stp 0 B _ _ ((lkW n w).alloc (.map #[] 0)) _ := Stp.set ht3 0 (.map (some (w.heap.size + 1 + 1)))
  have h1' : (put (put O2 (w.heap.size + 1 + 1) ⟨0, tb, .smap fun _ => none⟩) tb ⟨0, tb, .raw ([.map none, .map tm].set 0 (.map (some (w.heap.size + 1 + 1)))) 73⟩) (w.heap.size + 1) = some (lockO n (w.heap.size + 1) w.heap.size false (.slice none 0 0)) := by
    rw [put_other _ _ (by omega), put_other _ _ (by omega)]; exact h1
  have hm4 : (put (put O2 (w.heap.size + 1 + 1) ⟨0, tb, .smap fun _ => none⟩) tb ⟨0, tb, .raw ([.map none, .map tm].set 0 (.map (some (w.heap.size + 1 + 1)))) 73⟩) (w.heap.size + 1 + 1) = some ⟨0, tb, .smap fun _ => none⟩ := by rw [put_other _ _ (by omega), put_same]
  refine ⟨hM2.cell (hold _ _ h.tbl) (i := 0) rfl, hM3.cell ht3 (i := 0) rfl, hM3.frozen ht3 0, hM4.cell (put_same _ _ _) (i := 0) rfl, hM4.cell h1' (i := 0) rfl, ?_⟩
  obtain ⟨w5, hr5, hS5, ht5⟩ := S_store (hM4.drew.sm hm4) hn hk (w.heap.size + 1)
  have hM5 : Mem (k + 1) _ w5 := hM4.drew.turn (o := ⟨0, tb, .smap (supd F n (some (w.heap.size + 1)))⟩) ht5 (by
    have e : F = fun _ => none := funext fun m => h.lm0 rfl m
    rw [e]; exact hS5) (by omega)
  have hs5 : Stp 0 B O _ w w5 := ((hs2.trans hs3).trans hs4).trans ((Stp.drew 0 B _ _).trans (Stp.turn (t' := .smap (supd F n (some (w.heap.size + 1)))) hm4 (by show B ≤ (((lkW n w).alloc (.map #[] 0)).setCell _ _).heap.size; rw [set_size, World.size_alloc]; omega) ht5))
  refine ⟨w5, hr5, _, supd F n (some (w.heap.size + 1)), some (w.heap.size + 1 + 1), h.addF hI hn hF (b := w.heap.size + 1) (hm := w.heap.size) (mb := w.heap.size + 1 + 1) (fun q o e1 e2 => ?_) (by rw [put_other _ _ (by omega)]; exact h1') (by rw [put_other _ _ (by omega), put_other _ _ (by omega), put_other _ _ (by omega)]; exact h2)
    (by rw [put_other _ _ (by omega), put_same]; rfl) (fun b e => ?_) (put_same _ _ _), hM5, hs5, if_pos rfl, fun m g e => ?_, fun m g e => ?_⟩
  · have := hM.lt e1
    rw [put_other _ _ (by omega), put_other _ _ (fun e => by rw [e, h.tbl] at e1; injection e1 with e1; subst e1; exact e2 rfl), put_other _ _ (by omega)]
    exact hold q o e1
  · have e3 := h.tm1 b e
    simp at e3
    have := hM.lt e3
    rw [put_other _ _ (by omega), put_other _ _ (fun e2 => by rw [e2, h.tbl] at e3; simp at e3), put_other _ _ (by omega)]; exact hold _ _ e3
  · rw [show supd F n (some (w.heap.size + 1)) m = F m from if_neg (fun e2 => by rw [e2, hF] at e; cases e)]; exact e
  · by_cases e2 : m = n
    · exact .inr e2
    · rw [show supd F n (some (w.heap.size + 1)) m = F m from if_neg e2] at e; exact .inl e
theorem Rp.below (hM : Mem k O w) {w1 : World} (hb : Below w.heap.size w w1) : Mem k O w1 := hM.below hb fun _ _ e => hM.lt e
end
set_option maxRecDepth 20000 in
set_option maxHeartbeats 1000000 in
theorem lock_ok {k B : Nat} (O : Ghost) (tb : Nat) (S : St) (F : ByteArray → Option Nat) (G : Int → Option Nat) (lm tm : Option Nat) (w : World) (hM : Mem k O w) (h : Rp O tb S none F G lm tm) (hI : Inv S) (n : ByteArray) (hn : n.size ≤ 100000) (hk : k < maxLen) (hB : B ≤ w.heap.size) :
    Calls Try.prog 38 #[.pointer (some ⟨tb, 0, none⟩), .string n] w fun e w' => ∃ a, e = .returned (.pointer (some ⟨a, 0, none⟩)) ∧ Locked k B O tb S F G tm n w a w' := by
  have c0 := hM.cell h.tbl (i := 0) rfl
  have hmk := @run_makeMap Try.prog
  have hn' : SOk n := by unfold SOk maxLen; omega
  cases hGn : F n with
  | some a =>
    have HE : Hid (Locked k B O tb S F G tm n w a w) := ⟨O, F, lm, h, hM.mono (by omega), Stp.refl _ _ _ _, hGn, fun _ _ e => e, fun _ _ e => .inl e⟩
    cases lm with
    | none => rw [h.lm0 rfl n] at hGn; cases hGn
    | some mb =>
      have hl := S_look (hM.sm (h.lm1 mb rfl)) hn'
      rw [hGn] at hl
      clear h hM hI hGn hn'
      unfold ptr at hl
      go_enter Try.func38, Try.ntmps38
      go_wp2_with fail
      go_ret
      exact ⟨a, rfl, unhide HE⟩
  | none =>
    have HB : Hid (∀ w1, Below w.heap.size w w1 → ∀ a w', Locked k B O tb S F G tm n w1 a w' → Locked k B O tb S F G tm n w a w') := fun w1 hb a w' ⟨O', F', lm', h1, h2, h3, h4⟩ => ⟨O', F', lm', h1, h2, ((Stp.ofBelow hb).mono hB).trans h3, h4⟩
    cases lm with
    | some mb =>
      have hl := S_look (hM.sm (h.lm1 mb rfl)) hn'
      rw [hGn] at hl
      have HF : Hid (∀ w1, Below w.heap.size w w1 → _) := fun w1 hb => lock_some (B := B) (Rp.below hM hb) h hI n hn' hGn hk (Nat.le_trans hB hb.size) rfl
      have HN := hide hn
      clear h hM hI hGn hn' hn
      unfold ptr at hl
      have hq := eq70_some
      go_enter Try.func38, Try.ntmps38
      go_wp2_with (go_at_call 52; refine (clone_any n _ (by have := unhide HN; omega)).mono ?_; rintro e w1 ⟨rfl, hb⟩; obtain ⟨f1, f2, w3, f3, f4⟩ := unhide HF w1 hb; unfold lkW at f1 f2 f3; have HE := hide (unhide HB w1 hb _ _ f4); clear f4 hb)
      go_region
      go_wp2_with fail
      go_ret
      exact ⟨_, rfl, unhide HE⟩
    | none =>
      have hl := S_look_nil (w := w) hn'
      have HF : Hid (∀ w1, Below w.heap.size w w1 → _) := fun w1 hb => lock_none (B := B) (Rp.below hM hb) h hI n hn' hGn hk (Nat.le_trans hB hb.size) rfl
      have HN := hide hn
      clear h hM hI hGn hn' hn
      unfold ptr at hl
      have hq := eq70_nil
      go_enter Try.func38, Try.ntmps38
      go_wp2_with (go_at_call 52; refine (clone_any n _ (by have := unhide HN; omega)).mono ?_; rintro e w1 ⟨rfl, hb⟩; obtain ⟨f1, f2, f3, f4, f5, w3, f6, f7⟩ := unhide HF w1 hb; unfold lkW at f1 f2 f3 f4 f5 f6; have HE := hide (unhide HB w1 hb _ _ f7); clear f7 hb)
      go_region
      go_wp2_with fail
      go_ret
      exact ⟨_, rfl, unhide HE⟩
end Go.Proofs.Ytnlfmmempomcaaa
