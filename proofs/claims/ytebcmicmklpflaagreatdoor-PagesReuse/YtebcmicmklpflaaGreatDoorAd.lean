/- Pages: store, the files' commit, Commit, where nothing has to be laid. -/
import Derived.Test.YtebcmicmklpflaaGreatDoorAb
import Derived.Test.YtebcmicmklpflaaGreatDoorPo
namespace Go.Proofs.YtebcmicmklpflaaGreatDoor
open Go.RowKit Go.Maps
set_option linter.unusedSimpArgs false
set_option maxRecDepth 20000 in
set_option maxHeartbeats 1000000 in
theorem store_plain (p : Nat) (a : Option Addr) (l c : Nat) (w : World) (R : Int → World → Prop)
    (hrec : Calls Tryz.prog 169 #[.pointer (some ⟨p, 0, none⟩), .slice a l c, .pointer (some ⟨p, 520, none⟩)] w fun e w' => ∃ x : Int, e = .returned (.int .i64 x) ∧ x ≠ 5 ∧ R x w') :
    Calls Tryz.prog 122 #[.pointer (some ⟨p, 0, none⟩), .slice a l c, .pointer (some ⟨p, 520, none⟩)] w fun e w' => ∃ x : Int, e = .returned (.int .i64 x) ∧ R x w' := by
  have HR := hide hrec
  clear hrec
  go_enter Tryz.func122, Tryz.ntmps122
  go_wp2_with fail
  refine (unhide HR).mono ?_
  rintro e w' ⟨x, rfl, hx, hR⟩
  have HRR := hide hR
  have hb : (x == 5) = false := by simpa using hx
  clear hR HR hx
  go_wp2_with fail
  go_ret
  exact ⟨x, rfl, unhide HRR⟩
set_option maxRecDepth 20000 in
set_option maxHeartbeats 1000000 in
theorem fcommit_plain {w : World} {p : Nat} {F : Fl} {lv nv : Value} {fr di : Nat → Bool} {dd : Bool} (h : PB w p (pcell F lv nv fr di dd)) (hf : F.fv = .slice none 0 0) (hs : F.sl = false) (hst : ∀ k, F.st k = false) (hlg : F.lg < 1024) (R : Int → World → Prop)
    (a a2 : Option Addr) (l c l2 c2 : Nat)
    (hstore : ∀ W, Below w.heap.size w W → Calls Tryz.prog 122 #[.pointer (some ⟨p, 0, none⟩), .slice a2 l2 c2, .pointer (some ⟨p, 520, none⟩)] W fun e w' => ∃ x : Int, e = .returned (.int .i64 x) ∧ x ≠ 6 ∧ R x w') :
    Calls Tryz.prog 88 #[.pointer (some ⟨p, 0, none⟩), .slice a l c, .slice a2 l2 c2, .pointer (some ⟨p, 520, none⟩)] w fun e w' => ∃ x : Int, e = .returned (.int .i64 x) ∧ R x w' := by
  have HT := hide (tidy_none h hf hs)
  have c3 : w.cell? ⟨p, 3, none⟩ = some (.int .i64 F.lg) := h.cell (by omega)
  have HC : Hid (∀ W, W.heap = w.heap → Calls Tryz.prog 120 #[.pointer (some ⟨p, 0, none⟩), .slice a l c] W fun e w' => e = .returned (.int .i64 0) ∧ w' = W) := fun W hW => cost_none (h.kept (w' := W) (by rw [hW])) hst a l c
  have HS := hide hstore
  generalize F.lg = L at *
  have hL : ¬ (1024 ≤ L) := by omega
  have hLb : decide (1024 ≤ L) = false := by simpa using hlg
  clear h hf hs hst hstore
  go_enter Tryz.func88, Tryz.ntmps88
  go_wp2_with fail
  refine (unhide HT).mono ?_
  rintro e w' ⟨rfl, hw⟩
  have hw2 := hw.symm
  subst hw2
  clear hw
  go_wp2_with fail
  have c3d : w.drew.cell? ⟨p, 3, none⟩ = some (.int .i64 L) := c3
  refine wp_region_noPanic ?_
  go_region_law (go_simp; refine (unhide HC w.drew rfl).mono ?_; rintro e w1 ⟨rfl, rfl⟩; simp only [])
  all_goals
    refine NoPanic.normal ?_
    have HS1 := hide (unhide HS w.drew ((Below.refl _ _).drew))
    clear c3 c3d HC HT HS
    go_wp2_with fail
    refine (unhide HS1).mono ?_
    rintro e w2 ⟨x, rfl, hx, hR⟩
    have HR := hide hR
    have hb : (x == 6) = false := by rw [beq_eq_false_iff_ne]; exact hx
    have hb2 : (x != 6) = true := by simp [hx]
    clear hR hx HS1
    go_wp2_with fail
    go_ret
    exact ⟨x, rfl, unhide HR⟩
set_option maxRecDepth 20000 in
set_option maxHeartbeats 1000000 in
theorem pcommit_plain {w : World} {p : Nat} {F : Fl} {S : Pgr} {O : Nat → Prop} {lv nv : Value} (h : PgM w p F S O lv nv) (hd : S.dead = false) (hc : cntTo S.dirty 256 ≠ 0) (R : Int → World → Prop)
    (hfc : ∀ W, Below w.heap.size w W → Calls Tryz.prog 88 #[.pointer (some ⟨p, 0, none⟩), lv, nv, .pointer (some ⟨p, 520, none⟩)] W fun e w' => ∃ x : Int, e = .returned (.int .i64 x) ∧ Hid (x = 0 → Calls Tryz.prog 78 #[.pointer (some ⟨p, 0, none⟩)] w' fun e w2 => e = .returned (.tuple #[]) ∧ Hid (R 0 w2)) ∧ (x ≠ 0 → (∃ v, w'.cell? ⟨p, 776, none⟩ = some v) ∧ w'.frozen? ⟨p, 776, none⟩ = false) ∧ Hid (x ≠ 0 → R x (w'.setCell ⟨p, 776, none⟩ (.bool (!(decide (x = 6))))))) :
    Calls Tryz.prog 38 #[.pointer (some ⟨p, 0, none⟩)] w fun e w' => ∃ x : Int, e = .returned (.int .i64 x) ∧ R x w' := by
  have HRf := hide (prefusal_ok h)
  rw [hd] at HRf
  have HD := hide (pdirty_ok h)
  have c262 := h.last_at
  have c263 := h.now_at
  obtain ⟨a, c1, rfl, _⟩ := h.rl.shape
  obtain ⟨a2, c2, rfl, _⟩ := h.rn.shape
  have HF := hide hfc
  clear hfc h hd
  generalize S.last.length = l at *
  generalize S.now.length = l2 at *
  generalize cntTo S.dirty 256 = D at *
  have hD : ¬ ((D : Int) = 0) := by omega
  have hDb : ((D : Int) == 0) = false := by simpa using hD
  clear hc
  go_enter Tryz.func38, Tryz.ntmps38
  go_wp2_with fail
  refine (unhide HRf).mono ?_
  rintro e w' ⟨rfl, hw⟩
  have hw2 := hw.symm
  subst hw2
  clear hw
  go_wp2_with fail
  refine (unhide HD).mono ?_
  rintro e w' ⟨rfl, hw⟩
  have hw2 := hw.symm
  subst hw2
  clear hw
  go_wp2_with fail
  have e262 : w.drew.cell? ⟨p, 262, none⟩ = some (.slice a l c1) := c262
  have e263 : w.drew.cell? ⟨p, 263, none⟩ = some (.slice a2 l2 c2) := c263
  have HF1 := hide (unhide HF w.drew ((Below.refl _ _).drew))
  clear HF HRf HD
  apply one_way
  case go =>
    intro key
    refine wp_region_noPanic ?_
    go_region_law (go_simp; refine (unhide HF1).mono ?_; rintro e w1 ⟨x, rfl, h1, h2, h3⟩; simp only [])
    all_goals
      refine NoPanic.normal ?_
      revert w1 x
      exact unhide key
  case all =>
    intro w1 x h1 h2 h3
    clear e262 e263 c262 c263 HF1
    by_cases hx : x = 0
    · subst hx
      have HK := hide (unhide h1 rfl)
      clear h1 h2 h3
      go_wp2_with fail
      refine (unhide HK).mono ?_
      rintro e w2 ⟨rfl, HR⟩
      go_wp2_with fail
      go_ret
      exact ⟨0, rfl, unhide HR⟩
    · obtain ⟨⟨v, h4⟩, h5⟩ := h2 hx
      have HR := hide (unhide h3 hx)
      have hb : (x == 0) = false := by rw [beq_eq_false_iff_ne]; exact hx
      have hd6 : (!(decide (x = 6))) = (x != 6) := by
        by_cases e : x = 6
        · simp [e]
        · simp [e]
      rw [hd6] at HR
      clear h1 h2 h3 hx hd6
      go_wp2_with fail
      go_ret
      exact ⟨x, rfl, unhide HR⟩
end Go.Proofs.YtebcmicmklpflaaGreatDoor
