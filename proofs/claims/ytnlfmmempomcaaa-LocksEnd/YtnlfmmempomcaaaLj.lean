/- free: a task gives a lock back, and its row goes on. -/
import Derived.Test.YtnlfmmempomcaaaLi
namespace Go.Proofs.Ytnlfmmempomcaaa
open Go.RowKit Go.Maps
set_option linter.unusedSimpArgs false
def del71 (ty : TypeId) (args : Array Value) : Sem Value := Builtin.delete_ #[71, 3] ty args
@[go_sem ↓] theorem delete_del71 (ty : TypeId) (args : Array Value) : Builtin.delete_ #[71, 3] ty args = del71 ty args := rfl
def del70 (ty : TypeId) (args : Array Value) : Sem Value := Builtin.delete_ #[70, 9] ty args
@[go_sem ↓] theorem delete_del70 (ty : TypeId) (args : Array Value) : Builtin.delete_ #[70, 9] ty args = del70 ty args := rfl
/-- What free leaves. -/
def Freed (k B : Nat) (tb : Nat) (S' : St) (ns : List Int) (ex : Option Int) (G : Int → Option Nat) (F : ByteArray → Option Nat) (tm : Option Nat) (O : Ghost) (w : World) (v : Value) (w' : World) : Prop :=
  ∃ O' F' lm', Rp O' tb S' ex F' G lm' tm ∧ Inv S' ∧ Mem k O' w' ∧ Stp 0 B O O' w w' ∧ Nums B O' w' v ns ∧ ∀ t g, F' t = some g → F t = some g
theorem Nums.turn {base : Nat} {O : Ghost} {w w' : World} {v : Value} {xs : List Int} (h : Nums base O w v xs) {b : Nat} {o o' : Ob} (e : O b = some o) (ht : w.mapTurned w' b) : Nums base (put O b o') w' v xs :=
  ⟨ownsRow_same h.1 fun g eg => (ht.grown).block g (h.lt eg).1 (fun e2 => by injection e2 with e2; have := h.2 g eg; rw [e2, e] at this; cases this), fun g eg => by rw [put_other _ _ (fun e2 => by have := h.2 g eg; rw [e2, e] at this; cases this)]; exact h.2 g eg⟩
section
variable {k B : Nat} {O : Ghost} {tb b : Nat} {S : St} {s : ByteArray} {ex : Option Int} {F : ByteArray → Option Nat} {G : Int → Option Nat} {lm tm : Option Nat} {w : World}
/-- The two deletes. -/
theorem free_facts (hM : Mem k O w) (h : Rp O tb S ex F G lm tm) (hF : F s = some b) {n : Int} {a : Nat} (hG : G n = some a) (hin : n ∈ S.hs s) (hB : B ≤ w.heap.size) :
    ∃ am hm w1 w2, w.cell? ⟨a, 1, none⟩ = some (.map (some am)) ∧ (Instr.lookup 70 (.map (some am)) (.string s) false).run Try.prog w = .ok (.pointer (some ⟨b, 0, none⟩)) w ∧ w.cell? ⟨a, 0, none⟩ = some (.int .i64 n) ∧
      (del70 0 #[.map (some am), .string s]).run Try.prog w = .ok (.tuple #[]) w1 ∧ w1.cell? ⟨b, 1, none⟩ = some (.map (some hm)) ∧ w1.cell? ⟨a, 0, none⟩ = some (.int .i64 n) ∧
      (del71 0 #[.map (some hm), .int .i64 n]).run Try.prog w1.drew = .ok (.tuple #[]) w2 ∧ ∃ O2, Rp O2 tb (S.drop n s) ex F G lm tm ∧ Mem k O2 w2 ∧ Stp 0 B O O2 w w2 := by
  obtain ⟨hm, z, rv, h1, h2, h3, xs, h4, h5⟩ := h.lock s b hF
  obtain ⟨am, z2, u, g1, gu, g2, g3⟩ := h.ask n a hG
  have hma : hm ≠ am := fun e => by rw [e, g3] at h3; simp at h3
  have hba : b ≠ am := fun e => by rw [← e, h1] at g3; simp [lockO] at g3
  have haa : a ≠ am := fun e => by rw [← e, g1] at g3; simp [askO] at g3
  have hbh : b ≠ hm := fun e => by rw [← e, h1] at h3; simp [lockO] at h3
  have hah : a ≠ hm := fun e => by rw [← e, g1] at h3; simp [askO] at h3
  have hab : a ≠ b := fun e => by rw [e, h1] at g1; simp [lockO, askO] at g1
  obtain ⟨w1, hr1, hS1, ht1⟩ := S_drop (hM.sm g3) (h.okF s b hF) 0
  have hM1 : Mem k _ w1 := hM.turn (o := ⟨0, a, .smap (supd (fun t => if n ∈ S.hs t then F t else none) s none)⟩) ht1 hS1 (Nat.le_refl _)
  have hs1 : Stp 0 B O _ w w1 := Stp.turn (t' := .smap (supd (fun t => if n ∈ S.hs t then F t else none) s none)) g3 hB ht1
  have h31 : put O am ⟨0, a, .smap (supd (fun t => if n ∈ S.hs t then F t else none) s none)⟩ hm = some ⟨0, b, .imap fun n => if n ∈ S.hs s then G n else none⟩ := by rw [put_other _ _ hma]; exact h3
  obtain ⟨w2, hr2, hS2, ht2⟩ := I_drop (hM1.drew.im h31) (h.okG n a hG) 0
  have hM2 : Mem k _ w2 := hM1.drew.turn (o := ⟨0, b, .imap (iupd (fun m => if m ∈ S.hs s then G m else none) n none)⟩) ht2 hS2 (Nat.le_refl _)
  have hs2 : Stp 0 B _ _ w1 w2 := (Stp.drew 0 B _ _).trans (Stp.turn (t' := .imap (iupd (fun m => if m ∈ S.hs s then G m else none) n none)) h31 (Nat.le_trans hB hs1.size) ht2)
  have hl := S_look (hM.sm g3) (h.okF s b hF)
  rw [if_pos hin, hF] at hl
  refine ⟨am, hm, w1, w2, hM.cell g1 (i := 1) rfl, hl, hM.cell g1 (i := 0) rfl, hr1, hM1.cell (b := b) (by rw [put_other _ _ hba]; exact h1) (i := 1) rfl, hM1.cell (b := a) (by rw [put_other _ _ haa]; exact g1) (i := 0) rfl, hr2, _, ?_, hM2, hs1.trans hs2⟩
  refine h.one hF hG (fun q o hq q1 q2 => ?_) (fun t ht => ⟨if_neg ht, rfl, rfl⟩) (fun _ _ => rfl) (fun m hmn => ?_) (fun m y hm => .inr hm) ⟨hm, z, rv, ?_, fun hne => h2 fun e => hne ?_, ?_, xs, ?_, h5⟩ ⟨am, z2, u, ?_, gu, g2, ?_⟩
  · rw [put_other _ _ (fun e => q1 (by rw [e, h3] at hq; exact (congrArg Ob.own (Option.some.inj hq)).symm)), put_other _ _ (fun e => q2 (by rw [e, g3] at hq; exact (congrArg Ob.own (Option.some.inj hq)).symm))]
    exact hq
  · rw [St.drop_mem]; simp [hmn]
  · rw [put_other _ _ hbh, put_other _ _ hba]; exact h1
  · rw [St.drop_hs, e]; rfl
  · rw [put_same]
    have : iupd (fun m => if m ∈ S.hs s then G m else none) n none = fun m => if m ∈ (S.drop n s).hs s then G m else none := funext fun m => by
      unfold iupd
      show (if m = n then none else if m ∈ S.hs s then G m else none) = _
      by_cases em : m = n
      · rw [if_pos em, if_neg (by rw [St.drop_mem]; simp [em])]
      · rw [if_neg em]
        by_cases e2 : m ∈ S.hs s
        · rw [if_pos e2, if_pos (by rw [St.drop_mem]; simp [em, e2])]
        · rw [if_neg e2, if_neg (by rw [St.drop_mem]; simp [e2])]
    rw [this]
  · rcases h4 with e | ⟨rb, off, c, cs, e1, e2, e3⟩
    · exact .inl e
    · refine .inr ⟨rb, off, c, cs, e1, ?_, e3⟩
      rw [put_other _ _ (fun e => by rw [e, h3] at e2; simp at e2), put_other _ _ (fun e => by rw [e, g3] at e2; simp at e2)]
      exact e2
  · rw [put_other _ _ hah, put_other _ _ haa]; exact g1
  · rw [put_other _ _ (Ne.symm hma), put_same]
    have : supd (fun t => if n ∈ S.hs t then F t else none) s none = fun t => if n ∈ (S.drop n s).hs t then F t else none := funext fun t => by
      unfold supd
      show (if t = s then none else if n ∈ S.hs t then F t else none) = _
      by_cases et : t = s
      · rw [if_pos et, if_neg (by rw [St.drop_mem]; simp [et])]
      · rw [if_neg et]
        by_cases e2 : n ∈ S.hs t
        · rw [if_pos e2, if_pos (by rw [St.drop_mem]; simp [et, e2])]
        · rw [if_neg e2, if_neg (by rw [St.drop_mem]; simp [e2])]
    rw [this]
end
set_option maxRecDepth 20000 in
set_option maxHeartbeats 1000000 in
theorem free_ok {k B : Nat} (O : Ghost) (tb b a : Nat) (S : St) (s : ByteArray) (n : Int) (ex : Option Int) (F : ByteArray → Option Nat) (G : Int → Option Nat) (lm tm : Option Nat) (w : World) (hM : Mem k O w) (h : Rp O tb S ex F G lm tm) (hI : Inv S) (hE : ∀ t, t ≠ s → S.hs t = [] → S.rw t = []) (hF : F s = some b) (hG : G n = some a) (hin : n ∈ S.hs s) (hk : k + 2 * (S.rw s).length < 2000000) (hB : B ≤ w.heap.size) :
    Calls Try.prog 45 #[.pointer (some ⟨tb, 0, none⟩), .pointer (some ⟨a, 0, none⟩), .string s] w fun e w' => ∃ v, e = .returned v ∧ Freed (k + 2 * (S.rw s).length) B tb ((S.drop n s).go s).1 ((S.drop n s).go s).2 ex G F tm O w v w' := by
  obtain ⟨am, hm, w1, w2, c1, hl, c0, hd1, c2, c3, hd2, O2, hR, hM2, hs2⟩ := free_facts (B := B) hM h hF hG hin hB
  have hIR := hI.drop n s
  have hEm := go_emp s _ (S.drop n s) rfl fun t et ht => hE t et (by rw [show (S.drop n s).hs t = S.hs t from if_neg et] at ht; exact ht)
  have HC := hide (goOn_ok (B := B) O2 tb b (S.drop n s) s ex F G lm tm w2 hM2 hR hIR hF hk (Nat.le_trans hB hs2.size))
  have hsok := h.okF s b hF
  have HZ : Hid (∀ v w3, GoE k B tb (S.drop n s) s ex F G lm tm O2 w2 v w3 → ∃ hm lb, ∃ cn : Nat, w3.cell? ⟨b, 1, none⟩ = some (.map (some hm)) ∧ w3.cell? ⟨tb, 0, none⟩ = some (.map (some lb)) ∧ (∀ ty, (Builtin.len_ #[71] ty #[.map (some hm)]).run Try.prog w3 = .ok (.int .i64 (cn : Int)) w3) ∧
      (cn ≠ 0 → Hid (Freed (k + 2 * (S.rw s).length) B tb ((S.drop n s).go s).1 ((S.drop n s).go s).2 ex G F tm O w v w3)) ∧
      (cn = 0 → ∃ w4, (del70 0 #[.map (some lb), .string s]).run Try.prog w3 = .ok (.tuple #[]) w4 ∧ Hid (Freed (k + 2 * (S.rw s).length) B tb ((S.drop n s).go s).1 ((S.drop n s).go s).2 ex G F tm O w v w4))) := fun v w3 ⟨O3, p1, p2, p3, p4, p5⟩ => by
    obtain ⟨hm3, z, rv, q1, q2, q3, xs, q4, q5⟩ := p1.lock s b hF
    have hlm : ∃ lb, lm = some lb := by
      cases lm with
      | none => rw [p1.lm0 rfl s] at hF; cases hF
      | some lb => exact ⟨lb, rfl⟩
    obtain ⟨lb, rfl⟩ := hlm
    obtain ⟨cn, e1, _, e2⟩ := I_len (p3.im q3)
    refine ⟨hm3, lb, cn, p3.cell q1 (i := 1) rfl, p3.cell p1.tbl (i := 0) rfl, e1, fun _ => ⟨O3, F, some lb, p1, p2, p3, hs2.trans p4, p5, fun _ _ e => e⟩, fun h0 => ?_⟩
    have h00 := e2.1 h0
    have hs0 : ((S.drop n s).go s).1.hs s = [] := by
      cases e : ((S.drop n s).go s).1.hs s with
      | nil => rfl
      | cons m l =>
        obtain ⟨_, g, hg⟩ := p1.liveh s m (by rw [e]; exact List.mem_cons_self ..)
        have := h00 m
        rw [if_pos (by rw [e]; exact List.mem_cons_self ..), hg] at this
        cases this
    have hl3 := p1.lm1 lb rfl
    obtain ⟨w4, hr4, hS4, ht4⟩ := S_drop (p3.sm hl3) hsok 0
    have hM4 : Mem (k + 2 * (S.rw s).length) _ w4 := p3.turn (o := ⟨0, tb, .smap (supd F s none)⟩) ht4 hS4 (Nat.le_refl _)
    have hs4 : Stp 0 B O3 _ w3 w4 := Stp.turn (t' := .smap (supd F s none)) hl3 (Nat.le_trans hB (hs2.trans p4).size) ht4
    refine ⟨w4, hr4, _, supd F s none, some lb, p1.forgetF p2 hs0 (hEm s hs0) rfl (fun q o hq e => by rw [put_other _ _ hq]; exact e) (put_same _ _ _), p2, hM4, (hs2.trans p4).trans hs4, p5.turn hl3 ht4, fun t g e => ?_⟩
    by_cases et : t = s
    · rw [show supd F s none t = none from if_pos et] at e; cases e
    · rw [show supd F s none t = F t from if_neg et] at e; exact e
  have HY : Hid (∀ v w3, GoE k B tb (S.drop n s) s ex F G lm tm O2 w2 v w3 → ∃ hm lb, ∃ cn : Nat, w3.cell? ⟨b, 1, none⟩ = some (.map (some hm)) ∧ w3.cell? ⟨tb, 0, none⟩ = some (.map (some lb)) ∧ (∀ ty, (Builtin.len_ #[71] ty #[.map (some hm)]).run Try.prog w3 = .ok (.int .i64 (cn : Int)) w3) ∧
      ((¬ ((cn : Int) = 0) ∧ Hid (Freed (k + 2 * (S.rw s).length) B tb ((S.drop n s).go s).1 ((S.drop n s).go s).2 ex G F tm O w v w3)) ∨
      (cn = 0 ∧ ∃ w4, (del70 0 #[.map (some lb), .string s]).run Try.prog w3 = .ok (.tuple #[]) w4 ∧ Hid (Freed (k + 2 * (S.rw s).length) B tb ((S.drop n s).go s).1 ((S.drop n s).go s).2 ex G F tm O w v w4)))) := fun v w3 hg => by
    obtain ⟨hm, lb, cn, y1, y2, y3, y4, y5⟩ := unhide HZ v w3 hg
    refine ⟨hm, lb, cn, y1, y2, y3, ?_⟩
    by_cases h0 : cn = 0
    · exact .inr ⟨h0, y5 h0⟩
    · exact .inl ⟨by omega, y4 h0⟩
  clear hM h hI hE hF hG hin hk hB hR hM2 hs2 hIR hEm hsok HZ
  go_enter Try.func45, Try.ntmps45
  go_wp2_with fail
  go_region
  go_wp2_with (go_at_call 60; refine (unhide HC).mono ?_; rintro e w3 ⟨v, rfl, hg⟩; obtain ⟨hm, lb, cn, y1, y2, y3, hy⟩ := unhide HY v w3 hg; clear hg; rcases hy with ⟨h0, y7⟩ | ⟨rfl, w4, y6, y7⟩)
  · go_ret
    exact ⟨v, rfl, unhide y7⟩
  · go_ret
    exact ⟨v, rfl, unhide y7⟩
end Go.Proofs.Ytnlfmmempomcaaa
