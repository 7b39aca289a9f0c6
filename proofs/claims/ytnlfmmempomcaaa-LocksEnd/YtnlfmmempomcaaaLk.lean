/- Give. -/
import Derived.Test.YtnlfmmempomcaaaLj
namespace Go.Proofs.Ytnlfmmempomcaaa
open Go.RowKit Go.Maps
set_option linter.unusedSimpArgs false
/-- A Table whose locks are S. -/
def TbIs (O : Ghost) (tb : Nat) (S : St) : Prop := ∃ F G lm tm, Rp O tb S none F G lm tm ∧ Inv S ∧ Emp S ∧ ∀ s b, F s = some b → s.size ≤ 100000
theorem TbIs.keep {O O' : Ghost} {tb : Nat} {S : St} (h : TbIs O tb S) (hk : ∀ q o, O q = some o → o.cl = 0 → O' q = some o) : TbIs O' tb S := by
  obtain ⟨F, G, lm, tm, h1, h2⟩ := h
  exact ⟨F, G, lm, tm, h1.keep hk, h2⟩
/-- What a doing leaves that tells numbers. -/
def Told (k B : Nat) (tb : Nat) (S' : St) (ns : List Int) (O : Ghost) (w : World) (v : Value) (w' : World) : Prop :=
  ∃ O', TbIs O' tb S' ∧ Mem k O' w' ∧ Stp 0 B O O' w w' ∧ Nums B O' w' v ns
def St.give (S : St) (n : Int) (s : ByteArray) : St × List Int := (S.drop n s).go s
theorem holds_tb {k : Nat} (O : Ghost) (tb : Nat) (S : St) (w : World) (hM : Mem k O w) (h : TbIs O tb S) (n : Int) (s : ByteArray) (hn : IOk n) (hs : SOk s) :
    Calls Try.prog 21 #[.pointer (some ⟨tb, 0, none⟩), .int .i64 n, .string s] w fun e w' => e = .returned (.bool (S.holds n s)) ∧ w' = w := by
  obtain ⟨F, G, lm, tm, h1, _⟩ := h
  exact holds_ok O tb S none F G lm tm w hM h1 n s hn hs
theorem waits_tb {k : Nat} (O : Ghost) (tb : Nat) (S : St) (w : World) (hM : Mem k O w) (h : TbIs O tb S) (n : Int) (hn : IOk n) :
    Calls Try.prog 19 #[.pointer (some ⟨tb, 0, none⟩), .int .i64 n] w fun e w' => e = .returned (.tuple #[.string (S.waits n).1, .bool (S.waits n).2]) ∧ Below w.heap.size w w' := by
  obtain ⟨F, G, lm, tm, h1, h2, h3, h4⟩ := h
  exact waits_ok O tb S F G lm tm w hM h1 h2 n hn h4
set_option maxRecDepth 20000 in
set_option maxHeartbeats 1000000 in
theorem give_no {k : Nat} (O : Ghost) (tb : Nat) (S : St) (w : World) (hM : Mem k O w) (h : TbIs O tb S) (n : Int) (s : ByteArray) (hn : IOk n) (hs : SOk s) (hh : S.holds n s = false) :
    Calls Try.prog 14 #[.pointer (some ⟨tb, 0, none⟩), .int .i64 n, .string s] w fun e w' => e = .returned (.tuple #[.slice none 0 0, .int .i64 7]) ∧ w' = w := by
  have HC := hide (holds_tb O tb S w hM h n s hn hs)
  rw [hh] at HC
  clear h hM
  go_enter Try.func14, Try.ntmps14
  go_wp2_with (go_at_call 21; refine (unhide HC).mono ?_; rintro e w' ⟨rfl, rfl⟩)
  go_ret2
  exact ⟨rfl, rfl⟩
set_option maxRecDepth 20000 in
set_option maxHeartbeats 1000000 in
theorem give_yes {k B : Nat} (O : Ghost) (tb : Nat) (S : St) (w : World) (hM : Mem k O w) (h : TbIs O tb S) (n : Int) (s : ByteArray) (hn : IOk n) (hs : SOk s) (hh : S.holds n s = true) (hk : k + 2 * (S.rw s).length < 2000000) (hB : B ≤ w.heap.size) :
    Calls Try.prog 14 #[.pointer (some ⟨tb, 0, none⟩), .int .i64 n, .string s] w fun e w' => ∃ v, e = .returned (.tuple #[v, .int .i64 0]) ∧ Told (k + 2 * (S.rw s).length) B tb (S.give n s).1 (S.give n s).2 O w v w' := by
  have HC := hide (holds_tb O tb S w hM h n s hn hs)
  rw [hh] at HC
  obtain ⟨F, G, lm, tm, hR, hI, hE, hsz⟩ := h
  have hin : n ∈ S.hs s := by simpa [St.holds] using hh
  obtain ⟨⟨b, hF⟩, a, hG⟩ := hR.liveh s n hin
  have htm : ∃ mb, tm = some mb := by
    cases tm with
    | none => rw [hR.tm0 rfl n (by simp)] at hG; cases hG
    | some mb => exact ⟨mb, rfl⟩
  obtain ⟨mb, rfl⟩ := htm
  have c1 := hM.cell hR.tbl (i := 1) rfl
  have hl := I_look (hM.im (hR.tm1 mb rfl)) hn
  rw [if_neg (by simp), hG] at hl
  have HG := hide (free_ok (B := B) O tb b a S s n none F G lm (some mb) w hM hR hI (fun t _ => hE t) hF hG hin hk hB)
  have hEm := go_emp s _ (S.drop n s) rfl fun t et ht => hE t (by rw [show (S.drop n s).hs t = S.hs t from if_neg et] at ht; exact ht)
  have HY : Hid (∀ v w3, Freed (k + 2 * (S.rw s).length) B tb ((S.drop n s).go s).1 ((S.drop n s).go s).2 none G F (some mb) O w v w3 → ∃ am, ∃ cn : Nat, w3.cell? ⟨a, 1, none⟩ = some (.map (some am)) ∧ (∀ ty, (Builtin.len_ #[70] ty #[.map (some am)]).run Try.prog w3 = .ok (.int .i64 (cn : Int)) w3) ∧
      ((¬ ((cn : Int) = 0) ∧ Hid (Told (k + 2 * (S.rw s).length) B tb (S.give n s).1 (S.give n s).2 O w v w3)) ∨
      (cn = 0 ∧ (∃ g, w3.cell? ⟨a, 2, none⟩ = some (.pointer (some ⟨g, 0, none⟩))) ∧ Hid (Told (k + 2 * (S.rw s).length) B tb (S.give n s).1 (S.give n s).2 O w v w3)) ∨
      (cn = 0 ∧ w3.cell? ⟨a, 2, none⟩ = some (.pointer none) ∧ w3.cell? ⟨tb, 1, none⟩ = some (.map (some mb)) ∧ ∃ w4, (del71 0 #[.map (some mb), .int .i64 n]).run Try.prog w3 = .ok (.tuple #[]) w4 ∧ Hid (Told (k + 2 * (S.rw s).length) B tb (S.give n s).1 (S.give n s).2 O w v w4)))) := fun v w3 ⟨O3, F', lm', p1, p2, p3, p4, p5, p6⟩ => by
    obtain ⟨am, z, u, q1, qu, q2, q3⟩ := p1.ask n a hG
    obtain rfl := qu (by simp)
    obtain ⟨cn, e1, _, e2⟩ := S_len (p3.sm q3)
    have hsz' : ∀ t g, F' t = some g → t.size ≤ 100000 := fun t g e => hsz t g (p6 t g e)
    refine ⟨am, cn, p3.cell q1 (i := 1) rfl, e1, ?_⟩
    have HT : Told (k + 2 * (S.rw s).length) B tb (S.give n s).1 (S.give n s).2 O w v w3 := ⟨O3, ⟨F', G, lm', some mb, p1, p2, hEm, hsz'⟩, p3, p4, p5⟩
    by_cases h0 : cn = 0
    · refine .inr ?_
      cases hw : ((S.drop n s).go s).1.wt n with
      | some x =>
        obtain ⟨⟨g, hg⟩, _⟩ := p1.livew x.1 n x.2 ((p2.wait n x.1 x.2).1 hw)
        rw [hw, Option.bind_some, hg] at q1
        exact .inl ⟨h0, ⟨g, p3.cell q1 (i := 2) rfl⟩, HT⟩
      | none =>
        rw [hw, Option.bind_none] at q1
        have h00 := e2.1 h0
        have hno : ∀ t, n ∉ ((S.drop n s).go s).1.hs t := fun t ht => by
          obtain ⟨⟨g, hg⟩, _⟩ := p1.liveh t n ht
          have := h00 t
          rw [if_pos ht, hg] at this
          cases this
        have hnw : ∀ t x, (n, x) ∉ ((S.drop n s).go s).1.rw t := fun t x hx => by
          have := (p2.wait n t x).2 hx
          rw [hw] at this
          cases this
        have hm3 := p1.tm1 mb rfl
        have hm3' : O3 mb = some ⟨0, tb, .imap G⟩ := by simpa using hm3
        obtain ⟨w4, hr4, hS4, ht4⟩ := I_drop (p3.im hm3') hn 0
        have hM4 : Mem (k + 2 * (S.rw s).length) _ w4 := p3.turn (o := ⟨0, tb, .imap (iupd G n none)⟩) ht4 hS4 (Nat.le_refl _)
        have hs4 : Stp 0 B O3 _ w3 w4 := Stp.turn (t' := .imap (iupd G n none)) hm3' (Nat.le_trans hB p4.size) ht4
        exact .inr ⟨h0, p3.cell q1 (i := 2) rfl, p3.cell p1.tbl (i := 1) rfl, w4, hr4, _, ⟨F', _, lm', some mb, p1.forgetG hno hnw rfl (fun q o hq e => by rw [put_other _ _ hq]; exact e) (put_same _ _ _), p2, hEm, hsz'⟩, hM4, p4.trans hs4, p5.turn hm3' ht4⟩
    · exact .inl ⟨by omega, HT⟩
  clear hM hR hI hE hsz hin hF hG hEm hk hB hs hn
  unfold ptr at hl
  go_enter Try.func14, Try.ntmps14
  go_wp2_with (first | (go_at_call 21; refine (unhide HC).mono ?_; rintro e w' ⟨rfl, rfl⟩) | (go_at_call 45; refine (unhide HG).mono ?_; rintro e w3 ⟨v, rfl, hg⟩; obtain ⟨am, cn, y1, y2, hy⟩ := unhide HY v w3 hg; clear hg; rcases hy with ⟨h0, y7⟩ | ⟨rfl, ⟨g, y3⟩, y7⟩ | ⟨rfl, y3, y4, w4, y5, y7⟩))
  · go_ret2
    exact ⟨v, rfl, unhide y7⟩
  · go_ret2
    exact ⟨v, rfl, unhide y7⟩
  · go_ret2
    exact ⟨v, rfl, unhide y7⟩
end Go.Proofs.Ytnlfmmempomcaaa
