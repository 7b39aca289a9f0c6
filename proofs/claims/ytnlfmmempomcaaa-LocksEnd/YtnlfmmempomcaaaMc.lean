/- Take: where the lock is held at once. -/
import Derived.Test.YtnlfmmempomcaaaMb
namespace Go.Proofs.Ytnlfmmempomcaaa
open Go.RowKit Go.Maps
set_option linter.unusedSimpArgs false
/-- What a doing leaves that tells no number. -/
def Left (k B : Nat) (tb : Nat) (S' : St) (O : Ghost) (w w' : World) : Prop := ∃ O', TbIs O' tb S' ∧ Mem k O' w' ∧ Stp 0 B O O' w w'
/-- Behind asker and lock. -/
def TkR (k B : Nat) (tb : Nat) (S : St) (n : Int) (s : ByteArray) (O : Ghost) (w : World) (a b : Nat) (w3 : World) : Prop :=
  ∃ O3 F3 G3 lm3 tm3, Rp O3 tb S none F3 G3 lm3 tm3 ∧ Mem (k + 2) O3 w3 ∧ Stp 0 B O O3 w w3 ∧ F3 s = some b ∧ G3 n = some a ∧ ∀ t g, F3 t = some g → t.size ≤ 100000
section
variable {k B : Nat} {O : Ghost} {tb : Nat} {S : St} {s : ByteArray} {n : Int} {w w1 w2 w3 : World}
theorem tk_asker (hM : Mem k O w) (h : TbIs O tb S) (hn : IOk n) (hk : k < 1000000) (hb : Below w.heap.size w w1) :
    Calls Try.prog 37 #[.pointer (some ⟨tb, 0, none⟩), .int .i64 n] w1 fun e w2 => ∃ a, e = .returned (.pointer (some ⟨a, 0, none⟩)) ∧ ∃ F lm, (∀ t g, F t = some g → t.size ≤ 100000) ∧ Inv S ∧ Asked k w.heap.size O tb S F (fun _ => none) lm n w a w2 := by
  obtain ⟨F, G, lm, tm, hR, hI, hE, hsz⟩ := h
  refine (asker_ok (B := w.heap.size) O tb S F G lm tm w1 (Rp.below hM hb) hR hI n hn (by simp only [maxLen]; omega) hb.size).mono ?_
  rintro e w2 ⟨a, rfl, O2, G2, tm2, q1, q2, q3, q4, q5⟩
  exact ⟨a, rfl, F, lm, hsz, hI, O2, G2, tm2, q1, q2, (Stp.ofBelow hb).trans q3, q4, fun _ _ e => by cases e⟩
theorem tk_lock (hI : Inv S) {a : Nat} {F : ByteArray → Option Nat} {lm : Option Nat} (hsz : ∀ t g, F t = some g → t.size ≤ 100000) (h : Asked k w.heap.size O tb S F (fun _ => none) lm n w a w2) (hs : s.size ≤ 100000) (hk : k < 1000000) :
    Calls Try.prog 38 #[.pointer (some ⟨tb, 0, none⟩), .string s] w2 fun e w3 => ∃ b, e = .returned (.pointer (some ⟨b, 0, none⟩)) ∧ TkR k w.heap.size tb S n s O w a b w3 := by
  obtain ⟨O2, G2, tm2, q1, q2, q3, q4, q5⟩ := h
  refine (lock_ok (B := w.heap.size) O2 tb S F G2 lm tm2 w2 q2 q1 hI s hs (by simp only [maxLen]; omega) q3.size).mono ?_
  rintro e w3 ⟨b, rfl, O3, F3, lm3, p1, p2, p3, p4, p5, p6⟩
  refine ⟨b, rfl, O3, F3, G2, lm3, tm2, p1, p2, q3.trans p3, p4, q4, fun t g e => ?_⟩
  rcases p6 t g e with e | e
  · exact hsz t g e
  · rw [e]; exact hs
theorem tk_row {a b : Nat} (h : TkR k B tb S n s O w a b w3) : ∃ ra rc, w3.cell? ⟨b, 3, none⟩ = some (.slice ra (S.rw s).length rc) := by
  obtain ⟨O3, F3, G3, lm3, tm3, q1, q2, q3, q4, q5, q6⟩ := h
  obtain ⟨hm, z, rv, h1, h2, h3, xs, h4, h5⟩ := q1.lock s b q4
  have hl : xs.length = (S.rw s).length := by have := congrArg List.length h5; simpa using this
  rw [← hl]
  have c3 := q2.cell h1 (i := 3) rfl
  rcases h4 with ⟨e, e2⟩ | ⟨rb, off, c, cs, e, _⟩
  · rw [e] at c3; rw [e2]; exact ⟨_, _, c3⟩
  · rw [e] at c3; exact ⟨_, _, c3⟩
theorem tk_lets {a b : Nat} (h : TkR k B tb S n s O w a b w3) (x : Bool) : Calls Try.prog 39 #[.pointer (some ⟨b, 0, none⟩), .bool x] w3 fun e w' => e = .returned (.bool (S.lets s x)) ∧ w' = w3 := by
  obtain ⟨O3, F3, G3, lm3, tm3, q1, q2, q3, q4, q5, q6⟩ := h
  obtain ⟨hm, z, rv, h1, h2, h3, xs, h4, h5⟩ := q1.lock s b q4
  exact lets_any b hm z x _ _ w3 (q2.cell h1 (i := 1) rfl) (q2.cell h1 (i := 2) rfl) (q2.im h3) (lets_of q1 h2)
theorem tk_hold {a b : Nat} (hI : Inv S) (hE : Emp S) (hw : S.wt n = none) (hh : n ∉ S.hs s) (h : TkR k B tb S n s O w a b w3) (x : Bool) (hk : k < 1000000) (hB : B ≤ w.heap.size) : Calls Try.prog 40 #[.pointer (some ⟨b, 0, none⟩), .pointer (some ⟨a, 0, none⟩), .bool x] w3 fun e w' => e = .returned (.tuple #[]) ∧ Left (k + 4) B tb (S.hold n s x) O w w' := by
  obtain ⟨O3, F3, G3, lm3, tm3, q1, q2, q3, q4, q5, q6⟩ := h
  obtain ⟨hm, z, rv, h1, h2, h3, xs, h4, h5⟩ := q1.lock s b q4
  obtain ⟨am, z2, u, g1, gu, g2, g3⟩ := q1.ask n a q5
  have hma : hm ≠ a := fun e => by rw [e, g1] at h3; simp [askO] at h3
  have hmb : hm ≠ b := fun e => by rw [e, h1] at h3; simp [lockO] at h3
  have ama : am ≠ a := fun e => by rw [e, g1] at g3; simp [askO] at g3
  have amb : am ≠ b := fun e => by rw [e, h1] at g3; simp [lockO] at g3
  have hmam : hm ≠ am := fun e => by rw [e, g3] at h3; simp at h3
  have hab : a ≠ b := fun e => by rw [e, h1] at g1; simp [lockO, askO] at g1
  refine (hold_any (B := B) O3 b a hm am n s z x rv _ _ _ _ w3 q2 (by simp only [maxLen]; omega) h1 g1 h3 g3 (q1.okG n a q5) (q1.okF s b q4) (Nat.le_trans hB q3.size)).mono ?_
  rintro e w4 ⟨rfl, hM4, hs4⟩
  refine ⟨rfl, _, ⟨F3, G3, lm3, tm3, q1.one q4 q5 (fun q o hq q1 q2 => ?_) (fun t ht => ⟨if_neg ht, if_neg ht, rfl⟩) (fun m hm => rfl) (fun m hm => ?_) (fun m y hm => .inr hm) ⟨hm, x, rv, ?_, fun _ => (if_pos rfl).symm, ?_, xs, ?_, h5⟩ ⟨am, z2, u, ?_, gu, g2, ?_⟩, hI.hold x hh hw, hE.hold n s x, q6⟩, hM4, q3.trans hs4⟩
  · have n1 : q ≠ b := fun e => q1 (by rw [e, h1] at hq; exact (congrArg Ob.own (Option.some.inj hq)).symm)
    have n3 : q ≠ hm := fun e => q1 (by rw [e, h3] at hq; exact (congrArg Ob.own (Option.some.inj hq)).symm)
    have n4 : q ≠ am := fun e => q2 (by rw [e, g3] at hq; exact (congrArg Ob.own (Option.some.inj hq)).symm)
    unfold heldO
    rw [put_other _ _ n4, put_other _ _ n1, put_other _ _ n3]
    exact hq
  · rw [show (S.hold n s x).hs s = S.hs s ++ [n] from if_pos rfl]
    simp [hm]
  · unfold heldO
    rw [put_other _ _ (Ne.symm amb), put_same]; rfl
  · unfold heldO
    rw [put_other _ _ hmam, put_other _ _ hmb, put_same, show (S.hold n s x).hs s = S.hs s ++ [n] from if_pos rfl]
    have : iupd (fun m => if m ∈ S.hs s then G3 m else none) n (some a) = fun m => if m ∈ S.hs s ++ [n] then G3 m else none := funext fun m => by
      unfold iupd
      by_cases em : m = n
      · subst em
        rw [if_pos rfl, if_pos (by simp), q5]
      · rw [if_neg em]
        show (if m ∈ S.hs s then G3 m else none) = _
        by_cases em2 : m ∈ S.hs s
        · rw [if_pos em2, if_pos (by simp [em2])]
        · rw [if_neg em2, if_neg (by simp [em2, em])]
    rw [this]
  · rcases h4 with e | ⟨rb, off, c, cs, e1, e2, e3⟩
    · exact .inl e
    · refine .inr ⟨rb, off, c, cs, e1, ?_, e3⟩
      unfold heldO
      rw [put_other _ _ (fun e => by rw [e, g3] at e2; simp at e2), put_other _ _ (fun e => by rw [e, h1] at e2; simp [lockO] at e2), put_other _ _ (fun e => by rw [e, h3] at e2; simp at e2)]
      exact e2
  · unfold heldO
    rw [put_other _ _ (Ne.symm ama), put_other _ _ hab, put_other _ _ (Ne.symm hma)]; exact g1
  · unfold heldO
    rw [put_same]
    have : supd (fun t => if n ∈ S.hs t then F3 t else none) s (some b) = fun t => if n ∈ (S.hold n s x).hs t then F3 t else none := funext fun t => by
      unfold supd
      by_cases et : t = s
      · subst et
        rw [if_pos rfl, show (S.hold n t x).hs t = S.hs t ++ [n] from if_pos rfl, if_pos (by simp), q4]
      · rw [if_neg et, show (S.hold n s x).hs t = S.hs t from if_neg et]
    rw [this]
end
theorem waits_none {S : St} {n : Int} (h : (S.waits n).2 = false) : S.wt n = none := by
  unfold St.waits at h
  cases e : S.wt n with
  | none => rfl
  | some x => rw [e] at h; cases h
theorem holds_not {S : St} {n : Int} {s : ByteArray} (h : S.holds n s = false) : n ∉ S.hs s := by simpa [St.holds] using h
set_option maxRecDepth 20000 in
set_option maxHeartbeats 1000000 in
theorem take_hold {k : Nat} (O : Ghost) (tb : Nat) (S : St) (w : World) (hM : Mem k O w) (h : TbIs O tb S) (n : Int) (s : ByteArray) (x : Bool) (hn : IOk n) (hs : s.size ≤ 100000) (h0 : ¬ n < 0) (hk : k < 1000000) (hw : (S.waits n).2 = false) (hh : S.holds n s = false) (hr : S.rw s = []) (hl : S.lets s x = true) :
    Calls Try.prog 12 #[.pointer (some ⟨tb, 0, none⟩), .int .i64 n, .string s, .bool x] w fun e w' => e = .returned (.tuple #[.bool true, .int .i64 0]) ∧ Left (k + 4) w.heap.size tb (S.hold n s x) O w w' := by
  have hI : Inv S := by obtain ⟨_, _, _, _, _, hI, _⟩ := h; exact hI
  have hE : Emp S := by obtain ⟨_, _, _, _, _, _, hE, _⟩ := h; exact hE
  have HW := hide (waits_tb O tb S w hM h n hn)
  rw [hw] at HW
  have HH : Hid (∀ w1, Below w.heap.size w w1 → _) := fun w1 hb => holds_tb O tb S w1 (Rp.below hM hb) h n s hn (by unfold SOk maxLen; omega)
  rw [hh] at HH
  have HA : Hid (∀ w1, Below w.heap.size w w1 → _) := fun w1 hb => tk_asker (w1 := w1) hM h hn hk hb
  have HT : Hid (∀ a b w3, TkR k w.heap.size tb S n s O w a b w3 → (∃ ra rc, w3.cell? ⟨b, 3, none⟩ = some (.slice ra 0 rc)) ∧ Hid (Calls Try.prog 39 #[.pointer (some ⟨b, 0, none⟩), .bool x] w3 fun e w' => e = .returned (.bool true) ∧ w' = w3) ∧ Hid (Calls Try.prog 40 #[.pointer (some ⟨b, 0, none⟩), .pointer (some ⟨a, 0, none⟩), .bool x] w3 fun e w' => e = .returned (.tuple #[]) ∧ Left (k + 4) w.heap.size tb (S.hold n s x) O w w')) := fun a b w3 ht => by
    refine ⟨?_, ?_, tk_hold hI hE (waits_none hw) (holds_not hh) ht x hk (Nat.le_refl _)⟩
    · have := tk_row ht
      rw [hr] at this
      exact this
    · have := tk_lets ht x
      rw [hl] at this
      exact this
  have HK := hide hk
  have HS := hide hs
  clear h hM hn hs hw hh hI hE hl hr hk
  go_enter Try.func12, Try.ntmps12
  go_wp2_with (first | (go_at_call 19; refine (unhide HW).mono ?_; rintro e w1 ⟨rfl, hb⟩) | (go_at_call 21; refine (unhide HH w1 hb).mono ?_; rintro e w2 ⟨rfl, rfl⟩) | (go_at_call 37; refine (unhide HA _ hb).mono ?_; rintro e w2 ⟨a, rfl, F, lm, hsz, hI, hA⟩; have HL := hide (tk_lock hI hsz hA (unhide HS) (unhide HK)); clear hsz hI hA) | (go_at_call 38; refine (unhide HL).mono ?_; rintro e w3 ⟨b, rfl, ht⟩; obtain ⟨⟨ra, rc, y1⟩, y2, y3⟩ := unhide HT a b w3 ht; clear ht) | (go_at_call 39; refine (unhide y2).mono ?_; rintro e w4 ⟨rfl, rfl⟩) | (go_at_call 40; refine (unhide y3).mono ?_; rintro e w4 ⟨rfl, hE⟩))
  go_ret2
  exact ⟨rfl, hE⟩
end Go.Proofs.Ytnlfmmempomcaaa
