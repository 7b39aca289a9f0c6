/- Locks as mathematics, and how a Table lies in memory. -/
import Derived.Test.YtnlfmmempomcaaaLclone
namespace Go.Proofs.Ytnlfmmempomcaaa
open Go.RowKit Go.Maps
set_option linter.unusedSimpArgs false
/-- Locks: who holds, whether it is shared, the row; and what each task waits for. -/
structure St where
  hs : ByteArray → List Int
  sh : ByteArray → Bool
  rw : ByteArray → List (Int × Bool)
  wt : Int → Option (ByteArray × Bool)
/-- A row of pointers, owned by a lock. -/
def RowIs (O : Ghost) (b : Nat) (v : Value) (xs : List Nat) : Prop :=
  (v = .slice none 0 0 ∧ xs = []) ∨ ∃ rb off c cs, v = .slice (some ⟨rb, off, none⟩) xs.length c ∧ O rb = some ⟨0, b, .raw cs 74⟩ ∧ off + c ≤ cs.length ∧ xs.length ≤ c ∧ c ≤ maxLen ∧ (cs.drop off).take xs.length = xs.map fun g => ptr (some g)
/-- What is at a lock's block and a task's block. -/
def lockO (s : ByteArray) (b hm : Nat) (z : Bool) (rv : Value) : Ob := ⟨0, b, .raw [.string s, .map (some hm), .bool z, rv] 80⟩
def askO (n : Int) (a am : Nat) (wt : Option Nat) (z : Bool) : Ob := ⟨0, a, .raw [.int .i64 n, .map (some am), ptr wt, .bool z] 85⟩
/-- A Table in memory. -/
structure Rp (O : Ghost) (tb : Nat) (S : St) (ex : Option Int) (F : ByteArray → Option Nat) (G : Int → Option Nat) (lm tm : Option Nat) : Prop where
  tbl : O tb = some ⟨0, tb, .raw [.map lm, .map tm] 73⟩
  lm0 : lm = none → ∀ s, F s = none
  lm1 : ∀ b, lm = some b → O b = some ⟨0, tb, .smap F⟩
  tm0 : tm = none → ∀ n, ex ≠ some n → G n = none
  tm1 : ∀ b, tm = some b → O b = some ⟨0, tb, .imap fun n => if ex = some n then none else G n⟩
  lock : ∀ s b, F s = some b → ∃ hm z rv, O b = some (lockO s b hm z rv) ∧ (S.hs s ≠ [] → z = S.sh s) ∧ O hm = some ⟨0, b, .imap fun n => if n ∈ S.hs s then G n else none⟩ ∧
    ∃ xs, RowIs O b rv xs ∧ xs.map some = (S.rw s).map fun x => G x.1
  ask : ∀ n a, G n = some a → ∃ am z u, O a = some (askO n a am u z) ∧ (ex ≠ some n → u = (S.wt n).bind fun x => F x.1) ∧ (∀ x, S.wt n = some x → z = x.2) ∧ O am = some ⟨0, a, .smap fun s => if n ∈ S.hs s then F s else none⟩
  liveh : ∀ s n, n ∈ S.hs s → (∃ b, F s = some b) ∧ ∃ a, G n = some a
  livew : ∀ s n x, (n, x) ∈ S.rw s → (∃ b, F s = some b) ∧ ∃ a, G n = some a
  okF : ∀ s b, F s = some b → SOk s
  okG : ∀ n a, G n = some a → IOk n
/-- Nobody waits for what nobody holds. -/
def Emp (S : St) : Prop := ∀ s, S.hs s = [] → S.rw s = []
/-- What holds of locks at any time. -/
structure Inv (S : St) : Prop where
  wait : ∀ n s x, S.wt n = some (s, x) ↔ (n, x) ∈ S.rw s
  once : ∀ s, ((S.rw s).map Prod.fst).Nodup
  oneh : ∀ s, (S.hs s).Nodup
  apart : ∀ s n x, (n, x) ∈ S.rw s → n ∉ S.hs s
theorem Rp.injF {O : Ghost} {tb : Nat} {S : St} {ex : Option Int} {F : ByteArray → Option Nat} {G : Int → Option Nat} {lm tm : Option Nat} (h : Rp O tb S ex F G lm tm) {s s' : ByteArray} {b : Nat} (h1 : F s = some b) (h2 : F s' = some b) : s = s' := by
  obtain ⟨_, _, _, e1, _⟩ := h.lock s b h1
  obtain ⟨_, _, _, e2, _⟩ := h.lock s' b h2
  rw [e1] at e2
  simp [lockO] at e2
  exact e2.1
theorem Rp.injG {O : Ghost} {tb : Nat} {S : St} {ex : Option Int} {F : ByteArray → Option Nat} {G : Int → Option Nat} {lm tm : Option Nat} (h : Rp O tb S ex F G lm tm) {s s' : Int} {b : Nat} (h1 : G s = some b) (h2 : G s' = some b) : s = s' := by
  obtain ⟨_, _, _, e1, _⟩ := h.ask s b h1
  obtain ⟨_, _, _, e2, _⟩ := h.ask s' b h2
  rw [e1] at e2
  simp [askO] at e2
  exact e2.1
theorem RowIs.keep {O O' : Ghost} {b : Nat} {v : Value} {xs : List Nat} (h : RowIs O b v xs) (hk : ∀ q o, O q = some o → o.cl = 0 → O' q = some o) : RowIs O' b v xs := by
  rcases h with h | ⟨rb, off, c, cs, h1, h2, h3⟩
  · exact .inl h
  · exact .inr ⟨rb, off, c, cs, h1, hk _ _ h2 rfl, h3⟩
theorem Rp.keep {O O' : Ghost} {tb : Nat} {S : St} {ex : Option Int} {F : ByteArray → Option Nat} {G : Int → Option Nat} {lm tm : Option Nat} (h : Rp O tb S ex F G lm tm) (hk : ∀ q o, O q = some o → o.cl = 0 → O' q = some o) : Rp O' tb S ex F G lm tm :=
  ⟨hk _ _ h.tbl rfl, h.lm0, fun b e => hk _ _ (h.lm1 b e) rfl, h.tm0, fun b e => hk _ _ (h.tm1 b e) rfl, fun s b e => by
    obtain ⟨hm, z, rv, h1, h2, h3, xs, h4, h5⟩ := h.lock s b e
    exact ⟨hm, z, rv, hk _ _ h1 rfl, h2, hk _ _ h3 rfl, xs, h4.keep hk, h5⟩, fun n a e => by
    obtain ⟨am, z, u, h1, hu, h2, h3⟩ := h.ask n a e
    exact ⟨am, z, u, hk _ _ h1 rfl, hu, h2, hk _ _ h3 rfl⟩, h.liveh, h.livew, h.okF, h.okG⟩
/-- Does a task hold a lock? -/
def St.holds (S : St) (n : Int) (s : ByteArray) : Bool := (S.hs s).contains n
set_option maxRecDepth 20000 in
set_option maxHeartbeats 1000000 in
theorem holds_ok {k : Nat} (O : Ghost) (tb : Nat) (S : St) (ex : Option Int) (F : ByteArray → Option Nat) (G : Int → Option Nat) (lm tm : Option Nat) (w : World) (hM : Mem k O w) (h : Rp O tb S ex F G lm tm) (n : Int) (s : ByteArray) (hn : IOk n) (hs : SOk s) :
    Calls Try.prog 21 #[.pointer (some ⟨tb, 0, none⟩), .int .i64 n, .string s] w fun e w' => e = .returned (.bool (S.holds n s)) ∧ w' = w := by
  have c0 := hM.cell h.tbl (i := 0) rfl
  have hF : F s = none → S.holds n s = false := fun e => by
    cases e2 : S.holds n s with
    | false => rfl
    | true =>
      have e3 : n ∈ S.hs s := by simpa [St.holds] using e2
      obtain ⟨⟨b, hb⟩, _⟩ := h.liveh s n e3
      rw [e] at hb; cases hb
  cases lm with
  | none =>
    have hl := S_look_nil (w := w) hs
    have HE := hide (hF (h.lm0 rfl s))
    clear h hM hF
    unfold ptr at hl
    go_enter Try.func21, Try.ntmps21
    go_wp2_with fail
    go_ret
    exact ⟨by rw [unhide HE]; rfl, rfl⟩
  | some lb =>
    have hl := S_look (hM.sm (h.lm1 lb rfl)) hs
    cases hFs : F s with
    | none =>
      have HE := hide (hF hFs)
      rw [hFs] at hl
      clear h hM hF hFs
      unfold ptr at hl
      go_enter Try.func21, Try.ntmps21
      go_wp2_with fail
      go_ret
      exact ⟨by rw [unhide HE]; rfl, rfl⟩
    | some b =>
      obtain ⟨hm, z, rv, h1, _, h3, _⟩ := h.lock s b hFs
      have c1 := hM.cell h1 (i := 1) rfl
      have hq := I_look_ok (hM.im h3) hn
      have HE : Hid ((if n ∈ S.hs s then G n else none).isSome = S.holds n s) := by
        show (if n ∈ S.hs s then G n else none).isSome = S.holds n s
        unfold St.holds
        by_cases hin : n ∈ S.hs s
        · obtain ⟨_, a, ha⟩ := h.liveh s n hin
          rw [if_pos hin, ha]
          simpa using hin
        · rw [if_neg hin]
          simpa using hin
      rw [hFs] at hl
      generalize (if n ∈ S.hs s then G n else none) = r at *
      clear h hM hF hFs h1 h3
      unfold ptr at hl
      go_enter Try.func21, Try.ntmps21
      go_wp2_with fail
      go_ret
      exact ⟨by rw [← unhide HE]; rfl, rfl⟩
/-- What a task waits for. -/
def St.waits (S : St) (n : Int) : ByteArray × Bool := match S.wt n with
  | none => (⟨#[]⟩, false)
  | some x => (x.1, true)
set_option maxRecDepth 20000 in
set_option maxHeartbeats 1000000 in
theorem waits_ok {k : Nat} (O : Ghost) (tb : Nat) (S : St) (F : ByteArray → Option Nat) (G : Int → Option Nat) (lm tm : Option Nat) (w : World) (hM : Mem k O w) (h : Rp O tb S none F G lm tm) (hI : Inv S) (n : Int) (hn : IOk n) (hsz : ∀ s b, F s = some b → s.size ≤ 100000) :
    Calls Try.prog 19 #[.pointer (some ⟨tb, 0, none⟩), .int .i64 n] w fun e w' => e = .returned (.tuple #[.string (S.waits n).1, .bool (S.waits n).2]) ∧ Below w.heap.size w w' := by
  have c0 := hM.cell h.tbl (i := 1) rfl
  have hW : G n = none → S.waits n = (⟨#[]⟩, false) := fun e => by
    unfold St.waits
    cases e2 : S.wt n with
    | none => rfl
    | some x =>
      obtain ⟨_, a, ha⟩ := h.livew x.1 n x.2 ((hI.wait n x.1 x.2).1 e2)
      rw [e] at ha; cases ha
  cases tm with
  | none =>
    have hl := I_look_nil (w := w) hn
    have HE := hide (hW (h.tm0 rfl n (by simp)))
    clear h hM hW
    unfold ptr at hl
    go_enter Try.func19, Try.ntmps19
    go_wp2_with fail
    go_ret2
    exact ⟨by rw [unhide HE]; rfl, Below.refl _ _⟩
  | some mb =>
    have hl := I_look (hM.im (h.tm1 mb rfl)) hn
    rw [if_neg (by simp)] at hl
    cases hGn : G n with
    | none =>
      have HE := hide (hW hGn)
      rw [hGn] at hl
      clear h hM hW hGn
      unfold ptr at hl
      go_enter Try.func19, Try.ntmps19
      go_wp2_with fail
      go_ret2
      exact ⟨by rw [unhide HE]; rfl, Below.refl _ _⟩
    | some a =>
      obtain ⟨am, z, u, h1, hu, _, _⟩ := h.ask n a hGn
      obtain rfl := hu (by simp)
      have c2 := hM.cell h1 (i := 2) rfl
      rw [hGn] at hl
      cases hwt : S.wt n with
      | none =>
        have HE : Hid (S.waits n = (⟨#[]⟩, false)) := by
          show S.waits n = (⟨#[]⟩, false)
          unfold St.waits
          rw [hwt]
        rw [hwt] at c2
        simp only [Option.bind_none] at c2
        clear h hM hW hGn h1 hwt
        unfold ptr at hl c2
        go_enter Try.func19, Try.ntmps19
        go_wp2_with fail
        go_ret2
        exact ⟨by rw [unhide HE]; rfl, Below.refl _ _⟩
      | some x =>
        have HE : Hid (S.waits n = (x.1, true)) := by
          show S.waits n = (x.1, true)
          unfold St.waits
          rw [hwt]
        obtain ⟨⟨b, hb⟩, _⟩ := h.livew x.1 n x.2 ((hI.wait n x.1 x.2).1 hwt)
        obtain ⟨hm, z', rv, h2, _⟩ := h.lock x.1 b hb
        have c3 := hM.cell h2 (i := 0) rfl
        have HC := hide (hsz _ _ hb)
        rw [hwt] at c2
        simp only [Option.bind_some, hb] at c2
        clear h hM hW hGn h1 h2 hwt hb hsz
        generalize x.1 = s at *
        unfold ptr at hl c2
        go_enter Try.func19, Try.ntmps19
        go_wp2_with (go_at_call 52; refine (clone_any s _ (by have := unhide HC; omega)).mono ?_; rintro e w' ⟨rfl, hb⟩)
        go_ret2
        exact ⟨by rw [unhide HE]; rfl, hb⟩
end Go.Proofs.Ytnlfmmempomcaaa
