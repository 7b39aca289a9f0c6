/- Take, Give and Leave, whatever comes of them. -/
import Derived.Test.YtnlfmmempomcaaaSa
namespace Go.Proofs.Ytnlfmmempomcaaa
open Go.RowKit Go.Maps
set_option linter.unusedSimpArgs false
open Classical in
/-- Take: the locks behind it, whether the lock is held now, the error. -/
noncomputable def St.take (S : St) (n : Int) (s : ByteArray) (x : Bool) : St × Bool × Int :=
  if n < 0 then (S, false, 1) else if (S.waits n).2 = true ∨ S.holds n s = true then (S, false, 8) else if S.rw s = [] ∧ S.lets s x = true then (S.hold n s x, true, 0) else if S.Ring n s then (S, false, 17) else (S.wait n s x, false, 0)
theorem Left.of_below {k : Nat} {O : Ghost} {tb : Nat} {S : St} {w w' : World} (hM : Mem k O w) (h : TbIs O tb S) (hb : Below w.heap.size w w') : Left k w.heap.size tb S O w w' := ⟨O, h, Rp.below hM hb, Stp.ofBelow hb⟩
theorem Left.mono {k k' B : Nat} {O : Ghost} {tb : Nat} {S : St} {w w' : World} (h : Left k B tb S O w w') (hk : k ≤ k') : Left k' B tb S O w w' := by
  obtain ⟨O', h1, h2, h3⟩ := h
  exact ⟨O', h1, h2.mono hk, h3⟩
theorem take_all {k : Nat} (O : Ghost) (tb : Nat) (S : St) (w : World) (hM : Mem k O w) (h : TbIs O tb S) (n : Int) (s : ByteArray) (x : Bool) (hn : IOk n) (hs : s.size ≤ 100000) (hk : k < 1000000) (hlen : (S.rw s).length ≤ 100000) :
    Calls Try.prog 12 #[.pointer (some ⟨tb, 0, none⟩), .int .i64 n, .string s, .bool x] w fun e w' => e = .returned (.tuple #[.bool (S.take n s x).2.1, .int .i64 (S.take n s x).2.2]) ∧ Left (k + 4) w.heap.size tb (S.take n s x).1 O w w' := by
  have hI : Inv S := by obtain ⟨_, _, _, _, _, hI, _⟩ := h; exact hI
  unfold St.take
  by_cases h0 : n < 0
  · rw [if_pos h0]
    refine (take_arg tb n s x w h0).mono ?_
    rintro e w' ⟨rfl, rfl⟩
    exact ⟨rfl, (Left.of_below hM h (Below.refl _ _)).mono (by omega)⟩
  rw [if_neg h0]
  by_cases h1 : (S.waits n).2 = true ∨ S.holds n s = true
  · rw [if_pos h1]
    refine (take_has O tb S w hM h n s x hn (by unfold SOk maxLen; omega) h0 h1).mono ?_
    rintro e w' ⟨rfl, hb⟩
    exact ⟨rfl, (Left.of_below hM h hb).mono (by omega)⟩
  rw [if_neg h1]
  have hw : (S.waits n).2 = false := by
    cases e : (S.waits n).2 with
    | false => rfl
    | true => exact absurd (.inl e) h1
  have hh : S.holds n s = false := by
    cases e : S.holds n s with
    | false => rfl
    | true => exact absurd (.inr e) h1
  by_cases h2 : S.rw s = [] ∧ S.lets s x = true
  · rw [if_pos h2]
    exact take_hold O tb S w hM h n s x hn hs h0 hk hw hh h2.1 h2.2
  rw [if_neg h2]
  by_cases h3 : S.Ring n s
  · rw [if_pos h3]
    exact take_rings O tb S w hM h n s x hn hs h0 hk hw hh h2 (ring_is tb S n s true hI (by omega) (holds_not hh) (by simp [h3]))
  · rw [if_neg h3]
    exact take_waits O tb S w hM h n s x hn hs h0 hk hw hh h2 (ring_is tb S n s false hI (by omega) (holds_not hh) (by simp [h3])) hlen
open Classical in
/-- Give: the locks behind it, who holds it now. -/
noncomputable def St.gives (S : St) (n : Int) (s : ByteArray) : St × List Int := if S.holds n s = true then S.give n s else (S, [])
theorem give_all {k : Nat} (O : Ghost) (tb : Nat) (S : St) (w : World) (hM : Mem k O w) (h : TbIs O tb S) (n : Int) (s : ByteArray) (hn : IOk n) (hs : SOk s) (hk : k + 2 * (S.rw s).length < 2000000) :
    Calls Try.prog 14 #[.pointer (some ⟨tb, 0, none⟩), .int .i64 n, .string s] w fun e w' => ∃ v, e = .returned (.tuple #[v, .int .i64 (if S.holds n s = true then 0 else 7)]) ∧ Told (k + 2 * (S.rw s).length) w.heap.size tb (S.gives n s).1 (S.gives n s).2 O w v w' := by
  unfold St.gives
  cases hh : S.holds n s with
  | true => exact give_yes O tb S w hM h n s hn hs hh hk (Nat.le_refl _)
  | false =>
    refine (give_no O tb S w hM h n s hn hs hh).mono ?_
    rintro e w' ⟨rfl, rfl⟩
    exact ⟨_, rfl, O, h, hM.mono (by omega), Stp.refl _ _ _ _, Nums.nil _ _ _⟩
/-- What Leave leaves, whatever it was. -/
def LeftA (C B tb : Nat) (S : St) (n : Int) (O : Ghost) (w : World) (v : Value) (w' : World) : Prop :=
  ∃ ks, Names (fun t => n ∈ S.hs t) ks ∧ Told C B tb (St.leaves n ks (S.stop n).1).1 ((S.stop n).2 ++ (St.leaves n ks (S.stop n).1).2) O w v w'
theorem leave_all {k C : Nat} (O : Ghost) (tb : Nat) (S : St) (w : World) (hM : Mem k O w) (h : TbIs O tb S) (n : Int) (hn : IOk n) (hCm : C < 1000000) (hCq : k + 2 * S.queue n ≤ C) (hC : ∀ ks, Names (fun t => n ∈ S.hs t) ks → k + 2 * (S.queue n + sumRw (S.stop n).1 ks) ≤ C) :
    Calls Try.prog 17 #[.pointer (some ⟨tb, 0, none⟩), .int .i64 n] w fun e w' => ∃ v, e = .returned v ∧ LeftA C w.heap.size tb S n O w v w' := by
  have h' := h
  obtain ⟨F, G, lm, tm, hR, hI, hE, hsz⟩ := h
  obtain ⟨_, hhs⟩ := stop_wt S n
  have hNm : ∀ ks, Names (fun t => n ∈ (S.stop n).1.hs t) ks → Names (fun t => n ∈ S.hs t) ks := fun ks hN => ⟨hN.up, hN.nd, fun t => (hN.mem t).trans (hhs t)⟩
  cases hG : G n with
  | none =>
    refine (leave_none O tb S F G lm tm w hM hR n hn hG).mono ?_
    rintro e w' ⟨rfl, rfl⟩
    have hst : S.stop n = (S, []) := by unfold St.stop; rw [hR.nowait hI hG]
    refine ⟨_, rfl, [], ⟨.nil, .nil, fun t => ⟨fun h => (by cases h), fun h => absurd h (hR.notin hG t)⟩⟩, ?_⟩
    rw [hst]
    exact ⟨O, h', hM.mono (by omega), Stp.refl _ _ _ _, Nums.nil _ _ _⟩
  | some a =>
    have htm : ∃ mb, tm = some mb := by
      cases tm with
      | none => rw [hR.tm0 rfl n (by simp)] at hG; cases hG
      | some mb => exact ⟨mb, rfl⟩
    obtain ⟨mb, rfl⟩ := htm
    refine (leave_ok (C := C) (B := w.heap.size) O tb a mb S F G lm w hM hR hI hE hsz n hn hG (Nat.le_refl _) hCm hCq fun ks hks => hC ks (hNm ks hks)).mono ?_
    rintro e w' ⟨v, rfl, ks, hks, hT⟩
    exact ⟨v, rfl, ks, hNm ks hks, hT⟩
end Go.Proofs.Ytnlfmmempomcaaa
