/- alone, in any table. -/
import Derived.Test.YtbnbakcoomjnaaaGi
namespace Go.Proofs.Ytbnbakcoomjnaaa
open Go.RowKit Go.Maps
set_option linter.unusedSimpArgs false
/-- How many bytes go with a name. -/
def Tb.alone (T : Tb) (s : ByteArray) : Nat :=
  match T.N s with
  | none => 0
  | some i => if 1 < T.c i then 0 else (T.D i).length
set_option maxRecDepth 20000 in
set_option maxHeartbeats 1000000 in
theorem alone_any (f o : Nat) (K : Nat → Option (List UInt8)) (m : Option Nat) (n : Nat) (T : Tb) (F : Nat → Prop) (b : Nat → Nat) (h : Nat → Value) (s : ByteArray) (w : World) (hc : w.cell? ⟨f, o, none⟩ = some (.map m)) (hT : TabM w K m n T F b h) (hs : s.size ≤ maxLen) :
    Calls Try.prog 31 #[.pointer (some ⟨f, o, none⟩), .string s] w fun e w' => e = .returned (.int .i64 (T.alone s : Int)) ∧ w' = w := by
  cases hN : T.N s with
  | none =>
    have e0 : T.alone s = 0 := by unfold Tb.alone; rw [hN]
    rw [e0]
    exact alone_none f o m n _ s w hc hT.tab hs (by simp [hN])
  | some i =>
    have hi := hT.live s i hN
    have hfi := hT.file i hi
    obtain ⟨a0, c0, eh⟩ := (hT.data i hi).len
    have hl := tab_look hT.tab hs
    simp only [hN, Option.map_some] at hl
    unfold ptr at hl
    have hg0 : w.cell? ⟨b i, 0, none⟩ = some (.slice a0 (T.D i).length c0) := by simp [World.cell?, hfi, eh]
    have hg1 : w.cell? ⟨b i, 1, none⟩ = some (.int .i32 (T.c i)) := by simp [World.cell?, hfi]
    have HL := hide (load32 ⟨b i, 1, none⟩ (T.c i) w hg1)
    by_cases h1 : 1 < T.c i
    · have e0 : T.alone s = 0 := by unfold Tb.alone; rw [hN]; simp only [if_pos h1]
      rw [e0]
      clear hT hfi eh hN hi
      go_enter Try.func31, Try.ntmps31
      go_wp2_with (go_at_call 56; refine (unhide HL).mono ?_; rintro e w2 ⟨rfl, rfl⟩)
      go_ret
      exact ⟨rfl, rfl⟩
    · have e0 : T.alone s = (T.D i).length := by unfold Tb.alone; rw [hN]; simp only [if_neg h1]
      rw [e0]
      clear hT hfi eh hN hi
      generalize (T.D i).length = D at *
      go_enter Try.func31, Try.ntmps31
      go_wp2_with (go_at_call 56; refine (unhide HL).mono ?_; rintro e w2 ⟨rfl, rfl⟩)
      go_ret
      exact ⟨rfl, rfl⟩
theorem has_tab (f o : Nat) (K : Nat → Option (List UInt8)) (m : Option Nat) (n : Nat) (T : Tb) (F : Nat → Prop) (b : Nat → Nat) (h : Nat → Value) (s : ByteArray) (w : World) (hc : w.cell? ⟨f, o, none⟩ = some (.map m)) (hT : TabM w K m n T F b h) (hs : s.size ≤ maxLen) :
    Calls Try.prog 29 #[.pointer (some ⟨f, o, none⟩), .string s] w fun e w' => e = .returned (.bool (T.N s).isSome) ∧ w' = w := by
  have := has_any f o m n _ s w hc hT.tab hs
  simpa using this
set_option maxRecDepth 20000 in
set_option maxHeartbeats 1000000 in
theorem full_not (f o : Nat) (m : Option Nat) (n : Nat) (L : ByteArray → Option Nat) (w : World) (hc : w.cell? ⟨f, o, none⟩ = some (.map m)) (h : TabIs w m n L) (hn : n ≤ 16383) :
    Calls Try.prog 30 #[.pointer (some ⟨f, o, none⟩)] w fun e w' => e = .returned (.bool false) ∧ w' = w := by
  obtain ⟨k, hk, hkn⟩ := tab_len h 3
  have hkl : k ≤ 16383 := by omega
  clear hkn h
  go_enter Try.func30, Try.ntmps30
  go_wp2_with fail
  go_ret
  have e : decide ((16384 : Int) ≤ (k : Int)) = false := decide_eq_false (by omega)
  exact ⟨by rw [← e]; rfl, rfl⟩
end Go.Proofs.Ytbnbakcoomjnaaa
