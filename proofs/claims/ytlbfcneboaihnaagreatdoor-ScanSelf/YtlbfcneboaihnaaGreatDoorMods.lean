/- ScanModulos: the digest of bytes but for a path's digits: the law's walk. -/
import Derived.Test.YtlbfcneboaihnaaGreatDoorMdr
import Derived.Test.YtlbfcneboaihnaaGreatDoorKn
import Derived.Test.YtlbfcneboaihnaaGreatDoorK4
namespace Go.Proofs.YtlbfcneboaihnaaGreatDoor
open Go.RowKit Go.Shelf Go.Great
set_option linter.unusedSimpArgs false
theorem mod_form {w w' : World} {p B : List Nat} {e : Ending} (h : ModIs w p B e w') : ∃ (S : List Nat) (z : Int), S.length = 32 ∧ e = .returned (.tuple #[.agg (Dg.E8 S), .int .i64 z]) := by
  rcases h.2 with ⟨_, he⟩ | ⟨_, he⟩
  · exact ⟨_, 0, Dg.Sha.sumBehind_length _ 0 _, he⟩
  · exact ⟨Dg.zs 32, 3, by simp [Dg.zs], he⟩
theorem E8d_inj {a b : List Nat} (h : Dg.E8 a = Dg.E8 b) : a = b := E8_inj h
theorem mod_two {w w' w0 w0' : World} {p B S S0 : List Nat} {z z0 : Int} (h : ModIs w p B (.returned (.tuple #[.agg (Dg.E8 S), .int .i64 z])) w') (h0 : ModIs w0 p B (.returned (.tuple #[.agg (Dg.E8 S0), .int .i64 z0])) w0') : S0 = S ∧ z0 = z := by
  have key : ∀ {A A0 : Array Value} {y y0 : Int}, Ending.returned (.tuple #[.agg A, .int .i64 y]) = .returned (.tuple #[.agg A0, .int .i64 y0]) → A = A0 ∧ y = y0 := fun h => by
    injection h with h; injection h with h
    simpa using h
  rcases h.2 with ⟨h1, he⟩ | ⟨h1, he⟩ <;> rcases h0.2 with ⟨h2, he0⟩ | ⟨h2, he0⟩
  · obtain ⟨a1, a2⟩ := key he; obtain ⟨b1, b2⟩ := key he0
    exact ⟨E8d_inj (b1.trans a1.symm), b2.trans a2.symm⟩
  · exact absurd h1 h2
  · exact absurd h2 h1
  · obtain ⟨a1, a2⟩ := key he; obtain ⟨b1, b2⟩ := key he0
    exact ⟨E8d_inj (b1.trans a1.symm), b2.trans a2.symm⟩
set_option maxRecDepth 20000 in
set_option maxHeartbeats 1000000 in
theorem mods_walk (a : Option Addr) (n c : Nat) (B : List Nat) (s1 : ByteArray) (w : World)
    (ha : BytesAt w (.slice a n c) B) (hA : Sha.Bytes B) (hn : B.length = n) (hnz : n ≤ 281474976710656) (hs1 : s1.size ≤ 140737488351232) (hmx : ∃ m, w.cell? ⟨0, 0, none⟩ = some (.int .i64 m)) (hpw : Pow w) :
    Calls Tryz.prog 3 #[.slice a n c, .string s1] w fun e w' => e = .returned (.bool true) ∧ Below w.heap.size w w' := by
  obtain ⟨p, hp, rfl⟩ : ∃ p, Sha.Bytes p ∧ strOf p = s1 := ⟨bytesOf s1, bytesOf_bytes s1, strOf_bytesOf s1⟩
  rw [strOf_size] at hs1
  have HA := hide (And.intro ha (And.intro hA (And.intro hn (And.intro hmx hpw))))
  have HPQ := hide hp
  clear ha hA hn hp hmx hpw
  by_cases h4 : n ≤ 4000
  case neg =>
    go_enter Tryz.func3, Tryz.ntmps3
    go_wp2_with fail
    go_ret
    exact ⟨rfl, Below.refl _ _⟩
  by_cases h3 : p.length ≤ 300
  case neg =>
    go_enter Tryz.func3, Tryz.ntmps3
    go_wp2_with fail
    go_ret
    exact ⟨rfl, Below.refl _ _⟩
  go_enter Tryz.func3, Tryz.ntmps3
  have HR : Hid (∀ W, Below w.heap.size w W → Calls Tryz.prog 6 #[.slice a n c, .string (strOf p)] W (ModIs W p B)) := fun W hW => moduloRef_any p a n c B W (unhide HPQ) (by omega) ((unhide HA).1.below hW) (unhide HA).2.1 (unhide HA).2.2.1 h4
  have HM := hide (modulo_any p a n c B w (unhide HPQ) (by omega) (unhide HA).1 (unhide HA).2.1 (unhide HA).2.2.1 h4 (unhide HA).2.2.2.1 (unhide HA).2.2.2.2)
  go_wp2_with fail
  refine (unhide HM).mono ?_
  rintro e w1 h1
  obtain ⟨S, z, hS, rfl⟩ := mod_form h1
  have hb1 := h1.1
  have hsS : (Dg.E8 S).size = 32 := by simp [hS]
  have H1 := hide h1
  have HB1 := hide hb1
  have hS' := hS
  clear h1 hb1 HM
  go_wp2_with fail
  have hba : Below w1.heap.size w1 (w1.alloc (.cells (Dg.E8 S) 25)) := (Below.refl _ _).alloc (Nat.le_refl _) _
  have hwa : Below w.heap.size w (w1.alloc (.cells (Dg.E8 S) 25)) := (unhide HB1).trans (hba.mono (unhide HB1).size)
  refine (unhide HR _ hwa).mono ?_
  rintro e w2 h2
  obtain ⟨S0, z0, hS0, rfl⟩ := mod_form h2
  obtain ⟨rfl, rfl⟩ := mod_two (unhide H1) h2
  have hb2 := h2.1
  have hz2 : w1.heap.size < w2.heap.size := by have := hb2.size; simp at this; omega
  have hx2 : w2.heap[w1.heap.size]? = some (.cells (Dg.E8 S0) 25) := by rw [hb2.block _ (by simp)]; exact World.alloc_heap_new w1 _
  have ho2 : Dg.rowOf w2 w1.heap.size = Dg.E8 S0 := by unfold Dg.rowOf; rw [hx2]
  have HB2 : Hid (Below w.heap.size w (w2.alloc (.cells (Dg.E8 S0) 25))) := (hwa.trans (hb2.mono hwa.size)).alloc (by have := (unhide HB1).size; omega) _
  have hEq := fun W => Dg.run_eqB W S0 hS0
  have hg := fun (W : World) (x y : Operand) => run_eqGuard_agg (P := Tryz.prog) (w := W) .eql 25 x y (Dg.E8 S0) (Dg.E8 S0) Dg.guard25
  have hsz : (Dg.rowOf w2 w1.heap.size).size = 32 := by rw [ho2]; exact hsS
  have HK := hide (known_any (w2.alloc (.cells (Dg.E8 S0) 25)))
  clear hba hwa h2 hb2 hx2 H1 HB1 HR
  go_wp2_with fail
  refine (unhide HK).mono ?_
  rintro e w3 ⟨rfl, hb3⟩
  have HB3 := hide ((unhide HB2).trans (hb3.mono (unhide HB2).size))
  clear hb3 HB2 HK hEq hg ho2 hsz
  go_wp2_with fail
  go_ret
  exact ⟨rfl, unhide HB3⟩
end Go.Proofs.YtlbfcneboaihnaaGreatDoor
