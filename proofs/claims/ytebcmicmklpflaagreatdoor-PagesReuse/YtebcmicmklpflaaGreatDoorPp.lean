/- Pages: strconv.Itoa, the library's own contract laid at this program; the names of sheets' files. -/
import Derived.Shelf.Strconv.Itoa3
import Derived.Lib.LaidTab
import Derived.Test.YtebcmicmklpflaaGreatDoorPo
namespace Go.Proofs.YtebcmicmklpflaaGreatDoor
open Go.Shelf
def lays171_ren : Go.Shelf.Ren := ⟨fun | 171 => 130 | 243 => 177 | 246 => 212 | 283 => 229 | 284 => 230 | 285 => 231 | 286 => 232 | 129 => 243 | 317 => 249 | 318 => 250 | 319 => 251 | 320 => 252 | 337 => 262 | 338 => 172 | n => n, fun | 3 => 3 | 9 => 9 | 2 => 2 | 4 => 4 | 171 => 286 | 0 => 0 | 53 => 136 | 37 => 39 | 5 => 5 | 173 => 288 | 212 => 307 | 51 => 82 | 20 => 20 | 213 => 308 | 46 => 238 | 232 => 112 | 233 => 251 | n => n, fun | 17 => 3 | 18 => 4 | 19 => 0 | n => n⟩
theorem lays171 : Go.Proofs.LaysM.n171 Tryz.prog lays171_ren := {
  mixed := by kernel_rfl
  f129 := Tryz.func243.trans (congrArg some (by kernel_rfl))
  f171 := Tryz.func130.trans (congrArg some (by kernel_rfl))
  f243 := Tryz.func177.trans (congrArg some (by kernel_rfl))
  f246 := Tryz.func212.trans (congrArg some (by kernel_rfl))
  f283 := Tryz.func229.trans (congrArg some (by kernel_rfl))
  f284 := Tryz.func230.trans (congrArg some (by kernel_rfl))
  f285 := Tryz.func231.trans (congrArg some (by kernel_rfl))
  f286 := Tryz.func232.trans (congrArg some (by kernel_rfl))
  f317 := Tryz.func249.trans (congrArg some (by kernel_rfl))
  f318 := Tryz.func250.trans (congrArg some (by kernel_rfl))
  f319 := Tryz.func251.trans (congrArg some (by kernel_rfl))
  f320 := Tryz.func252.trans (congrArg some (by kernel_rfl))
  f337 := Tryz.func262.trans (congrArg some (by kernel_rfl))
  f338 := Tryz.func172.trans (congrArg some (by kernel_rfl))
  t0 := Tryz.underlying0
  a0 := Tryz.isAgg0
  z0 := Tryz.sizeOf0
  v0 := Tryz.zeroValue0
  t2 := Tryz.underlying2
  a2 := Tryz.isAgg2
  z2 := Tryz.sizeOf2
  v2 := Tryz.zeroValue2
  t3 := Tryz.underlying3
  a3 := Tryz.isAgg3
  z3 := Tryz.sizeOf3
  v3 := Tryz.zeroValue3
  t4 := Tryz.underlying4
  a4 := Tryz.isAgg4
  z4 := Tryz.sizeOf4
  v4 := Tryz.zeroValue4
  t5 := Tryz.underlying5
  a5 := Tryz.isAgg5
  z5 := Tryz.sizeOf5
  v5 := Tryz.zeroValue5
  t9 := Tryz.underlying9
  a9 := Tryz.isAgg9
  z9 := Tryz.sizeOf9
  v9 := Tryz.zeroValue9
  t20 := Tryz.underlying20
  a20 := Tryz.isAgg20
  z20 := Tryz.sizeOf20
  v20 := Tryz.zeroValue20
  t37 := Tryz.underlying39
  a37 := Tryz.isAgg39
  z37 := Tryz.sizeOf39
  v37 := Tryz.zeroValue39
  t46 := Tryz.underlying238
  a46 := Tryz.isAgg238
  z46 := Tryz.sizeOf238
  v46 := Tryz.zeroValue238
  t51 := Tryz.underlying82
  a51 := Tryz.isAgg82
  z51 := Tryz.sizeOf82
  v51 := Tryz.zeroValue82
  t53 := Tryz.underlying136
  a53 := Tryz.isAgg136
  z53 := Tryz.sizeOf136
  v53 := Tryz.zeroValue136
  t171 := Tryz.underlying286
  a171 := Tryz.isAgg286
  z171 := Tryz.sizeOf286
  v171 := Tryz.zeroValue286
  t173 := Tryz.underlying288
  a173 := Tryz.isAgg288
  z173 := Tryz.sizeOf288
  v173 := Tryz.zeroValue288
  t212 := Tryz.underlying307
  a212 := Tryz.isAgg307
  z212 := Tryz.sizeOf307
  v212 := Tryz.zeroValue307
  t213 := Tryz.underlying308
  a213 := Tryz.isAgg308
  z213 := Tryz.sizeOf308
  t232 := Tryz.underlying112
  a232 := Tryz.isAgg112
  z232 := Tryz.sizeOf112
  v232 := Tryz.zeroValue112
  t233 := Tryz.underlying251
  a233 := Tryz.isAgg251
  z233 := Tryz.sizeOf251
  v233 := Tryz.zeroValue251
  g17 := by kernel_rfl
  g18 := by kernel_rfl
  g19 := by kernel_rfl
  i0 := by kernel_rfl
  i2 := by kernel_rfl
  i3 := by kernel_rfl
  i4 := by kernel_rfl
  i5 := by kernel_rfl
  i9 := by kernel_rfl
  i20 := by kernel_rfl
  i37 := by kernel_rfl
  i46 := by kernel_rfl
  i51 := by kernel_rfl
  i53 := by kernel_rfl
  i171 := by kernel_rfl
  i173 := by kernel_rfl
  i212 := by kernel_rfl
  i232 := by kernel_rfl
  i233 := by kernel_rfl
  m17 := by kernel_rfl
  m18 := by kernel_rfl
  m19 := by kernel_rfl }
open Go.RowKit Go.Great
/-- The table that Itoa reads. -/
def Pow (w : World) : Prop := Lib.TabIs Tryz.prog w "internal/strconv.uint64pow10" .u64 Lib.pow10Tab
theorem pow_below {n : Nat} {w w' : World} (h : Pow w) (hb : Below n w w') (hn : ∀ g, Tryz.prog.globalNamed "internal/strconv.uint64pow10" = some g → g < n) : Pow w' := by
  unfold Pow Lib.TabIs World.var? at h ⊢
  cases hg : Tryz.prog.globalNamed "internal/strconv.uint64pow10" with
  | none => rw [hg] at h; cases h
  | some g =>
    rw [hg] at h
    simp only [Option.bind_some] at h ⊢
    rw [hb.block g (hn g hg)]; exact h
theorem digits_len : ∀ k n, n < 10 ^ (k + 1) → (Lib.decDigits n).length ≤ k + 1 := by
  intro k
  induction k with
  | zero => intro n h; rw [Lib.decDigits, dif_pos (by simpa using h)]; simp
  | succ k ih =>
    intro n h
    by_cases h10 : n < 10
    · rw [Lib.decDigits, dif_pos h10]; simp
    · rw [Lib.decDigits, dif_neg h10, List.length_append]
      have := ih (n / 10) (by rw [Nat.pow_succ] at h; omega)
      simp; omega
theorem itoa_some (n : Nat) (hn : n ≤ 1000) (w : World) (hp : Pow w) : Calls Tryz.prog 130 #[.int .i64 (n : Int)] w fun e w' => ∃ s : ByteArray, e = .returned (.string s) ∧ s.size ≤ 20 ∧ Below w.heap.size w w' := by
  refine (Any.strconv_Itoa (P := Tryz.prog) (ρ := lays171_ren) lays171 (n : Int) (by omega) (by omega) w hp).mono fun e w' ⟨he, k, os, hw⟩ => ⟨_, he, ?_, ?_⟩
  · have e1 : Lib.itoa (n : Int) = Lib.decDigits n := by unfold Lib.itoa; rw [if_neg (by omega)]; simp
    have h2 := digits_len 6 n (by have : (10 : Nat) ^ (6 + 1) = 10000000 := by decide
                                  omega)
    rw [e1]
    show (Lib.decDigits n).toArray.size ≤ 20
    simp
    omega
  · rw [hw]
    exact below_grow (B := w.heap.size) (w0 := w) (w := w.drewN k) ⟨rfl, rfl, rfl, Nat.le_refl _, fun _ _ => rfl⟩ (Nat.le_refl _) os
set_option maxRecDepth 20000 in
set_option maxHeartbeats 1000000 in
theorem second_some (p k : Nat) (nm : ByteArray) (w : World) (c1 : w.cell? ⟨p, 1, none⟩ = some (.string nm)) (hk : k < 256) (hp : Pow w) (hn : nm.size ≤ 100) : Calls Tryz.prog 160 #[.pointer (some ⟨p, 0, none⟩), .int .i64 (k : Int)] w fun e w' => ∃ s : ByteArray, e = .returned (.string s) ∧ s.size ≤ 200 ∧ Below w.heap.size w w' := by
  have HI : Hid (Calls Tryz.prog 130 #[.int .i64 (k : Int)] w.drew fun e w' => ∃ s : ByteArray, e = .returned (.string s) ∧ s.size ≤ 20 ∧ w'.cell? ⟨p, 1, none⟩ = some (.string nm) ∧ Hid (Below w.heap.size w w')) := (itoa_some k (by omega) w.drew hp).mono fun e w' ⟨s, e1, h1, h2⟩ => ⟨s, e1, h1, (h2.cell (p := ⟨p, 1, none⟩) (cellLt c1)).trans c1, ⟨h2.os, h2.tape, h2.output, h2.size, h2.block⟩⟩
  have hsz : ∀ s : ByteArray, s.size ≤ 20 → (nm ++ ⟨#[45, 102, 114, 101, 115, 104, 45]⟩ ++ s).size ≤ 200 := fun s hs => by
    rw [ByteArray.size_append, ByteArray.size_append]
    show nm.size + 7 + s.size ≤ 200
    omega
  have HSz := hide hsz
  have hni : (nm.size : Int) ≤ 100 := by omega
  clear hp hsz
  go_enter Tryz.func160, Tryz.ntmps160
  go_wp2_with fail
  go_region_with (refine (unhide HI).mono ?_; rintro e w1 ⟨s1, rfl, hs1, d1, HB⟩)
  all_goals
    have HS1 := hide hs1
    clear hs1
    go_wp2_with fail
    go_ret
    exact ⟨_, rfl, unhide HSz _ (unhide HS1), unhide HB⟩
set_option maxRecDepth 20000 in
set_option maxHeartbeats 1000000 in
theorem own_some (p k : Nat) (nm : ByteArray) (w : World) (c1 : w.cell? ⟨p, 1, none⟩ = some (.string nm)) (hk : k < 256) (hp : Pow w) (hn : nm.size ≤ 100) : Calls Tryz.prog 161 #[.pointer (some ⟨p, 0, none⟩), .int .i64 (k : Int)] w fun e w' => ∃ s : ByteArray, e = .returned (.string s) ∧ s.size ≤ 200 ∧ Below w.heap.size w w' := by
  have HI : Hid (Calls Tryz.prog 130 #[.int .i64 (k : Int)] w.drew fun e w' => ∃ s : ByteArray, e = .returned (.string s) ∧ s.size ≤ 20 ∧ w'.cell? ⟨p, 1, none⟩ = some (.string nm) ∧ Hid (Below w.heap.size w w')) := (itoa_some k (by omega) w.drew hp).mono fun e w' ⟨s, e1, h1, h2⟩ => ⟨s, e1, h1, (h2.cell (p := ⟨p, 1, none⟩) (cellLt c1)).trans c1, ⟨h2.os, h2.tape, h2.output, h2.size, h2.block⟩⟩
  have hsz : ∀ s : ByteArray, s.size ≤ 20 → (nm ++ ⟨#[45, 112, 97, 103, 101, 115, 45]⟩ ++ s).size ≤ 200 := fun s hs => by
    rw [ByteArray.size_append, ByteArray.size_append]
    show nm.size + 7 + s.size ≤ 200
    omega
  have HSz := hide hsz
  have hni : (nm.size : Int) ≤ 100 := by omega
  clear hp hsz
  go_enter Tryz.func161, Tryz.ntmps161
  go_wp2_with fail
  go_region_with (refine (unhide HI).mono ?_; rintro e w1 ⟨s1, rfl, hs1, d1, HB⟩)
  all_goals
    have HS1 := hide hs1
    clear hs1
    go_wp2_with fail
    go_ret
    exact ⟨_, rfl, unhide HSz _ (unhide HS1), unhide HB⟩
end Go.Proofs.YtebcmicmklpflaaGreatDoor
