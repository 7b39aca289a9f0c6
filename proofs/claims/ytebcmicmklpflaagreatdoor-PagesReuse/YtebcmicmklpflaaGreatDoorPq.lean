/- Pages: files of which there is none: load. -/
import Derived.Test.YtebcmicmklpflaaGreatDoorPp
import Derived.Deep.RegionHeld3
namespace Go.Proofs.YtebcmicmklpflaaGreatDoor
open Go.RowKit Go.Maps
set_option linter.unusedSimpArgs false
/-- All of w stands, and the FS too. -/
structure Still (w W : World) (f : Nat) (S : Fs) (Of : Nat → Prop) (kk : Nat) : Prop where
  bel : Below w.heap.size w W
  fs : FsIs W f 0 S Of kk
theorem Still.go {w W W' : World} {f : Nat} {S : Fs} {Of : Nat → Prop} {kk : Nat} (h : Still w W f S Of kk) (hb : Below W.heap.size W W') : Still w W' f S Of kk :=
  ⟨h.bel.trans (hb.mono h.bel.size), h.fs.kept hb.size (fun q o => hb.block q (h.fs.lt q o))⟩
theorem Still.cell {w W : World} {f : Nat} {S : Fs} {Of : Nat → Prop} {kk : Nat} (h : Still w W f S Of kk) {a : Addr} {v : Value} (hc : w.cell? a = some v) : W.cell? a = some v := (h.bel.cell (cellLt hc)).trans hc
/-- Where the table of Itoa lies. -/
def PowAt (w : World) : Prop := Pow w ∧ ∀ g, Tryz.prog.globalNamed "internal/strconv.uint64pow10" = some g → g < w.heap.size
theorem PowAt.below {w W : World} (h : PowAt w) (hb : Below w.heap.size w W) : PowAt W := ⟨pow_below h.1 hb h.2, fun g e => Nat.lt_of_lt_of_le (h.2 g e) hb.size⟩
set_option maxRecDepth 20000 in
set_option maxHeartbeats 1000000 in
theorem loadSheet_none (p f k kk : Nat) (nm : ByteArray) (S : Fs) (Of : Nat → Prop) (w W : World) (hS : Still w W f S Of kk) (hno : ∀ s, S.now.N s = none) (hP : PowAt w) (c0 : w.cell? ⟨p, 0, none⟩ = some (.pointer (some ⟨f, 0, none⟩))) (c1 : w.cell? ⟨p, 1, none⟩ = some (.string nm)) (c261 : w.cell? ⟨p, 261, none⟩ = some (.bool false)) (hk : k < 256) (hn : nm.size ≤ 100) :
    Calls Tryz.prog 114 #[.pointer (some ⟨p, 0, none⟩), .slice none 0 0, .int .i64 (k : Int)] W fun e W' => e = .returned (.slice none 0 0) ∧ Still w W' f S Of kk := by
  have HSe : Hid (∀ W, Still w W f S Of kk → Calls Tryz.prog 160 #[.pointer (some ⟨p, 0, none⟩), .int .i64 (k : Int)] W fun e W' => ∃ s : ByteArray, e = .returned (.string s) ∧ s.size ≤ maxLen ∧ W'.cell? ⟨p, 0, none⟩ = some (.pointer (some ⟨f, 0, none⟩)) ∧ Hid (Still w W' f S Of kk)) := fun W h => (second_some p k nm W (h.cell c1) hk (hP.below h.bel).1 hn).mono fun e W' ⟨s, e1, h1, hb⟩ => ⟨s, e1, by simp only [maxLen]; omega, (h.go hb).cell c0, h.go hb⟩
  have HOw : Hid (∀ W, Still w W f S Of kk → Calls Tryz.prog 161 #[.pointer (some ⟨p, 0, none⟩), .int .i64 (k : Int)] W fun e W' => ∃ s : ByteArray, e = .returned (.string s) ∧ s.size ≤ maxLen ∧ W'.cell? ⟨p, 0, none⟩ = some (.pointer (some ⟨f, 0, none⟩)) ∧ Hid (Still w W' f S Of kk)) := fun W h => (own_some p k nm W (h.cell c1) hk (hP.below h.bel).1 hn).mono fun e W' ⟨s, e1, h1, hb⟩ => ⟨s, e1, by simp only [maxLen]; omega, (h.go hb).cell c0, h.go hb⟩
  have HRd : Hid (∀ W (s : ByteArray), s.size ≤ maxLen → Still w W f S Of kk → Calls Tryz.prog 30 #[.pointer (some ⟨f, 0, none⟩), .string s] W fun e W' => e = .returned (.tuple #[.slice none 0 0, .int .i64 7]) ∧ W'.cell? ⟨p, 261, none⟩ = some (.bool false) ∧ W'.cell? ⟨p, 0, none⟩ = some (.pointer (some ⟨f, 0, none⟩)) ∧ Hid (Still w W' f S Of kk)) := fun W s hs h => (read_none f S Of kk s W h.fs hs (hno s)).mono fun e W' ⟨e1, _, hb⟩ => ⟨e1, (h.go hb).cell c261, (h.go hb).cell c0, h.go hb⟩
  have C0 := hS.cell c0
  have HS := hide hS
  have HDr : Hid (∀ W, Still w W f S Of kk → Still w W.drew f S Of kk) := fun W h => h.go ((Below.refl _ _).drew)
  clear hS hno hP c0 c1 c261 hn
  go_enter Tryz.func114, Tryz.ntmps114
  go_wp2_with fail
  go_region_held3 (fun W' => W'.cell? ⟨p, 0, none⟩ = some (.pointer (some ⟨f, 0, none⟩))) (go_keep) (first | (go_at_call 160; refine Calls.mono (unhide HSe _ (unhide HDr _ (unhide HS))) ?_; rintro e w1 ⟨s1, rfl, hs1, d0, HS1⟩) | (go_at_call 30; refine Calls.mono (unhide HRd _ _ hs1 (unhide HS1)) ?_; rintro e w2 ⟨rfl, d261, d0, HS2⟩))
  all_goals
    go_wp2_with fail
    go_region_held3 (fun W' => W'.cell? ⟨p, 0, none⟩ = some (.pointer (some ⟨f, 0, none⟩))) (go_keep) (first | (go_at_call 161; refine Calls.mono (unhide HOw _ (unhide HDr _ (unhide HS2))) ?_; rintro e w3 ⟨s3, rfl, hs3, d0, HS3⟩) | (go_at_call 30; refine Calls.mono (unhide HRd _ _ hs3 (unhide HS3)) ?_; rintro e w4 ⟨rfl, d261, d0, HS4⟩))
    all_goals
      go_wp2_with fail
      go_ret
      exact ⟨rfl, unhide HS4⟩
set_option maxRecDepth 20000 in
theorem seals_none (a : Option Addr) (c : Nat) (w : World) : Calls Tryz.prog 113 #[.slice a 0 c] w fun e w' => e = .returned (.bool false) ∧ w' = w := by
  go_enter Tryz.func113, Tryz.ntmps113
  go_wp2_with fail
  go_ret
  exact ⟨rfl, rfl⟩
set_option maxRecDepth 20000 in
set_option maxHeartbeats 1000000 in
theorem grow_none (w : World) : Calls Tryz.prog 162 #[.slice none 0 0, .int .i64 0] w fun e w' => e = .returned (.slice none 0 0) ∧ Below w.heap.size w w' := by
  go_enter Tryz.func162, Tryz.ntmps162
  go_wp2_with fail
  go_ret
  exact ⟨rfl, Below.refl _ _⟩
set_option maxRecDepth 20000 in
set_option maxHeartbeats 1000000 in
theorem concat_none (a : Option Addr) (c : Nat) (w : World) : Calls Tryz.prog 115 #[.slice a 0 c] w fun e w' => e = .returned (.slice none 0 0) ∧ Below w.heap.size w w' := by
  have HG := hide (grow_none w)
  go_enter Tryz.func115, Tryz.ntmps115
  go_wp2_with fail
  go_loop [3, 11] (fun s i => s = .int .i64 0 ∧ i = .int .i64 0) (fun _ _ => 0)
  case atStart => exact ⟨rfl, rfl⟩
  case round =>
    obtain ⟨rfl, rfl⟩ := hrel
    go_wp2_with fail
    refine (unhide HG).mono ?_
    rintro e w1 ⟨rfl, hb⟩
    have HB := hide hb
    clear hb
    go_wp2_with fail
    go_loop [6, 27] (fun s i => s = .slice none 0 0 ∧ i = .int .i64 0) (fun _ _ => 0)
    case atStart => exact ⟨rfl, rfl⟩
    case round =>
      obtain ⟨rfl, rfl⟩ := hrel
      go_wp2_with fail
      go_ret
      exact ⟨rfl, unhide HB⟩
/-- The cells of a Pager that is made. -/
def newCell (f j : Nat) (nm : ByteArray) : Nat → Value := pcell ⟨f, j, nm, 0, fun _ => false, .slice none 0 0, false⟩ (.slice none 0 0) (.slice none 0 0) (fun _ => false) (fun _ => false) false
set_option maxRecDepth 20000 in
set_option maxHeartbeats 2000000 in
/-- Nothing is there: no page is loaded. -/
theorem pload_none (p f j kk : Nat) (nm : ByteArray) (S : Fs) (U : Nat → Prop) (w : World) (h : PB w p (newCell f j nm)) (hJ : JS w f j nm S ⟨[], [], 0, false⟩ U kk) (hno : ∀ s, S.now.N s = none) (hP : PowAt w) (hn : nm.size ≤ 100) :
    Calls Tryz.prog 75 #[.pointer (some ⟨p, 0, none⟩)] w fun e W' => e = .returned (.slice none 0 0) ∧ Below w.heap.size w W' := by
  have c0 : w.cell? ⟨p, 0, none⟩ = some (.pointer (some ⟨f, 0, none⟩)) := h.cell (by omega)
  have c1 : w.cell? ⟨p, 1, none⟩ = some (.string nm) := h.cell (by omega)
  have c2 : w.cell? ⟨p, 2, none⟩ = some (.pointer (some ⟨j, 0, none⟩)) := h.cell (by omega)
  have c3 : w.cell? ⟨p, 3, none⟩ = some (.int .i64 0) := h.cell (by omega)
  have c261 : w.cell? ⟨p, 261, none⟩ = some (.bool false) := h.cell (by omega)
  obtain ⟨Of, O, OL, gv, lv, qs, hF, hJn, _⟩ := hJ
  have HG : Hid (Calls Tryz.prog 18 #[.pointer (some ⟨j, 0, none⟩)] w fun e w' => e = .returned (.slice (some ⟨w.heap.size, 0, none⟩) 0 0) ∧ Hid (Still w w' f S Of kk)) := (groups_ok j f nm ⟨[], [], 0, false⟩ O gv lv qs w hJn.gm (by decide) (by decide)).mono fun e w' ⟨e1, hC⟩ => ⟨e1, ⟨hC.bel, hF.kept hC.bel.size (fun q o => hC.bel.block q (hF.lt q o))⟩⟩
  have HSe := hide seals_none
  have HLo : Hid (∀ (k : Nat) (W : World), k < 256 → Hid (Still w W f S Of kk) → Calls Tryz.prog 114 #[.pointer (some ⟨p, 0, none⟩), .slice none 0 0, .int .i64 (k : Int)] W fun e W' => e = .returned (.slice none 0 0) ∧ Hid (Still w W' f S Of kk)) := fun k W hk hS => loadSheet_none p f k kk nm S Of w W hS hno hP c0 c1 c261 hk hn
  have HCo := hide concat_none
  have HCell : Hid (∀ W, Hid (Still w W f S Of kk) → (W.cell? ⟨p, 261, none⟩ = some (.bool false) ∧ W.frozen? ⟨p, 261, none⟩ = false ∧ W.cell? ⟨p, 3, none⟩ = some (.int .i64 0) ∧ W.frozen? ⟨p, 3, none⟩ = false)) := fun W hS => by
    have hp := h.kept ((unhide hS).bel.block p h.lt)
    exact ⟨(unhide hS).cell c261, hp.frozen _, (unhide hS).cell c3, hp.frozen _⟩
  clear h hJn hF hno hP hn c0 c1 c3 c261
  go_enter Tryz.func75, Tryz.ntmps75
  go_wp2_with fail
  refine (unhide HG).mono ?_
  rintro e w1 ⟨rfl, HS1⟩
  obtain ⟨d261, z261, d3, z3⟩ := unhide HCell _ HS1
  have i261 := setCell_id d261
  have i3 := setCell_id d3
  go_wp2_with fail
  refine (unhide HSe _ _ _).mono ?_
  rintro e w' ⟨rfl, hw⟩
  have hw2 := hw.symm
  subst hw2
  clear hw
  go_wp2_with fail
  go_loopw [4, 18] (fun pv iv W => ∃ i : Nat, i ≤ 256 ∧ pv = .slice none 0 0 ∧ iv = .int .i64 (i : Int) ∧ Hid (Still w W f S Of kk)) (fun _ iv _ => 256 - (intOf iv).toNat)
  case atStart => exact ⟨0, Nat.zero_le _, rfl, rfl, HS1⟩
  case round =>
    clear d261 z261 d3 z3 i261 i3
    obtain ⟨i, hi, rfl, rfl, HSi⟩ := hrel
    by_cases hlt : i < 256
    · have hk : (i : Int) < 256 := by omega
      go_wp2_with fail
      refine (unhide HLo i _ hlt HSi).mono ?_
      rintro e w2 ⟨rfl, HS2⟩
      go_wp2_with fail
      refine ⟨⟨i + 1, by omega, rfl, by simp, HS2⟩, ?_⟩
      simp [intOf]; omega
    · have hk : ¬ ((i : Int) < 256) := by omega
      obtain ⟨d261, z261, d3, z3⟩ := unhide HCell _ HSi
      have i261 := setCell_id d261
      have i3 := setCell_id d3
      go_wp2_with fail
      refine (unhide HCo _ _ _).mono ?_
      rintro e w3 ⟨rfl, hb3⟩
      have HS3 : Hid (Below w.heap.size w w3) := (unhide HSi).bel.trans (hb3.mono (unhide HSi).bel.size)
      clear hb3
      go_wp2_with fail
      go_loopw [4, 40] (fun pv iv W => pv = .slice none 0 0 ∧ iv = .int .i64 0 ∧ Hid (Below w.heap.size w W)) (fun _ _ _ => 0)
      case atStart => exact ⟨rfl, rfl, HS3⟩
      case round =>
        obtain ⟨rfl, rfl, HS4⟩ := hrel
        go_wp2_with fail
        go_ret
        exact ⟨rfl, unhide HS4⟩
end Go.Proofs.YtebcmicmklpflaaGreatDoor
