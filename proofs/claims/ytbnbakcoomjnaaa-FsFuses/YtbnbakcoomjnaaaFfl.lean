/- fill, and the things that Append and Link do. -/
import Derived.Test.YtbnbakcoomjnaaaFpl
import Derived.Deep.RegionLaw
namespace Go.Proofs.Ytbnbakcoomjnaaa
open Go.RowKit Go.Maps
set_option linter.unusedSimpArgs false
set_option maxRecDepth 20000 in
set_option maxHeartbeats 1000000 in
theorem fill_any (f o : Nat) (m : Option Nat) (n : Nat) (L : ByteArray → Option Nat) (s : ByteArray) (g : Nat) (a0 : Option Addr) (d0 c0 : Nat) (a : Option Addr) (d c : Nat) (u : Nat) (w : World) (hc : w.cell? ⟨f, o, none⟩ = some (.map m)) (hu : w.cell? ⟨f, o + 1, none⟩ = some (.int .i64 (u : Int))) (hfz : w.frozen? ⟨f, o + 1, none⟩ = false)
    (h : TabIs w m n L) (hs : s.size ≤ maxLen) (hL : L s = some g) (hg : w.cell? ⟨g, 0, none⟩ = some (.slice a0 d0 c0)) (hgz : w.frozen? ⟨g, 0, none⟩ = false) (hd : d0 ≤ d) (hb : u + d ≤ 1000000000000) :
    Calls Try.prog 59 #[.pointer (some ⟨f, o, none⟩), .string s, .slice a d c] w fun e w' => e = .returned (.tuple #[]) ∧ w'.heap = ((w.setCell ⟨f, o + 1, none⟩ (.int .i64 ((u + (d - d0) : Nat) : Int))).setCell ⟨g, 0, none⟩ (.slice a d c)).heap ∧ w'.os = w.os ∧ w'.tape = w.tape ∧ w'.output = w.output := by
  have hl := tab_look h hs
  rw [hL] at hl
  unfold ptr at hl
  have hw1 : IntKind.i64.wrap ((d : Int) - (d0 : Int)) = (d : Int) - (d0 : Int) := by rw [IntKind.wrap_i64]; omega
  have hw2 : IntKind.i64.wrap ((u : Int) + ((d : Int) - (d0 : Int))) = (u : Int) + ((d : Int) - (d0 : Int)) := by rw [IntKind.wrap_i64]; omega
  have ec : ((u + (d - d0) : Nat) : Int) = (u : Int) + ((d : Int) - (d0 : Int)) := by omega
  rw [ec]
  clear h ec
  go_enter Try.func59, Try.ntmps59
  go_wp2_with fail
  go_region
  all_goals go_wp2_with fail
  all_goals go_end0
  all_goals exact ⟨rfl, rfl, rfl, rfl, rfl⟩
theorem Laid.of_drew {f o gx mb : Nat} {m : Option Nat} {k : Int} {n : Nat} {L : ByteArray → Option Nat} {s : ByteArray} {w w' : World} (h : Laid f o gx mb m k n L s w.drew w') : Laid f o gx mb m k n L s w w' :=
  ⟨h.os, h.tape, h.output, h.size, h.rest, h.tb, h.fl, h.tab, h.new⟩
set_option maxRecDepth 20000 in
set_option maxHeartbeats 1000000 in
theorem do_link (f o bn bo : Nat) (m : Option Nat) (n : Nat) (L : ByteArray → Option Nat) (s old : ByteArray) (gx : Nat) (k : Int) (w : World) (hc : w.cell? ⟨f, o, none⟩ = some (.map m)) (hfz : w.frozen? ⟨f, o, none⟩ = false)
    (h : TabIs w m n L) (hs : s.size ≤ maxLen) (hso : old.size ≤ maxLen) (hn : n < maxLen) (hL : L s = none) (hLo : L old = some gx) (hg1 : w.cell? ⟨gx, 1, none⟩ = some (.int .i32 k)) (hgz : w.frozen? ⟨gx, 1, none⟩ = false) (hk : 0 ≤ k ∧ k ≤ 100000) (hne : gx ≠ f) (hm : m = none → n = 0) (h1 : w.cell? ⟨bn, 0, none⟩ = some (.string s)) (h2 : w.cell? ⟨bo, 0, none⟩ = some (.string old)) :
    Calls Try.prog 61 #[.pointer (some ⟨f, o, none⟩), .pointer (some ⟨bn, 0, none⟩), .pointer (some ⟨bo, 0, none⟩)] w fun e w' => e = .returned (.tuple #[]) ∧ ∃ mb, Laid f o gx mb m k n L s w w' := by
  have hl := tab_look h hso
  rw [hLo] at hl
  unfold ptr at hl
  have hl' : (Instr.lookup 62 (.map m) (.string old) false).run Try.prog w.drew = .ok (.pointer (some ⟨gx, 0, none⟩)) w.drew := by
    have := tab_look (w := w.drew) (h.same fun _ _ => rfl) hso
    rw [hLo] at this
    exact this
  have HL := hide (lay_none f o gx m n L s k w.drew hc hfz (h.same fun _ _ => rfl) hs hn hL hg1 hgz hk hne hm)
  clear h
  go_enter Try.func61, Try.ntmps61
  go_wp2_with fail
  go_region_law (go_simp; refine (unhide HL).mono ?_; rintro e w2 ⟨rfl, mb, hE⟩; simp only [])
  all_goals
    have HE := hide hE.of_drew
    clear hE
    go_wp2_with fail
    go_end0
    exact ⟨rfl, mb, unhide HE⟩
end Go.Proofs.Ytbnbakcoomjnaaa
