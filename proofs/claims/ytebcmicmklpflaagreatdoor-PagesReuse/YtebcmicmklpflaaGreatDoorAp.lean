/- PagesReuse: pages one behind the other; one is given back and taken again. -/
import Derived.Test.YtebcmicmklpflaaGreatDoorAn
namespace Go.Proofs.YtebcmicmklpflaaGreatDoor
open Go.RowKit Go.Maps
set_option linter.unusedSimpArgs false
/-- The pages of the law's loop. -/
def rowTo : Nat → List Pge
  | 0 => []
  | i + 1 => rowTo i ++ [some [UInt8.ofNat i]]
theorem rowTo_len : ∀ i, (rowTo i).length = i
  | 0 => rfl
  | i + 1 => by rw [rowTo, List.length_append, rowTo_len i]; rfl
theorem rowTo_some : ∀ (i n : Nat), (rowTo i)[n]? ≠ some none
  | 0, n => by simp [rowTo]
  | i + 1, n => by
    rw [rowTo]
    by_cases h : n < (rowTo i).length
    · rw [List.getElem?_append_left h]; exact rowTo_some i n
    · rw [List.getElem?_append_right (by omega)]
      cases n - (rowTo i).length with
      | zero => simp
      | succ m => simp
/-- Behind so many rounds. -/
def RI (w0 W : World) (f j p i : Nat) : Prop := ∃ (G : Pgr) (lv nv : Value), PX w0 W f j p nmPg (Fs.new 4194304) ⟨[], [], 0, false⟩ (Fl.new f j nmPg) G lv nv 0 ∧ G.Ok ∧ G.dead = false ∧ G.now = rowTo i
theorem RI.step {w0 W : World} {f j p i : Nat} (hT : Tab w0) (h : RI w0 W f j p i) (hi : i < 200) :
    Calls Tryz.prog 40 #[.pointer (some ⟨p, 0, none⟩)] W fun e w1 => e = .returned (.tuple #[.int .i64 (i : Int), .int .i64 0]) ∧ Hid (Calls Tryz.prog 41 #[.pointer (some ⟨p, 0, none⟩), .int .i64 (i : Int), .slice (some ⟨w1.heap.size, 0, none⟩) 1 1] (w1.alloc (.cells #[.int .u8 (i : Int)] 5)) fun e w2 => e = .returned (.int .i64 0) ∧ Hid (RI w0 w2 f j p (i + 1))) := by
  obtain ⟨G, lv, nv, hX, hok, hd, hn⟩ := h
  have hl : G.now.length = i := by rw [hn, rowTo_len]
  obtain ⟨h1, h2⟩ := new_full hok (fun n => by rw [hn]; exact rowTo_some i n)
  refine (pnew_px hT hX hok hd (by omega)).mono fun e w1 ⟨e1, nv1, hX1⟩ => ⟨by rw [e1, h1, hl], ?_⟩
  have hok1 := hok.new (by omega)
  have hn1 : G.new.now = rowTo i ++ [some []] := by
    rw [h2]
    simp [Pgr.chg, Pgr.grow, hn, List.set_append, rowTo_len]
  have hd1 : G.new.dead = false := by rw [h2]; exact hd
  have hlt1 : i < G.new.now.length := by rw [hn1, List.length_append, rowTo_len]; simp
  have hi8 : (i : Int) % 256 = (i : Int) := by omega
  have hrow := row_new w1 [UInt8.ofNat i] #[.int .u8 (i : Int)] (by simp [byteVals, hi8])
  refine (pput_px (hX1.alloc _) hd1 i (by simp [Pgr.has, hn1, rowTo_len]) _ 1 1 [UInt8.ofNat i] hrow rfl (by omega)).mono fun e w2 ⟨e2, nv2, hX2⟩ => ⟨e2, _, lv, nv2, hX2, hok1.chg hlt1 _, hd1, ?_⟩
  simp [Pgr.chg, hn1, List.set_append, rowTo_len, rowTo]
theorem RI.bel {w0 W : World} {f j p i : Nat} (h : RI w0 W f j p i) : Below w0.heap.size w0 W := by
  obtain ⟨G, lv, nv, hX, _⟩ := h
  exact hX.bel
theorem firstOf_one {s : Nat → Bool} {g : Nat} (hg : g < 16384) (h : ∀ n, s n = true ↔ n = g) : firstOf s = (g, true) := by
  have hm : g ∈ lst s 0 16384 := (lst_mem 16384 0).2 ⟨by omega, by omega, (h g).2 rfl⟩
  unfold firstOf
  cases hl : lst s 0 16384 with
  | nil => rw [hl] at hm; cases hm
  | cons x t =>
    have hx : x ∈ lst s 0 16384 := by rw [hl]; simp
    have := (h x).1 ((lst_mem 16384 0).1 hx).2.2
    simp [this]
theorem pfree_px {w0 W : World} {f j p : Nat} {nm : ByteArray} {S : Fs} {J : Jn} {F : Fl} {G : Pgr} {lv nv : Value} {k : Nat} (h : PX w0 W f j p nm S J F G lv nv k) (hd : G.dead = false) (n : Nat) (hn : G.has (n : Int) = true) :
    Calls Tryz.prog 42 #[.pointer (some ⟨p, 0, none⟩), .int .i64 (n : Int)] W fun e w' => e = .returned (.int .i64 0) ∧ ∃ nv', PX w0 w' f j p nm S J F (G.chg n none) lv nv' k :=
  h.pages (P := fun e => e = .returned (.int .i64 0)) (fun O hM => (pfree_ok hM hd n hn).mono fun _ _ ⟨e1, hM', hE⟩ => ⟨e1, O, nv, hM', hE⟩)
theorem reuse_fin {w0 W : World} {f j p N g : Nat} (hT : Tab w0) (h : RI w0 W f j p N) (hN : N ≤ 200) (hg : g < N) :
    Calls Tryz.prog 42 #[.pointer (some ⟨p, 0, none⟩), .int .i64 (g : Int)] W fun e w1 => e = .returned (.int .i64 0) ∧ Hid (Calls Tryz.prog 42 #[.pointer (some ⟨p, 0, none⟩), .int .i64 (g : Int)] w1 fun e w2 => e = .returned (.int .i64 7) ∧ w2 = w1) ∧ Hid (Calls Tryz.prog 40 #[.pointer (some ⟨p, 0, none⟩)] w1 fun e w3 => e = .returned (.tuple #[.int .i64 (g : Int), .int .i64 0]) ∧ Hid (Calls Tryz.prog 43 #[.pointer (some ⟨p, 0, none⟩), .int .i64 (g : Int)] w3 fun e w4 => ∃ a c, e = .returned (.tuple #[.slice a 0 c, .int .i64 0]) ∧ Hid (Calls Tryz.prog 40 #[.pointer (some ⟨p, 0, none⟩)] w4 fun e w5 => e = .returned (.tuple #[.int .i64 (N : Int), .int .i64 0]) ∧ Hid (Below w0.heap.size w0 w5)))) := by
  obtain ⟨G, lv, nv, hX, hok, hd, hn⟩ := h
  have hl : G.now.length = N := by rw [hn, rowTo_len]
  have hgl : g < G.now.length := by omega
  have hgs : G.has (g : Int) = true := by
    have h1 := rowTo_some N g
    rw [← hn] at h1
    simp only [Pgr.has, Int.toNat_natCast]
    rw [List.getElem?_eq_getElem hgl] at h1 ⊢
    cases hx : G.now[g] with
    | none => rw [hx] at h1; exact absurd rfl h1
    | some d => simp
  refine (pfree_px hX hd g hgs).mono fun e w1 ⟨e1, nv1, hX1⟩ => ⟨e1, ?_, ?_⟩
  · obtain ⟨U, O, hh, _⟩ := hX1
    exact pfree_no hh.pm hd (g : Int) (by simp [Pgr.has, Pgr.chg, hgl])
  · have hok1 := hok.chg hgl none
    have hfr : firstOf (G.chg g none).free = (g, true) := firstOf_one (by omega) (fun n => by
      rw [hok1.fre n]
      simp only [Pgr.chg]
      by_cases e : n = g
      · subst e; simp [hgl]
      · rw [List.getElem?_set_ne (Ne.symm e)]
        have := rowTo_some N n
        rw [← hn] at this
        exact ⟨fun h => absurd h this, fun h => absurd h e⟩)
    have hno : (G.chg g none).newNo = g := by unfold Pgr.newNo; rw [hfr]; rfl
    have hnw : (G.chg g none).new = (G.chg g none).chg g (some []) := by unfold Pgr.new; rw [hno, hfr]; rfl
    refine (pnew_px hT hX1 hok1 hd (by simp [Pgr.chg]; omega)).mono fun e w3 ⟨e3, nv3, hX3⟩ => ⟨by rw [e3, hno], ?_⟩
    have hok3 := hok1.new (by simp [Pgr.chg]; omega)
    have hn3 : (G.chg g none).new.now = G.now.set g (some []) := by rw [hnw]; simp [Pgr.chg]
    have hl3 : (G.chg g none).new.now.length = N := by rw [hn3]; simpa using hl
    have hd3 : (G.chg g none).new.dead = false := by rw [hnw]; exact hd
    have hs3 : ∀ n : Nat, (G.chg g none).new.now[n]? ≠ some none := fun n => by
      rw [hn3]
      by_cases e : n = g
      · subst e; simp [hgl]
      · rw [List.getElem?_set_ne (Ne.symm e), hn]; exact rowTo_some N n
    have hg3 : (G.chg g none).new.now[g]? = some (some []) := by rw [hn3]; simp [hgl]
    obtain ⟨h31, _⟩ := new_full hok3 hs3
    generalize (G.chg g none).new = G3 at hX3 hok3 hl3 hd3 hg3 h31
    refine (pget_px hX3 g [] hg3 (by simp)).mono fun e w4 ⟨a, c, e4, _, hX4⟩ => ⟨a, c, e4, ?_⟩
    exact (pnew_px hT hX4 hok3 hd3 (by omega)).mono fun e w5 ⟨e5, nv5, hX5⟩ => ⟨by rw [e5, h31, hl3], hX5.bel⟩
theorem reuse_start (w : World) (hT : Tab w) (hP : PowAt w) : Calls Tryz.prog 15 #[.int .i64 4194304] w fun e w1 => ∃ f, e = .returned (.tuple #[.pointer (some ⟨f, 0, none⟩), .int .i64 0]) ∧ Hid (Calls Tryz.prog 35 #[.pointer (some ⟨f, 0, none⟩), .string nmPg] w1 fun e w2 => ∃ j p, e = .returned (.tuple #[.pointer (some ⟨p, 0, none⟩), .int .i64 0]) ∧ Hid (RI w w2 f j p 0)) := by
  refine (new_ok 4194304 w (by omega)).mono fun e w1 ⟨e1, hF1, hb1⟩ => ⟨w.heap.size, e1, ?_⟩
  have ht := hT.lt
  refine (popen_none w.heap.size (Fs.new 4194304) (fun q => q = w.heap.size) 0 nmPg w1 hF1 rfl (by omega) (by decide) (by decide) (fun _ => rfl) (hT.kept (hb1.block 0 ht)) (hP.below hb1)).mono fun e w2 ⟨j, p, U, e2, hPS, hp, hU, hb2⟩ => ⟨j, p, e2, ?_⟩
  exact ⟨Pgr.zero, _, _, PX.start hb1 (fun q (o : q = w.heap.size) => by omega) hPS hp hU hb2, Pgr.Ok.zero, rfl, rfl⟩
end Go.Proofs.YtebcmicmklpflaaGreatDoor
