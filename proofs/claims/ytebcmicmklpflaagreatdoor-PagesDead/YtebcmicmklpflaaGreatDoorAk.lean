/- The pages' known: what it does, one call behind the other. -/
import Derived.Test.YtebcmicmklpflaaGreatDoorAi
import Derived.Test.YtebcmicmklpflaaGreatDoorAj
import Derived.Test.YtebcmicmklpflaaGreatDoorAe
import Derived.Test.YtebcmicmklpflaaGreatDoorPu
namespace Go.Proofs.YtebcmicmklpflaaGreatDoor
open Go.RowKit Go.Maps
set_option linter.unusedSimpArgs false
theorem first_none {S : Pgr} (h : S.Ok) (hn : ∀ n : Nat, S.now[n]? ≠ some none) : (firstOf S.free).2 = false := by
  cases hf : (firstOf S.free).2 with
  | false => rfl
  | true => exact absurd (firstOf_free h hf).2 (hn _)
theorem new_full {S : Pgr} (h : S.Ok) (hn : ∀ n : Nat, S.now[n]? ≠ some none) : S.newNo = S.now.length ∧ S.new = S.grow.chg S.now.length (some []) := by
  unfold Pgr.new Pgr.newNo
  rw [first_none h hn]
  exact ⟨rfl, rfl⟩
/-- The first page alone. -/
def s0 : Nat → Bool := mset (fun _ => false) 0 true
theorem s0_word : word s0 0 = 1 := by decide +kernel
theorem s0_else (i : Nat) (hi : 0 < i) : word s0 i = 0 := word_zero fun x hx => by unfold s0 mset; rw [if_neg (by omega)]
theorem cntTo_first (s : Nat → Bool) : ∀ k, pcnt (word s 0) ≤ cntTo s (k + 1)
  | 0 => by simp [cntTo]
  | k + 1 => by
    have := cntTo_first s k
    rw [cntTo]
    omega
theorem s0_count : cntTo s0 256 ≠ 0 := by
  have : pcnt (word s0 0) ≤ cntTo s0 256 := cntTo_first s0 255
  rw [s0_word] at this
  have h1 : pcnt 1 = 1 := by decide +kernel
  omega
theorem s0_recs (ps : List Pge) : recsTo ps s0 256 = [encB ps 0 (lst s0 0 64)] := recs_one ps s0 (by rw [s0_word]; decide) s0_else 255
theorem s0_wt {G : Pgr} (h : G.Sz) : wt (recsTo G.now s0 256) ≤ 32961 := by
  rw [s0_recs]
  have h1 := encB_len G.now 0 (lst s0 0 64)
  have h2 := wsum_le G.now h.dat (lst s0 0 64)
  have h3 := lst_len s0 64 0
  simp only [wt]
  omega
/-- A Pager with one page, which is dirty. -/
def one0 (last : List Pge) (d : List UInt8) (fr : Nat → Bool) : Pgr := ⟨last, [some d], fr, s0, false⟩
theorem new_zero : ∃ fr, Pgr.zero.new = one0 [] [] fr ∧ Pgr.zero.newNo = 0 := by
  obtain ⟨h1, h2⟩ := new_full Pgr.Ok.zero (fun n => by simp [Pgr.zero])
  exact ⟨_, h2, h1⟩
theorem one0_chg (last : List Pge) (d d' : List UInt8) (fr : Nat → Bool) : (one0 last d fr).chg 0 (some d') = one0 last d' (mset fr 0 false) := by
  unfold Pgr.chg one0
  have : mset s0 0 true = s0 := mset_same (by simp [s0, mset])
  simp [this]
theorem one0_keep_chg (last : List Pge) (d d' : List UInt8) (fr : Nat → Bool) : (one0 last d fr).keep.chg 0 (some d') = one0 [some d] d' (mset fr 0 false) := by
  unfold Pgr.chg Pgr.keep one0 s0
  simp
theorem one0_has (last : List Pge) (d : List UInt8) (fr : Nat → Bool) : (one0 last d fr).has ((0 : Nat) : Int) = true := by simp [Pgr.has, one0]
theorem one0_quiet (f j : Nat) (nm : ByteArray) : (Fl.new f j nm).Quiet := ⟨rfl, rfl, fun _ => rfl, by simp [Fl.new], by simp [Fl.new]⟩
theorem one0_dirty (last : List Pge) (d : List UInt8) (fr : Nat → Bool) : (one0 last d fr).dirty = s0 := rfl
def nmP : ByteArray := ⟨#[112]⟩
theorem first_can {G : Pgr} (room : Nat) (nm : ByteArray) (hs : G.Sz) (hn : 1 ≤ nm.size ∧ nm.size ≤ 300) (hr : 40000 ≤ room) : CanCommit (Fs.new room) nm { (⟨[], [], 0, false⟩ : Jn) with D := recsTo G.now s0 256 } 0 := by
  have hw := s0_wt hs
  have hel := enc_len (digs z32 []) (recsTo G.now s0 256)
  have hl : (recsTo G.now s0 256).length = 1 := by rw [s0_recs]; rfl
  refine ⟨by omega, Bears.none rfl, by simp [Fs.new], hn, .inl ⟨rfl, rfl, rfl⟩, ?_, ?_, by simp, ?_, ?_, by simp [wts], rfl, ?_⟩
  · show (encs z32 []).length + (enc (digs z32 []) (recsTo G.now s0 256)).length ≤ _
    have : (encs z32 []).length = 0 := rfl
    omega
  · show (0 : Int) + ((enc (digs z32 []) (recsTo G.now s0 256)).length : Int) ≤ (room : Int)
    omega
  · show (recsTo G.now s0 256).length ≤ _
    omega
  · show wt (recsTo G.now s0 256) ≤ _
    omega
  · intro e
    have : (recsTo G.now s0 256).length = 0 := by
      have e2 : recsTo G.now s0 256 = [] := e
      rw [e2]; rfl
    omega
theorem PX.alloc {w0 W : World} {f j p : Nat} {nm : ByteArray} {S : Fs} {J : Jn} {F : Fl} {G : Pgr} {lv nv : Value} {k : Nat} (h : PX w0 W f j p nm S J F G lv nv k) (o : Obj) : PX w0 (W.alloc o) f j p nm S J F G lv nv k := h.below ((Below.refl _ _).alloc (Nat.le_refl _) _)
/-- A Pager that is opened on a new FS. -/
theorem PX.start {w0 w1 W : World} {f j p : Nat} {nm : ByteArray} {S : Fs} {F : Fl} {U : Nat → Prop} {Of : Nat → Prop} {k : Nat} {J : Jn} (h1 : Below w0.heap.size w0 w1) (hO : ∀ q, Of q → w0.heap.size ≤ q) (h : PS W f j p nm S J F Pgr.zero U (fun _ => False) (.slice none 0 0) (.slice none 0 0) k) (hp : w1.heap.size ≤ p) (hU : ∀ q, U q → Of q ∨ w1.heap.size ≤ q) (hb : Below w1.heap.size w1 W) : PX w0 W f j p nm S J F Pgr.zero (.slice none 0 0) (.slice none 0 0) k := by
  have hs := h1.size
  refine ⟨U, fun _ => False, h, h1.trans (hb.mono hs), fun q o => ?_, fun q o => ?_⟩
  · rcases hU q o with o | o
    · exact hO q o
    · omega
  · rcases o with rfl | o
    · omega
    · exact o.elim
theorem pput_px {w0 W : World} {f j p : Nat} {nm : ByteArray} {S : Fs} {J : Jn} {F : Fl} {G : Pgr} {lv nv : Value} {k : Nat} (h : PX w0 W f j p nm S J F G lv nv k) (hd : G.dead = false) (n : Nat) (hn : G.has (n : Int) = true) (a : Option Addr) (l c : Nat) (d : List UInt8) (hR : Row W.heap.size W (.slice a l c) d) (hl : d.length = l) (hl2 : l ≤ 512) :
    Calls Tryz.prog 41 #[.pointer (some ⟨p, 0, none⟩), .int .i64 (n : Int), .slice a l c] W fun e w' => e = .returned (.int .i64 0) ∧ ∃ nv', PX w0 w' f j p nm S J F (G.chg n (some d)) lv nv' k :=
  h.pages (P := fun e => e = .returned (.int .i64 0)) (fun _ hM => (pput_ok hM hd n hn a l c d hR hl hl2).mono fun _ _ ⟨e1, O', hM', hE⟩ => ⟨e1, O', nv, hM', hE⟩)
theorem pnew_px {w0 W : World} {f j p : Nat} {nm : ByteArray} {S : Fs} {J : Jn} {F : Fl} {G : Pgr} {lv nv : Value} {k : Nat} (hT : Tab w0) (h : PX w0 W f j p nm S J F G lv nv k) (hok : G.Ok) (hd : G.dead = false) (hn : G.now.length < 16384) :
    Calls Tryz.prog 40 #[.pointer (some ⟨p, 0, none⟩)] W fun e w' => e = .returned (.tuple #[.int .i64 (G.newNo : Int), .int .i64 0]) ∧ ∃ nv', PX w0 w' f j p nm S J F G.new lv nv' k :=
  h.pages (P := fun e => e = .returned (.tuple #[.int .i64 (G.newNo : Int), .int .i64 0])) (fun _ hM => (pnew_ok hM (h.tab hT) hd hn (fun hf => (firstOf_free hok hf).1)).mono fun _ _ ⟨e1, O', nv', hM', hE⟩ => ⟨e1, O', nv', hM', hE⟩)
theorem pget_px {w0 W : World} {f j p : Nat} {nm : ByteArray} {S : Fs} {J : Jn} {F : Fl} {G : Pgr} {lv nv : Value} {k : Nat} (h : PX w0 W f j p nm S J F G lv nv k) (n : Nat) (d : List UInt8) (hn : G.now[n]? = some (some d)) (hdl : d.length ≤ 1000000) :
    Calls Tryz.prog 43 #[.pointer (some ⟨p, 0, none⟩), .int .i64 (n : Int)] W fun e w' => ∃ a' c', e = .returned (.tuple #[.slice a' d.length c', .int .i64 0]) ∧ Row w'.heap.size w' (.slice a' d.length c') d ∧ PX w0 w' f j p nm S J F G lv nv k := by
  obtain ⟨U, O, g, _⟩ := id h
  refine (pget_ok g.pm n d hn hdl).mono fun e w' ⟨a', c', L, e1, hN, hb, hL⟩ => ⟨a', c', e1, ?_, h.below hb⟩
  exact (Rec.new (O := fun _ => True) hN hL (fun _ _ => trivial)).row
theorem pdrop_px {w0 W : World} {f j p : Nat} {nm : ByteArray} {S : Fs} {J : Jn} {F : Fl} {G : Pgr} {lv nv : Value} {k : Nat} (hT : Tab w0) (h : PX w0 W f j p nm S J F G lv nv k) (hok : G.Ok) (hl : G.last.length = G.now.length) (hpos : 0 < G.now.length) :
    Calls Tryz.prog 44 #[.pointer (some ⟨p, 0, none⟩)] W fun e w' => e = .returned (.tuple #[]) ∧ PX w0 w' f j p nm S J F { dropL G (lst G.dirty 0 16384) with dirty := fun _ => false } lv nv k := by
  obtain ⟨U, O, g, g1, g2, g3⟩ := id h
  have ht := hT.lt
  exact (pdrop_same g.pm (h.tab hT) (by have := g3 p (.inl rfl); omega) (fun o => by have := g3 0 (.inr o); omega) hok hl hpos).mono fun e w' ⟨e1, hM, hE⟩ => ⟨e1, PX.page g g1 g2 g3 hM ⟨rfl, rfl, rfl⟩ hE⟩
theorem pknown_pre (w : World) (hT : Tab w) (hP : PowAt w) : Calls Tryz.prog 15 #[.int .i64 100000] w fun e w1 => ∃ f, e = .returned (.tuple #[.pointer (some ⟨f, 0, none⟩), .int .i64 0]) ∧ Hid (Calls Tryz.prog 35 #[.pointer (some ⟨f, 0, none⟩), .string nmP] w1 fun e w2 => ∃ p, e = .returned (.tuple #[.pointer (some ⟨p, 0, none⟩), .int .i64 0]) ∧ Hid (Calls Tryz.prog 40 #[.pointer (some ⟨p, 0, none⟩)] w2 fun e w3 => e = .returned (.tuple #[.int .i64 0, .int .i64 0]) ∧ Hid (Calls Tryz.prog 41 #[.pointer (some ⟨p, 0, none⟩), .int .i64 0, .slice (some ⟨w3.heap.size, 0, none⟩) 1 1] (w3.alloc (byteBlk 120)) fun e w4 => e = .returned (.int .i64 0) ∧ Hid (Calls Tryz.prog 38 #[.pointer (some ⟨p, 0, none⟩)] w4 fun e w5 => e = .returned (.int .i64 0) ∧ Hid (Calls Tryz.prog 41 #[.pointer (some ⟨p, 0, none⟩), .int .i64 0, .slice (some ⟨w5.heap.size, 0, none⟩) 1 1] (w5.alloc (byteBlk 121)) fun e w6 => e = .returned (.int .i64 0) ∧ Hid (Calls Tryz.prog 44 #[.pointer (some ⟨p, 0, none⟩)] w6 fun e w7 => e = .returned (.tuple #[]) ∧ Hid (Calls Tryz.prog 43 #[.pointer (some ⟨p, 0, none⟩), .int .i64 0] w7 fun e w8 => ∃ a c, e = .returned (.tuple #[.slice a 1 c, .int .i64 0]) ∧ Hid (Calls Tryz.prog 74 #[.slice a 1 c, .slice (some ⟨w8.heap.size, 0, none⟩) 1 1] (w8.alloc (byteBlk 120)) fun e w9 => e = .returned (.bool true) ∧ Hid (Below w.heap.size w w9))))))))) := by
  refine (new_ok 100000 w (by omega)).mono fun e w1 ⟨e1, hF1, hb1⟩ => ⟨w.heap.size, e1, ?_⟩
  have ht := hT.lt
  refine (popen_none w.heap.size (Fs.new 100000) (fun q => q = w.heap.size) 0 nmP w1 hF1 rfl (by omega) (by decide) (by decide) (fun _ => rfl) (hT.kept (hb1.block 0 ht)) (hP.below hb1)).mono fun e w2 ⟨j, p, U, e2, hPS, hp, hU, hb2⟩ => ⟨p, e2, ?_⟩
  have hX2 := PX.start hb1 (fun q (o : q = w.heap.size) => by omega) hPS hp hU hb2
  obtain ⟨fr, hz, hz0⟩ := new_zero
  refine (pnew_px hT hX2 Pgr.Ok.zero rfl (by simp [Pgr.zero])).mono fun e w3 ⟨e3, nv3, hX3⟩ => ⟨by rw [e3, hz0]; rfl, ?_⟩
  have hok3 : (one0 [] [] fr).Ok := hz ▸ Pgr.Ok.zero.new (by simp [Pgr.zero])
  have hsz3 : (one0 [] [] fr).Sz := hz ▸ Pgr.Sz.zero.new
  rw [hz] at hX3
  refine (pput_px (hX3.alloc (byteBlk 120)) rfl 0 (one0_has _ _ _) _ 1 1 [120] (row_byte w3 120) rfl (by omega)).mono fun e w4 ⟨e4, nv4, hX4⟩ => ⟨e4, ?_⟩
  have hok4 := hok3.chg (n := 0) (by simp [one0]) (some [120])
  have hsz4 := hsz3.chg 0 (some [120]) (by simp)
  rw [one0_chg] at hX4 hok4 hsz4
  have hne4 : cntTo (one0 [] [120] (mset fr 0 false)).dirty 256 ≠ 0 := by rw [one0_dirty]; exact s0_count
  have hw4 : wt (recsTo (one0 [] [120] (mset fr 0 false)).now (one0 [] [120] (mset fr 0 false)).dirty 256) ≤ 524288 := by rw [one0_dirty]; exact Nat.le_trans (s0_wt hsz4) (by omega)
  have hc4 : CanCommit (Fs.new 100000) nmP { (⟨[], [], 0, false⟩ : Jn) with D := recsTo (one0 [] [120] (mset fr 0 false)).now (one0 [] [120] (mset fr 0 false)).dirty 256 } 0 := by rw [one0_dirty]; exact first_can 100000 nmP hsz4 ⟨by decide, by decide⟩ (by omega)
  refine (commit_px hT hX4 hok4 hsz4 rfl hne4 (by simp [one0]) rfl (one0_quiet _ _ _) hw4 hc4).mono fun e w5 ⟨e5, S5, lv5, hX5, _⟩ => ⟨e5, ?_⟩
  refine (pput_px (hX5.alloc (byteBlk 121)) rfl 0 (by simp [Pgr.has, Pgr.keep, one0]) _ 1 1 [121] (row_byte w5 121) rfl (by omega)).mono fun e w6 ⟨e6, nv6, hX6⟩ => ⟨e6, ?_⟩
  have hok6 := hok4.keep.chg (n := 0) (by simp [Pgr.keep, one0]) (some [121])
  rw [one0_keep_chg] at hX6 hok6
  obtain ⟨G6, hG6⟩ : ∃ G6, G6 = one0 [some [120]] [121] (mset (mset fr 0 false) 0 false) := ⟨_, rfl⟩
  have hl6 : G6.last = [some [120]] := by rw [hG6]; rfl
  have hn6 : G6.now.length = 1 := by rw [hG6]; rfl
  have hd6 : G6.dirty 0 = true := by rw [hG6]; simp [one0, s0, mset]
  rw [← hG6] at hX6 hok6
  clear hG6
  refine (pdrop_px hT hX6 hok6 (by rw [hl6, hn6]; rfl) (by omega)).mono fun e w7 ⟨e7, hX7⟩ => ⟨e7, ?_⟩
  have hget : (dropL G6 (lst G6.dirty 0 16384)).now[0]? = some (some [120]) := by
    rw [dropL_now, over_get _ _ _ _ (by omega) (by rw [hl6, hn6]; rfl), if_pos, hl6]
    · rfl
    · exact (lst_mem 16384 0).2 ⟨by omega, by omega, hd6⟩
  generalize dropL G6 (lst G6.dirty 0 16384) = G7 at hX7 hget
  refine (pget_px hX7 0 [120] hget (by simp)).mono fun e w8 ⟨a, c, e8, hrow, hX8⟩ => ⟨a, c, e8, ?_⟩
  have hal : Below w8.heap.size w8 (w8.alloc (byteBlk 120)) := (Below.refl _ _).alloc (Nat.le_refl _) _
  refine (same9 w8.heap.size _ a _ 1 1 c 1 [120] [120] _ (hrow.below hal) (row_byte w8 120) rfl rfl (by omega) (by omega)).mono fun e w9 ⟨⟨q, hq⟩, e9⟩ => ⟨by simpa using e9, ?_⟩
  have hB := (hX8.alloc (byteBlk 120)).bel
  rw [hq]
  exact ⟨hB.os, hB.tape, hB.output, hB.size, hB.block⟩
end Go.Proofs.YtebcmicmklpflaaGreatDoor
