/- Pages: a Pager, its journal and its FS between two calls of somebody who made them. -/
import Derived.Test.YtebcmicmklpflaaGreatDoorPx
import Derived.Test.YtebcmicmklpflaaGreatDoorUe
import Derived.Test.YtebcmicmklpflaaGreatDoorTb
namespace Go.Proofs.YtebcmicmklpflaaGreatDoor
open Go.RowKit Go.Maps
set_option linter.unusedSimpArgs false
/-- All that the Pager has is new since w0. -/
def PX (w0 W : World) (f j p : Nat) (nm : ByteArray) (S : Fs) (J : Jn) (F : Fl) (G : Pgr) (lv nv : Value) (k : Nat) : Prop :=
  ∃ U O, PS W f j p nm S J F G U O lv nv k ∧ Below w0.heap.size w0 W ∧ (∀ q, U q → w0.heap.size ≤ q) ∧ ∀ q, Pown p O q → w0.heap.size ≤ q
theorem PX.bel {w0 W : World} {f j p : Nat} {nm : ByteArray} {S : Fs} {J : Jn} {F : Fl} {G : Pgr} {lv nv : Value} {k : Nat} (h : PX w0 W f j p nm S J F G lv nv k) : Below w0.heap.size w0 W := by
  obtain ⟨U, O, _, hb, _⟩ := h
  exact hb
theorem PX.pb {w0 W : World} {f j p : Nat} {nm : ByteArray} {S : Fs} {J : Jn} {F : Fl} {G : Pgr} {lv nv : Value} {k : Nat} (h : PX w0 W f j p nm S J F G lv nv k) : PB W p (pcell F lv nv G.free G.dirty G.dead) := by
  obtain ⟨U, O, h, _⟩ := h
  exact h.pm.pb
theorem PX.ff {w0 W : World} {f j p : Nat} {nm : ByteArray} {S : Fs} {J : Jn} {F : Fl} {G : Pgr} {lv nv : Value} {k : Nat} (h : PX w0 W f j p nm S J F G lv nv k) : F.f = f ∧ F.j = j ∧ F.nm = nm := by
  obtain ⟨U, O, h, _⟩ := h
  exact h.ff
theorem PX.below {w0 W W' : World} {f j p : Nat} {nm : ByteArray} {S : Fs} {J : Jn} {F : Fl} {G : Pgr} {lv nv : Value} {k : Nat} (h : PX w0 W f j p nm S J F G lv nv k) (hb : Below W.heap.size W W') : PX w0 W' f j p nm S J F G lv nv k := by
  obtain ⟨U, O, h, h1, h2, h3⟩ := h
  exact ⟨U, O, ⟨h.js.below hb, h.pm.below hb, h.ff, h.dis⟩, h1.trans (hb.mono h1.size), h2, h3⟩
theorem PX.tab {w0 W : World} {f j p : Nat} {nm : ByteArray} {S : Fs} {J : Jn} {F : Fl} {G : Pgr} {lv nv : Value} {k : Nat} (h : PX w0 W f j p nm S J F G lv nv k) (hT : Tab w0) : Tab W := hT.kept (h.bel.block 0 hT.lt)
/-- The pages change, the journal stands. -/
theorem PX.page {w0 W W' : World} {f j p : Nat} {nm : ByteArray} {S : Fs} {J : Jn} {F F' : Fl} {G G' : Pgr} {lv nv lv' nv' : Value} {k : Nat} {U O O' : Nat → Prop} (h : PS W f j p nm S J F G U O lv nv k) (h1 : Below w0.heap.size w0 W) (h2 : ∀ q, U q → w0.heap.size ≤ q) (h3 : ∀ q, Pown p O q → w0.heap.size ≤ q)
    (hM : PgM W' p F' G' O' lv' nv') (hF : F'.f = F.f ∧ F'.j = F.j ∧ F'.nm = F.nm) (hE : FFr (Pown p O) (Pown p O') W W') : PX w0 W' f j p nm S J F' G' lv' nv' k := by
  have hUlt := h.js.lt
  refine ⟨U, O', ⟨h.js.kept hE.size (fun q o => hE.rest q (hUlt q o) (h.dis q o)), hM, ⟨hF.1.trans h.ff.1, hF.2.1.trans h.ff.2.1, hF.2.2.trans h.ff.2.2⟩, fun q o o2 => ?_⟩, ⟨hE.os.trans h1.os, hE.tape.trans h1.tape, hE.output.trans h1.output, Nat.le_trans h1.size hE.size, fun q hq => ?_⟩, h2, fun q o => ?_⟩
  · rcases hE.new q o2 with h4 | h4
    · exact h.dis q o h4
    · have := hUlt q o; omega
  · rw [hE.rest q (Nat.lt_of_lt_of_le hq h1.size) (fun o => by have := h3 q o; omega)]
    exact h1.block q hq
  · rcases hE.new q o with h4 | h4
    · exact h3 q h4
    · exact Nat.le_trans h1.size h4
theorem PX.pages {w0 W : World} {f j p : Nat} {nm : ByteArray} {S : Fs} {J : Jn} {F : Fl} {G : Pgr} {lv nv : Value} {k : Nat} {g : FuncId} {args : Array Value} {P : Ending → Prop} {G' : Pgr} (h : PX w0 W f j p nm S J F G lv nv k)
    (hc : ∀ O, PgM W p F G O lv nv → Calls Tryz.prog g args W fun e W' => P e ∧ ∃ O' nv', PgM W' p F G' O' lv nv' ∧ FFr (Pown p O) (Pown p O') W W') :
    Calls Tryz.prog g args W fun e W' => P e ∧ ∃ nv', PX w0 W' f j p nm S J F G' lv nv' k := by
  obtain ⟨U, O, h, h1, h2, h3⟩ := h
  exact (hc O h.pm).mono fun e W' ⟨e1, O', nv', hM, hE⟩ => ⟨e1, nv', PX.page h h1 h2 h3 hM ⟨rfl, rfl, rfl⟩ hE⟩
/-- The journal and the FS change, the pages stand. -/
theorem PX.log {w0 W W' : World} {f j p : Nat} {nm : ByteArray} {S S' : Fs} {J J' : Jn} {F : Fl} {G : Pgr} {lv nv : Value} {k k' : Nat} {U U' O : Nat → Prop} (h : PS W f j p nm S J F G U O lv nv k) (h1 : Below w0.heap.size w0 W) (h2 : ∀ q, U q → w0.heap.size ≤ q) (h3 : ∀ q, Pown p O q → w0.heap.size ≤ q)
    (hJ : JS W' f j nm S' J' U' k') (hE : FFr U U' W W') : PX w0 W' f j p nm S' J' F G lv nv k' := by
  have hplt : ∀ q, Pown p O q → q < W.heap.size := fun q o => o.elim (fun e => e ▸ h.pm.pb.lt) (h.pm.lt q)
  refine ⟨U', O, ⟨hJ, h.pm.kept hE.size (fun q o => hE.rest q (hplt q o) (fun o2 => h.dis q o2 o)), h.ff, fun q o o2 => ?_⟩, ⟨hE.os.trans h1.os, hE.tape.trans h1.tape, hE.output.trans h1.output, Nat.le_trans h1.size hE.size, fun q hq => ?_⟩, fun q o => ?_, h3⟩
  · rcases hE.new q o with h4 | h4
    · exact h.dis q h4 o2
    · have := hplt q o2; omega
  · rw [hE.rest q (Nat.lt_of_lt_of_le hq h1.size) (fun o => by have := h2 q o; omega)]
    exact h1.block q hq
  · rcases hE.new q o with h4 | h4
    · exact h2 q h4
    · exact Nat.le_trans h1.size h4
theorem PX.logs {w0 W : World} {f j p : Nat} {nm : ByteArray} {S : Fs} {J : Jn} {F : Fl} {G : Pgr} {lv nv : Value} {k : Nat} {g : FuncId} {args : Array Value} {P : Ending → Prop} {Q : Fs → Jn → Nat → Prop} (h : PX w0 W f j p nm S J F G lv nv k)
    (hc : ∀ U, JS W f j nm S J U k → Calls Tryz.prog g args W fun e W' => P e ∧ ∃ S' J' U' k', Q S' J' k' ∧ JS W' f j nm S' J' U' k' ∧ FFr U U' W W') :
    Calls Tryz.prog g args W fun e W' => P e ∧ ∃ S' J' k', Q S' J' k' ∧ PX w0 W' f j p nm S' J' F G lv nv k' := by
  obtain ⟨U, O, h, h1, h2, h3⟩ := h
  exact (hc U h.js).mono fun e W' ⟨e1, S', J', U', k', hQ, hJ, hE⟩ => ⟨e1, S', J', k', hQ, PX.log h h1 h2 h3 hJ hE⟩
/-- A fuse is laid in, or taken out. -/
theorem PX.fuse {w0 W : World} {f j p : Nat} {nm : ByteArray} {S : Fs} {J : Jn} {F : Fl} {G : Pgr} {lv nv : Value} {k : Nat} {g : FuncId} {args : Array Value} {P : Ending → Prop} {S' : Fs} {k' : Nat} (h : PX w0 W f j p nm S J F G lv nv k)
    (hc : ∀ Of, FsIs W f 0 S Of k → Calls Tryz.prog g args W fun e W' => P e ∧ ∃ O', FsIs W' f 0 S' O' k' ∧ FFr Of O' W W') :
    Calls Tryz.prog g args W fun e W' => P e ∧ PX w0 W' f j p nm S' J F G lv nv k' := by
  obtain ⟨U, O, h, h1, h2, h3⟩ := h
  obtain ⟨Of, hF, _, _, hFS⟩ := h.js.fs
  refine (hc Of hF).mono fun e W' ⟨e1, O', hF', hE⟩ => ⟨e1, ?_⟩
  obtain ⟨hJ, hE'⟩ := hFS W' S' O' k' hF' hE
  exact PX.log h h1 h2 h3 hJ hE'
theorem mset_self (s : Nat → Bool) (n : Nat) (b : Bool) : mset s n b n = b := by simp [mset]
theorem mset_else (s : Nat → Bool) (n m : Nat) (b : Bool) (h : m ≠ n) : mset s n b m = s m := by simp [mset, h]
/-- The pages have no more bytes than may be. -/
def Pgr.Sz (S : Pgr) : Prop := ∀ (n : Nat) (d : List UInt8), S.now[n]? = some (some d) → d.length ≤ 512
theorem Pgr.Ok.chg {S : Pgr} (h : S.Ok) {n : Nat} (hn : n < S.now.length) (d : Pge) : (S.chg n d).Ok := by
  obtain ⟨h1, h2, h3, h4, h5⟩ := h
  refine ⟨by simpa [Pgr.chg] using h1, fun m hm hd => ?_, fun m hm => ?_, fun m => ?_, by simpa [Pgr.chg] using h5⟩
  · simp only [Pgr.chg] at hm hd ⊢
    by_cases e : m = n
    · subst e; rw [mset_self] at hd; cases hd
    · rw [mset_else _ _ _ _ e] at hd
      rw [List.getElem?_set_ne (Ne.symm e)]
      exact h2 m hm hd
  · simp only [Pgr.chg, List.length_set] at hm ⊢
    by_cases e : m = n
    · omega
    · rw [mset_else _ _ _ _ e] at hm
      exact h3 m hm
  · simp only [Pgr.chg]
    by_cases e : m = n
    · subst e
      rw [mset_self, List.getElem?_set_self hn]
      cases d <;> simp
    · rw [mset_else _ _ _ _ e, List.getElem?_set_ne (Ne.symm e)]
      exact h4 m
theorem Pgr.Sz.chg {S : Pgr} (h : S.Sz) (n : Nat) (d : Pge) (hd : (d.getD []).length ≤ 512) : (S.chg n d).Sz := fun m x hx => by
  simp only [Pgr.chg] at hx
  by_cases e : m = n
  · subst e
    rw [List.getElem?_set] at hx
    simp at hx
    obtain ⟨_, rfl⟩ := hx
    exact hd
  · rw [List.getElem?_set_ne (Ne.symm e)] at hx
    exact h m x hx
theorem Pgr.Sz.dat {S : Pgr} (h : S.Sz) (n : Nat) : (dat S.now n).length ≤ 512 := by
  unfold Go.Proofs.YtebcmicmklpflaaGreatDoor.dat
  cases hx : S.now[n]? with
  | none => simp
  | some d =>
    cases d with
    | none => simp
    | some d => simpa using h n d hx
theorem Pgr.Ok.grow_new {S : Pgr} (h : S.Ok) (hm : S.now.length < 16384) : (S.grow.chg S.now.length (some [])).Ok := by
  obtain ⟨h1, h2, h3, h4, h5⟩ := h
  have hset : (S.now ++ [none]).set S.now.length (some []) = S.now ++ [some []] := by
    simp [List.set_append]
  refine ⟨by simp [Pgr.chg, Pgr.grow]; omega, fun m hm2 hd => ?_, fun m hm2 => ?_, fun m => ?_, by simp [Pgr.chg, Pgr.grow]; omega⟩
  · simp only [Pgr.chg, Pgr.grow] at hm2 hd ⊢
    have e : m ≠ S.now.length := by omega
    rw [mset_else _ _ _ _ e] at hd
    rw [hset, List.getElem?_append_left (by omega)]
    exact h2 m hm2 hd
  · simp only [Pgr.chg, Pgr.grow, List.length_set, List.length_append, List.length_singleton] at hm2 ⊢
    by_cases e : m = S.now.length
    · omega
    · rw [mset_else _ _ _ _ e] at hm2
      have := h3 m hm2
      omega
  · simp only [Pgr.chg, Pgr.grow]
    rw [hset]
    by_cases e : m = S.now.length
    · subst e
      rw [mset_self]
      simp
    · rw [mset_else _ _ _ _ e]
      rw [h4 m]
      by_cases e2 : m < S.now.length
      · rw [List.getElem?_append_left e2]
      · rw [List.getElem?_eq_none (by omega), List.getElem?_eq_none (by simp; omega)]
theorem firstOf_free {S : Pgr} (h : S.Ok) (hf : (firstOf S.free).2 = true) : (firstOf S.free).1 < S.now.length ∧ S.now[(firstOf S.free).1]? = some none := by
  have hm : (firstOf S.free).1 ∈ lst S.free 0 16384 := by
    unfold firstOf at hf ⊢
    cases hl : lst S.free 0 16384 with
    | nil => rw [hl] at hf; simp at hf
    | cons x t => simp
  have := (h.fre _).1 ((lst_mem 16384 0).1 hm).2.2
  exact ⟨(List.getElem?_eq_some_iff.1 this).1, this⟩
theorem Pgr.Ok.new {S : Pgr} (h : S.Ok) (hm : S.now.length < 16384) : S.new.Ok := by
  unfold Pgr.new Pgr.newNo
  cases hf : (firstOf S.free).2 with
  | true => exact h.chg (firstOf_free h hf).1 _
  | false => exact h.grow_new hm
theorem Pgr.Sz.new {S : Pgr} (h : S.Sz) : S.new.Sz := by
  unfold Pgr.new Pgr.newNo
  cases hf : (firstOf S.free).2 with
  | true => exact h.chg _ _ (by simp)
  | false =>
    refine Pgr.Sz.chg (S := S.grow) (fun n d hx => ?_) _ _ (by simp)
    simp only [Pgr.grow] at hx
    by_cases e : n < S.now.length
    · rw [List.getElem?_append_left e] at hx; exact h n d hx
    · rw [List.getElem?_append_right (by omega)] at hx
      rcases hz : n - S.now.length with _ | m
      · rw [hz] at hx; simp at hx
      · rw [hz] at hx; simp at hx
theorem Pgr.Ok.keep {S : Pgr} (h : S.Ok) : S.keep.Ok := ⟨Nat.le_refl _, fun _ _ _ => rfl, fun _ e => by simp [Pgr.keep] at e, h.fre, h.max⟩
theorem Pgr.Ok.zero : Pgr.zero.Ok := ⟨Nat.le_refl _, fun _ h => by simp [Pgr.zero] at h, fun _ h => by simp [Pgr.zero] at h, fun n => by simp [Pgr.zero], by simp [Pgr.zero]⟩
theorem Pgr.Sz.zero : Pgr.zero.Sz := fun n d h => by simp [Pgr.zero] at h
end Go.Proofs.YtebcmicmklpflaaGreatDoor
