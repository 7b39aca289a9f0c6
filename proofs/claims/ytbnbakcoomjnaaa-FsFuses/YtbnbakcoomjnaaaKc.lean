/- What a fuse lets through, as mathematics. -/
import Derived.Test.YtbnbakcoomjnaaaKb
import Derived.Test.YtbnbakcoomjnaaaIc
import Derived.Test.YtbnbakcoomjnaaaHf
namespace Go.Proofs.Ytbnbakcoomjnaaa
open Go.RowKit Go.Maps
set_option linter.unusedSimpArgs false
/-- A name of three bytes. -/
def f3 (j : Nat) : ByteArray := ⟨[(102 : UInt8), UInt8.ofNat (j / 256), UInt8.ofNat j].toArray⟩
theorem f3_size (j : Nat) : (f3 j).size = 3 := rfl
theorem f3_inj {i j : Nat} (hi : i < 65536) (hj : j < 65536) (h : f3 i = f3 j) : i = j := by
  simp [f3] at h
  have h1 := congrArg UInt8.toNat h.1
  have h2 := congrArg UInt8.toNat h.2
  simp at h1 h2
  omega
/-- Between the rounds: J writes went through, of R. -/
structure FI (S : Fs) (R J T : Nat) : Prop where
  room : S.room = 1048576
  fuse : S.fuse = some (R - J)
  pend : S.pend.length ≤ J
  names : ∀ s, (S.now.N s).isSome = true ↔ ∃ j, j < J ∧ s = f3 j
  use : S.now.u ≤ (T : Int)
theorem FI.new (R : Nat) : FI { Fs.new 1048576 with fuse := some R } R 0 0 := ⟨rfl, rfl, Nat.le_refl _, fun s => ⟨fun h => (by cases h), fun ⟨j, h, _⟩ => by omega⟩, Int.le_refl _⟩
theorem write_fresh {T : Tb} {s : ByteArray} {d : List UInt8} {z : Nat} (h : T.N s = none) : (T.write s d z).N = upd T.N s (some z) ∧ (T.write s d z).u = T.u + (d.length : Int) := by
  have e : (T.add d z).drop s = T.add d z := by
    unfold Tb.drop
    have : (T.add d z).N s = none := h
    rw [this]
  unfold Tb.write Tb.lay
  rw [e]
  exact ⟨rfl, rfl⟩
theorem FI.fresh {S : Fs} {R J T : Nat} (h : FI S R J T) (hJ : J < 1000) : S.now.N (f3 J) = none := by
  cases hN : S.now.N (f3 J) with
  | none => rfl
  | some i =>
    obtain ⟨j, hj, e⟩ := (h.names (f3 J)).1 (by rw [hN]; rfl)
    have := f3_inj (by omega) (by omega) e
    omega
theorem FI.write {S : Fs} {R J T : Nat} (h : FI S R J T) (hR : R ≤ 1000) (hJ : J < R) (d : List UInt8) (z : Nat) : FI (S.done (S.now.write (f3 J) d z) (.write (f3 J) d z)) R (J + 1) (T + 1 + d.length) := by
  obtain ⟨w1, w2⟩ := write_fresh (d := d) (z := z) (h.fresh (by omega))
  refine ⟨h.room, ?_, ?_, fun s => ?_, ?_⟩
  · show S.fuse.map Nat.pred = _
    rw [h.fuse]
    show some (R - J - 1) = some (R - (J + 1))
    rw [Nat.sub_sub]
  · have := h.pend
    simp [Fs.done]
    exact this
  · show ((S.now.write (f3 J) d z).N s).isSome = true ↔ _
    rw [w1]
    unfold upd
    split
    · rename_i e
      exact ⟨fun _ => ⟨J, by omega, e⟩, fun _ => rfl⟩
    · rename_i e
      rw [h.names s]
      constructor
      · rintro ⟨j, hj, e1⟩
        exact ⟨j, by omega, e1⟩
      · rintro ⟨j, hj, e1⟩
        have : j ≠ J := fun e2 => e (by rw [e1, e2])
        exact ⟨j, by omega, e1⟩
  · show (S.now.write (f3 J) d z).u ≤ _
    rw [w2]
    have := h.use
    omega
theorem FI.more {S : Fs} {R J T T' : Nat} (h : FI S R J T) (hT : T ≤ T') : FI S R J T' := ⟨h.room, h.fuse, h.pend, h.names, by have := h.use; omega⟩
theorem FI.small {S : Fs} {R J T : Nat} (h : FI S R J T) : ∀ s i, S.now.N s = some i → s.size ≤ 300 := fun s i e => by
  obtain ⟨j, _, rfl⟩ := (h.names s).1 (by rw [e]; rfl)
  rw [f3_size]
  omega
theorem FI.count {S : Fs} {R J T : Nat} (h : FI S R J T) (hJ : J ≤ 1000) {p : ByteArray} (hp : ∀ s, pfx s p = true) {xs : List ByteArray} (hn : xs.Nodup) (hm : ∀ s : ByteArray, s.size ≤ maxLen → (s ∈ xs ↔ ((S.now.N s).isSome = true ∧ pfx s p = true))) (hl : ∀ s ∈ xs, s.size ≤ maxLen) : xs.length = J := by
  have hnd : ((List.range J).map f3).Nodup := by
    unfold List.Nodup
    rw [List.pairwise_map]
    refine List.Pairwise.imp_of_mem ?_ (List.nodup_range (n := J))
    intro a b ha hb hne e
    rw [List.mem_range] at ha hb
    exact hne (f3_inj (by omega) (by omega) e)
  have hP : xs.Perm ((List.range J).map f3) := by
    rw [List.perm_ext_iff_of_nodup hn hnd]
    intro s
    rw [List.mem_map]
    constructor
    · intro hs
      obtain ⟨j, hj, e⟩ := (h.names s).1 ((hm s (hl s hs)).1 hs).1
      exact ⟨j, List.mem_range.2 hj, e.symm⟩
    · rintro ⟨j, hj, rfl⟩
      exact (hm _ (by rw [f3_size]; simp [maxLen])).2 ⟨(h.names _).2 ⟨j, List.mem_range.1 hj, rfl⟩, hp _⟩
  rw [hP.length_eq]
  simp
theorem pfx_nil (s : ByteArray) : pfx s ⟨#[]⟩ = true := by
  unfold pfx Lib.hasPrefix
  simp
end Go.Proofs.Ytbnbakcoomjnaaa
