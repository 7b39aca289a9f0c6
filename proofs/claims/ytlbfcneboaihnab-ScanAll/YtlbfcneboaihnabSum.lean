/- The code's sumBehind and Sum: the digest of any bytes. -/
import Derived.Test.YtlbfcneboaihnabStep
namespace Go.Proofs.Ytlbfcneboaihnab
open Go.RowKit Go.Great
attribute [local go_sem] f_8 f_1024

theorem BytesAt.firsts {w : World} {a : Option Addr} {n cap : Nat} {b : List Nat} (h : BytesAt w (.slice a n cap) b) (q : Nat) (hq : q ≤ b.length) : BytesAt w (.slice a q cap) (b.take q) := by
  obtain ⟨a', c, e, hc, hb⟩ := h
  cases e
  have hl : (b.take q).length = q := by rw [List.length_take]; omega
  refine ⟨a, cap, by rw [hl], by omega, fun h0 => ?_⟩
  obtain ⟨g, o, ea, hg, hcell⟩ := hb (by omega)
  exact ⟨g, o, ea, hg, fun i hi => by rw [hcell i (by omega), Sha.nth_take (by omega)]⟩
theorem BytesAt.suffix {w : World} {g o n cap : Nat} {b : List Nat} (h : BytesAt w (.slice (some ⟨g, o, none⟩) n cap) b) (q : Nat) (hq : q ≤ b.length) :
    BytesAt w (.slice (if cap = q then some ⟨g, o, none⟩ else some ⟨g, o + q, none⟩) (b.length - q) (cap - q)) (b.drop q) := by
  obtain ⟨a', c, e, hc, hb⟩ := h
  cases e
  have hl : (b.drop q).length = b.length - q := by rw [List.length_drop]
  refine ⟨_, cap - q, by rw [hl], by omega, fun h0 => ?_⟩
  obtain ⟨g', o', ea, hg, hcell⟩ := hb (by omega)
  cases ea
  exact ⟨g, o + q, if_neg (by omega), hg, fun i hi => by rw [Nat.add_assoc, hcell (q + i) (by omega), Sha.nth_drop]⟩

theorem wrap_i64 (n : Nat) (h : n ≤ 4611686018427387904) : IntKind.i64.wrap (n : Int) = (n : Int) := by
  exact IntWalk.i64_in _ (by omega)
end Go.Proofs.Ytlbfcneboaihnab
