/- What a Hasher keeps of the bytes that were written: the state of all full blocks, and the bytes that no full block holds. No Go text is named here. -/
import Derived.Test.YtdkhmjiconedkaaPad
namespace Go.Proofs.Ytdkhmjiconedkaa
namespace Sha
/-- How many bytes the full blocks have. -/
def full (all : List Nat) : Nat := 64 * (all.length / 64)
/-- The state of all full blocks. -/
def stOf (all : List Nat) : St := blocks start (all.take (full all)) (all.length / 64)
theorem stOf_ok (all : List Nat) : (stOf all).ok := blocks_ok start_ok _ _
theorem stOf_nil : stOf [] = start := rfl
/-- Bytes that fill no block. -/
theorem inv_less {rest all b rest' : List Nat} (hr : rest.take (all.length % 64) = all.drop (full all)) (hb : all.length % 64 + b.length < 64) (hr' : rest'.take (all.length % 64 + b.length) = rest.take (all.length % 64) ++ b) :
    stOf (all ++ b) = stOf all ∧ rest'.take ((all ++ b).length % 64) = (all ++ b).drop (full (all ++ b)) := by
  have e1 : (all ++ b).length / 64 = all.length / 64 := by rw [List.length_append]; omega
  have e2 : (all ++ b).length % 64 = all.length % 64 + b.length := by rw [List.length_append]; omega
  have e3 : full (all ++ b) = full all := by unfold full; rw [e1]
  have hf : full all ≤ all.length := by unfold full; omega
  constructor
  · unfold stOf
    rw [e1, e3, List.take_append_of_le_length hf]
  · rw [e2, e3, hr', hr, List.drop_append_of_le_length hf]
/-- Bytes that fill a block, and more. -/
theorem inv_more {rest all b r1 rest' : List Nat} {m wh : Nat} (hr : rest.take (all.length % 64) = all.drop (full all)) (hm : all.length % 64 + m = 64) (hmb : m ≤ b.length) (hr1 : r1 = rest.take (all.length % 64) ++ b.take m)
    (hw : wh = (b.length - m) - (b.length - m) % 64) (hr' : rest'.take ((b.length - m) % 64) = (b.drop m).drop wh) :
    stOf (all ++ b) = blocks (blocks (stOf all) r1 1) ((b.drop m).take wh) (wh / 64) ∧ rest'.take ((all ++ b).length % 64) = (all ++ b).drop (full (all ++ b)) := by
  have hf : full all ≤ all.length := by unfold full; omega
  have hfd : (all.drop (full all)).length = all.length % 64 := by rw [List.length_drop]; unfold full; omega
  have hr1l : r1.length = 64 * 1 := by rw [hr1, hr, List.length_append, hfd, List.length_take]; omega
  have hftl : (all.take (full all)).length = 64 * (all.length / 64) := by rw [List.length_take]; unfold full; omega
  have hwl : ((b.drop m).take wh).length = wh := by rw [List.length_take, List.length_drop]; omega
  have hsplit : all ++ b = (all.take (full all) ++ (r1 ++ (b.drop m).take wh)) ++ (b.drop m).drop wh := by
    rw [List.append_assoc, List.append_assoc, List.take_append_drop, hr1, hr, List.append_assoc, List.take_append_drop, ← List.append_assoc, List.take_append_drop]
  have hpl : (all.take (full all) ++ (r1 ++ (b.drop m).take wh)).length = 64 * (all.length / 64 + (1 + wh / 64)) := by
    rw [List.length_append, List.length_append, hftl, hr1l, hwl]; omega
  have e1 : (all ++ b).length / 64 = all.length / 64 + (1 + wh / 64) := by rw [List.length_append]; omega
  have e3 : full (all ++ b) = (all.take (full all) ++ (r1 ++ (b.drop m).take wh)).length := by unfold full; rw [e1]; exact hpl.symm
  have e2 : (all ++ b).length % 64 = (b.length - m) % 64 := by rw [List.length_append]; omega
  constructor
  · show blocks start ((all ++ b).take (full (all ++ b))) ((all ++ b).length / 64) = _
    rw [e1, e3]
    conv => lhs; rw [hsplit]
    rw [List.take_left' rfl, blocks_append _ _ _ _ _ hftl, blocks_append _ _ _ _ _ hr1l]
    rfl
  · rw [e2, e3, hr', hsplit, List.drop_left' rfl]
/-- The digest of all, out of what is kept. -/
theorem sum_kept {rest all : List Nat} (hr : rest.take (all.length % 64) = all.drop (full all)) : out (blocks (stOf all) (tail (rest.take (all.length % 64)) (8 * all.length)) (endOf (all.length % 64) / 64)) = sum all := by
  have e : all.length - all.length % 64 = full all := by unfold full; omega
  unfold sum sumBehind
  rw [hr, e, Nat.zero_add]
  rfl
end Sha
end Go.Proofs.Ytdkhmjiconedkaa
