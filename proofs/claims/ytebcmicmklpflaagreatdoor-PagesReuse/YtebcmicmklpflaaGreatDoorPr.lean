/- Pages: a Pager that is made. -/
import Derived.Test.YtebcmicmklpflaaGreatDoorPq
namespace Go.Proofs.YtebcmicmklpflaaGreatDoor
open Go.RowKit Go.Maps
set_option linter.unusedSimpArgs false
/-- The cells of a Pager that is made, as a row. -/
def mk1 (f j : Nat) (nm : ByteArray) : List Value := [.pointer (some ⟨f, 0, none⟩), .string nm, .pointer (some ⟨j, 0, none⟩), .int .i64 0] ++ (List.replicate 256 (.bool false) ++ [.slice none 0 0, .bool false])
def mk2 (f j : Nat) (nm : ByteArray) : List Value := mk1 f j nm ++ ([.slice none 0 0, .slice none 0 0] ++ (List.replicate 512 (.int .u64 0) ++ [.bool false]))
set_option maxRecDepth 100000 in
theorem built133 (f j : Nat) (nm : ByteArray) : Tryz.prog.built 133 [(0, .pointer (some ⟨f, 0, none⟩)), (1, .string nm), (2, .pointer (some ⟨j, 0, none⟩))] = some (mk1 f j nm).toArray := by kernel_rfl
set_option maxRecDepth 100000 in
theorem built142 (f j : Nat) (nm : ByteArray) : Tryz.prog.built 142 [(0, .agg (mk1 f j nm).toArray)] = some (mk2 f j nm).toArray := by kernel_rfl
theorem mk1_len (f j : Nat) (nm : ByteArray) : (mk1 f j nm).length = 262 := by
  unfold mk1
  rw [List.length_append, List.length_append, List.length_replicate]
  rfl
theorem mk2_len (f j : Nat) (nm : ByteArray) : (mk2 f j nm).length = 777 := by
  unfold mk2
  rw [List.length_append, List.length_append, List.length_append, List.length_replicate, mk1_len]
  rfl
theorem mk2_at (f j : Nat) (nm : ByteArray) (i : Nat) (hi : i < 777) : (mk2 f j nm)[i]? = some (newCell f j nm i) := by
  unfold newCell
  by_cases h1 : i < 262
  · unfold mk2
    rw [List.getElem?_append_left (by rw [mk1_len]; exact h1)]
    unfold mk1
    by_cases h2 : i < 4
    · rw [List.getElem?_append_left (by simpa using h2)]
      rcases (show i = 0 ∨ i = 1 ∨ i = 2 ∨ i = 3 by omega) with rfl | rfl | rfl | rfl <;> rfl
    · rw [List.getElem?_append_right (by simpa using h2)]
      simp only [List.length_cons, List.length_nil]
      by_cases h3 : i < 260
      · rw [List.getElem?_append_left (by rw [List.length_replicate]; omega), List.getElem?_replicate, if_pos (by omega)]
        obtain ⟨k, rfl⟩ : ∃ k, i = 4 + k := ⟨i - 4, by omega⟩
        rw [pcell_stale _ _ _ _ _ _ k (by omega)]
      · rw [List.getElem?_append_right (by rw [List.length_replicate]; omega), List.length_replicate]
        rcases (show i = 260 ∨ i = 261 by omega) with rfl | rfl <;> rfl
  · unfold mk2
    rw [List.getElem?_append_right (by rw [mk1_len]; omega), mk1_len]
    by_cases h2 : i < 264
    · rcases (show i = 262 ∨ i = 263 by omega) with rfl | rfl <;> rfl
    · rw [List.getElem?_append_right (by show 2 ≤ i - 262; omega)]
      simp only [List.length_cons, List.length_nil]
      by_cases h3 : i < 776
      · rw [List.getElem?_append_left (by rw [List.length_replicate]; omega), List.getElem?_replicate, if_pos (by omega)]
        by_cases h4 : i < 520
        · obtain ⟨k, rfl⟩ : ∃ k, i = 264 + k := ⟨i - 264, by omega⟩
          rw [pcell_free _ _ _ _ _ _ k (by omega), word_none]; rfl
        · obtain ⟨k, rfl⟩ : ∃ k, i = 520 + k := ⟨i - 520, by omega⟩
          rw [pcell_dirty _ _ _ _ _ _ k (by omega), word_none]; rfl
      · obtain rfl : i = 776 := by omega
        rw [List.getElem?_append_right (by rw [List.length_replicate]; omega), List.length_replicate]
        rfl
def bld133 (parts : Array (Nat × Value)) : Sem Value := Instr.build 133 parts
@[go_sem ↓] theorem build_bld133 (parts : Array (Nat × Value)) : Instr.build 133 parts = bld133 parts := rfl
def bld142 (parts : Array (Nat × Value)) : Sem Value := Instr.build 142 parts
@[go_sem ↓] theorem build_bld142 (parts : Array (Nat × Value)) : Instr.build 142 parts = bld142 parts := rfl
theorem run133 (f j : Nat) (nm : ByteArray) (w : World) : (bld133 #[(0, .pointer (some ⟨f, 0, none⟩)), (1, .string nm), (2, .pointer (some ⟨j, 0, none⟩))]).run Tryz.prog w = .ok (.agg (mk1 f j nm).toArray) w := run_build w 133 _ _ (built133 f j nm)
theorem run142 (f j : Nat) (nm : ByteArray) (w : World) : (bld142 #[(0, .agg (mk1 f j nm).toArray)]).run Tryz.prog w = .ok (.agg (mk2 f j nm).toArray) w := run_build w 142 _ _ (built142 f j nm)
theorem made_pb (f j : Nat) (nm : ByteArray) (w : World) : PB (w.alloc (.cells (mk2 f j nm).toArray 142)) w.heap.size (newCell f j nm) :=
  ⟨_, World.alloc_heap_new w _, by rw [List.size_toArray, mk2_len], fun i hi => by rw [List.getElem?_toArray]; exact mk2_at f j nm i hi⟩
end Go.Proofs.YtebcmicmklpflaaGreatDoor
