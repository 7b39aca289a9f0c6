import Derived.Test.YtlbfcneboaihnaaGreatDoorK3
import Derived.Test.YtlbfcneboaihnaaGreatDoorK2
import Derived.Tactics
import Derived.Tactics2
import Derived.Defers
import Derived.Laws.Pointers
import Derived.Laws.LoneSync
import Derived.RegionTactic
import Derived.RegionCalls
import Derived.ChangeAlike
import Derived.ChangeKeysEq
/- The Hasher's start: the first state is laid in as long as there is no byte. -/
namespace Go.Proofs.YtlbfcneboaihnaaGreatDoor.Dg
open Go.RowKit Go.Great
attribute [local go_sem] f_8 f_1024 f_hi4 f_lo4
/-- Of what was there only one block has changed. -/
structure Sole (g : Nat) (a b : World) : Prop where
  os : b.os = a.os
  tape : b.tape = a.tape
  output : b.output = a.output
  size : a.heap.size ≤ b.heap.size
  block : ∀ k, k < a.heap.size → k ≠ g → b.heap[k]? = a.heap[k]?
theorem Sole.refl (g : Nat) (w : World) : Sole g w w := ⟨rfl, rfl, rfl, Nat.le_refl _, fun _ _ _ => rfl⟩
theorem Sole.trans {g : Nat} {a b c : World} (h : Sole g a b) (k : Sole g b c) : Sole g a c :=
  ⟨k.os.trans h.os, k.tape.trans h.tape, k.output.trans h.output, Nat.le_trans h.size k.size, fun i hi hg => (k.block i (Nat.lt_of_lt_of_le hi h.size) hg).trans (h.block i hi hg)⟩
theorem Sole.of_below {g : Nat} {a b : World} (h : Below a.heap.size a b) : Sole g a b := ⟨h.os, h.tape, h.output, h.size, fun k hk _ => h.block k hk⟩
theorem Sole.setRow (g : Nat) (w : World) (c : Array Value) : Sole g w (w.setRow g c) := ⟨rfl, rfl, rfl, by simp, fun k _ hg => setRow_other w g k c hg⟩
theorem Sole.below {g base : Nat} {a b : World} (h : Sole g a b) (hb : base ≤ g) (hg : base ≤ a.heap.size) : Below base a b := ⟨h.os, h.tape, h.output, h.size, fun k hk => h.block k (by omega) (by omega)⟩
theorem HasH.below {w w' : World} {g : Nat} {st rest sum : List Nat} {N : Int} {done : DL} {told : Bool} (h : HasH w g st rest N done told sum) (hb : Below w.heap.size w w') : HasH w' g st rest N done told sum := by
  obtain ⟨hh, h8, h64, h32⟩ := h
  exact ⟨by rw [hb.block g (Array.getElem?_eq_some_iff.1 hh).1]; exact hh, h8, h64, h32⟩
theorem HasH.lt {w : World} {g : Nat} {st rest sum : List Nat} {N : Int} {done : DL} {told : Bool} (h : HasH w g st rest N done told sum) : g < w.heap.size := (Array.getElem?_eq_some_iff.1 h.1).1
set_option maxRecDepth 20000 in
set_option maxHeartbeats 400000 in
theorem start_any (g : Nat) (st rest sum : List Nat) (N : Nat) (done : DL) (told : Bool) (w : World) (h : HasH w g st rest (N : Int) done told sum) :
    Calls Tryz.prog 31 #[.pointer (some ⟨g, 0, none⟩)] w fun e w' => e = .returned (.tuple #[]) ∧ HasH w' g (if N = 0 then Sha.start.list else st) rest (N : Int) done told sum ∧ Sole g w w' := by
  have HL := hide (load_any g 72 N w h.size)
  by_cases hN : N = 0
  · subst hN
    go_enter Tryz.func31, Tryz.ntmps31
    go_wp2_with (go_at_call 40; refine (unhide HL).mono ?_; rintro e w' ⟨rfl, hw'⟩; rw [hw']; clear hw' w')
    refine (firstState_any _).mono ?_
    rintro e w1 ⟨rfl, hb1⟩
    have h1 := h.below hb1
    have hst := h1.st68 Sha.start.list rfl
    have hset := h1.setSt Sha.start.list rfl
    have hsole : Sole g w (w1.setRow g (hcells Sha.start.list rest 0 done told sum)) := (Sole.of_below hb1).trans (Sole.setRow g w1 _)
    generalize hS : Sha.start.list = S at *
    have HS := hide hS
    clear hS
    go_wp2
    go_end0
    exact ⟨rfl, by first | exact hset | (rw [unhide HS]; exact hset), hsole⟩
  · have hne : ((N : Int) == 0) = false := by rw [beq_eq_false_iff_ne]; omega
    go_enter Tryz.func31, Tryz.ntmps31
    go_wp2_with (go_at_call 40; refine (unhide HL).mono ?_; rintro e w' ⟨rfl, hw'⟩; rw [hw']; clear hw' w')
    go_end0
    refine ⟨rfl, ?_, Sole.refl _ _⟩
    assumption
end Go.Proofs.YtlbfcneboaihnaaGreatDoor.Dg
/- The law's own helper spoil: bytes are written over, and grown: nothing ahead of their own row is touched. -/
namespace Go.Proofs.YtlbfcneboaihnaaGreatDoor.Dg
open Go.RowKit Go.Great
attribute [local go_sem] f_8 f_1024 f_hi4 f_lo4
end Go.Proofs.YtlbfcneboaihnaaGreatDoor.Dg
/- The Once of a Hasher that is told already. -/
namespace Go.Proofs.YtlbfcneboaihnaaGreatDoor.Dg
open Go.RowKit Go.Great
attribute [local go_sem] f_8 f_1024 f_hi4 f_lo4
theorem HasH.done {w : World} {g : Nat} {st rest sum : List Nat} {N : Int} {done : DL} {told : Bool} (h : HasH w g st rest N done told sum) : w.cell? ⟨g, 73, none⟩ = some (.int .u32 done.w) := by
  obtain ⟨hh, h8, h64, h32⟩ := h
  rw [hcells_list] at hh
  rw [cell_of_row w g 73 _ 85 _ hh, List.getElem?_toArray, List.append_assoc, List.getElem?_append_right (by simp; omega)]
  have e : 73 - (st.map W32 ++ rest.map B8).length = 1 := by simp; omega
  rw [e]; rfl
theorem HasH.told {w : World} {g : Nat} {st rest sum : List Nat} {N : Int} {done : DL} {told : Bool} (h : HasH w g st rest N done told sum) : w.cell? ⟨g, 76, none⟩ = some (.bool told) := by
  obtain ⟨hh, h8, h64, h32⟩ := h
  rw [hcells_list] at hh
  rw [cell_of_row w g 76 _ 85 _ hh, List.getElem?_toArray, List.append_assoc, List.getElem?_append_right (by simp; omega)]
  have e : 76 - (st.map W32 ++ rest.map B8).length = 4 := by simp; omega
  rw [e]; rfl
theorem HasH.ld25 {w : World} {g : Nat} {st rest sum : List Nat} {N : Int} {done : DL} {told : Bool} (h : HasH w g st rest N done told sum) : (ld25 (.pointer (some ⟨g, 77, none⟩))).run Tryz.prog w = .ok (.agg (E8 sum)) w := by
  obtain ⟨hh, h8, h64, h32⟩ := h
  rw [hcells_list] at hh
  have := load_part w g 77 32 (st.map W32 ++ rest.map B8 ++ mids N done told) (sum.map B8) [] (by simpa [List.append_assoc] using hh) (by simp [mids, h8, h64]) (by simp [h32])
  unfold YtlbfcneboaihnaaGreatDoor.Dg.ld25
  simp only [Instr.loadAt, Instr.sureAddr, Sem.run_bind, Sem.run_pure, Result.andThen]
  exact loadVar_of w 25 32 _ _ _ Tryz.underlying25 rfl (zero_of_info Z25_info).2 this
set_option maxRecDepth 20000 in
set_option maxHeartbeats 400000 in
theorem do_done (g : Nat) (d : Int) (hd : ¬ d = 0) (fv : Value) (w : World) (h0 : w.cell? ⟨g, 73, none⟩ = some (.int .u32 d)) :
    Calls Tryz.prog 37 #[.pointer (some ⟨g, 73, none⟩), fv] w fun e w' => e = .returned (.tuple #[]) ∧ w' = w := by
  have hl := run_call_load (P := Tryz.prog) Tryz.func83 (by kernel_rfl) (by kernel_rfl) (by kernel_rfl) .u32 (by kernel_rfl) h0
  have hnot : ∀ (x : Bool) (w : World), (Op.unary .not (.bool x)).run Tryz.prog w = .ok (.bool (!x)) w := fun _ _ => rfl
  have hd' : (d != 0) = true := by simp [hd]
  go_enter Tryz.func37, Tryz.ntmps37
  go_wp2
  go_end0
  exact ⟨rfl, rfl⟩
/-- A Hasher that is told takes nothing more. -/
theorem write_told (g : Nat) (st rest sum : List Nat) (N : Int) (done : DL) (v : Value) (w : World) (h : HasH w g st rest N done true sum) :
    Calls Tryz.prog 15 #[.pointer (some ⟨g, 0, none⟩), v] w fun e w' => e = .returned (.bool false) ∧ w' = w := by
  have ht := h.told
  go_enter Tryz.func15, Tryz.ntmps15
  go_wp2
  go_ret
  exact ⟨rfl, rfl⟩
end Go.Proofs.YtlbfcneboaihnaaGreatDoor.Dg
/- The law's own helper roomy, its capacity said. -/
namespace Go.Proofs.YtlbfcneboaihnaaGreatDoor.Dg
open Go.RowKit Go.Great
attribute [local go_sem] f_8 f_1024 f_hi4 f_lo4
end Go.Proofs.YtlbfcneboaihnaaGreatDoor.Dg
/- Bytes copied into what no full block holds yet; how many bytes there are, set anew. -/
namespace Go.Proofs.YtlbfcneboaihnaaGreatDoor.Dg
open Go.RowKit Go.Great
attribute [local go_sem] f_8 f_1024 f_hi4 f_lo4
/-- Copied bytes, at a place of a row. -/
def laid (rest b : List Nat) (o m : Nat) : List Nat := rest.take o ++ b.take m ++ rest.drop (o + m)
theorem laid_length {rest b : List Nat} {o m : Nat} (h1 : o + m ≤ rest.length) (h2 : m ≤ b.length) : (laid rest b o m).length = rest.length := by
  unfold laid; simp; omega
theorem HasH.copy {w : World} {g : Nat} {st rest sum : List Nat} {N : Int} {done : DL} {told : Bool} (h : HasH w g st rest N done told sum) (ty : TypeId) (o c n cap : Nat) (a : Option Addr) (b : List Nat) (hn : b.length = n) (hv : BytesAt w (.slice a n cap) b) (ho : o ≤ 64) (m : Nat) (hm : m = Nat.min n (64 - o)) :
    ∃ w', (Builtin.copy_ #[22, 22] ty #[.slice (some ⟨g, 8 + o, none⟩) (64 - o) c, .slice a n cap]).run Tryz.prog w = .ok (.int .i64 (m : Int)) w' ∧ HasH w' g st (laid rest b o m) N done told sum ∧ Sole g w w' := by
  subst hn
  have hmn : m ≤ b.length := by rw [hm]; exact Nat.min_le_left _ _
  have hmo : m ≤ 64 - o := by rw [hm]; exact Nat.min_le_right _ _
  obtain ⟨hh, h8, h64, h32⟩ := h
  by_cases h0 : 0 < m
  · obtain ⟨a', c', e, hc, hx⟩ := hv
    cases e
    obtain ⟨b', o', rfl, hb, hcell⟩ := hx (by omega)
    have hh' := hh
    rw [hcells_list] at hh'
    have hr := run_copy_row (P := Tryz.prog) w 22 22 ty 5 g (8 + o) (64 - o) c ⟨b', o', none⟩ b.length cap _ 85 ((b.take m).map B8) Tryz.underlying22 size5 hh' (by rw [List.length_map, List.length_take, hm]; omega)
      (fun j v hj => by
        obtain ⟨hj1, rfl⟩ := nth_map (b.take m) j v hj
        rw [List.length_take] at hj1
        rw [Addr.add_mid, hcell j (by omega), Sha.nth_take (by omega)])
      (by simp [mids, h8, h64, h32]; omega) (b8_one _)
    refine ⟨_, by rw [hr, List.length_map, List.length_take, Nat.min_eq_left (by omega)]; rfl, ?_, Sole.setRow g w _⟩
    refine ⟨?_, h8, by rw [laid_length (by omega) (by omega)]; exact h64, h32⟩
    rw [setRow_heap w g _ _ 85 _ hh, hcells_list]
    refine congrArg (fun c : Array Value => some (Obj.cells c 85 (0, 0))) ?_
    refine congrArg List.toArray ?_
    rw [List.toList_toArray]
    have e1 : (st.map W32 ++ rest.map B8 ++ mids N done told ++ sum.map B8).take (8 + o) = st.map W32 ++ (rest.take o).map B8 := by
      rw [List.append_assoc, List.append_assoc, List.take_append, List.take_of_length_le (by simp; omega), List.take_append_of_le_length (by simp; omega), List.map_take]
      simp [h8]
    have e2 : (st.map W32 ++ rest.map B8 ++ mids N done told ++ sum.map B8).drop (8 + o + m) = (rest.drop (o + m)).map B8 ++ mids N done told ++ sum.map B8 := by
      rw [List.append_assoc, List.append_assoc, List.drop_append, List.drop_of_length_le (by simp; omega), List.nil_append, List.drop_append_of_le_length (by simp; omega), List.map_drop]
      simp [h8, List.append_assoc, Nat.add_assoc]
    rw [e1, e2]
    unfold laid
    simp [List.append_assoc]
  · obtain rfl : m = 0 := by omega
    refine ⟨w, ?_, ⟨?_, h8, by rw [laid_length (by omega) (by omega)]; exact h64, h32⟩, Sole.refl _ _⟩
    · rw [run_copy_none w 22 22 ty 5 _ _ _ _ _ _ Tryz.underlying22 size5 hm.symm]; rfl
    · have : laid rest b o 0 = rest := by unfold laid; simp
      rw [this]; exact hh
theorem HasH.setSize {w : World} {g : Nat} {st rest sum : List Nat} {N : Int} {done : DL} {told : Bool} (h : HasH w g st rest N done told sum) (N' : Int) :
    HasH (w.setCell ⟨g, 72, none⟩ (.int .i64 N')) g st rest N' done told sum ∧ Sole g w (w.setCell ⟨g, 72, none⟩ (.int .i64 N')) := by
  obtain ⟨hh, h8, h64, h32⟩ := h
  refine ⟨⟨?_, h8, h64, h32⟩, ⟨rfl, rfl, rfl, by simp [World.setCell], fun k _ hk => Below.heap_setCell w ⟨g, 72, none⟩ _ k hk⟩⟩
  unfold World.setCell
  simp only [Array.getElem?_modify, hh]
  simp only [if_true, Option.map_some]
  congr 2
  rw [hcells_list, hcells_list]
  have e : (st.map W32 ++ rest.map B8).length = 72 := by simp; omega
  simp only [List.setIfInBounds_toArray]
  congr 1
  rw [List.append_assoc, List.append_assoc, List.append_assoc, List.append_assoc, ← List.append_assoc (st.map W32), ← List.append_assoc (st.map W32), List.set_append_right _ _ (by omega), e]
  rfl
theorem HasH.free {w : World} {g : Nat} {st rest sum : List Nat} {N : Int} {done : DL} {told : Bool} (h : HasH w g st rest N done told sum) (i : Nat) : w.frozen? ⟨g, i, none⟩ = false := by
  simp [World.frozen?, h.1]
theorem HasH.drewN {w : World} {g : Nat} {st rest sum : List Nat} {N : Int} {done : DL} {told : Bool} (h : HasH w g st rest N done told sum) (m : Nat) : HasH (w.drewN m) g st rest N done told sum := h
theorem HasH.rest {w : World} {g : Nat} {st rest sum : List Nat} {N : Int} {done : DL} {told : Bool} (h : HasH w g st rest N done told sum) (n cap : Nat) (hn : n ≤ 64) (hc : n ≤ cap) : BytesAt w (.slice (some ⟨g, 8, none⟩) n cap) (rest.take n) := by
  have hg := h.lt
  obtain ⟨hh, h8, h64, h32⟩ := h
  have hl : (rest.take n).length = n := by rw [List.length_take]; omega
  refine ⟨_, cap, by rw [hl], by omega, fun _ => ⟨g, 8, rfl, hg, fun i hi => ?_⟩⟩
  rw [hl] at hi
  rw [hcells_list] at hh
  rw [cell_of_row w g (8 + i) _ 85 _ hh, List.getElem?_toArray, List.append_assoc, List.append_assoc, List.getElem?_append_right (by simp; omega)]
  have e : 8 + i - (st.map W32).length = i := by simp; omega
  rw [e, List.getElem?_append_left (by simp; omega), List.getElem?_map, List.getElem?_eq_getElem (by omega)]
  simp only [Option.map_some, B8]
  congr 2
  rw [Sha.nth_take hi]
  unfold Sha.nth
  rw [List.getElem?_eq_getElem (by omega)]
  rfl
end Go.Proofs.YtlbfcneboaihnaaGreatDoor.Dg
/- What a Hasher keeps of the bytes that were written: the state of all full blocks, and the bytes that no full block holds. No Go text is named here. -/
namespace Go.Proofs.YtlbfcneboaihnaaGreatDoor.Dg
namespace Sha
/-- How many bytes the full blocks have. -/
def full (all : List Nat) : Nat := 64 * (all.length / 64)
/-- The state of all full blocks. -/
def stOf (all : List Nat) : St := blocks start (all.take (full all)) (all.length / 64)
theorem stOf_ok (all : List Nat) : (stOf all).ok := blocks_ok start_ok _ _
theorem stOf_nil : stOf [] = start := rfl
/-- Bytes that fill no block. -/
theorem inv_less {rest all b rest' : List Nat} (hr : rest.take (all.length % 64) = all.drop (full all)) (hb : all.length % 64 + b.length < 64) (hr' : rest'.take (all.length % 64 + b.length) = rest.take (all.length % 64) ++ b) :
    stOf (all ++ b) = stOf all ∧ rest'.take ((all ++ b).length % 64) = (all ++ b).drop (full (all ++ b)) := by
  have e1 : (all ++ b).length / 64 = all.length / 64 := by rw [List.length_append]; omega
  have e2 : (all ++ b).length % 64 = all.length % 64 + b.length := by rw [List.length_append]; omega
  have e3 : full (all ++ b) = full all := by unfold full; rw [e1]
  have hf : full all ≤ all.length := by unfold full; omega
  constructor
  · unfold stOf
    rw [e1, e3, List.take_append_of_le_length hf]
  · rw [e2, e3, hr', hr, List.drop_append_of_le_length hf]
/-- Bytes that fill a block, and more. -/
theorem inv_more {rest all b r1 rest' : List Nat} {m wh : Nat} (hr : rest.take (all.length % 64) = all.drop (full all)) (hm : all.length % 64 + m = 64) (hmb : m ≤ b.length) (hr1 : r1 = rest.take (all.length % 64) ++ b.take m)
    (hw : wh = (b.length - m) - (b.length - m) % 64) (hr' : rest'.take ((b.length - m) % 64) = (b.drop m).drop wh) :
    stOf (all ++ b) = blocks (blocks (stOf all) r1 1) ((b.drop m).take wh) (wh / 64) ∧ rest'.take ((all ++ b).length % 64) = (all ++ b).drop (full (all ++ b)) := by
  have hf : full all ≤ all.length := by unfold full; omega
  have hfd : (all.drop (full all)).length = all.length % 64 := by rw [List.length_drop]; unfold full; omega
  have hr1l : r1.length = 64 * 1 := by rw [hr1, hr, List.length_append, hfd, List.length_take]; omega
  have hftl : (all.take (full all)).length = 64 * (all.length / 64) := by rw [List.length_take]; unfold full; omega
  have hwl : ((b.drop m).take wh).length = wh := by rw [List.length_take, List.length_drop]; omega
  have hsplit : all ++ b = (all.take (full all) ++ (r1 ++ (b.drop m).take wh)) ++ (b.drop m).drop wh := by
    rw [List.append_assoc, List.append_assoc, List.take_append_drop, hr1, hr, List.append_assoc, List.take_append_drop, ← List.append_assoc, List.take_append_drop]
  have hpl : (all.take (full all) ++ (r1 ++ (b.drop m).take wh)).length = 64 * (all.length / 64 + (1 + wh / 64)) := by
    rw [List.length_append, List.length_append, hftl, hr1l, hwl]; omega
  have e1 : (all ++ b).length / 64 = all.length / 64 + (1 + wh / 64) := by rw [List.length_append]; omega
  have e3 : full (all ++ b) = (all.take (full all) ++ (r1 ++ (b.drop m).take wh)).length := by unfold full; rw [e1]; exact hpl.symm
  have e2 : (all ++ b).length % 64 = (b.length - m) % 64 := by rw [List.length_append]; omega
  constructor
  · show blocks start ((all ++ b).take (full (all ++ b))) ((all ++ b).length / 64) = _
    rw [e1, e3]
    conv => lhs; rw [hsplit]
    rw [List.take_left' rfl, blocks_append _ _ _ _ _ hftl, blocks_append _ _ _ _ _ hr1l]
    rfl
  · rw [e2, e3, hr', hsplit, List.drop_left' rfl]
/-- The digest of all, out of what is kept. -/
theorem sum_kept {rest all : List Nat} (hr : rest.take (all.length % 64) = all.drop (full all)) : out (blocks (stOf all) (tail (rest.take (all.length % 64)) (8 * all.length)) (endOf (all.length % 64) / 64)) = sum all := by
  have e : all.length - all.length % 64 = full all := by unfold full; omega
  unfold sum sumBehind
  rw [hr, e, Nat.zero_add]
  rfl
end Sha
end Go.Proofs.YtlbfcneboaihnaaGreatDoor.Dg
/- Write, while the Hasher is not told. -/
namespace Go.Proofs.YtlbfcneboaihnaaGreatDoor.Dg
open Go.RowKit Go.Great
attribute [local go_sem] f_8 f_1024 f_hi4 f_lo4
theorem BytesAt.sole {w w' : World} {g n cap : Nat} {a : Option Addr} {m : List Nat} (h : BytesAt w (.slice a n cap) m) (hg : ∀ x, a = some x → 0 < m.length → x.block ≠ g) (hs : Sole g w w') : BytesAt w' (.slice a n cap) m := by
  obtain ⟨a', c, e, hc, hm⟩ := h
  cases e
  refine ⟨a, cap, rfl, hc, fun hp => ?_⟩
  obtain ⟨b, o, ea, hl, hcell⟩ := hm hp
  have hne : b ≠ g := hg ⟨b, o, none⟩ ea hp
  exact ⟨b, o, ea, Nat.lt_of_lt_of_le hl hs.size, fun i hi => by rw [World.cell?_of_block (w := w) (w' := w') (a := ⟨b, o + i, none⟩) (hs.block b hl hne)]; exact hcell i hi⟩
theorem laid_less {rest b : List Nat} {o : Nat} (h : o + b.length ≤ rest.length) : (laid rest b o b.length).take (o + b.length) = rest.take o ++ b := by
  unfold laid
  rw [List.take_left' (by simp; omega), List.take_length]
set_option maxRecDepth 20000 in
set_option maxHeartbeats 1000000 in
theorem write_less (g : Nat) (st rest sum ST : List Nat) (N n cap : Nat) (a : Option Addr) (b : List Nat) (w : World) (h : HasH w g st rest (N : Int) dz false sum) (hST : (if N = 0 then Sha.start.list else st) = ST) (hn : b.length = n) (hv : BytesAt w (.slice a n cap) b) (hg : ∀ x, a = some x → 0 < b.length → x.block ≠ g) (hN : N + n ≤ 20000000) (o : Nat) (ho : o = N % 64) (hl : o + n < 64) :
    Calls Tryz.prog 15 #[.pointer (some ⟨g, 0, none⟩), .slice a n cap] w fun e w' => e = .returned (.bool true) ∧ HasH w' g ST (laid rest b o n) ((N : Int) + (n : Int)) dz false sum ∧ Sole g w w' := by
  have ht := h.told
  have HOO := hide ho
  have hsa := start_any g st rest sum N dz false w h
  rw [hST] at hsa
  have HSA := hide hsa
  clear ho hsa hST
  go_enter Tryz.func15, Tryz.ntmps15
  go_wp2_with fail
  refine (unhide HSA).mono ?_
  rintro e w1 ⟨rfl, h1, hs1⟩
  go_wp2_with fail
  have hhe := held_any g N w1 (by omega) h1.size
  rw [← unhide HOO] at hhe
  refine hhe.mono ?_
  clear hhe
  rintro e w' ⟨rfl, hw'⟩; rw [hw']; clear hw' w'
  go_wp2_with fail
  refine (add_any g 72 N n ((N : Int) + (n : Int)) _ h1.size (h1.free 72) rfl (by omega) (by omega)).mono ?_
  rintro e w' ⟨rfl, hw'⟩; rw [hw']; clear hw' w'
  obtain ⟨h2, hs2⟩ := h1.setSize ((N : Int) + (n : Int))
  have hs12 := hs1.trans hs2
  generalize w1.setCell ⟨g, 72, none⟩ (.int .i64 ((N : Int) + (n : Int))) = w2 at *
  clear h1 hs1 hs2
  obtain ⟨w3, hr3, h3, hs3⟩ := h2.copy 3 o (64 - o) n cap a b hn (hv.sole hg hs12) (by omega) n (by have : Nat.min n (64 - o) = n := Nat.min_eq_left (by omega); exact this.symm)
  have ho1 : (o : Int) ≤ 64 := by omega
  have ho2 : ¬ (64 = o) := by omega
  have H3 := hide h3
  have hs13 := hs12.trans hs3
  clear h3 hs12 hs3 h2
  go_wp2
  go_ret
  exact ⟨rfl, unhide H3, hs13⟩
set_option maxRecDepth 20000 in
set_option maxHeartbeats 1000000 in
theorem write_more (g : Nat) (rest sum : List Nat) (st : List Nat) (ST : Sha.St) (N n cap : Nat) (a : Option Addr) (b : List Nat) (w : World) (h : HasH w g st rest (N : Int) dz false sum) (hST : (if N = 0 then Sha.start.list else st) = ST.list) (hok : ST.ok) (hn : b.length = n) (hbb : Sha.Bytes b) (hrb : Sha.Bytes (rest.take (N % 64))) (hv : BytesAt w (.slice a n cap) b) (hg : ∀ x, a = some x → 0 < b.length → x.block ≠ g) (hN : N + n ≤ 20000000) (o m wh : Nat) (ho : o = N % 64) (hm : o + m = 64) (hmn : m ≤ n) (hwh : wh = (n - m) - (n - m) % 64) :
    Calls Tryz.prog 15 #[.pointer (some ⟨g, 0, none⟩), .slice a n cap] w fun e w' => e = .returned (.bool true) ∧ HasH w' g (Sha.blocks (Sha.blocks ST (laid rest b o m) 1) ((b.drop m).take wh) (wh / 64)).list (laid (laid rest b o m) ((b.drop m).drop wh) 0 ((n - m) % 64)) ((N : Int) + (n : Int)) dz false sum ∧ Sole g w w' := by
  have ht := h.told
  obtain ⟨q, p, rfl⟩ : ∃ q p, a = some ⟨q, p, none⟩ := by
    obtain ⟨a', c', e, hc, hx⟩ := hv
    obtain ⟨q, p, ea, _, _⟩ := hx (by omega)
    cases e
    exact ⟨q, p, ea⟩
  have hnc : n ≤ cap := by obtain ⟨a', c', e, hc, hx⟩ := hv; cases e; omega
  obtain ⟨p', hA⟩ : ∃ p', (if cap = m then some (⟨q, p, none⟩ : Addr) else some ⟨q, p + m, none⟩) = some ⟨q, p', none⟩ := by
    by_cases hc : cap = m
    · exact ⟨p, if_pos hc⟩
    · exact ⟨p + m, if_neg hc⟩
  obtain ⟨p2, hA2⟩ : ∃ p2, (if cap - m = wh then some (⟨q, p', none⟩ : Addr) else some ⟨q, p' + wh, none⟩) = some ⟨q, p2, none⟩ := by
    by_cases hc : cap - m = wh
    · exact ⟨p', if_pos hc⟩
    · exact ⟨p' + wh, if_neg hc⟩
  have HOO := hide ho
  have hsa := start_any g st rest sum N dz false w h
  rw [hST] at hsa
  have HSA := hide hsa
  clear ho hsa hST
  go_enter Tryz.func15, Tryz.ntmps15
  go_wp2_with fail
  refine (unhide HSA).mono ?_
  rintro e w1 ⟨rfl, h1, hs1⟩
  go_wp2_with fail
  have hhe := held_any g N w1 (by omega) h1.size
  rw [← unhide HOO] at hhe
  refine hhe.mono ?_
  clear hhe
  rintro e w' ⟨rfl, hw'⟩; rw [hw']; clear hw' w'
  go_wp2_with fail
  refine (add_any g 72 N n ((N : Int) + (n : Int)) _ h1.size (h1.free 72) rfl (by omega) (by omega)).mono ?_
  rintro e w' ⟨rfl, hw'⟩; rw [hw']; clear hw' w'
  obtain ⟨h2, hs2⟩ := h1.setSize ((N : Int) + (n : Int))
  have hs12 := hs1.trans hs2
  generalize w1.setCell ⟨g, 72, none⟩ (.int .i64 ((N : Int) + (n : Int))) = w2 at *
  clear h1 hs1 hs2
  obtain ⟨w3, hr3, h3, hs3⟩ := h2.copy 3 o (64 - o) n cap (some ⟨q, p, none⟩) b hn (hv.sole hg hs12) (by omega) m (by have : Nat.min n (64 - o) = 64 - o := Nat.min_eq_right (by omega); rw [this]; omega)
  have ho1 : (o : Int) ≤ 64 := by omega
  have ho2 : ¬ (64 = o) := by have := unhide HOO; omega
  have hs13 := hs12.trans hs3
  have HB3 := hide (hv.sole hg hs13)
  clear hs12 hs3 h2
  go_wp2_with fail
  clear hr3
  have hrl : (laid rest b o m).length = 64 := h3.2.2.1
  have hrbt : Sha.Bytes (laid rest b o m) := by
    have e : laid rest b o m = rest.take (N % 64) ++ b.take m := by
      have h64 : rest.length = 64 := by have := laid_length (rest := rest) (b := b) (o := o) (m := m); by_cases hc : rest.length = 64; exact hc; exact h.2.2.1
      unfold laid; rw [List.drop_of_length_le (by omega), List.append_nil, unhide HOO]
    rw [e]; exact hrb.append (hbb.take m)
  have hld0 := h3.ld68
  have hld1 : (ld68 (.pointer (some ⟨g, 0, none⟩))).run Tryz.prog w3.drew = .ok (.agg (E32 ST.list)) w3.drew := (h3.drewN 1).ld68
  have hrt := h3.rest 64 64 (Nat.le_refl _) (Nat.le_refl _)
  rw [List.take_of_length_le (by omega)] at hrt
  have HAB : Hid (∀ k, Calls Tryz.prog 34 #[.agg (E32 ST.list), .slice (some ⟨g, 8, none⟩) 64 64] (w3.drewN k) fun e w' => e = .returned (.agg (E32 (Sha.blocks ST (laid rest b o m) 1).list)) ∧ HasH w' g ST.list (laid rest b o m) ((N : Int) + (n : Int)) dz false sum ∧ Sole g w3 w') := fun k => by
    refine (addBlocks_any ST _ (laid rest b o m) 1 (w3.drewN k) hok hrt hrbt (by omega) (by omega)).mono fun e w' hh => ⟨hh.1, (h3.drewN k).below hh.2, ?_⟩
    exact (show Sole g w3 (w3.drewN k) from ⟨rfl, rfl, rfl, Nat.le_refl _, fun _ _ _ => rfl⟩).trans (Sole.of_below hh.2)
  have hX8 := list_eight (Sha.blocks ST (laid rest b o m) 1)
  generalize hB1 : Sha.blocks ST (laid rest b o m) 1 = B1 at *
  have HB1 := hide hB1
  clear hB1 hrt
  go_region_with (go_at_call 34
                  refine Calls.mono (by first | exact unhide HAB 0 | exact unhide HAB 1) ?_
                  rintro e w4 ⟨rfl, h4, hs4⟩
                  have hst4 := h4.st68 B1.list hX8)
  have h5 := h4.setSt B1.list hX8
  have hs15 := hs13.trans (hs4.trans (Sole.setRow g w4 (hcells B1.list (laid rest b o m) ((N : Int) + (n : Int)) dz false sum)))
  generalize w4.setRow g (hcells B1.list (laid rest b o m) ((N : Int) + (n : Int)) dz false sum) = w5 at *
  have hs35 : Sole g w w5 := hs15
  clear h4 hs4 hst4 hs15 hld0 hld1 h3 hs13 HB3 HAB
  have hbs := hv.sole hg hs35
  have hsf := hbs
  rw [← hn] at hsf
  have hsf := hsf.suffix m (by omega)
  rw [hA, hn] at hsf
  have hdl : (b.drop m).length = n - m := by rw [List.length_drop, hn]
  have hdb := hbb.drop m
  have hmc : m ≤ cap := by omega
  have hwn : wh ≤ n - m := by omega
  have hwc : wh ≤ cap - m := by omega
  have HWH := hide hwh
  have hfs := hsf.firsts wh (by omega)
  have hsf2 := hsf
  rw [← hdl] at hsf2
  have hsf2 := hsf2.suffix wh (by omega)
  rw [hA2, hdl] at hsf2
  have hok1 : B1.ok := by rw [← unhide HB1]; exact Sha.blocks_ok hok _ _
  have HFS := hide hfs
  have HSF2 := hide hsf2
  clear hfs hsf hsf2 hbs hwh
  go_wp2_with fail
  have hwb := wholeBlocks_any (some ⟨q, p', none⟩) (n - m) (cap - m) w5 (by omega)
  rw [← unhide HWH] at hwb
  refine hwb.mono ?_
  clear hwb
  rintro e w' ⟨rfl, hw'⟩; rw [hw']; clear hw' w'
  have hld0 := h5.ld68
  have hld1 : (ld68 (.pointer (some ⟨g, 0, none⟩))).run Tryz.prog w5.drew = .ok (.agg (E32 B1.list)) w5.drew := (h5.drewN 1).ld68
  have HAB : Hid (∀ k, Calls Tryz.prog 34 #[.agg (E32 B1.list), .slice (some ⟨q, p', none⟩) wh (cap - m)] (w5.drewN k) fun e w' => e = .returned (.agg (E32 (Sha.blocks B1 ((b.drop m).take wh) (wh / 64)).list)) ∧ HasH w' g B1.list (laid rest b o m) ((N : Int) + (n : Int)) dz false sum ∧ Sole g w5 w') := fun k => by
    have hbk : BytesAt (w5.drewN k) (.slice (some ⟨q, p', none⟩) wh (cap - m)) ((b.drop m).take wh) := unhide HFS
    have hlk : ((b.drop m).take wh).length = wh := by rw [List.length_take, hdl]; omega
    refine (addBlocks_any B1 _ ((b.drop m).take wh) (wh / 64) (w5.drewN k) hok1 hbk (hdb.take wh) (by rw [hlk]; have := unhide HWH; omega) (by rw [hlk]; omega)).mono fun e w' hh => ⟨hh.1, (h5.drewN k).below hh.2, ?_⟩
    exact (show Sole g w5 (w5.drewN k) from ⟨rfl, rfl, rfl, Nat.le_refl _, fun _ _ _ => rfl⟩).trans (Sole.of_below hh.2)
  have hX9 := list_eight (Sha.blocks B1 ((b.drop m).take wh) (wh / 64))
  generalize hB2 : Sha.blocks B1 ((b.drop m).take wh) (wh / 64) = B2 at *
  have HB2 := hide hB2
  clear hB2
  go_wp2
  go_region_with (go_at_call 34
                  refine Calls.mono (by first | exact unhide HAB 0 | exact unhide HAB 1) ?_
                  rintro e w6 ⟨rfl, h6, hs6⟩
                  have hst6 := h6.st68 B2.list hX9)
  have h7 := h6.setSt B2.list hX9
  have hs67 := hs6.trans (Sole.setRow g w6 (hcells B2.list (laid rest b o m) ((N : Int) + (n : Int)) dz false sum))
  generalize w6.setRow g (hcells B2.list (laid rest b o m) ((N : Int) + (n : Int)) dz false sum) = w7 at *
  clear h6 hs6 hst6 hld0 hld1 HAB
  have hs07 : Sole g w w7 := hs35.trans hs67
  have hrw : n - m - wh = (n - m) % 64 := by have := unhide HWH; omega
  obtain ⟨r, hr⟩ : ∃ r, r = (n - m) % 64 := ⟨_, rfl⟩
  have hr64 : r < 64 := by omega
  have hv7 : BytesAt w7 (.slice (some ⟨q, p2, none⟩) (n - m - wh) (cap - m - wh)) ((b.drop m).drop wh) := (unhide HSF2).sole (fun x hx h0 => by cases hx; exact hg ⟨q, p, none⟩ rfl (by simp at h0; omega)) hs67
  have hs77 : Sole g w7 (w7.drewN 1) := ⟨rfl, rfl, rfl, Nat.le_refl _, fun _ _ _ => rfl⟩
  obtain ⟨w8, hr8, h8, hs8⟩ := (h7.drewN 1).copy 3 0 64 (n - m - wh) (cap - m - wh) (some ⟨q, p2, none⟩) ((b.drop m).drop wh) (by rw [List.length_drop, hdl]) (show BytesAt (w7.drewN 1) _ _ from hv7) (by omega) r (by
    have : Nat.min (n - m - wh) (64 - 0) = n - m - wh := Nat.min_eq_left (by omega)
    rw [this]; omega)
  have H8 := hide h8
  have hs08 := (hs07.trans hs77).trans hs8
  have HR := hide hr
  have hr8' : (Builtin.copy_ #[22, 22] 3 #[.slice (some ⟨g, 8, none⟩) 64 64, .slice (some ⟨q, p2, none⟩) (n - m - wh) (cap - m - wh)]).run Tryz.prog w7.drew = .ok (.int .i64 (r : Int)) w8 := hr8
  clear h8 h7 hs67 hs8 hv7 hs35 hs07 hr hr8 hs77 hrw
  go_wp2
  go_region
  all_goals
    go_wp2
    go_ret
    exact ⟨rfl, by rw [unhide HB1, unhide HB2, ← unhide HR]; exact unhide H8, hs08⟩
/-- A Hasher to which so many bytes were written, and that is not told. -/
def Kept (w : World) (g : Nat) (all sum : List Nat) : Prop :=
  ∃ st rest, HasH w g st rest (all.length : Int) dz false sum ∧ (0 < all.length → st = (Sha.stOf all).list) ∧ rest.take (all.length % 64) = all.drop (Sha.full all)
theorem start_of {all st : List Nat} (h : 0 < all.length → st = (Sha.stOf all).list) : (if all.length = 0 then Sha.start.list else st) = (Sha.stOf all).list := by
  by_cases h0 : all.length = 0
  · obtain rfl : all = [] := List.eq_nil_of_length_eq_zero h0
    rfl
  · rw [if_neg h0]; exact h (by omega)
theorem write_any (g : Nat) (all sum : List Nat) (n cap : Nat) (a : Option Addr) (b : List Nat) (w : World) (h : Kept w g all sum) (hab : Sha.Bytes all) (hn : b.length = n) (hbb : Sha.Bytes b) (hv : BytesAt w (.slice a n cap) b) (hg : ∀ x, a = some x → 0 < b.length → x.block ≠ g) (hN : all.length + n ≤ 20000000) :
    Calls Tryz.prog 15 #[.pointer (some ⟨g, 0, none⟩), .slice a n cap] w fun e w' => e = .returned (.bool true) ∧ Kept w' g (all ++ b) sum ∧ Sole g w w' := by
  obtain ⟨st, rest, hh, hst, hr⟩ := h
  have h64 : rest.length = 64 := hh.2.2.1
  subst hn
  have hlen : (((all ++ b).length : Nat) : Int) = (all.length : Int) + (b.length : Int) := by rw [List.length_append]; omega
  by_cases hl : all.length % 64 + b.length < 64
  · refine (write_less g st rest sum _ all.length b.length cap a b w hh (start_of hst) rfl hv hg hN _ rfl hl).mono fun e w' ⟨he, hH, hs⟩ => ⟨he, ⟨_, _, by rw [hlen]; exact hH, fun _ => ?_, ?_⟩, hs⟩
    · exact congrArg Sha.St.list (Sha.inv_less hr hl (laid_less (by omega))).1.symm
    · exact (Sha.inv_less hr hl (laid_less (by omega))).2
  · have hm : all.length % 64 + (64 - all.length % 64) = 64 := by omega
    have hr1 : laid rest b (all.length % 64) (64 - all.length % 64) = rest.take (all.length % 64) ++ b.take (64 - all.length % 64) := by
      unfold laid; rw [List.drop_of_length_le (by omega), List.append_nil]
    have hr' : (laid (laid rest b (all.length % 64) (64 - all.length % 64)) ((b.drop (64 - all.length % 64)).drop ((b.length - (64 - all.length % 64)) - (b.length - (64 - all.length % 64)) % 64)) 0 ((b.length - (64 - all.length % 64)) % 64)).take ((b.length - (64 - all.length % 64)) % 64) = (b.drop (64 - all.length % 64)).drop ((b.length - (64 - all.length % 64)) - (b.length - (64 - all.length % 64)) % 64) := by
      have hl2 : ((b.drop (64 - all.length % 64)).drop ((b.length - (64 - all.length % 64)) - (b.length - (64 - all.length % 64)) % 64)).length = (b.length - (64 - all.length % 64)) % 64 := by
        rw [List.length_drop, List.length_drop]; omega
      generalize ((b.drop (64 - all.length % 64)).drop ((b.length - (64 - all.length % 64)) - (b.length - (64 - all.length % 64)) % 64)) = X at *
      unfold laid
      rw [List.take_zero, List.nil_append, ← hl2, List.take_length, List.take_left' rfl]
    have hinv := Sha.inv_more hr hm (by omega) hr1 rfl hr'
    refine (write_more g rest sum st (Sha.stOf all) all.length b.length cap a b w hh (start_of hst) (Sha.stOf_ok all) rfl hbb (by rw [hr]; exact hab.drop _) hv hg hN (all.length % 64) (64 - all.length % 64) _ rfl hm (by omega) rfl).mono fun e w' ⟨he, hH, hs⟩ => ⟨he, ⟨_, _, by rw [hlen]; exact hH, fun _ => ?_, ?_⟩, hs⟩
    · exact congrArg Sha.St.list hinv.1.symm
    · exact hinv.2
end Go.Proofs.YtlbfcneboaihnaaGreatDoor.Dg
/- The parts of a Once's slow road: the lock taken and let go, the word stored; and a Hasher's words set. -/
namespace Go.Proofs.YtlbfcneboaihnaaGreatDoor.Dg
open Go.RowKit Go.Great
attribute [local go_sem] f_8 f_1024 f_hi4 f_lo4
theorem race_off (w : World) : (callFunc 111 #[]).run Tryz.prog w = .ok (.value (.tuple #[])) w := run_call_mark0 Tryz.func111 (by kernel_rfl) (by kernel_rfl) (by kernel_rfl) .disable (by kernel_rfl) w
theorem race_on (w : World) : (callFunc 113 #[]).run Tryz.prog w = .ok (.value (.tuple #[])) w := run_call_mark0 Tryz.func113 (by kernel_rfl) (by kernel_rfl) (by kernel_rfl) .enable (by kernel_rfl) w
theorem race_acq (a : Addr) (w : World) : (callFunc 114 #[.pointer (some a)]).run Tryz.prog w = .ok (.value (.tuple #[])) w := run_call_marked Tryz.func114 (by kernel_rfl) (by kernel_rfl) (by kernel_rfl) .acquire (by kernel_rfl) a w
theorem race_rel (a : Addr) (w : World) : (callFunc 116 #[.pointer (some a)]).run Tryz.prog w = .ok (.value (.tuple #[])) w := run_call_marked Tryz.func116 (by kernel_rfl) (by kernel_rfl) (by kernel_rfl) .releaseMerge (by kernel_rfl) a w
set_option maxRecDepth 20000 in
set_option maxHeartbeats 1000000 in
theorem word_deferred (a : Addr) (x : Value) (u : FrameMode) (w : World) (hc : w.cell? a = some x) (hz : w.frozen? a = false) :
    CallsD Tryz.prog 86 #[.pointer (some a), .bool true] u w fun e u' w' => u' = u ∧ (e = .returned (.tuple #[]) ∧ w' = w.drew.setCell a (.int .u32 1)) := by
  have hc' : w.drew.cell? a = some x := by go_simp
  have hz' : w.drew.frozen? a = false := by go_simp
  have hst := run_call_store (P := Tryz.prog) Tryz.func97 (by kernel_rfl) (by kernel_rfl) (by kernel_rfl) (by kernel_rfl) (k := .u32) (y := 1) hc' hz'
  go_enter_d Tryz.func86, Tryz.ntmps86
  go_wp2
  go_region_calls
  all_goals (go_end0; exact ⟨rfl, rfl⟩)
set_option maxRecDepth 20000 in
set_option maxHeartbeats 1000000 in
theorem unlock_deferred (a : Addr) (u : FrameMode) (w : World) (hc : w.cell? a = some (.int .i32 1)) (hz : w.frozen? a = false) :
    CallsD Tryz.prog 85 #[.pointer (some a)] u w fun e u' w' => u' = u ∧ (e = .returned (.tuple #[]) ∧ w' = w.setCell a (.int .i32 0)) := by
  have hd := race_off
  have he := race_on
  have hr := race_rel
  have hadd := run_call_add (P := Tryz.prog) Tryz.func117 (by kernel_rfl) (by kernel_rfl) (by kernel_rfl) .i32 (by kernel_rfl) (y := -1) (s := 0) hc hz (by simp [go_sem]; rfl)
  have hcv := run_convert_to_unsafe (P := Tryz.prog) (src := 166) (dst := 170) Tryz.underlying166 Tryz.underlying170 (by kernel_rfl) hc
  go_enter_d Tryz.func85, Tryz.ntmps85
  go_wp2
  go_end0
  go_wp2
  go_end0
  exact ⟨rfl, rfl⟩
set_option maxRecDepth 20000 in
set_option maxHeartbeats 1000000 in
theorem lock_free (a : Addr) (w : World) (hc : w.cell? a = some (.int .i32 0)) (hz : w.frozen? a = false) :
    Calls Tryz.prog 84 #[.pointer (some a)] w fun e w' => e = .returned (.tuple #[]) ∧ w' = w.setCell a (.int .i32 1) := by
  have hd := race_off
  have he := race_on
  have ha := race_acq
  have hcas := run_call_cas_hit (P := Tryz.prog) Tryz.func112 (by kernel_rfl) (by kernel_rfl) (by kernel_rfl) .i32 (by kernel_rfl) (y := 1) hc hz
  have hc' : (w.setCell a (.int .i32 1)).cell? a = some (.int .i32 1) := World.cell?_setCell_same w a _ hc
  have hcv := run_convert_to_unsafe (P := Tryz.prog) (src := 166) (dst := 170) Tryz.underlying166 Tryz.underlying170 (by kernel_rfl) hc'
  go_enter Tryz.func84, Tryz.ntmps84
  go_wp2
  first | go_end0 | (simp only [Exit.inBlock, Exit.then]; refine bodyPost_ret (results_none rfl _ _ _) rfl ?_) | refine bodyPost_ret (results_none rfl _ _ _) rfl ?_
  go_wp2
  go_end0
  exact ⟨rfl, rfl⟩
theorem Sole.setCell (g i : Nat) (w : World) (v : Value) : Sole g w (w.setCell ⟨g, i, none⟩ v) := ⟨rfl, rfl, rfl, by simp [World.setCell], fun k _ hk => Below.heap_setCell w ⟨g, i, none⟩ _ k hk⟩
theorem HasH.setMid {w : World} {g : Nat} {st rest sum : List Nat} {N : Int} {done : DL} {told : Bool} (h : HasH w g st rest N done told sum) (i : Nat) (v : Value) (done' : DL) (told' : Bool) (hi : i < 5) (hm : (mids N done told).set i v = mids N done' told') :
    HasH (w.setCell ⟨g, 72 + i, none⟩ v) g st rest N done' told' sum := by
  obtain ⟨hh, h8, h64, h32⟩ := h
  refine ⟨?_, h8, h64, h32⟩
  unfold World.setCell
  simp only [Array.getElem?_modify, hh]
  simp only [if_true, Option.map_some]
  refine congrArg (fun c : Array Value => some (Obj.cells c 85 (0, 0))) ?_
  rw [hcells_list, hcells_list]
  have e : (st.map W32 ++ rest.map B8).length = 72 := by simp; omega
  simp only [List.setIfInBounds_toArray]
  refine congrArg List.toArray ?_
  rw [List.append_assoc, List.append_assoc (st.map W32 ++ rest.map B8), List.set_append_right _ _ (by omega), e, Nat.add_sub_cancel_left, ← hm]
  rw [List.set_append_left _ _ (show i < (mids N done told).length from hi)]
theorem HasH.st25 {w : World} {g : Nat} {st rest sum : List Nat} {N : Int} {done : DL} {told : Bool} (h : HasH w g st rest N done told sum) (s' : List Nat) (h' : s'.length = 32) :
    (st25 (.pointer (some ⟨g, 77, none⟩)) (.agg (E8 s'))).run Tryz.prog w = .ok () (w.setRow g (hcells st rest N done told s')) ∧ HasH (w.setRow g (hcells st rest N done told s')) g st rest N done told s' := by
  obtain ⟨hh, h8, h64, h32⟩ := h
  refine ⟨?_, setRow_heap w g _ _ 85 _ hh, h8, h64, h'⟩
  rw [hcells_list] at hh ⊢
  have := store_part w g 77 (st.map W32 ++ rest.map B8 ++ mids N done told) (sum.map B8) [] (s'.map B8) (by simpa [List.append_assoc] using hh) (by simp [mids, h8, h64]) (by simp [h32, h']) (b8_one _)
  unfold YtlbfcneboaihnaaGreatDoor.Dg.st25
  simp only [Instr.storeAt, Instr.sureAddr, Sem.run_bind, Sem.run_pure, Result.andThen]
  exact storeVar_of w _ 25 32 _ (E8 s') (zero_of_info Z25_info).2 (by simp [h']) (by simpa [E8, List.append_assoc] using this)
theorem HasH.stRange {w : World} {g : Nat} {st rest sum : List Nat} {N : Int} {done : DL} {told : Bool} (h : HasH w g st rest N done told sum) : w.rangeAt g 0 (st.map W32) := by
  obtain ⟨hh, h8, h64, h32⟩ := h
  rw [hcells_list] at hh
  intro j v hv
  have hj := (List.getElem?_eq_some_iff.1 hv).1
  rw [cell_of_row w g (0 + j) _ 85 _ hh, List.getElem?_toArray, List.append_assoc, List.append_assoc, List.getElem?_append_left (by omega), Nat.zero_add]
  exact hv
theorem HasH.lock {w : World} {g : Nat} {st rest sum : List Nat} {N : Int} {done : DL} {told : Bool} (h : HasH w g st rest N done told sum) : w.cell? ⟨g, 74, none⟩ = some (.int .i32 done.lk) := by
  obtain ⟨hh, h8, h64, h32⟩ := h
  rw [hcells_list] at hh
  rw [cell_of_row w g 74 _ 85 _ hh, List.getElem?_toArray, List.append_assoc, List.getElem?_append_right (by simp; omega)]
  have e : 74 - (st.map W32 ++ rest.map B8).length = 2 := by simp; omega
  rw [e]; rfl
/-- A Hasher to which so many bytes were written, with the Once's word and lock. -/
def KeptL (w : World) (g : Nat) (d : DL) (all sum : List Nat) : Prop :=
  ∃ st rest, HasH w g st rest (all.length : Int) d false sum ∧ (0 < all.length → st = (Sha.stOf all).list) ∧ rest.take (all.length % 64) = all.drop (Sha.full all)
/-- One that is told. -/
def ToldL (w : World) (g : Nat) (d : DL) (all : List Nat) : Prop := ∃ st rest, HasH w g st rest (all.length : Int) d true (Sha.sum all)
set_option maxRecDepth 20000 in
set_option maxHeartbeats 1000000 in
theorem bload_zero (a : Addr) (w : World) (hc : w.cell? a = some (.int .u32 0)) :
    Calls Tryz.prog 62 #[.pointer (some a)] w fun e w' => e = .returned (.bool false) ∧ w' = w := by
  have hl := run_call_load (P := Tryz.prog) Tryz.func83 (by kernel_rfl) (by kernel_rfl) (by kernel_rfl) .u32 (by kernel_rfl) hc
  go_enter Tryz.func62, Tryz.ntmps62
  go_wp2
  go_ret
  exact ⟨rfl, rfl⟩
set_option maxRecDepth 20000 in
set_option maxHeartbeats 2000000 in
theorem step_any (g pb : Nat) (d : DL) (all sum : List Nat) (w : World) (h : KeptL w g d all sum) (hab : Sha.Bytes all) (hal : all.length ≤ 20000000) (hp : w.cell? ⟨pb, 0, none⟩ = some (.pointer (some ⟨g, 0, none⟩))) (hpg : pb ≠ g) (hpw : pb < w.heap.size) :
    Calls Tryz.prog 38 #[.pointer (some ⟨pb, 0, none⟩)] w fun e w' => e = .returned (.tuple #[]) ∧ ToldL w' g d all ∧ Sole g w w' := by
  obtain ⟨st, rest, hh, hst, hr⟩ := h
  have hsa := start_any g st rest sum all.length d false w hh
  rw [start_of hst] at hsa
  have HSA := hide hsa
  clear hsa hst hh
  go_enter Tryz.func38, Tryz.ntmps38
  go_wp2_with fail
  refine (unhide HSA).mono ?_
  rintro e w1 ⟨rfl, h1, hs1⟩
  have hp1 : w1.cell? ⟨pb, 0, none⟩ = some (.pointer (some ⟨g, 0, none⟩)) := by
    rw [World.cell?_of_block (w := w) (w' := w1) (a := ⟨pb, 0, none⟩) (hs1.block pb hpw hpg)]; exact hp
  have hld0 := h1.ld68
  have hld1 : (ld68 (.pointer (some ⟨g, 0, none⟩))).run Tryz.prog w1.drew = .ok (.agg (E32 (Sha.stOf all).list)) w1.drew := (h1.drewN 1).ld68
  have hsz := h1.size
  obtain ⟨o, ho⟩ : ∃ o, o = all.length % 64 := ⟨_, rfl⟩
  have ho64 : o ≤ 64 := by omega
  have ho64' : (o : Int) ≤ 64 := by omega
  have hrt := h1.rest o 64 (by omega) (by omega)
  have hrl : (rest.take o).length = o := by rw [List.length_take, h1.2.2.1]; omega
  have hrb : Sha.Bytes (rest.take o) := by rw [ho, hr]; exact hab.drop _
  have hsum : Sha.out (Sha.blocks (Sha.stOf all) (Sha.tail (rest.take o) (8 * all.length)) (Sha.endOf o / 64)) = Sha.sum all := by rw [ho]; exact Sha.sum_kept hr
  have HLS : Hid (∀ k, Calls Tryz.prog 39 #[.agg (E32 (Sha.stOf all).list), .slice (some ⟨g, 8, none⟩) o 64, .int .i64 (all.length : Int)] (w1.drewN k) fun e w' => e = .returned (.agg (E8 (Sha.sum all))) ∧ HasH w' g (Sha.stOf all).list rest (all.length : Int) d false sum ∧ Sole g w1 w') := fun k => by
    have := lastStep_n (Sha.stOf all) (some ⟨g, 8, none⟩) o 64 (rest.take o) (all.length : Int) all.length rfl (w1.drewN k) (Sha.stOf_ok all) hrl hrt hrb (by omega) (by omega)
    rw [hsum] at this
    refine this.mono fun e w' hh => ⟨hh.1, (h1.drewN k).below hh.2, ?_⟩
    exact (show Sole g w1 (w1.drewN k) from ⟨rfl, rfl, rfl, Nat.le_refl _, fun _ _ _ => rfl⟩).trans (Sole.of_below hh.2)
  have hhe : Hid (∀ k, Calls Tryz.prog 32 #[.pointer (some ⟨g, 0, none⟩)] (w1.drewN k) fun e w' => e = .returned (.int .i64 (o : Int)) ∧ w' = w1.drewN k) := fun k => by
    rw [ho]; exact held_any g all.length (w1.drewN k) (by omega) hsz
  have hlo : Hid (∀ k, Calls Tryz.prog 40 #[.pointer (some ⟨g, 72, none⟩)] (w1.drewN k) fun e w' => e = .returned (.int .i64 (all.length : Int)) ∧ w' = w1.drewN k) := fun k => load_any g 72 _ _ hsz
  have hS32 : (Sha.sum all).length = 32 := Sha.sumBehind_length _ _ _
  have HSM : Hid (Sha.sum all = Sha.sum all) := rfl
  generalize hSS : Sha.sum all = SS at *
  have HSS := hide hSS
  generalize Sha.stOf all = X at *
  generalize hNN : all.length = NN at *
  have HNN := hide hNN
  have HR := hide hr
  have HRA : Hid (w1.rangeAt g 0 (X.list.map W32)) := h1.stRange
  clear hSS hrt hrb hsum hr hNN ho HSM h1
  go_wp2_with fail
  have hS : Hid (w1.drew.cell? ⟨pb, 0, none⟩ = some (.pointer (some ⟨g, 0, none⟩)) ∧ w1.drew.rangeAt g 0 (X.list.map W32)) := ⟨hp1, unhide HRA⟩
  refine wp_region_noPanic ?_
  refine wp_region_held_drew (S := fun w' => w'.cell? ⟨pb, 0, none⟩ = some (.pointer (some ⟨g, 0, none⟩)) ∧ w'.rangeAt g 0 (X.list.map W32)) (by kernel_rfl) (unhide hS) (fun hHeld => ?_)
  refine wpAnyH_take (i := 0) (v := .pointer (some ⟨g, 0, none⟩)) rfl (by kernel_rfl) (by kernel_rfl) (by kernel_rfl) (fun _ _ _ h => h) (Or.inl ⟨by rfl, ?_⟩) hHeld ?_
  · intro w hSw; have hq1 := hSw.1; go_simp
  try simp only [Act.put, List.getElem_toArray, List.getElem_cons_zero, List.setIfInBounds_toArray, List.set_cons_zero, List.set_cons_succ]
  refine wpAnyH_take (i := 1) (v := .pointer (some ⟨g, 0, none⟩)) rfl (by kernel_rfl) (by kernel_rfl) (by kernel_rfl) (fun _ _ _ h => h) (Or.inl ⟨by rfl, ?_⟩) hHeld ?_
  · intro w hSw; have hq1 := hSw.1; go_simp
  try simp only [Act.put, List.getElem_toArray, List.getElem_cons_zero, List.getElem_cons_succ, List.setIfInBounds_toArray, List.set_cons_zero, List.set_cons_succ]
  refine wpAnyH_take (i := 2) (v := .pointer (some ⟨g, 0, none⟩)) rfl (by kernel_rfl) (by kernel_rfl) (by kernel_rfl) (fun _ _ _ h => h) (Or.inl ⟨by rfl, ?_⟩) hHeld ?_
  · intro w hSw; have hq1 := hSw.1; go_simp
  try simp only [Act.put, List.getElem_toArray, List.getElem_cons_zero, List.getElem_cons_succ, List.setIfInBounds_toArray, List.set_cons_zero, List.set_cons_succ]
  refine wpAnyH_take (i := 3) (v := .pointer (some ⟨g, 0, none⟩)) rfl (by kernel_rfl) (by kernel_rfl) (by kernel_rfl) (fun _ _ _ h => h) (Or.inl ⟨by rfl, ?_⟩) hHeld ?_
  · intro w hSw; have hq1 := hSw.1; go_simp
  try simp only [Act.put, List.getElem_toArray, List.getElem_cons_zero, List.getElem_cons_succ, List.setIfInBounds_toArray, List.set_cons_zero, List.set_cons_succ]
  refine wpAnyH_take (i := 4) rfl (by kernel_rfl) (by kernel_rfl) (by kernel_rfl) (fun _ _ _ h => h) (yieldsIf_load_mid (by rfl) _ _ rfl _ _ rfl _ _ (fun w h => h.2) Tryz.underlying68 rfl (by rw [List.length_map]; exact (zero_of_info Z68_info).2)) hHeld ?_
  try simp only [Act.put, List.getElem_toArray, List.getElem_cons_zero, List.getElem_cons_succ, List.setIfInBounds_toArray, List.set_cons_zero, List.set_cons_succ]
  refine wpAnyH_take (i := 5) (v := .pointer (some ⟨g, 0, none⟩)) rfl (by kernel_rfl) (by kernel_rfl) (by kernel_rfl) (fun _ _ _ h => h) (Or.inl ⟨by rfl, ?_⟩) hHeld ?_
  · intro w hSw; have hq1 := hSw.1; go_simp
  try simp only [Act.put, List.getElem_toArray, List.getElem_cons_zero, List.getElem_cons_succ, List.setIfInBounds_toArray, List.set_cons_zero, List.set_cons_succ]
  refine wpAnyH_take (i := 6) (v := .pointer (some ⟨g, 0, none⟩)) rfl (by kernel_rfl) (by kernel_rfl) (by kernel_rfl) (fun _ _ _ h => h) (Or.inl ⟨by rfl, ?_⟩) hHeld ?_
  · intro w hSw; have hq1 := hSw.1; go_simp
  try simp only [Act.put, List.getElem_toArray, List.getElem_cons_zero, List.getElem_cons_succ, List.setIfInBounds_toArray, List.set_cons_zero, List.set_cons_succ]
  refine wpAnyH_take (i := 7) (v := .pointer (some ⟨g, 8, none⟩)) rfl (by kernel_rfl) (by kernel_rfl) (by kernel_rfl) (fun _ _ _ h => h) (Or.inl ⟨by rfl, ?_⟩) hHeld ?_
  · intro w hSw; have hq1 := hSw.1; go_simp
  try simp only [Act.put, List.getElem_toArray, List.getElem_cons_zero, List.getElem_cons_succ, List.setIfInBounds_toArray, List.set_cons_zero, List.set_cons_succ]
  refine wpAnyH_take (i := 8) (v := .pointer (some ⟨g, 0, none⟩)) rfl (by kernel_rfl) (by kernel_rfl) (by kernel_rfl) (fun _ _ _ h => h) (Or.inl ⟨by rfl, ?_⟩) hHeld ?_
  · intro w hSw; have hq1 := hSw.1; go_simp
  try simp only [Act.put, List.getElem_toArray, List.getElem_cons_zero, List.getElem_cons_succ, List.setIfInBounds_toArray, List.set_cons_zero, List.set_cons_succ]
  refine wpAnyH_take (i := 11) (v := .pointer (some ⟨g, 0, none⟩)) rfl (by kernel_rfl) (by kernel_rfl) (by kernel_rfl) (fun _ _ _ h => h) (Or.inl ⟨by rfl, ?_⟩) hHeld ?_
  · intro w hSw; have hq1 := hSw.1; go_simp
  try simp only [Act.put, List.getElem_toArray, List.getElem_cons_zero, List.getElem_cons_succ, List.setIfInBounds_toArray, List.set_cons_zero, List.set_cons_succ]
  refine wpAnyH_take (i := 12) (v := .pointer (some ⟨g, 0, none⟩)) rfl (by kernel_rfl) (by kernel_rfl) (by kernel_rfl) (fun _ _ _ h => h) (Or.inl ⟨by rfl, ?_⟩) hHeld ?_
  · intro w hSw; have hq1 := hSw.1; go_simp
  try simp only [Act.put, List.getElem_toArray, List.getElem_cons_zero, List.getElem_cons_succ, List.setIfInBounds_toArray, List.set_cons_zero, List.set_cons_succ]
  refine wpAnyH_take (i := 13) (v := .pointer (some ⟨g, 72, none⟩)) rfl (by kernel_rfl) (by kernel_rfl) (by kernel_rfl) (fun _ _ _ h => h) (Or.inl ⟨by rfl, ?_⟩) hHeld ?_
  · intro w hSw; have hq1 := hSw.1; go_simp
  try simp only [Act.put, List.getElem_toArray, List.getElem_cons_zero, List.getElem_cons_succ, List.setIfInBounds_toArray, List.set_cons_zero, List.set_cons_succ]
  refine wpAnyH_ready (rs := [9]) (by kernel_rfl) (by simp) (AllReadyH.cons rfl (fun K hK => ?_) AllReadyH.nil)
  simp only [List.getElem_toArray, List.getElem_cons_zero, List.getElem_cons_succ]
  go_simp
  refine Calls.mono (unhide hhe 1) ?_
  rintro e w' ⟨rfl, hw'⟩; rw [hw']; clear hw' w'
  refine hK.out _ _ (unhide hS) (fun hHeld2 => ?_)
  clear hK K
  try simp only [Act.put, List.getElem_toArray, List.getElem_cons_zero, List.getElem_cons_succ, List.setIfInBounds_toArray, List.set_cons_zero, List.set_cons_succ]
  refine wpAnyH_take (i := 10) (v := .slice (some ⟨g, 8, none⟩) o 64) rfl (by kernel_rfl) (by kernel_rfl) (by kernel_rfl) (fun _ _ _ h => h) (Or.inl ⟨by rfl, ?_⟩) hHeld2 ?_
  · intro w hSw; have hq1 := hSw.1; go_simp
  try simp only [Act.put, List.getElem_toArray, List.getElem_cons_zero, List.getElem_cons_succ, List.setIfInBounds_toArray, List.set_cons_zero, List.set_cons_succ]
  refine wpAnyH_ready (rs := [14]) (by kernel_rfl) (by simp) (AllReadyH.cons rfl (fun K hK => ?_) AllReadyH.nil)
  simp only [List.getElem_toArray, List.getElem_cons_zero, List.getElem_cons_succ]
  go_simp
  refine Calls.mono (unhide hlo 1) ?_
  rintro e w' ⟨rfl, hw'⟩; rw [hw']; clear hw' w'
  refine hK.out _ _ (unhide hS) (fun hHeld3 => ?_)
  clear hK K
  try simp only [Act.put, List.getElem_toArray, List.getElem_cons_zero, List.getElem_cons_succ, List.setIfInBounds_toArray, List.set_cons_zero, List.set_cons_succ]
  refine wpAnyH_ready (rs := [15]) (by kernel_rfl) (by simp) (AllReadyH.cons rfl (fun K hK => ?_) AllReadyH.nil)
  simp only [List.getElem_toArray, List.getElem_cons_zero, List.getElem_cons_succ]
  go_simp
  refine Calls.mono (unhide HLS 1) ?_
  rintro e w4 ⟨rfl, h4, hs4⟩
  have hS4 : w4.cell? ⟨pb, 0, none⟩ = some (.pointer (some ⟨g, 0, none⟩)) ∧ w4.rangeAt g 0 (X.list.map W32) := by
    refine ⟨?_, h4.stRange⟩
    rw [World.cell?_of_block (w := w1) (w' := w4) (a := ⟨pb, 0, none⟩) (hs4.block pb (Nat.lt_of_lt_of_le hpw hs1.size) hpg)]; exact hp1
  have HS4 := hide hS4
  obtain ⟨hst4, h5⟩ := h4.st25 SS hS32
  have hs5 := hs1.trans (hs4.trans (Sole.setRow g w4 (hcells X.list rest NN d false SS)))
  have hS5 : (w4.setRow g (hcells X.list rest NN d false SS)).cell? ⟨pb, 0, none⟩ = some (.pointer (some ⟨g, 0, none⟩)) ∧ (w4.setRow g (hcells X.list rest NN d false SS)).rangeAt g 0 (X.list.map W32) := by
    refine ⟨?_, h5.stRange⟩
    rw [World.cell?_of_block (w := w4) (a := ⟨pb, 0, none⟩) (setRow_other w4 g pb _ hpg)]; exact hS4.1
  have HS5 := hide hS5
  have H5 := hide h5
  clear h4 hs4 hS4 h5 hS5
  refine hK.out _ _ (unhide HS4) (fun hHeld4 => ?_)
  clear hK K
  try simp only [Act.put, List.getElem_toArray, List.getElem_cons_zero, List.getElem_cons_succ, List.setIfInBounds_toArray, List.set_cons_zero, List.set_cons_succ]
  refine wpAnyH_take (i := 16) (v := .pointer (some ⟨g, 0, none⟩)) rfl (by kernel_rfl) (by kernel_rfl) (by kernel_rfl) (fun _ _ _ h => h) (Or.inl ⟨by rfl, ?_⟩) hHeld4 ?_
  · intro w hSw; have hq1 := hSw.1; go_simp
  try simp only [Act.put, List.getElem_toArray, List.getElem_cons_zero, List.getElem_cons_succ, List.setIfInBounds_toArray, List.set_cons_zero, List.set_cons_succ]
  refine wpAnyH_take (i := 17) (v := .pointer (some ⟨g, 77, none⟩)) rfl (by kernel_rfl) (by kernel_rfl) (by kernel_rfl) (fun _ _ _ h => h) (Or.inl ⟨by rfl, ?_⟩) hHeld4 ?_
  · intro w hSw; have hq1 := hSw.1; go_simp
  try simp only [Act.put, List.getElem_toArray, List.getElem_cons_zero, List.getElem_cons_succ, List.setIfInBounds_toArray, List.set_cons_zero, List.set_cons_succ]
  refine wpAnyH_ready (rs := [18]) (by kernel_rfl) (by simp) (AllReadyH.cons rfl (fun K hK => ?_) AllReadyH.nil)
  simp only [List.getElem_toArray, List.getElem_cons_zero, List.getElem_cons_succ]
  go_simp
  refine hK.out _ _ (unhide HS5) (fun hHeld5 => ?_)
  clear hK K
  refine wpAnyH_done (by kernel_rfl) ?_ _
  refine NoPanic.normal ?_
  clear hHeld hHeld2 hHeld3 hHeld4 hHeld5 hst4
  generalize w4.setRow g (hcells X.list rest NN d false SS) = w5 at *
  have hp5 := (unhide HS5).1
  have ht5 := (unhide H5).told
  have hz5 := (unhide H5).free 76
  have h6 : HasH (w5.setCell ⟨g, 76, none⟩ (.bool true)) g X.list rest NN d true SS := (unhide H5).setMid 4 (.bool true) d true (by omega) rfl
  have hs6 := hs5.trans (Sole.setCell g 76 w5 (.bool true))
  have H6 := hide h6
  clear h6 HS5 H5
  go_wp2
  go_end0
  exact ⟨rfl, ⟨X.list, rest, by rw [unhide HNN, unhide HSS]; exact unhide H6⟩, hs6⟩
set_option maxRecDepth 20000 in
set_option maxHeartbeats 1000000 in
theorem slow_any (g pb : Nat) (all sum : List Nat) (w : World) (h : KeptL w g dz all sum) (hab : Sha.Bytes all) (hal : all.length ≤ 20000000) (hp : w.cell? ⟨pb, 0, none⟩ = some (.pointer (some ⟨g, 0, none⟩))) (hpg : pb ≠ g) :
    Calls Tryz.prog 63 #[.pointer (some ⟨g, 73, none⟩), .func (.func 38) #[] #[.pointer (some ⟨pb, 0, none⟩)]] w fun e w' => e = .returned (.tuple #[]) ∧ ToldL w' g ⟨1, 0⟩ all ∧ Sole g w w' := by
  obtain ⟨st, rest, hh, hst, hr⟩ := h
  have hlk : w.cell? ⟨g, 74, none⟩ = some (.int .i32 0) := hh.lock
  have hfz := hh.free
  have h1 : HasH (w.setCell ⟨g, 74, none⟩ (.int .i32 1)) g st rest (all.length : Int) ⟨0, 1⟩ false sum := hh.setMid 2 (.int .i32 1) ⟨0, 1⟩ false (by omega) rfl
  have hs1 := Sole.setCell g 74 w (.int .i32 1)
  have hp1 : (w.setCell ⟨g, 74, none⟩ (.int .i32 1)).cell? ⟨pb, 0, none⟩ = some (.pointer (some ⟨g, 0, none⟩)) := (World.cell?_setCell_other _ ⟨g, 74, none⟩ ⟨pb, 0, none⟩ _ (fun h => hpg (congrArg Addr.block h).symm)).trans hp
  have hdn : (w.setCell ⟨g, 74, none⟩ (.int .i32 1)).cell? ⟨g, 73, none⟩ = some (.int .u32 0) := h1.done
  have hnot : ∀ (x : Bool) (w : World), (Op.unary .not (.bool x)).run Tryz.prog w = .ok (.bool (!x)) w := fun _ _ => rfl
  have HST := hide hst
  have HR := hide hr
  have HFZ := hide hfz
  clear hst hr hfz
  go_enter_defers Tryz.func63, Tryz.ntmps63
  go_wp2_with fail
  refine (lock_free ⟨g, 74, none⟩ _ hlk (unhide HFZ 74)).mono ?_
  rintro e w' ⟨rfl, hw'⟩; rw [hw']; clear hw' w'
  generalize w.setCell ⟨g, 74, none⟩ (.int .i32 1) = w1 at *
  go_wp2_with fail
  refine (bload_zero ⟨g, 73, none⟩ _ hdn).mono ?_
  rintro e w' ⟨rfl, hw'⟩; rw [hw']; clear hw' w'
  go_wp2_with fail
  have hpw1 : pb < w1.heap.size := Nat.lt_of_lt_of_le (by
    refine Classical.byContradiction fun hc => ?_
    have : w.heap[pb]? = none := Array.getElem?_eq_none (by omega)
    unfold World.cell? at hp
    rw [this] at hp
    simp at hp) hs1.size
  refine (step_any g pb ⟨0, 1⟩ all sum w1 ⟨st, rest, h1, unhide HST, unhide HR⟩ hab hal hp1 hpg hpw1).mono ?_
  rintro e w2 ⟨rfl, ⟨st2, rest2, h2⟩, hs2⟩
  have hf2 := h2.free
  have hd2 := h2.done
  have h3 : HasH (w2.drew.setCell ⟨g, 73, none⟩ (.int .u32 1)) g st2 rest2 (all.length : Int) ⟨1, 1⟩ true (Sha.sum all) := (h2.drewN 1).setMid 1 (.int .u32 1) ⟨1, 1⟩ true (by omega) rfl
  have hf3 := h3.free
  have hl3 := h3.lock
  have h4 : HasH ((w2.drew.setCell ⟨g, 73, none⟩ (.int .u32 1)).setCell ⟨g, 74, none⟩ (.int .i32 0)) g st2 rest2 (all.length : Int) ⟨1, 0⟩ true (Sha.sum all) := h3.setMid 2 (.int .i32 0) ⟨1, 0⟩ true (by omega) rfl
  have hs22 : Sole g w2 w2.drew := ⟨rfl, rfl, rfl, Nat.le_refl _, fun _ _ _ => rfl⟩
  have hs4 := ((hs1.trans hs2).trans hs22).trans ((Sole.setCell g 73 w2.drew (.int .u32 1)).trans (Sole.setCell g 74 _ (.int .i32 0)))
  have H4 := hide h4
  clear h1 h3 h4 h2
  go_wp2
  refine leaves_cons (f := 86) (args := #[.pointer (some ⟨g, 73, none⟩), .bool true]) (by simp) (by simp [go_sem]) ?_
  refine (word_deferred ⟨g, 73, none⟩ _ .returning _ hd2 (hf2 73)).mono ?_
  rintro e u' w'' ⟨rfl, rfl, rfl⟩
  refine leaves_cons (f := 85) (args := #[.pointer (some ⟨g, 74, none⟩)]) (by simp [settle]) (by simp [go_sem]) ?_
  refine (unlock_deferred ⟨g, 74, none⟩ _ _ hl3 (hf3 74)).mono ?_
  rintro e u' w'' ⟨rfl, rfl, rfl⟩
  simp [Leaves, settle, results, Tryz.results63]
  exact ⟨⟨_, _, unhide H4⟩, hs4⟩
end Go.Proofs.YtlbfcneboaihnaaGreatDoor.Dg
/- Sum: the first time, and again. -/
namespace Go.Proofs.YtlbfcneboaihnaaGreatDoor.Dg
open Go.RowKit Go.Great
attribute [local go_sem] f_8 f_1024 f_hi4 f_lo4
set_option maxRecDepth 20000 in
set_option maxHeartbeats 1000000 in
theorem do_first (g pb : Nat) (all sum : List Nat) (w : World) (h : KeptL w g dz all sum) (hab : Sha.Bytes all) (hal : all.length ≤ 20000000) (hp : w.cell? ⟨pb, 0, none⟩ = some (.pointer (some ⟨g, 0, none⟩))) (hpg : pb ≠ g) :
    Calls Tryz.prog 37 #[.pointer (some ⟨g, 73, none⟩), .func (.func 38) #[] #[.pointer (some ⟨pb, 0, none⟩)]] w fun e w' => e = .returned (.tuple #[]) ∧ ToldL w' g ⟨1, 0⟩ all ∧ Sole g w w' := by
  have h0 : w.cell? ⟨g, 73, none⟩ = some (.int .u32 0) := by obtain ⟨st, rest, hh, _⟩ := h; exact hh.done
  have hnot : ∀ (x : Bool) (w : World), (Op.unary .not (.bool x)).run Tryz.prog w = .ok (.bool (!x)) w := fun _ _ => rfl
  have HSL := hide (slow_any g pb all sum w h hab hal hp hpg)
  clear h
  go_enter Tryz.func37, Tryz.ntmps37
  go_wp2_with fail
  refine (bload_zero ⟨g, 73, none⟩ _ h0).mono ?_
  rintro e w' ⟨rfl, hw'⟩; rw [hw']; clear hw' w'
  go_wp2_with fail
  refine (unhide HSL).mono ?_
  rintro e w1 ⟨rfl, h1, hs1⟩
  have H1 := hide h1
  clear h1
  go_wp2
  go_end0
  exact ⟨rfl, unhide H1, hs1⟩
theorem KeptL.below {w w' : World} {g : Nat} {d : DL} {all sum : List Nat} (h : KeptL w g d all sum) (hb : Below w.heap.size w w') : KeptL w' g d all sum := by
  obtain ⟨st, rest, hh, h2⟩ := h
  exact ⟨st, rest, hh.below hb, h2⟩
theorem ToldL.below {w w' : World} {g : Nat} {d : DL} {all : List Nat} (h : ToldL w g d all) (hb : Below w.heap.size w w') : ToldL w' g d all := by
  obtain ⟨st, rest, hh⟩ := h
  exact ⟨st, rest, hh.below hb⟩
set_option maxRecDepth 20000 in
set_option maxHeartbeats 1000000 in
theorem hsum_first (g : Nat) (all sum : List Nat) (w : World) (h : KeptL w g dz all sum) (hab : Sha.Bytes all) (hal : all.length ≤ 20000000) :
    Calls Tryz.prog 17 #[.pointer (some ⟨g, 0, none⟩)] w fun e w' => e = .returned (.agg (E8 (Sha.sum all))) ∧ ToldL w' g ⟨1, 0⟩ all ∧ Sole g w w' := by
  have hg : g < w.heap.size := by obtain ⟨st, rest, hh, _⟩ := h; exact hh.lt
  have hmf : ∀ (fn : Fn) (first cap : Array Value) (w : World), (Instr.makeFunc fn first cap).run Tryz.prog w = .ok (.func fn first cap) w := fun _ _ _ _ => rfl
  go_enter Tryz.func17, Tryz.ntmps17
  have hbA : Below w.heap.size w ((w.alloc (.cells #[.pointer (some ⟨g, 0, none⟩)] 42)).alloc (.cells Z25 25)) := ((Below.refl _ _).alloc (Nat.le_refl _) _).alloc (by simp) _
  have hpA : ((w.alloc (.cells #[.pointer (some ⟨g, 0, none⟩)] 42)).alloc (.cells Z25 25)).cell? ⟨w.heap.size, 0, none⟩ = some (.pointer (some ⟨g, 0, none⟩)) := by simp [go_sem]
  have HDO := hide (do_first g w.heap.size all sum _ (h.below hbA) hab hal hpA (by omega))
  clear h
  go_wp2_with fail
  refine (unhide HDO).mono ?_
  rintro e w1 ⟨rfl, h1, hs1⟩
  obtain ⟨st2, rest2, hh1⟩ := h1
  have hp1 : w1.cell? ⟨w.heap.size, 0, none⟩ = some (.pointer (some ⟨g, 0, none⟩)) := by
    rw [World.cell?_of_block (w := (w.alloc (.cells #[.pointer (some ⟨g, 0, none⟩)] 42)).alloc (.cells Z25 25)) (w' := w1) (a := ⟨w.heap.size, 0, none⟩) (hs1.block w.heap.size (by simp; omega) (by omega))]; exact hpA
  have hfit1 : fits w1 (w.heap.size + 1) 32 = true := by rw [fits_of (hs1.block (w.heap.size + 1) (by simp) (by omega))]; simp [go_sem]
  have hld := hh1.ld25
  have hs01 : Sole g w w1 := (Sole.of_below hbA).trans hs1
  have hl : (Sha.sum all).length = 32 := Sha.sumBehind_length _ _ _
  have HT : Hid (ToldL (w1.setRow (w.heap.size + 1) (E8 (Sha.sum all))) g ⟨1, 0⟩ all) := ⟨st2, rest2, by
    obtain ⟨a1, a2, a3, a4⟩ := hh1
    exact ⟨by rw [setRow_other w1 (w.heap.size + 1) g _ (by omega)]; exact a1, a2, a3, a4⟩⟩
  have hs2 : Sole g w (w1.setRow (w.heap.size + 1) (E8 (Sha.sum all))) := by
    refine ⟨hs01.os, hs01.tape, hs01.output, by have := hs01.size; simp; exact this, fun k hk hkg => ?_⟩
    rw [setRow_other w1 (w.heap.size + 1) k _ (by omega)]; exact hs01.block k hk hkg
  clear hh1 hs1 hs01
  generalize hSS : Sha.sum all = SS at *
  have HSS := hide hSS
  clear hSS
  go_wp2
  exact bodyPost_ret (results_at Tryz.results17 _ _ hfit1 rfl hl) rfl ⟨by rw [unhide HSS], unhide HT, hs2⟩
set_option maxRecDepth 20000 in
set_option maxHeartbeats 1000000 in
theorem hsum_again (g : Nat) (all : List Nat) (w : World) (h : ToldL w g ⟨1, 0⟩ all) :
    Calls Tryz.prog 17 #[.pointer (some ⟨g, 0, none⟩)] w fun e w' => e = .returned (.agg (E8 (Sha.sum all))) ∧ ToldL w' g ⟨1, 0⟩ all ∧ Sole g w w' := by
  have hg : g < w.heap.size := by obtain ⟨st, rest, hh⟩ := h; exact hh.lt
  have hmf : ∀ (fn : Fn) (first cap : Array Value) (w : World), (Instr.makeFunc fn first cap).run Tryz.prog w = .ok (.func fn first cap) w := fun _ _ _ _ => rfl
  go_enter Tryz.func17, Tryz.ntmps17
  have hbA : Below w.heap.size w ((w.alloc (.cells #[.pointer (some ⟨g, 0, none⟩)] 42)).alloc (.cells Z25 25)) := ((Below.refl _ _).alloc (Nat.le_refl _) _).alloc (by simp) _
  have hpA : ((w.alloc (.cells #[.pointer (some ⟨g, 0, none⟩)] 42)).alloc (.cells Z25 25)).cell? ⟨w.heap.size, 0, none⟩ = some (.pointer (some ⟨g, 0, none⟩)) := by simp [go_sem]
  have hA := h.below hbA
  have HDO : Hid (Calls Tryz.prog 37 #[.pointer (some ⟨g, 73, none⟩), .func (.func 38) #[] #[.pointer (some ⟨w.heap.size, 0, none⟩)]] ((w.alloc (.cells #[.pointer (some ⟨g, 0, none⟩)] 42)).alloc (.cells Z25 25)) fun e w' => e = .returned (.tuple #[]) ∧ ToldL w' g ⟨1, 0⟩ all ∧ Sole g ((w.alloc (.cells #[.pointer (some ⟨g, 0, none⟩)] 42)).alloc (.cells Z25 25)) w') := by
    have hd : ((w.alloc (.cells #[.pointer (some ⟨g, 0, none⟩)] 42)).alloc (.cells Z25 25)).cell? ⟨g, 73, none⟩ = some (.int .u32 1) := by obtain ⟨st, rest, hh⟩ := hA; exact hh.done
    exact (do_done g 1 (by omega) _ _ hd).mono fun e w' hw => ⟨hw.1, by rw [hw.2]; exact hA, by rw [hw.2]; exact Sole.refl _ _⟩
  clear h hA
  go_wp2_with fail
  refine (unhide HDO).mono ?_
  rintro e w1 ⟨rfl, h1, hs1⟩
  obtain ⟨st2, rest2, hh1⟩ := h1
  have hp1 : w1.cell? ⟨w.heap.size, 0, none⟩ = some (.pointer (some ⟨g, 0, none⟩)) := by
    rw [World.cell?_of_block (w := (w.alloc (.cells #[.pointer (some ⟨g, 0, none⟩)] 42)).alloc (.cells Z25 25)) (w' := w1) (a := ⟨w.heap.size, 0, none⟩) (hs1.block w.heap.size (by simp; omega) (by omega))]; exact hpA
  have hfit1 : fits w1 (w.heap.size + 1) 32 = true := by rw [fits_of (hs1.block (w.heap.size + 1) (by simp) (by omega))]; simp [go_sem]
  have hld := hh1.ld25
  have hs01 : Sole g w w1 := (Sole.of_below hbA).trans hs1
  have hl : (Sha.sum all).length = 32 := Sha.sumBehind_length _ _ _
  have HT : Hid (ToldL (w1.setRow (w.heap.size + 1) (E8 (Sha.sum all))) g ⟨1, 0⟩ all) := ⟨st2, rest2, by
    obtain ⟨a1, a2, a3, a4⟩ := hh1
    exact ⟨by rw [setRow_other w1 (w.heap.size + 1) g _ (by omega)]; exact a1, a2, a3, a4⟩⟩
  have hs2 : Sole g w (w1.setRow (w.heap.size + 1) (E8 (Sha.sum all))) := by
    refine ⟨hs01.os, hs01.tape, hs01.output, by have := hs01.size; simp; exact this, fun k hk hkg => ?_⟩
    rw [setRow_other w1 (w.heap.size + 1) k _ (by omega)]; exact hs01.block k hk hkg
  clear hh1 hs1 hs01
  generalize hSS : Sha.sum all = SS at *
  have HSS := hide hSS
  clear hSS
  go_wp2
  exact bodyPost_ret (results_at Tryz.results17 _ _ hfit1 rfl hl) rfl ⟨by rw [unhide HSS], unhide HT, hs2⟩
end Go.Proofs.YtlbfcneboaihnaaGreatDoor.Dg
/- Two arrays of the same bytes are equal. -/
namespace Go.Proofs.YtlbfcneboaihnaaGreatDoor.Dg
open Go.RowKit Go.Great
theorem part5 (w : World) (l : List Nat) (i : Nat) (h : i < l.length) : (part 5 (E8 l) i).run Tryz.prog w = .ok (.int .u8 ((Sha.nth l i : Nat) : Int)) w := by
  simp [part, go_sem, h]
theorem cells5 : Tryz.prog.cellsOf 5 = 1 := by kernel_rfl
theorem eqItems_same (w : World) (l : List Nat) : ∀ is : List Nat, (∀ i ∈ is, i < l.length) → (Op.eqItems 9999 5 1 (E8 l) (E8 l) is).run Tryz.prog w = .ok true w
  | [], _ => by simp [Op.eqItems]
  | i :: is, h => by
    have h1 := part5 w l i (h i (by simp))
    have h2 := eqItems_same w l is (fun j hj => h j (by simp [hj]))
    have h3 : (Op.equalIn 9999 5 (.int .u8 ((Sha.nth l i : Nat) : Int)) (.int .u8 ((Sha.nth l i : Nat) : Int))).run Tryz.prog w = .ok true w := by
      rw [show (9999 : Nat) = 9998 + 1 from rfl, run_equalIn_int w 9998 5 .u8 .u8 _ _ Tryz.underlying5]; simp
    simp only [Op.eqItems, Sem.run_bind, Nat.mul_one, h1, Result.andThen_ok, h3]
    simp [h2]
theorem eq_same (w : World) (t n : Nat) (l : List Nat) (hu : Tryz.prog.underlying t = some (.array n 5)) (hl : l.length = n) :
    (Op.equalIn 10000 t (.agg (E8 l)) (.agg (E8 l))).run Tryz.prog w = .ok true w := by
  obtain ⟨i, hi, -, -, -⟩ := info5_at
  rw [show (10000 : Nat) = 9999 + 1 from rfl, run_equalIn_array w 9999 (E8 l) (E8 l) hu hi, cells5]
  exact eqItems_same w l _ (fun j hj => by rw [hl]; exact List.mem_range.1 hj)
@[go_sem] theorem eq25 (w : World) (l : List Nat) (hl : l.length = 32) : (Op.equalIn 10000 25 (.agg (E8 l)) (.agg (E8 l))).run Tryz.prog w = .ok true w := eq_same w 25 32 l Tryz.underlying25 hl
theorem run_eqB (w : World) (l : List Nat) (hl : l.length = 32) : (binOp .eql 25 (.agg (E8 l)) (.agg (E8 l))).run Tryz.prog w = .ok (.bool true) w := by
  rw [run_eql_struct, eq25 w l hl]; rfl
theorem guard25 : Tryz.prog.eqGuardType Tryz.prog.depth 25 = false := by kernel_rfl
end Go.Proofs.YtlbfcneboaihnaaGreatDoor.Dg
