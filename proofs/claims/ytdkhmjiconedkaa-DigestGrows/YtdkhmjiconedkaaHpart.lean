/- Parts of a Hasher's block, loaded and stored. -/
import Derived.Test.YtdkhmjiconedkaaHnew
import Derived.Laws.CopyRow
namespace Go.Proofs.Ytdkhmjiconedkaa
open Go.RowKit Go.Great
theorem store_part (w : World) (g o : Nat) (A B C B' : List Value) (h : w.heap[g]? = some (.cells (A ++ B ++ C).toArray 78 (0, 0))) (hA : A.length = o) (hB : B'.length = B.length) (h1 : ∀ v ∈ B', v.oneCell' = true) :
    (storeCells ⟨g, o, none⟩ B').run Try.prog w = .ok () (w.setRow g (A ++ B' ++ C).toArray) := by
  have := run_storeCells_at (P := Try.prog) g o 78 B' 0 (A ++ B ++ C).toArray w h (by simp; omega) h1
  rw [this]
  have e1 : (A ++ B ++ C).toArray.toList.take (o + 0) = A := by rw [List.toList_toArray, List.append_assoc, Nat.add_zero, List.take_left' hA]
  have e2 : (A ++ B ++ C).toArray.toList.drop (o + 0 + B'.length) = C := by rw [List.toList_toArray, List.drop_left' (by simp; omega)]
  rw [e1, e2]
theorem load_part (w : World) (g o n : Nat) (A B C : List Value) (h : w.heap[g]? = some (.cells (A ++ B ++ C).toArray 78 (0, 0))) (hA : A.length = o) (hB : B.length = n) :
    (loadCells ⟨g, o, none⟩ n).run Try.prog w = .ok B.toArray w := by
  subst hB
  refine run_loadCells_list (P := Try.prog) (w := w) ⟨g, o, none⟩ B (fun j v hj => ?_)
  rw [Addr.add_mid, cell_of_row w g (o + j) _ 78 _ h]
  have hj' := (List.getElem?_eq_some_iff.1 hj).1
  rw [List.getElem?_toArray, List.append_assoc, List.getElem?_append_right (by omega), hA, Nat.add_sub_cancel_left, List.getElem?_append_left hj']
  exact hj
/-- A Hasher in a block of its own. -/
def HasH (w : World) (g : Nat) (st rest : List Nat) (N : Int) (done : DL) (told : Bool) (sum : List Nat) : Prop :=
  w.heap[g]? = some (.cells (hcells st rest N done told sum) 78 (0, 0)) ∧ st.length = 8 ∧ rest.length = 64 ∧ sum.length = 32
def mids (N : Int) (done : DL) (told : Bool) : List Value := [.int .i64 N, .int .u32 done.w, .int .i32 done.lk, .int .u32 0, .bool told]
theorem hcells_list (st rest : List Nat) (N : Int) (done : DL) (told : Bool) (sum : List Nat) :
    hcells st rest N done told sum = (st.map W32 ++ rest.map B8 ++ mids N done told ++ sum.map B8).toArray := by
  unfold hcells E32 E8 mids; simp
theorem w32_one (l : List Nat) : ∀ v ∈ l.map W32, v.oneCell' = true := fun v hv => by obtain ⟨x, -, rfl⟩ := List.mem_map.1 hv; rfl
theorem b8_one (l : List Nat) : ∀ v ∈ l.map B8, v.oneCell' = true := fun v hv => by obtain ⟨x, -, rfl⟩ := List.mem_map.1 hv; rfl
theorem loadVar_of (w : World) (ty n : Nat) (a : Addr) (c : Array Value) (d : TypeDesc) (hu : Try.prog.underlying ty = some d) (hd : (match d with | .struct _ | .array _ _ => true | _ => false) = true)
    (hi : (Try.prog.info? ty).map (·.size) = some n) (hl : (loadCells a n).run Try.prog w = .ok c w) : (loadVar ty a).run Try.prog w = .ok (.agg c) w := by
  cases hq : Try.prog.info? ty with
  | none => simp [hq] at hi
  | some i =>
    have hs : i.size = n := by simpa [hq] using hi
    have hagg : (isAgg ty).run Try.prog w = .ok true w := by
      cases d <;> simp_all [isAgg, run_underlying hu]
    simp [loadVar, hagg, sizeOf, typeInfo, hq, hs, hl]
theorem storeVar_of (w w' : World) (ty n : Nat) (a : Addr) (c : Array Value) (hi : (Try.prog.info? ty).map (·.size) = some n) (hc : c.size = n) (hl : (storeCells a c.toList).run Try.prog w = .ok () w') : (storeVar ty a (.agg c)).run Try.prog w = .ok () w' := by
  cases hq : Try.prog.info? ty with
  | none => simp [hq] at hi
  | some i =>
    have hs : i.size = n := by simpa [hq] using hi
    simp [storeVar, sizeOf, typeInfo, hq, hs, hl, Value.cells, hc]
theorem HasH.ld50 {w : World} {g : Nat} {st rest sum : List Nat} {N : Int} {done : DL} {told : Bool} (h : HasH w g st rest N done told sum) : (ld50 (.pointer (some ⟨g, 0, none⟩))).run Try.prog w = .ok (.agg (E32 st)) w := by
  obtain ⟨hh, h8, h64, h32⟩ := h
  rw [hcells_list] at hh
  have := load_part w g 0 8 [] (st.map W32) (rest.map B8 ++ mids N done told ++ sum.map B8) (by simpa [List.append_assoc] using hh) rfl (by simp [h8])
  unfold Ytdkhmjiconedkaa.ld50
  simp only [Instr.loadAt, Instr.sureAddr, Sem.run_bind, Sem.run_pure, Result.andThen]
  exact loadVar_of w 50 8 _ _ _ Try.underlying50 rfl (zero_of_info Z50_info).2 this
theorem HasH.st50 {w : World} {g : Nat} {st rest sum : List Nat} {N : Int} {done : DL} {told : Bool} (h : HasH w g st rest N done told sum) (st' : List Nat) (h' : st'.length = 8) :
    (st50 (.pointer (some ⟨g, 0, none⟩)) (.agg (E32 st'))).run Try.prog w = .ok () (w.setRow g (hcells st' rest N done told sum)) := by
  obtain ⟨hh, h8, h64, h32⟩ := h
  rw [hcells_list] at hh ⊢
  have := store_part w g 0 [] (st.map W32) (rest.map B8 ++ mids N done told ++ sum.map B8) (st'.map W32) (by simpa [List.append_assoc] using hh) rfl (by simp [h8, h']) (w32_one _)
  unfold Ytdkhmjiconedkaa.st50
  simp only [Instr.storeAt, Instr.sureAddr, Sem.run_bind, Sem.run_pure, Result.andThen]
  exact storeVar_of w _ 50 8 _ (E32 st') (zero_of_info Z50_info).2 (by simp [h']) (by simpa [E32, List.append_assoc] using this)
theorem HasH.setSt {w : World} {g : Nat} {st rest sum : List Nat} {N : Int} {done : DL} {told : Bool} (h : HasH w g st rest N done told sum) (st' : List Nat) (h' : st'.length = 8) :
    HasH (w.setRow g (hcells st' rest N done told sum)) g st' rest N done told sum := by
  obtain ⟨hh, h8, h64, h32⟩ := h
  exact ⟨setRow_heap w g _ _ 78 _ hh, h', h64, h32⟩
theorem HasH.size {w : World} {g : Nat} {st rest sum : List Nat} {N : Int} {done : DL} {told : Bool} (h : HasH w g st rest N done told sum) : w.cell? ⟨g, 72, none⟩ = some (.int .i64 N) := by
  obtain ⟨hh, h8, h64, h32⟩ := h
  rw [hcells_list] at hh
  rw [cell_of_row w g 72 _ 78 _ hh, List.getElem?_toArray, List.append_assoc, List.getElem?_append_right (by simp; omega)]
  have e : 72 - (st.map W32 ++ rest.map B8).length = 0 := by simp; omega
  rw [e]; rfl
end Go.Proofs.Ytdkhmjiconedkaa
