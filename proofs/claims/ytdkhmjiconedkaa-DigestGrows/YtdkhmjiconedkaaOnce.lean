/- The Once of a Hasher that is told already. -/
import Derived.Test.YtdkhmjiconedkaaSpoil
namespace Go.Proofs.Ytdkhmjiconedkaa
open Go.RowKit Go.Great
theorem HasH.done {w : World} {g : Nat} {st rest sum : List Nat} {N : Int} {done : DL} {told : Bool} (h : HasH w g st rest N done told sum) : w.cell? ⟨g, 73, none⟩ = some (.int .u32 done.w) := by
  obtain ⟨hh, h8, h64, h32⟩ := h
  rw [hcells_list] at hh
  rw [cell_of_row w g 73 _ 78 _ hh, List.getElem?_toArray, List.append_assoc, List.getElem?_append_right (by simp; omega)]
  have e : 73 - (st.map W32 ++ rest.map B8).length = 1 := by simp; omega
  rw [e]; rfl
theorem HasH.told {w : World} {g : Nat} {st rest sum : List Nat} {N : Int} {done : DL} {told : Bool} (h : HasH w g st rest N done told sum) : w.cell? ⟨g, 76, none⟩ = some (.bool told) := by
  obtain ⟨hh, h8, h64, h32⟩ := h
  rw [hcells_list] at hh
  rw [cell_of_row w g 76 _ 78 _ hh, List.getElem?_toArray, List.append_assoc, List.getElem?_append_right (by simp; omega)]
  have e : 76 - (st.map W32 ++ rest.map B8).length = 4 := by simp; omega
  rw [e]; rfl
theorem HasH.ld25 {w : World} {g : Nat} {st rest sum : List Nat} {N : Int} {done : DL} {told : Bool} (h : HasH w g st rest N done told sum) : (ld25 (.pointer (some ⟨g, 77, none⟩))).run Try.prog w = .ok (.agg (E8 sum)) w := by
  obtain ⟨hh, h8, h64, h32⟩ := h
  rw [hcells_list] at hh
  have := load_part w g 77 32 (st.map W32 ++ rest.map B8 ++ mids N done told) (sum.map B8) [] (by simpa [List.append_assoc] using hh) (by simp [mids, h8, h64]) (by simp [h32])
  unfold Ytdkhmjiconedkaa.ld25
  simp only [Instr.loadAt, Instr.sureAddr, Sem.run_bind, Sem.run_pure, Result.andThen]
  exact loadVar_of w 25 32 _ _ _ Try.underlying25 rfl (zero_of_info Z25_info).2 this
set_option maxRecDepth 20000 in
set_option maxHeartbeats 400000 in
theorem do_done (g : Nat) (d : Int) (hd : ¬ d = 0) (fv : Value) (w : World) (h0 : w.cell? ⟨g, 73, none⟩ = some (.int .u32 d)) :
    Calls Try.prog 41 #[.pointer (some ⟨g, 73, none⟩), fv] w fun e w' => e = .returned (.tuple #[]) ∧ w' = w := by
  have hl := run_call_load (P := Try.prog) Try.func55 (by kernel_rfl) (by kernel_rfl) (by kernel_rfl) .u32 (by kernel_rfl) h0
  have hnot : ∀ (x : Bool) (w : World), (Op.unary .not (.bool x)).run Try.prog w = .ok (.bool (!x)) w := fun _ _ => rfl
  have hd' : (d != 0) = true := by simp [hd]
  go_enter Try.func41, Try.ntmps41
  go_wp2
  go_end0
  exact ⟨rfl, rfl⟩
/-- A Hasher that is told takes nothing more. -/
theorem write_told (g : Nat) (st rest sum : List Nat) (N : Int) (done : DL) (v : Value) (w : World) (h : HasH w g st rest N done true sum) :
    Calls Try.prog 23 #[.pointer (some ⟨g, 0, none⟩), v] w fun e w' => e = .returned (.bool false) ∧ w' = w := by
  have ht := h.told
  go_enter Try.func23, Try.ntmps23
  go_wp2
  go_ret
  exact ⟨rfl, rfl⟩
end Go.Proofs.Ytdkhmjiconedkaa
