/- Bytes copied into what no full block holds yet; how many bytes there are, set anew. -/
import Derived.Test.YtdkhmjiconedkaaRoomown
namespace Go.Proofs.Ytdkhmjiconedkaa
open Go.RowKit Go.Great
/-- Copied bytes, at a place of a row. -/
def laid (rest b : List Nat) (o m : Nat) : List Nat := rest.take o ++ b.take m ++ rest.drop (o + m)
theorem laid_length {rest b : List Nat} {o m : Nat} (h1 : o + m ≤ rest.length) (h2 : m ≤ b.length) : (laid rest b o m).length = rest.length := by
  unfold laid; simp; omega
theorem HasH.copy {w : World} {g : Nat} {st rest sum : List Nat} {N : Int} {done : DL} {told : Bool} (h : HasH w g st rest N done told sum) (ty : TypeId) (o c n cap : Nat) (a : Option Addr) (b : List Nat) (hn : b.length = n) (hv : BytesAt w (.slice a n cap) b) (ho : o ≤ 64) (m : Nat) (hm : m = Nat.min n (64 - o)) :
    ∃ w', (Builtin.copy_ #[22, 22] ty #[.slice (some ⟨g, 8 + o, none⟩) (64 - o) c, .slice a n cap]).run Try.prog w = .ok (.int .i64 (m : Int)) w' ∧ HasH w' g st (laid rest b o m) N done told sum ∧ Sole g w w' := by
  subst hn
  have hmn : m ≤ b.length := by rw [hm]; exact Nat.min_le_left _ _
  have hmo : m ≤ 64 - o := by rw [hm]; exact Nat.min_le_right _ _
  obtain ⟨hh, h8, h64, h32⟩ := h
  by_cases h0 : 0 < m
  · obtain ⟨a', c', e, hc, hx⟩ := hv
    cases e
    obtain ⟨b', o', rfl, hb, hcell⟩ := hx (by omega)
    have hh' := hh
    rw [hcells_list] at hh'
    have hr := run_copy_row (P := Try.prog) w 22 22 ty 5 g (8 + o) (64 - o) c ⟨b', o', none⟩ b.length cap _ 78 ((b.take m).map B8) Try.underlying22 size5 hh' (by rw [List.length_map, List.length_take, hm]; omega)
      (fun j v hj => by
        obtain ⟨hj1, rfl⟩ := nth_map (b.take m) j v hj
        rw [List.length_take] at hj1
        rw [Addr.add_mid, hcell j (by omega), Sha.nth_take (by omega)])
      (by simp [mids, h8, h64, h32]; omega) (b8_one _)
    refine ⟨_, by rw [hr, List.length_map, List.length_take, Nat.min_eq_left (by omega)]; rfl, ?_, Sole.setRow g w _⟩
    refine ⟨?_, h8, by rw [laid_length (by omega) (by omega)]; exact h64, h32⟩
    rw [setRow_heap w g _ _ 78 _ hh, hcells_list]
    refine congrArg (fun c : Array Value => some (Obj.cells c 78 (0, 0))) ?_
    refine congrArg List.toArray ?_
    rw [List.toList_toArray]
    have e1 : (st.map W32 ++ rest.map B8 ++ mids N done told ++ sum.map B8).take (8 + o) = st.map W32 ++ (rest.take o).map B8 := by
      rw [List.append_assoc, List.append_assoc, List.take_append, List.take_of_length_le (by simp; omega), List.take_append_of_le_length (by simp; omega), List.map_take]
      simp [h8]
    have e2 : (st.map W32 ++ rest.map B8 ++ mids N done told ++ sum.map B8).drop (8 + o + m) = (rest.drop (o + m)).map B8 ++ mids N done told ++ sum.map B8 := by
      rw [List.append_assoc, List.append_assoc, List.drop_append, List.drop_of_length_le (by simp; omega), List.nil_append, List.drop_append_of_le_length (by simp; omega), List.map_drop]
      simp [h8, List.append_assoc, Nat.add_assoc]
    rw [e1, e2]
    unfold laid
    simp [List.append_assoc]
  · obtain rfl : m = 0 := by omega
    refine ⟨w, ?_, ⟨?_, h8, by rw [laid_length (by omega) (by omega)]; exact h64, h32⟩, Sole.refl _ _⟩
    · rw [run_copy_none w 22 22 ty 5 _ _ _ _ _ _ Try.underlying22 size5 hm.symm]; rfl
    · have : laid rest b o 0 = rest := by unfold laid; simp
      rw [this]; exact hh
theorem HasH.setSize {w : World} {g : Nat} {st rest sum : List Nat} {N : Int} {done : DL} {told : Bool} (h : HasH w g st rest N done told sum) (N' : Int) :
    HasH (w.setCell ⟨g, 72, none⟩ (.int .i64 N')) g st rest N' done told sum ∧ Sole g w (w.setCell ⟨g, 72, none⟩ (.int .i64 N')) := by
  obtain ⟨hh, h8, h64, h32⟩ := h
  refine ⟨⟨?_, h8, h64, h32⟩, ⟨rfl, rfl, rfl, by simp [World.setCell], fun k _ hk => Below.heap_setCell w ⟨g, 72, none⟩ _ k hk⟩⟩
  unfold World.setCell
  simp only [Array.getElem?_modify, hh]
  simp only [if_true, Option.map_some]
  congr 2
  rw [hcells_list, hcells_list]
  have e : (st.map W32 ++ rest.map B8).length = 72 := by simp; omega
  simp only [List.setIfInBounds_toArray]
  congr 1
  rw [List.append_assoc, List.append_assoc, List.append_assoc, List.append_assoc, ← List.append_assoc (st.map W32), ← List.append_assoc (st.map W32), List.set_append_right _ _ (by omega), e]
  rfl
theorem HasH.free {w : World} {g : Nat} {st rest sum : List Nat} {N : Int} {done : DL} {told : Bool} (h : HasH w g st rest N done told sum) (i : Nat) : w.frozen? ⟨g, i, none⟩ = false := by
  simp [World.frozen?, h.1]
theorem HasH.drewN {w : World} {g : Nat} {st rest sum : List Nat} {N : Int} {done : DL} {told : Bool} (h : HasH w g st rest N done told sum) (m : Nat) : HasH (w.drewN m) g st rest N done told sum := h
theorem HasH.rest {w : World} {g : Nat} {st rest sum : List Nat} {N : Int} {done : DL} {told : Bool} (h : HasH w g st rest N done told sum) (n cap : Nat) (hn : n ≤ 64) (hc : n ≤ cap) : BytesAt w (.slice (some ⟨g, 8, none⟩) n cap) (rest.take n) := by
  have hg := h.lt
  obtain ⟨hh, h8, h64, h32⟩ := h
  have hl : (rest.take n).length = n := by rw [List.length_take]; omega
  refine ⟨_, cap, by rw [hl], by omega, fun _ => ⟨g, 8, rfl, hg, fun i hi => ?_⟩⟩
  rw [hl] at hi
  rw [hcells_list] at hh
  rw [cell_of_row w g (8 + i) _ 78 _ hh, List.getElem?_toArray, List.append_assoc, List.append_assoc, List.getElem?_append_right (by simp; omega)]
  have e : 8 + i - (st.map W32).length = i := by simp; omega
  rw [e, List.getElem?_append_left (by simp; omega), List.getElem?_map, List.getElem?_eq_getElem (by omega)]
  simp only [Option.map_some, B8]
  congr 2
  rw [Sha.nth_take hi]
  unfold Sha.nth
  rw [List.getElem?_eq_getElem (by omega)]
  rfl
end Go.Proofs.Ytdkhmjiconedkaa
