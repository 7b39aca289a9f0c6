/- drop: a job goes out of a Run. -/
import Derived.Test.YtnlfmmempomcaaaNe
namespace Go.Proofs.Ytnlfmmempomcaaa
open Go.RowKit Go.Maps
set_option linter.unusedSimpArgs false
def Rn.gone (R : Rn) (n : Nat) : Rn := ⟨R.js.filter fun j => decide (j.no ≠ n), R.next, R.busy, R.steps⟩
theorem gone_split {l : List Jb} (h : (l.map Jb.no).Pairwise (· < ·)) {d : Nat} {b : Jb} (hb : l[d]? = some b) : l.filter (fun j => decide (j.no ≠ b.no)) = l.take d ++ l.drop (d + 1) := by
  have hd := (List.getElem?_eq_some_iff.1 hb).1
  have e : l = l.take d ++ b :: l.drop (d + 1) := by
    conv => lhs; rw [← List.take_append_drop d l, List.drop_eq_getElem_cons hd, (List.getElem?_eq_some_iff.1 hb).2]
  have hp := h
  rw [e, List.map_append, List.map_cons] at hp
  obtain ⟨h1, h2, h3⟩ := List.pairwise_append.1 hp
  conv => lhs; rw [e]
  rw [List.filter_append, List.filter_cons, if_neg (by simp)]
  congr 1
  · refine List.filter_eq_self.2 fun j hj => ?_
    have := h3 j.no (List.mem_map_of_mem hj) b.no (List.mem_cons_self ..)
    simp; omega
  · refine List.filter_eq_self.2 fun j hj => ?_
    have := (List.pairwise_cons.1 h2).1 j.no (List.mem_map_of_mem hj)
    simp; omega
/-- What drop leaves. -/
def DLeft (k B : Nat) (rb : Nat) (R' : Rn) (O : Ghost) (w w' : World) : Prop := ∃ O', RnIs O' rb R' ∧ Mem k O' w' ∧ Stp 3 B O O' w w' ∧ ∀ q o, O q = some o → (∀ cs, o.th ≠ .raw cs 113) → q ≠ rb → O' q = some o
theorem makeF' (fn : Fn) (first cap : Array Value) (w : World) : (Instr.makeFunc fn first cap).run Try.prog w = .ok (.func fn first cap) w := rfl
section
variable {k : Nat} {O : Ghost} {rb : Nat} {R : Rn} {w : World}
theorem drop_delc (hM : Mem k O w) (h : RnIs O rb R) {d : Nat} {b : Jb} (hb : R.js[d]? = some b) {blk off c : Nat} {cs : List Value} (e2 : O blk = some ⟨3, rb, .raw cs 113⟩) (e3 : off + c ≤ cs.length) (e4 : R.js.length ≤ c) (e5 : c ≤ maxLen) (e6 : (cs.drop off).take R.js.length = (R.js.map Jb.at_).map fun g => ptr (some g)) :
    ∃ X : Nat → Nat, (∀ p j, R.js[p]? = some j → X p = j.at_) ∧ DelC k O rb blk off R.js.length c d X cs ⟨w.heap.size, 0, none⟩ (w.alloc (.cells #[.pointer (some ⟨b.at_, 0, none⟩)] 113)) := by
  have hd := (List.getElem?_eq_some_iff.1 hb).1
  refine ⟨fun p => match R.js[p]? with | some j => j.at_ | none => 0, fun p j e => by simp only [e], hM.loose _, e2, e3, e4, by have := h.room; omega, e5, fun p hp => ?_, hd, ⟨fun p => match R.js[p]? with | some j => j | none => b, fun p hp => ?_, fun p hp => ?_⟩, ?_, hM.out⟩
  · have e := List.getElem?_eq_getElem hp
    simp only [e]
    have h7 : ((R.js.map Jb.at_).map fun g => ptr (some g))[p]? = some (ptr (some (R.js[p]).at_)) := by rw [List.map_map, List.getElem?_map, e]; rfl
    rw [← e6, List.getElem?_take, if_pos hp, List.getElem?_drop] at h7
    exact h7
  · have e := List.getElem?_eq_getElem hp
    simp only [e]
    exact ⟨trivial, h.jobs _ (List.getElem_mem hp)⟩
  · have e := List.getElem?_eq_getElem hp
    simp only [e, hb]
    have hbm := List.mem_of_getElem? hb
    have hpm := List.getElem_mem hp
    refine ⟨⟨fun e => h.apart hpm hbm e, fun e => by rw [Rn.one h.sorted hpm hbm e]⟩, fun e5 => ?_, fun e5 => ?_⟩
    · rcases Nat.lt_trichotomy p d with h1 | h1 | h1
      · have := Rn.sorted_lt h.sorted h1 e hb; omega
      · exact h1
      · have := Rn.sorted_lt h.sorted h1 hb e; omega
    · subst e5
      rw [e] at hb
      injection hb with hb
      rw [hb]
  · simp only [hb]
    have := cell_one_new w (.pointer (some ⟨b.at_, 0, none⟩)) 113 0 _ rfl
    exact this
theorem drop_left (h : RnIs O rb R) {d : Nat} {b : Jb} (hb : R.js[d]? = some b) {rv : Value} (h1 : O rb = some (runO rb rv R)) {blk off c : Nat} {cs : List Value} (e2 : O blk = some ⟨3, rb, .raw cs 113⟩) (e3 : off + c ≤ cs.length) (e4 : R.js.length ≤ c) (e5 : c ≤ maxLen)
    {X : Nat → Nat} (hX : ∀ p j, R.js[p]? = some j → X p = j.at_) {w' : World} (hw : w.heap.size ≤ (w.alloc (.cells #[.pointer (some ⟨b.at_, 0, none⟩)] 113)).heap.size) (hD : Deleted k O rb blk off R.js.length d X cs (w.alloc (.cells #[.pointer (some ⟨b.at_, 0, none⟩)] 113)) w') :
    (∃ u, w'.cell? ⟨rb, 0, none⟩ = some u) ∧ w'.frozen? ⟨rb, 0, none⟩ = false ∧ DLeft k w.heap.size rb (R.gone b.no) O w (w'.setCell ⟨rb, 0, none⟩ (.slice (some ⟨blk, off, none⟩) (R.js.length - 1) c)) := by
  obtain ⟨cs', q1, q2, q3, q4⟩ := hD
  have hd := (List.getElem?_eq_some_iff.1 hb).1
  have hne : rb ≠ blk := fun e => by rw [← e, h1] at e2; simp [runO] at e2
  have r1 : put O blk ⟨3, rb, .raw cs' 113⟩ rb = some (runO rb rv R) := by rw [put_other _ _ hne]; exact h1
  have hM2 := q3.set r1 0 (.slice (some ⟨blk, off, none⟩) (R.js.length - 1) c)
  have hs2 : Stp 3 w.heap.size _ _ w' _ := Stp.set r1 0 (.slice (some ⟨blk, off, none⟩) (R.js.length - 1) c)
  refine ⟨⟨_, q3.cell r1 (i := 0) rfl⟩, q3.frozen r1 0, _, ⟨⟨_, put_same _ _ _, ?_⟩, fun j hj => ?_, ?_, fun j hj => ?_, ?_⟩, hM2, ((Stp.loose O (Nat.le_refl _) _).trans (q4.mono hw)).trans hs2, fun q o hq hn hr => by rw [put_other _ _ hr, put_other _ _ (fun e => by rw [e, e2] at hq; exact hn cs (congrArg Ob.th (Option.some.inj hq)).symm)]; exact hq⟩
  · have hsp := gone_split h.sorted hb
    have hlen : (R.gone b.no).js.length = R.js.length - 1 := by
      show (R.js.filter _).length = _
      rw [hsp, List.length_append, List.length_take, List.length_drop]
      omega
    refine .inr ⟨blk, off, c, cs', by rw [List.length_map, hlen], by rw [put_other _ _ (Ne.symm hne), put_same], by omega, by rw [List.length_map, hlen]; omega, e5, ?_⟩
    rw [List.length_map, hlen]
    apply List.ext_getElem?
    intro p
    rw [List.getElem?_take]
    by_cases hp : p < R.js.length - 1
    · rw [if_pos hp, List.getElem?_drop, q2 p hp]
      show _ = (((R.js.filter _).map Jb.at_).map fun g => ptr (some g))[p]?
      rw [hsp, List.map_map, List.getElem?_map]
      by_cases hpd : p < d
      · rw [if_pos hpd, List.getElem?_append_left (by rw [List.length_take]; omega), List.getElem?_take, if_pos hpd]
        have e := List.getElem?_eq_getElem (show p < R.js.length by omega)
        rw [e, hX p _ e]; rfl
      · rw [if_neg hpd, List.getElem?_append_right (by rw [List.length_take]; omega), List.length_take, List.getElem?_drop]
        have e0 : d + 1 + (p - min d R.js.length) = p + 1 := by omega
        have e := List.getElem?_eq_getElem (show p + 1 < R.js.length by omega)
        rw [e0, e, hX (p + 1) _ e]; rfl
    · rw [if_neg hp, List.getElem?_eq_none]
      rw [List.length_map, List.length_map, hlen]; omega
  · have hjm := (List.mem_filter.1 hj).1
    have ho := h.jobs j hjm
    rw [put_other _ _ (fun e => by rw [e, h1] at ho; simp [runO, jobO] at ho), put_other _ _ (fun e => by rw [e, e2] at ho; simp [jobO] at ho)]
    exact ho
  · show ((R.js.filter _).map Jb.no).Pairwise _
    exact h.sorted.sublist (List.Sublist.map _ (List.filter_sublist))
  · exact h.lt j (List.mem_filter.1 hj).1
  · exact Nat.le_trans (List.length_filter_le _ _) h.room
end
set_option maxRecDepth 20000 in
set_option maxHeartbeats 1000000 in
theorem drop_ok {k : Nat} (O : Ghost) (rb : Nat) (R : Rn) (w : World) (hM : Mem k O w) (h : RnIs O rb R) (b : Jb) (hb : b ∈ R.js) :
    Calls Try.prog 71 #[.pointer (some ⟨rb, 0, none⟩), .pointer (some ⟨b.at_, 0, none⟩)] w fun e w' => e = .returned (.tuple #[]) ∧ DLeft k w.heap.size rb (R.gone b.no) O w w' := by
  obtain ⟨d, hd⟩ := List.mem_iff_getElem?.1 hb
  have hdl := (List.getElem?_eq_some_iff.1 hd).1
  obtain ⟨rv, h1, h2⟩ := h.run
  rcases h2 with ⟨_, e⟩ | ⟨blk, off, c, cs, e1, e2, e3, e4, e5, e6⟩
  · have := congrArg List.length e
    rw [List.length_map] at this
    simp at this
    rw [this] at hdl
    simp at hdl
  · rw [List.length_map] at e1 e4 e6
    have hM1 := hM.loose (.cells #[.pointer (some ⟨b.at_, 0, none⟩)] 113)
    have c0 := hM1.cell h1 (i := 0) rfl
    rw [e1] at c0
    obtain ⟨X, hX, hDC⟩ := drop_delc hM h hd e2 e3 e4 e5 e6
    have HC := hide (delete_ok O rb blk off R.js.length c d X cs ⟨w.heap.size, 0, none⟩ _ hDC)
    have HL : Hid (∀ w', Deleted k O rb blk off R.js.length d X cs (w.alloc (.cells #[.pointer (some ⟨b.at_, 0, none⟩)] 113)) w' → _) := fun w' hD => drop_left h hd h1 e2 e3 e4 e5 hX (by simp) hD
    have hmf := makeF'
    clear hM h hb hd hdl h1 e1 e2 e3 e4 e5 e6 hM1 hDC hX
    generalize R.js.length = N at *
    go_enter Try.func71, Try.ntmps71
    go_wp2_with (go_at_call 82; refine (unhide HC).mono ?_; rintro e w' ⟨rfl, hD⟩; obtain ⟨⟨u, y1⟩, y2, y3⟩ := unhide HL w' hD; clear hD)
    go_end0
    exact ⟨rfl, y3⟩
end Go.Proofs.Ytnlfmmempomcaaa
