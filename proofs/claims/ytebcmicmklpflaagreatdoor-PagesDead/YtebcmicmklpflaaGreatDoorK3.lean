import Derived.Test.YtebcmicmklpflaaGreatDoorK2
import Derived.Tactics
import Derived.Tactics2
import Derived.Defers
import Derived.Laws.Pointers
import Derived.Laws.LoneSync
import Derived.RegionTactic
import Derived.RegionCalls
import Derived.ChangeAlike
import Derived.ChangeKeysEq
/- The parts of a Once's slow road: the lock taken and let go, the word stored; and a Hasher's words set. -/
namespace Go.Proofs.YtebcmicmklpflaaGreatDoor.Dg
open Go.RowKit Go.Great
attribute [local go_sem] f_8 f_1024 f_hi4 f_lo4
set_option maxRecDepth 20000 in
theorem race_off (w : World) : (callFunc 135 #[]).run Tryz.prog w = .ok (.value (.tuple #[])) w := run_call_mark0 Tryz.func135 (by kernel_rfl) (by kernel_rfl) (by kernel_rfl) .disable (by kernel_rfl) w
set_option maxRecDepth 20000 in
theorem race_on (w : World) : (callFunc 137 #[]).run Tryz.prog w = .ok (.value (.tuple #[])) w := run_call_mark0 Tryz.func137 (by kernel_rfl) (by kernel_rfl) (by kernel_rfl) .enable (by kernel_rfl) w
set_option maxRecDepth 20000 in
theorem race_acq (a : Addr) (w : World) : (callFunc 138 #[.pointer (some a)]).run Tryz.prog w = .ok (.value (.tuple #[])) w := run_call_marked Tryz.func138 (by kernel_rfl) (by kernel_rfl) (by kernel_rfl) .acquire (by kernel_rfl) a w
set_option maxRecDepth 20000 in
theorem race_rel (a : Addr) (w : World) : (callFunc 140 #[.pointer (some a)]).run Tryz.prog w = .ok (.value (.tuple #[])) w := run_call_marked Tryz.func140 (by kernel_rfl) (by kernel_rfl) (by kernel_rfl) .releaseMerge (by kernel_rfl) a w
set_option maxRecDepth 20000 in
set_option maxHeartbeats 1000000 in
theorem word_deferred (a : Addr) (x : Value) (u : FrameMode) (w : World) (hc : w.cell? a = some x) (hz : w.frozen? a = false) :
    CallsD Tryz.prog 108 #[.pointer (some a), .bool true] u w fun e u' w' => u' = u ∧ (e = .returned (.tuple #[]) ∧ w' = w.drew.setCell a (.int .u32 1)) := by
  have hc' : w.drew.cell? a = some x := by go_simp
  have hz' : w.drew.frozen? a = false := by go_simp
  have hst := run_call_store (P := Tryz.prog) Tryz.func154 (by kernel_rfl) (by kernel_rfl) (by kernel_rfl) (by kernel_rfl) (k := .u32) (y := 1) hc' hz'
  go_enter_d Tryz.func108, Tryz.ntmps108
  go_wp2
  go_region_calls
  all_goals (go_end0; exact ⟨rfl, rfl⟩)
set_option maxRecDepth 20000 in
set_option maxHeartbeats 1000000 in
theorem unlock_deferred (a : Addr) (u : FrameMode) (w : World) (hc : w.cell? a = some (.int .i32 1)) (hz : w.frozen? a = false) :
    CallsD Tryz.prog 55 #[.pointer (some a)] u w fun e u' w' => u' = u ∧ (e = .returned (.tuple #[]) ∧ w' = w.setCell a (.int .i32 0)) := by
  have hd := race_off
  have he := race_on
  have hr := race_rel
  have hadd := run_call_add (P := Tryz.prog) Tryz.func141 (by kernel_rfl) (by kernel_rfl) (by kernel_rfl) .i32 (by kernel_rfl) (y := -1) (s := 0) hc hz (by simp [go_sem]; rfl)
  have hcv := run_convert_to_unsafe (P := Tryz.prog) (src := 200) (dst := 204) Tryz.underlying200 Tryz.underlying204 (by kernel_rfl) hc
  go_enter_d Tryz.func55, Tryz.ntmps55
  go_wp2
  go_end0
  go_wp2
  go_end0
  exact ⟨rfl, rfl⟩
set_option maxRecDepth 20000 in
set_option maxHeartbeats 1000000 in
theorem lock_free (a : Addr) (w : World) (hc : w.cell? a = some (.int .i32 0)) (hz : w.frozen? a = false) :
    Calls Tryz.prog 54 #[.pointer (some a)] w fun e w' => e = .returned (.tuple #[]) ∧ w' = w.setCell a (.int .i32 1) := by
  have hd := race_off
  have he := race_on
  have ha := race_acq
  have hcas := run_call_cas_hit (P := Tryz.prog) Tryz.func136 (by kernel_rfl) (by kernel_rfl) (by kernel_rfl) .i32 (by kernel_rfl) (y := 1) hc hz
  have hc' : (w.setCell a (.int .i32 1)).cell? a = some (.int .i32 1) := World.cell?_setCell_same w a _ hc
  have hcv := run_convert_to_unsafe (P := Tryz.prog) (src := 200) (dst := 204) Tryz.underlying200 Tryz.underlying204 (by kernel_rfl) hc'
  go_enter Tryz.func54, Tryz.ntmps54
  go_wp2
  first | go_end0 | (simp only [Exit.inBlock, Exit.then]; refine bodyPost_ret (results_none rfl _ _ _) rfl ?_) | refine bodyPost_ret (results_none rfl _ _ _) rfl ?_
  go_wp2
  go_end0
  exact ⟨rfl, rfl⟩
theorem Sole.setCell (g i : Nat) (w : World) (v : Value) : Sole g w (w.setCell ⟨g, i, none⟩ v) := ⟨rfl, rfl, rfl, by simp [World.setCell], fun k _ hk => Below.heap_setCell w ⟨g, i, none⟩ _ k hk⟩
theorem HasH.setMid {w : World} {g : Nat} {st rest sum : List Nat} {N : Int} {done : DL} {told : Bool} (h : HasH w g st rest N done told sum) (i : Nat) (v : Value) (done' : DL) (told' : Bool) (hi : i < 5) (hm : (mids N done told).set i v = mids N done' told') :
    HasH (w.setCell ⟨g, 72 + i, none⟩ v) g st rest N done' told' sum := by
  obtain ⟨hh, h8, h64, h32⟩ := h
  refine ⟨?_, h8, h64, h32⟩
  unfold World.setCell
  simp only [Array.getElem?_modify, hh]
  simp only [if_true, Option.map_some]
  refine congrArg (fun c : Array Value => some (Obj.cells c 255 (0, 0))) ?_
  rw [hcells_list, hcells_list]
  have e : (st.map W32 ++ rest.map B8).length = 72 := by simp; omega
  simp only [List.setIfInBounds_toArray]
  refine congrArg List.toArray ?_
  rw [List.append_assoc, List.append_assoc (st.map W32 ++ rest.map B8), List.set_append_right _ _ (by omega), e, Nat.add_sub_cancel_left, ← hm]
  rw [List.set_append_left _ _ (show i < (mids N done told).length from hi)]
theorem HasH.st113 {w : World} {g : Nat} {st rest sum : List Nat} {N : Int} {done : DL} {told : Bool} (h : HasH w g st rest N done told sum) (s' : List Nat) (h' : s'.length = 32) :
    (st113 (.pointer (some ⟨g, 77, none⟩)) (.agg (E8 s'))).run Tryz.prog w = .ok () (w.setRow g (hcells st rest N done told s')) ∧ HasH (w.setRow g (hcells st rest N done told s')) g st rest N done told s' := by
  obtain ⟨hh, h8, h64, h32⟩ := h
  refine ⟨?_, setRow_heap w g _ _ 255 _ hh, h8, h64, h'⟩
  rw [hcells_list] at hh ⊢
  have := store_part w g 77 (st.map W32 ++ rest.map B8 ++ mids N done told) (sum.map B8) [] (s'.map B8) (by simpa [List.append_assoc] using hh) (by simp [mids, h8, h64]) (by simp [h32, h']) (b8_one _)
  unfold YtebcmicmklpflaaGreatDoor.Dg.st113
  simp only [Instr.storeAt, Instr.sureAddr, Sem.run_bind, Sem.run_pure, Result.andThen]
  exact storeVar_of w _ 113 32 _ (E8 s') (zero_of_info Z113_info).2 (by simp [h']) (by simpa [E8, List.append_assoc] using this)
theorem HasH.stRange {w : World} {g : Nat} {st rest sum : List Nat} {N : Int} {done : DL} {told : Bool} (h : HasH w g st rest N done told sum) : w.rangeAt g 0 (st.map W32) := by
  obtain ⟨hh, h8, h64, h32⟩ := h
  rw [hcells_list] at hh
  intro j v hv
  have hj := (List.getElem?_eq_some_iff.1 hv).1
  rw [cell_of_row w g (0 + j) _ 255 _ hh, List.getElem?_toArray, List.append_assoc, List.append_assoc, List.getElem?_append_left (by omega), Nat.zero_add]
  exact hv
theorem HasH.lock {w : World} {g : Nat} {st rest sum : List Nat} {N : Int} {done : DL} {told : Bool} (h : HasH w g st rest N done told sum) : w.cell? ⟨g, 74, none⟩ = some (.int .i32 done.lk) := by
  obtain ⟨hh, h8, h64, h32⟩ := h
  rw [hcells_list] at hh
  rw [cell_of_row w g 74 _ 255 _ hh, List.getElem?_toArray, List.append_assoc, List.getElem?_append_right (by simp; omega)]
  have e : 74 - (st.map W32 ++ rest.map B8).length = 2 := by simp; omega
  rw [e]; rfl
/-- A Hasher to which so many bytes were written, with the Once's word and lock. -/
def KeptL (w : World) (g : Nat) (d : DL) (all sum : List Nat) : Prop :=
  ∃ st rest, HasH w g st rest (all.length : Int) d false sum ∧ (0 < all.length → st = (Sha.stOf all).list) ∧ rest.take (all.length % 64) = all.drop (Sha.full all)
/-- One that is told. -/
def ToldL (w : World) (g : Nat) (d : DL) (all : List Nat) : Prop := ∃ st rest, HasH w g st rest (all.length : Int) d true (Sha.sum all)
set_option maxRecDepth 20000 in
set_option maxHeartbeats 1000000 in
theorem bload_zero (a : Addr) (w : World) (hc : w.cell? a = some (.int .u32 0)) :
    Calls Tryz.prog 103 #[.pointer (some a)] w fun e w' => e = .returned (.bool false) ∧ w' = w := by
  have hl := run_call_load (P := Tryz.prog) Tryz.func143 (by kernel_rfl) (by kernel_rfl) (by kernel_rfl) .u32 (by kernel_rfl) hc
  go_enter Tryz.func103, Tryz.ntmps103
  go_wp2
  go_ret
  exact ⟨rfl, rfl⟩
set_option maxRecDepth 20000 in
set_option maxHeartbeats 2000000 in
theorem step_any (g pb : Nat) (d : DL) (all sum : List Nat) (w : World) (h : KeptL w g d all sum) (hab : Sha.Bytes all) (hal : all.length ≤ 20000000) (hp : w.cell? ⟨pb, 0, none⟩ = some (.pointer (some ⟨g, 0, none⟩))) (hpg : pb ≠ g) (hpw : pb < w.heap.size) :
    Calls Tryz.prog 203 #[.pointer (some ⟨pb, 0, none⟩)] w fun e w' => e = .returned (.tuple #[]) ∧ ToldL w' g d all ∧ Sole g w w' := by
  obtain ⟨st, rest, hh, hst, hr⟩ := h
  have hsa := start_any g st rest sum all.length d false w hh
  rw [start_of hst] at hsa
  have HSA := hide hsa
  clear hsa hst hh
  go_enter Tryz.func203, Tryz.ntmps203
  go_wp2_with fail
  refine (unhide HSA).mono ?_
  rintro e w1 ⟨rfl, h1, hs1⟩
  have hp1 : w1.cell? ⟨pb, 0, none⟩ = some (.pointer (some ⟨g, 0, none⟩)) := by
    rw [World.cell?_of_block (w := w) (w' := w1) (a := ⟨pb, 0, none⟩) (hs1.block pb hpw hpg)]; exact hp
  have hld0 := h1.ld250
  have hld1 : (ld250 (.pointer (some ⟨g, 0, none⟩))).run Tryz.prog w1.drew = .ok (.agg (E32 (Sha.stOf all).list)) w1.drew := (h1.drewN 1).ld250
  have hsz := h1.size
  obtain ⟨o, ho⟩ : ∃ o, o = all.length % 64 := ⟨_, rfl⟩
  have ho64 : o ≤ 64 := by omega
  have ho64' : (o : Int) ≤ 64 := by omega
  have hrt := h1.rest o 64 (by omega) (by omega)
  have hrl : (rest.take o).length = o := by rw [List.length_take, h1.2.2.1]; omega
  have hrb : Sha.Bytes (rest.take o) := by rw [ho, hr]; exact hab.drop _
  have hsum : Sha.out (Sha.blocks (Sha.stOf all) (Sha.tail (rest.take o) (8 * all.length)) (Sha.endOf o / 64)) = Sha.sum all := by rw [ho]; exact Sha.sum_kept hr
  have HLS : Hid (∀ k, Calls Tryz.prog 204 #[.agg (E32 (Sha.stOf all).list), .slice (some ⟨g, 8, none⟩) o 64, .int .i64 (all.length : Int)] (w1.drewN k) fun e w' => e = .returned (.agg (E8 (Sha.sum all))) ∧ HasH w' g (Sha.stOf all).list rest (all.length : Int) d false sum ∧ Sole g w1 w') := fun k => by
    have := lastStep_n (Sha.stOf all) (some ⟨g, 8, none⟩) o 64 (rest.take o) (all.length : Int) all.length rfl (w1.drewN k) (Sha.stOf_ok all) hrl hrt hrb (by omega) (by omega)
    rw [hsum] at this
    refine this.mono fun e w' hh => ⟨hh.1, (h1.drewN k).below hh.2, ?_⟩
    exact (show Sole g w1 (w1.drewN k) from ⟨rfl, rfl, rfl, Nat.le_refl _, fun _ _ _ => rfl⟩).trans (Sole.of_below hh.2)
  have hhe : Hid (∀ k, Calls Tryz.prog 199 #[.pointer (some ⟨g, 0, none⟩)] (w1.drewN k) fun e w' => e = .returned (.int .i64 (o : Int)) ∧ w' = w1.drewN k) := fun k => by
    rw [ho]; exact held_any g all.length (w1.drewN k) (by omega) hsz
  have hlo : Hid (∀ k, Calls Tryz.prog 205 #[.pointer (some ⟨g, 72, none⟩)] (w1.drewN k) fun e w' => e = .returned (.int .i64 (all.length : Int)) ∧ w' = w1.drewN k) := fun k => load_any g 72 _ _ hsz
  have hS32 : (Sha.sum all).length = 32 := Sha.sumBehind_length _ _ _
  have HSM : Hid (Sha.sum all = Sha.sum all) := rfl
  generalize hSS : Sha.sum all = SS at *
  have HSS := hide hSS
  generalize Sha.stOf all = X at *
  generalize hNN : all.length = NN at *
  have HNN := hide hNN
  have HR := hide hr
  have HRA : Hid (w1.rangeAt g 0 (X.list.map W32)) := h1.stRange
  clear hSS hrt hrb hsum hr hNN ho HSM h1
  go_wp2_with fail
  have hS : Hid (w1.drew.cell? ⟨pb, 0, none⟩ = some (.pointer (some ⟨g, 0, none⟩)) ∧ w1.drew.rangeAt g 0 (X.list.map W32)) := ⟨hp1, unhide HRA⟩
  refine wp_region_noPanic ?_
  refine wp_region_held_drew (S := fun w' => w'.cell? ⟨pb, 0, none⟩ = some (.pointer (some ⟨g, 0, none⟩)) ∧ w'.rangeAt g 0 (X.list.map W32)) (by kernel_rfl) (unhide hS) (fun hHeld => ?_)
  refine wpAnyH_take (i := 0) (v := .pointer (some ⟨g, 0, none⟩)) rfl (by kernel_rfl) (by kernel_rfl) (by kernel_rfl) (fun _ _ _ h => h) (Or.inl ⟨by rfl, ?_⟩) hHeld ?_
  · intro w hSw; have hq1 := hSw.1; go_simp
  try simp only [Act.put, List.getElem_toArray, List.getElem_cons_zero, List.setIfInBounds_toArray, List.set_cons_zero, List.set_cons_succ]
  refine wpAnyH_take (i := 1) (v := .pointer (some ⟨g, 0, none⟩)) rfl (by kernel_rfl) (by kernel_rfl) (by kernel_rfl) (fun _ _ _ h => h) (Or.inl ⟨by rfl, ?_⟩) hHeld ?_
  · intro w hSw; have hq1 := hSw.1; go_simp
  try simp only [Act.put, List.getElem_toArray, List.getElem_cons_zero, List.getElem_cons_succ, List.setIfInBounds_toArray, List.set_cons_zero, List.set_cons_succ]
  refine wpAnyH_take (i := 2) (v := .pointer (some ⟨g, 0, none⟩)) rfl (by kernel_rfl) (by kernel_rfl) (by kernel_rfl) (fun _ _ _ h => h) (Or.inl ⟨by rfl, ?_⟩) hHeld ?_
  · intro w hSw; have hq1 := hSw.1; go_simp
  try simp only [Act.put, List.getElem_toArray, List.getElem_cons_zero, List.getElem_cons_succ, List.setIfInBounds_toArray, List.set_cons_zero, List.set_cons_succ]
  refine wpAnyH_take (i := 3) (v := .pointer (some ⟨g, 0, none⟩)) rfl (by kernel_rfl) (by kernel_rfl) (by kernel_rfl) (fun _ _ _ h => h) (Or.inl ⟨by rfl, ?_⟩) hHeld ?_
  · intro w hSw; have hq1 := hSw.1; go_simp
  try simp only [Act.put, List.getElem_toArray, List.getElem_cons_zero, List.getElem_cons_succ, List.setIfInBounds_toArray, List.set_cons_zero, List.set_cons_succ]
  refine wpAnyH_take (i := 4) rfl (by kernel_rfl) (by kernel_rfl) (by kernel_rfl) (fun _ _ _ h => h) (yieldsIf_load_mid (by rfl) _ _ rfl _ _ rfl _ _ (fun w h => h.2) Tryz.underlying250 rfl (by rw [List.length_map]; exact (zero_of_info Z250_info).2)) hHeld ?_
  try simp only [Act.put, List.getElem_toArray, List.getElem_cons_zero, List.getElem_cons_succ, List.setIfInBounds_toArray, List.set_cons_zero, List.set_cons_succ]
  refine wpAnyH_take (i := 5) (v := .pointer (some ⟨g, 0, none⟩)) rfl (by kernel_rfl) (by kernel_rfl) (by kernel_rfl) (fun _ _ _ h => h) (Or.inl ⟨by rfl, ?_⟩) hHeld ?_
  · intro w hSw; have hq1 := hSw.1; go_simp
  try simp only [Act.put, List.getElem_toArray, List.getElem_cons_zero, List.getElem_cons_succ, List.setIfInBounds_toArray, List.set_cons_zero, List.set_cons_succ]
  refine wpAnyH_take (i := 6) (v := .pointer (some ⟨g, 0, none⟩)) rfl (by kernel_rfl) (by kernel_rfl) (by kernel_rfl) (fun _ _ _ h => h) (Or.inl ⟨by rfl, ?_⟩) hHeld ?_
  · intro w hSw; have hq1 := hSw.1; go_simp
  try simp only [Act.put, List.getElem_toArray, List.getElem_cons_zero, List.getElem_cons_succ, List.setIfInBounds_toArray, List.set_cons_zero, List.set_cons_succ]
  refine wpAnyH_take (i := 7) (v := .pointer (some ⟨g, 8, none⟩)) rfl (by kernel_rfl) (by kernel_rfl) (by kernel_rfl) (fun _ _ _ h => h) (Or.inl ⟨by rfl, ?_⟩) hHeld ?_
  · intro w hSw; have hq1 := hSw.1; go_simp
  try simp only [Act.put, List.getElem_toArray, List.getElem_cons_zero, List.getElem_cons_succ, List.setIfInBounds_toArray, List.set_cons_zero, List.set_cons_succ]
  refine wpAnyH_take (i := 8) (v := .pointer (some ⟨g, 0, none⟩)) rfl (by kernel_rfl) (by kernel_rfl) (by kernel_rfl) (fun _ _ _ h => h) (Or.inl ⟨by rfl, ?_⟩) hHeld ?_
  · intro w hSw; have hq1 := hSw.1; go_simp
  try simp only [Act.put, List.getElem_toArray, List.getElem_cons_zero, List.getElem_cons_succ, List.setIfInBounds_toArray, List.set_cons_zero, List.set_cons_succ]
  refine wpAnyH_take (i := 11) (v := .pointer (some ⟨g, 0, none⟩)) rfl (by kernel_rfl) (by kernel_rfl) (by kernel_rfl) (fun _ _ _ h => h) (Or.inl ⟨by rfl, ?_⟩) hHeld ?_
  · intro w hSw; have hq1 := hSw.1; go_simp
  try simp only [Act.put, List.getElem_toArray, List.getElem_cons_zero, List.getElem_cons_succ, List.setIfInBounds_toArray, List.set_cons_zero, List.set_cons_succ]
  refine wpAnyH_take (i := 12) (v := .pointer (some ⟨g, 0, none⟩)) rfl (by kernel_rfl) (by kernel_rfl) (by kernel_rfl) (fun _ _ _ h => h) (Or.inl ⟨by rfl, ?_⟩) hHeld ?_
  · intro w hSw; have hq1 := hSw.1; go_simp
  try simp only [Act.put, List.getElem_toArray, List.getElem_cons_zero, List.getElem_cons_succ, List.setIfInBounds_toArray, List.set_cons_zero, List.set_cons_succ]
  refine wpAnyH_take (i := 13) (v := .pointer (some ⟨g, 72, none⟩)) rfl (by kernel_rfl) (by kernel_rfl) (by kernel_rfl) (fun _ _ _ h => h) (Or.inl ⟨by rfl, ?_⟩) hHeld ?_
  · intro w hSw; have hq1 := hSw.1; go_simp
  try simp only [Act.put, List.getElem_toArray, List.getElem_cons_zero, List.getElem_cons_succ, List.setIfInBounds_toArray, List.set_cons_zero, List.set_cons_succ]
  refine wpAnyH_ready (rs := [9]) (by kernel_rfl) (by simp) (AllReadyH.cons rfl (fun K hK => ?_) AllReadyH.nil)
  simp only [List.getElem_toArray, List.getElem_cons_zero, List.getElem_cons_succ]
  go_simp
  refine Calls.mono (unhide hhe 1) ?_
  rintro e w' ⟨rfl, hw'⟩; rw [hw']; clear hw' w'
  refine hK.out _ _ (unhide hS) (fun hHeld2 => ?_)
  clear hK K
  try simp only [Act.put, List.getElem_toArray, List.getElem_cons_zero, List.getElem_cons_succ, List.setIfInBounds_toArray, List.set_cons_zero, List.set_cons_succ]
  refine wpAnyH_take (i := 10) (v := .slice (some ⟨g, 8, none⟩) o 64) rfl (by kernel_rfl) (by kernel_rfl) (by kernel_rfl) (fun _ _ _ h => h) (Or.inl ⟨by rfl, ?_⟩) hHeld2 ?_
  · intro w hSw; have hq1 := hSw.1; go_simp
  try simp only [Act.put, List.getElem_toArray, List.getElem_cons_zero, List.getElem_cons_succ, List.setIfInBounds_toArray, List.set_cons_zero, List.set_cons_succ]
  refine wpAnyH_ready (rs := [14]) (by kernel_rfl) (by simp) (AllReadyH.cons rfl (fun K hK => ?_) AllReadyH.nil)
  simp only [List.getElem_toArray, List.getElem_cons_zero, List.getElem_cons_succ]
  go_simp
  refine Calls.mono (unhide hlo 1) ?_
  rintro e w' ⟨rfl, hw'⟩; rw [hw']; clear hw' w'
  refine hK.out _ _ (unhide hS) (fun hHeld3 => ?_)
  clear hK K
  try simp only [Act.put, List.getElem_toArray, List.getElem_cons_zero, List.getElem_cons_succ, List.setIfInBounds_toArray, List.set_cons_zero, List.set_cons_succ]
  refine wpAnyH_ready (rs := [15]) (by kernel_rfl) (by simp) (AllReadyH.cons rfl (fun K hK => ?_) AllReadyH.nil)
  simp only [List.getElem_toArray, List.getElem_cons_zero, List.getElem_cons_succ]
  go_simp
  refine Calls.mono (unhide HLS 1) ?_
  rintro e w4 ⟨rfl, h4, hs4⟩
  have hS4 : w4.cell? ⟨pb, 0, none⟩ = some (.pointer (some ⟨g, 0, none⟩)) ∧ w4.rangeAt g 0 (X.list.map W32) := by
    refine ⟨?_, h4.stRange⟩
    rw [World.cell?_of_block (w := w1) (w' := w4) (a := ⟨pb, 0, none⟩) (hs4.block pb (Nat.lt_of_lt_of_le hpw hs1.size) hpg)]; exact hp1
  have HS4 := hide hS4
  obtain ⟨hst4, h5⟩ := h4.st113 SS hS32
  have hs5 := hs1.trans (hs4.trans (Sole.setRow g w4 (hcells X.list rest NN d false SS)))
  have hS5 : (w4.setRow g (hcells X.list rest NN d false SS)).cell? ⟨pb, 0, none⟩ = some (.pointer (some ⟨g, 0, none⟩)) ∧ (w4.setRow g (hcells X.list rest NN d false SS)).rangeAt g 0 (X.list.map W32) := by
    refine ⟨?_, h5.stRange⟩
    rw [World.cell?_of_block (w := w4) (a := ⟨pb, 0, none⟩) (setRow_other w4 g pb _ hpg)]; exact hS4.1
  have HS5 := hide hS5
  have H5 := hide h5
  clear h4 hs4 hS4 h5 hS5
  refine hK.out _ _ (unhide HS4) (fun hHeld4 => ?_)
  clear hK K
  try simp only [Act.put, List.getElem_toArray, List.getElem_cons_zero, List.getElem_cons_succ, List.setIfInBounds_toArray, List.set_cons_zero, List.set_cons_succ]
  refine wpAnyH_take (i := 16) (v := .pointer (some ⟨g, 0, none⟩)) rfl (by kernel_rfl) (by kernel_rfl) (by kernel_rfl) (fun _ _ _ h => h) (Or.inl ⟨by rfl, ?_⟩) hHeld4 ?_
  · intro w hSw; have hq1 := hSw.1; go_simp
  try simp only [Act.put, List.getElem_toArray, List.getElem_cons_zero, List.getElem_cons_succ, List.setIfInBounds_toArray, List.set_cons_zero, List.set_cons_succ]
  refine wpAnyH_take (i := 17) (v := .pointer (some ⟨g, 77, none⟩)) rfl (by kernel_rfl) (by kernel_rfl) (by kernel_rfl) (fun _ _ _ h => h) (Or.inl ⟨by rfl, ?_⟩) hHeld4 ?_
  · intro w hSw; have hq1 := hSw.1; go_simp
  try simp only [Act.put, List.getElem_toArray, List.getElem_cons_zero, List.getElem_cons_succ, List.setIfInBounds_toArray, List.set_cons_zero, List.set_cons_succ]
  refine wpAnyH_ready (rs := [18]) (by kernel_rfl) (by simp) (AllReadyH.cons rfl (fun K hK => ?_) AllReadyH.nil)
  simp only [List.getElem_toArray, List.getElem_cons_zero, List.getElem_cons_succ]
  go_simp
  refine hK.out _ _ (unhide HS5) (fun hHeld5 => ?_)
  clear hK K
  refine wpAnyH_done (by kernel_rfl) ?_ _
  refine NoPanic.normal ?_
  clear hHeld hHeld2 hHeld3 hHeld4 hHeld5 hst4
  generalize w4.setRow g (hcells X.list rest NN d false SS) = w5 at *
  have hp5 := (unhide HS5).1
  have ht5 := (unhide H5).told
  have hz5 := (unhide H5).free 76
  have h6 : HasH (w5.setCell ⟨g, 76, none⟩ (.bool true)) g X.list rest NN d true SS := (unhide H5).setMid 4 (.bool true) d true (by omega) rfl
  have hs6 := hs5.trans (Sole.setCell g 76 w5 (.bool true))
  have H6 := hide h6
  clear h6 HS5 H5
  go_wp2
  go_end0
  exact ⟨rfl, ⟨X.list, rest, by rw [unhide HNN, unhide HSS]; exact unhide H6⟩, hs6⟩
set_option maxRecDepth 20000 in
set_option maxHeartbeats 1000000 in
theorem slow_any (g pb : Nat) (all sum : List Nat) (w : World) (h : KeptL w g dz all sum) (hab : Sha.Bytes all) (hal : all.length ≤ 20000000) (hp : w.cell? ⟨pb, 0, none⟩ = some (.pointer (some ⟨g, 0, none⟩))) (hpg : pb ≠ g) :
    Calls Tryz.prog 197 #[.pointer (some ⟨g, 73, none⟩), .func (.func 203) #[] #[.pointer (some ⟨pb, 0, none⟩)]] w fun e w' => e = .returned (.tuple #[]) ∧ ToldL w' g ⟨1, 0⟩ all ∧ Sole g w w' := by
  obtain ⟨st, rest, hh, hst, hr⟩ := h
  have hlk : w.cell? ⟨g, 74, none⟩ = some (.int .i32 0) := hh.lock
  have hfz := hh.free
  have h1 : HasH (w.setCell ⟨g, 74, none⟩ (.int .i32 1)) g st rest (all.length : Int) ⟨0, 1⟩ false sum := hh.setMid 2 (.int .i32 1) ⟨0, 1⟩ false (by omega) rfl
  have hs1 := Sole.setCell g 74 w (.int .i32 1)
  have hp1 : (w.setCell ⟨g, 74, none⟩ (.int .i32 1)).cell? ⟨pb, 0, none⟩ = some (.pointer (some ⟨g, 0, none⟩)) := (World.cell?_setCell_other _ ⟨g, 74, none⟩ ⟨pb, 0, none⟩ _ (fun h => hpg (congrArg Addr.block h).symm)).trans hp
  have hdn : (w.setCell ⟨g, 74, none⟩ (.int .i32 1)).cell? ⟨g, 73, none⟩ = some (.int .u32 0) := h1.done
  have hnot : ∀ (x : Bool) (w : World), (Op.unary .not (.bool x)).run Tryz.prog w = .ok (.bool (!x)) w := fun _ _ => rfl
  have HST := hide hst
  have HR := hide hr
  have HFZ := hide hfz
  clear hst hr hfz
  go_enter_defers Tryz.func197, Tryz.ntmps197
  go_wp2_with fail
  refine (lock_free ⟨g, 74, none⟩ _ hlk (unhide HFZ 74)).mono ?_
  rintro e w' ⟨rfl, hw'⟩; rw [hw']; clear hw' w'
  generalize w.setCell ⟨g, 74, none⟩ (.int .i32 1) = w1 at *
  go_wp2_with fail
  refine (bload_zero ⟨g, 73, none⟩ _ hdn).mono ?_
  rintro e w' ⟨rfl, hw'⟩; rw [hw']; clear hw' w'
  go_wp2_with fail
  have hpw1 : pb < w1.heap.size := Nat.lt_of_lt_of_le (by
    refine Classical.byContradiction fun hc => ?_
    have : w.heap[pb]? = none := Array.getElem?_eq_none (by omega)
    unfold World.cell? at hp
    rw [this] at hp
    simp at hp) hs1.size
  refine (step_any g pb ⟨0, 1⟩ all sum w1 ⟨st, rest, h1, unhide HST, unhide HR⟩ hab hal hp1 hpg hpw1).mono ?_
  rintro e w2 ⟨rfl, ⟨st2, rest2, h2⟩, hs2⟩
  have hf2 := h2.free
  have hd2 := h2.done
  have h3 : HasH (w2.drew.setCell ⟨g, 73, none⟩ (.int .u32 1)) g st2 rest2 (all.length : Int) ⟨1, 1⟩ true (Sha.sum all) := (h2.drewN 1).setMid 1 (.int .u32 1) ⟨1, 1⟩ true (by omega) rfl
  have hf3 := h3.free
  have hl3 := h3.lock
  have h4 : HasH ((w2.drew.setCell ⟨g, 73, none⟩ (.int .u32 1)).setCell ⟨g, 74, none⟩ (.int .i32 0)) g st2 rest2 (all.length : Int) ⟨1, 0⟩ true (Sha.sum all) := h3.setMid 2 (.int .i32 0) ⟨1, 0⟩ true (by omega) rfl
  have hs22 : Sole g w2 w2.drew := ⟨rfl, rfl, rfl, Nat.le_refl _, fun _ _ _ => rfl⟩
  have hs4 := ((hs1.trans hs2).trans hs22).trans ((Sole.setCell g 73 w2.drew (.int .u32 1)).trans (Sole.setCell g 74 _ (.int .i32 0)))
  have H4 := hide h4
  clear h1 h3 h4 h2
  go_wp2
  refine leaves_cons (f := 108) (args := #[.pointer (some ⟨g, 73, none⟩), .bool true]) (by simp) (by simp [go_sem]) ?_
  refine (word_deferred ⟨g, 73, none⟩ _ .returning _ hd2 (hf2 73)).mono ?_
  rintro e u' w'' ⟨rfl, rfl, rfl⟩
  refine leaves_cons (f := 55) (args := #[.pointer (some ⟨g, 74, none⟩)]) (by simp [settle]) (by simp [go_sem]) ?_
  refine (unlock_deferred ⟨g, 74, none⟩ _ _ hl3 (hf3 74)).mono ?_
  rintro e u' w'' ⟨rfl, rfl, rfl⟩
  simp [Leaves, settle, results, Tryz.results197]
  exact ⟨⟨_, _, unhide H4⟩, hs4⟩
end Go.Proofs.YtebcmicmklpflaaGreatDoor.Dg
/- Sum: the first time, and again. -/
namespace Go.Proofs.YtebcmicmklpflaaGreatDoor.Dg
open Go.RowKit Go.Great
attribute [local go_sem] f_8 f_1024 f_hi4 f_lo4
set_option maxRecDepth 20000 in
set_option maxHeartbeats 1000000 in
theorem do_first (g pb : Nat) (all sum : List Nat) (w : World) (h : KeptL w g dz all sum) (hab : Sha.Bytes all) (hal : all.length ≤ 20000000) (hp : w.cell? ⟨pb, 0, none⟩ = some (.pointer (some ⟨g, 0, none⟩))) (hpg : pb ≠ g) :
    Calls Tryz.prog 149 #[.pointer (some ⟨g, 73, none⟩), .func (.func 203) #[] #[.pointer (some ⟨pb, 0, none⟩)]] w fun e w' => e = .returned (.tuple #[]) ∧ ToldL w' g ⟨1, 0⟩ all ∧ Sole g w w' := by
  have h0 : w.cell? ⟨g, 73, none⟩ = some (.int .u32 0) := by obtain ⟨st, rest, hh, _⟩ := h; exact hh.done
  have hnot : ∀ (x : Bool) (w : World), (Op.unary .not (.bool x)).run Tryz.prog w = .ok (.bool (!x)) w := fun _ _ => rfl
  have HSL := hide (slow_any g pb all sum w h hab hal hp hpg)
  clear h
  go_enter Tryz.func149, Tryz.ntmps149
  go_wp2_with fail
  refine (bload_zero ⟨g, 73, none⟩ _ h0).mono ?_
  rintro e w' ⟨rfl, hw'⟩; rw [hw']; clear hw' w'
  go_wp2_with fail
  refine (unhide HSL).mono ?_
  rintro e w1 ⟨rfl, h1, hs1⟩
  have H1 := hide h1
  clear h1
  go_wp2
  go_end0
  exact ⟨rfl, unhide H1, hs1⟩
theorem KeptL.below {w w' : World} {g : Nat} {d : DL} {all sum : List Nat} (h : KeptL w g d all sum) (hb : Below w.heap.size w w') : KeptL w' g d all sum := by
  obtain ⟨st, rest, hh, h2⟩ := h
  exact ⟨st, rest, hh.below hb, h2⟩
theorem ToldL.below {w w' : World} {g : Nat} {d : DL} {all : List Nat} (h : ToldL w g d all) (hb : Below w.heap.size w w') : ToldL w' g d all := by
  obtain ⟨st, rest, hh⟩ := h
  exact ⟨st, rest, hh.below hb⟩
set_option maxRecDepth 20000 in
set_option maxHeartbeats 1000000 in
theorem hsum_first (g : Nat) (all sum : List Nat) (w : World) (h : KeptL w g dz all sum) (hab : Sha.Bytes all) (hal : all.length ≤ 20000000) :
    Calls Tryz.prog 153 #[.pointer (some ⟨g, 0, none⟩)] w fun e w' => e = .returned (.agg (E8 (Sha.sum all))) ∧ ToldL w' g ⟨1, 0⟩ all ∧ Sole g w w' := by
  have hg : g < w.heap.size := by obtain ⟨st, rest, hh, _⟩ := h; exact hh.lt
  have hmf : ∀ (fn : Fn) (first cap : Array Value) (w : World), (Instr.makeFunc fn first cap).run Tryz.prog w = .ok (.func fn first cap) w := fun _ _ _ _ => rfl
  go_enter Tryz.func153, Tryz.ntmps153
  have hbA : Below w.heap.size w ((w.alloc (.cells #[.pointer (some ⟨g, 0, none⟩)] 214)).alloc (.cells Z113 113)) := ((Below.refl _ _).alloc (Nat.le_refl _) _).alloc (by simp) _
  have hpA : ((w.alloc (.cells #[.pointer (some ⟨g, 0, none⟩)] 214)).alloc (.cells Z113 113)).cell? ⟨w.heap.size, 0, none⟩ = some (.pointer (some ⟨g, 0, none⟩)) := by simp [go_sem]
  have HDO := hide (do_first g w.heap.size all sum _ (h.below hbA) hab hal hpA (by omega))
  clear h
  go_wp2_with fail
  refine (unhide HDO).mono ?_
  rintro e w1 ⟨rfl, h1, hs1⟩
  obtain ⟨st2, rest2, hh1⟩ := h1
  have hp1 : w1.cell? ⟨w.heap.size, 0, none⟩ = some (.pointer (some ⟨g, 0, none⟩)) := by
    rw [World.cell?_of_block (w := (w.alloc (.cells #[.pointer (some ⟨g, 0, none⟩)] 214)).alloc (.cells Z113 113)) (w' := w1) (a := ⟨w.heap.size, 0, none⟩) (hs1.block w.heap.size (by simp; omega) (by omega))]; exact hpA
  have hfit1 : fits w1 (w.heap.size + 1) 32 = true := by rw [fits_of (hs1.block (w.heap.size + 1) (by simp) (by omega))]; simp [go_sem]
  have hld := hh1.ld113
  have hs01 : Sole g w w1 := (Sole.of_below hbA).trans hs1
  have hl : (Sha.sum all).length = 32 := Sha.sumBehind_length _ _ _
  have HT : Hid (ToldL (w1.setRow (w.heap.size + 1) (E8 (Sha.sum all))) g ⟨1, 0⟩ all) := ⟨st2, rest2, by
    obtain ⟨a1, a2, a3, a4⟩ := hh1
    exact ⟨by rw [setRow_other w1 (w.heap.size + 1) g _ (by omega)]; exact a1, a2, a3, a4⟩⟩
  have hs2 : Sole g w (w1.setRow (w.heap.size + 1) (E8 (Sha.sum all))) := by
    refine ⟨hs01.os, hs01.tape, hs01.output, by have := hs01.size; simp; exact this, fun k hk hkg => ?_⟩
    rw [setRow_other w1 (w.heap.size + 1) k _ (by omega)]; exact hs01.block k hk hkg
  clear hh1 hs1 hs01
  generalize hSS : Sha.sum all = SS at *
  have HSS := hide hSS
  clear hSS
  go_wp2
  exact bodyPost_ret (results_at Tryz.results153 _ _ hfit1 rfl hl) rfl ⟨by rw [unhide HSS], unhide HT, hs2⟩
set_option maxRecDepth 20000 in
set_option maxHeartbeats 1000000 in
theorem hsum_again (g : Nat) (all : List Nat) (w : World) (h : ToldL w g ⟨1, 0⟩ all) :
    Calls Tryz.prog 153 #[.pointer (some ⟨g, 0, none⟩)] w fun e w' => e = .returned (.agg (E8 (Sha.sum all))) ∧ ToldL w' g ⟨1, 0⟩ all ∧ Sole g w w' := by
  have hg : g < w.heap.size := by obtain ⟨st, rest, hh⟩ := h; exact hh.lt
  have hmf : ∀ (fn : Fn) (first cap : Array Value) (w : World), (Instr.makeFunc fn first cap).run Tryz.prog w = .ok (.func fn first cap) w := fun _ _ _ _ => rfl
  go_enter Tryz.func153, Tryz.ntmps153
  have hbA : Below w.heap.size w ((w.alloc (.cells #[.pointer (some ⟨g, 0, none⟩)] 214)).alloc (.cells Z113 113)) := ((Below.refl _ _).alloc (Nat.le_refl _) _).alloc (by simp) _
  have hpA : ((w.alloc (.cells #[.pointer (some ⟨g, 0, none⟩)] 214)).alloc (.cells Z113 113)).cell? ⟨w.heap.size, 0, none⟩ = some (.pointer (some ⟨g, 0, none⟩)) := by simp [go_sem]
  have hA := h.below hbA
  have HDO : Hid (Calls Tryz.prog 149 #[.pointer (some ⟨g, 73, none⟩), .func (.func 203) #[] #[.pointer (some ⟨w.heap.size, 0, none⟩)]] ((w.alloc (.cells #[.pointer (some ⟨g, 0, none⟩)] 214)).alloc (.cells Z113 113)) fun e w' => e = .returned (.tuple #[]) ∧ ToldL w' g ⟨1, 0⟩ all ∧ Sole g ((w.alloc (.cells #[.pointer (some ⟨g, 0, none⟩)] 214)).alloc (.cells Z113 113)) w') := by
    have hd : ((w.alloc (.cells #[.pointer (some ⟨g, 0, none⟩)] 214)).alloc (.cells Z113 113)).cell? ⟨g, 73, none⟩ = some (.int .u32 1) := by obtain ⟨st, rest, hh⟩ := hA; exact hh.done
    exact (do_done g 1 (by omega) _ _ hd).mono fun e w' hw => ⟨hw.1, by rw [hw.2]; exact hA, by rw [hw.2]; exact Sole.refl _ _⟩
  clear h hA
  go_wp2_with fail
  refine (unhide HDO).mono ?_
  rintro e w1 ⟨rfl, h1, hs1⟩
  obtain ⟨st2, rest2, hh1⟩ := h1
  have hp1 : w1.cell? ⟨w.heap.size, 0, none⟩ = some (.pointer (some ⟨g, 0, none⟩)) := by
    rw [World.cell?_of_block (w := (w.alloc (.cells #[.pointer (some ⟨g, 0, none⟩)] 214)).alloc (.cells Z113 113)) (w' := w1) (a := ⟨w.heap.size, 0, none⟩) (hs1.block w.heap.size (by simp; omega) (by omega))]; exact hpA
  have hfit1 : fits w1 (w.heap.size + 1) 32 = true := by rw [fits_of (hs1.block (w.heap.size + 1) (by simp) (by omega))]; simp [go_sem]
  have hld := hh1.ld113
  have hs01 : Sole g w w1 := (Sole.of_below hbA).trans hs1
  have hl : (Sha.sum all).length = 32 := Sha.sumBehind_length _ _ _
  have HT : Hid (ToldL (w1.setRow (w.heap.size + 1) (E8 (Sha.sum all))) g ⟨1, 0⟩ all) := ⟨st2, rest2, by
    obtain ⟨a1, a2, a3, a4⟩ := hh1
    exact ⟨by rw [setRow_other w1 (w.heap.size + 1) g _ (by omega)]; exact a1, a2, a3, a4⟩⟩
  have hs2 : Sole g w (w1.setRow (w.heap.size + 1) (E8 (Sha.sum all))) := by
    refine ⟨hs01.os, hs01.tape, hs01.output, by have := hs01.size; simp; exact this, fun k hk hkg => ?_⟩
    rw [setRow_other w1 (w.heap.size + 1) k _ (by omega)]; exact hs01.block k hk hkg
  clear hh1 hs1 hs01
  generalize hSS : Sha.sum all = SS at *
  have HSS := hide hSS
  clear hSS
  go_wp2
  exact bodyPost_ret (results_at Tryz.results153 _ _ hfit1 rfl hl) rfl ⟨by rw [unhide HSS], unhide HT, hs2⟩
end Go.Proofs.YtebcmicmklpflaaGreatDoor.Dg
/- Two arrays of the same bytes are equal. -/
namespace Go.Proofs.YtebcmicmklpflaaGreatDoor.Dg
open Go.RowKit Go.Great
theorem part5 (w : World) (l : List Nat) (i : Nat) (h : i < l.length) : (part 5 (E8 l) i).run Tryz.prog w = .ok (.int .u8 ((Sha.nth l i : Nat) : Int)) w := by
  simp [part, go_sem, h]
theorem cells5 : Tryz.prog.cellsOf 5 = 1 := by kernel_rfl
theorem eqItems_same (w : World) (l : List Nat) : ∀ is : List Nat, (∀ i ∈ is, i < l.length) → (Op.eqItems 9999 5 1 (E8 l) (E8 l) is).run Tryz.prog w = .ok true w
  | [], _ => by simp [Op.eqItems]
  | i :: is, h => by
    have h1 := part5 w l i (h i (by simp))
    have h2 := eqItems_same w l is (fun j hj => h j (by simp [hj]))
    have h3 : (Op.equalIn 9999 5 (.int .u8 ((Sha.nth l i : Nat) : Int)) (.int .u8 ((Sha.nth l i : Nat) : Int))).run Tryz.prog w = .ok true w := by
      rw [show (9999 : Nat) = 9998 + 1 from rfl, run_equalIn_int w 9998 5 .u8 .u8 _ _ Tryz.underlying5]; simp
    simp only [Op.eqItems, Sem.run_bind, Nat.mul_one, h1, Result.andThen_ok, h3]
    simp [h2]
theorem eq_same (w : World) (t n : Nat) (l : List Nat) (hu : Tryz.prog.underlying t = some (.array n 5)) (hl : l.length = n) :
    (Op.equalIn 10000 t (.agg (E8 l)) (.agg (E8 l))).run Tryz.prog w = .ok true w := by
  obtain ⟨i, hi, -, -, -⟩ := info5_at
  rw [show (10000 : Nat) = 9999 + 1 from rfl, run_equalIn_array w 9999 (E8 l) (E8 l) hu hi, cells5]
  exact eqItems_same w l _ (fun j hj => by rw [hl]; exact List.mem_range.1 hj)
@[go_sem] theorem eq113 (w : World) (l : List Nat) (hl : l.length = 32) : (Op.equalIn 10000 113 (.agg (E8 l)) (.agg (E8 l))).run Tryz.prog w = .ok true w := eq_same w 113 32 l Tryz.underlying113 hl
theorem run_eqB (w : World) (l : List Nat) (hl : l.length = 32) : (binOp .eql 113 (.agg (E8 l)) (.agg (E8 l))).run Tryz.prog w = .ok (.bool true) w := by
  rw [run_eql_struct, eq113 w l hl]; rfl
theorem guard113 : Tryz.prog.eqGuardType Tryz.prog.depth 113 = false := by kernel_rfl
end Go.Proofs.YtebcmicmklpflaaGreatDoor.Dg
