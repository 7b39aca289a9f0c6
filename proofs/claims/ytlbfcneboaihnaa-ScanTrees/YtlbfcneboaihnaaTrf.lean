/- TreeRefs: those of some paths that stand in a tree. -/
import Derived.Test.YtlbfcneboaihnaaLtr
import Derived.Test.YtlbfcneboaihnaaK4
namespace Go.Proofs.Ytlbfcneboaihnaa
open Go.RowKit Go.Great Go.ChangeMaps Go.MapKept
set_option linter.unusedSimpArgs false
def FoundT (L : List (List Nat)) (p : Ord.S) : Prop := IsP p ∧ StandsIn L (digsOf p)
open Classical in
/-- Those that stand in pieces, rising, each once. -/
noncomputable def refsT (L : List (List Nat)) (of : List Ord.S) : List Ord.S := Ord.uniq (of.filter fun p => decide (FoundT L p))
open Classical in
theorem refsT_mem (L : List (List Nat)) (of : List Ord.S) (x : Ord.S) : x ∈ refsT L of ↔ x ∈ of ∧ FoundT L x := by
  unfold refsT; rw [Ord.uniq_mem]; simp
theorem refsT_rises (L : List (List Nat)) (of : List Ord.S) : Ord.Rises (refsT L of) := Ord.uniq_rises _
theorem refsT_length (L : List (List Nat)) (of : List Ord.S) : (refsT L of).length ≤ of.length := Nat.le_trans (Ord.uniq_length _) (List.length_filter_le _ _)
theorem refsT_one (B : List Nat) (of : List Ord.S) : refsT [B] of = refsOf B of := by
  refine Ord.rises_eq (refsT_rises _ _) (refsOf_rises _ _) fun x => ?_
  rw [refsT_mem, refsOf_mem]
  unfold FoundT FoundIn
  rw [standsIn_cons]
  simp [StandsIn]
open Classical in
theorem rises_len {R of : List Ord.S} (h : Ord.Rises R) (hm : ∀ x ∈ R, x ∈ of) : R.length ≤ of.length := by
  have e : R = Ord.uniq (of.filter fun p => decide (p ∈ R)) := Ord.rises_eq h (Ord.uniq_rises _) fun x => by
    rw [Ord.uniq_mem]
    simp only [List.mem_filter, decide_eq_true_iff]
    exact ⟨fun hx => ⟨hm x hx, hx⟩, fun hx => hx.2⟩
  rw [e]
  exact Nat.le_trans (Ord.uniq_length _) (List.length_filter_le _ _)
open Classical in
/-- What both TreeRefs answer. -/
noncomputable def trefs (T : Tn.Tr) (of : List Ord.S) : List Ord.S := if (Tn.chk T 1 0).1 = 0 then refsT (pcs T) of else []
open Classical in
theorem metOf_refsT {L : List (List Nat)} {of : List Ord.S} {D : DataW Unit} (h : ∀ p, IsP p → p ∈ of → (Maps.has D (rowKey (digsOf p)) = true ↔ ¬ StandsIn L (digsOf p))) : metOf D (Ord.uniq (pathsOf of)) = refsT L of := by
  refine Ord.rises_eq ?_ (refsT_rises L of) fun x => ?_
  · unfold metOf
    exact List.Pairwise.sublist List.filter_sublist (Ord.uniq_rises _)
  · rw [refsT_mem]
    unfold metOf
    rw [List.mem_filter, Ord.uniq_mem, pathsOf_mem]
    constructor
    · rintro ⟨⟨h1, h2⟩, h3⟩
      refine ⟨h1, h2, ?_⟩
      have := h x h2 h1
      by_cases hs : StandsIn L (digsOf x)
      · exact hs
      · rw [this.2 hs] at h3; cases h3
    · rintro ⟨h1, h2, h3⟩
      refine ⟨⟨h1, h2⟩, ?_⟩
      cases hh : Maps.has D (rowKey (digsOf x)) with
      | false => rfl
      | true => exact absurd h3 ((h x h2 h1).1 hh)
set_option maxRecDepth 20000 in
set_option maxHeartbeats 1000000 in
theorem treeRefs_any (T : Tn.Tr) (lo hi : Nat) (cs : List Value) (a' : Option Addr) (m c' : Nat) (of : List Ord.S) (w : World) (hL : Tn.Lies lo hi w T cs) (hF : Tn.Fit T) (hhi : hi ≤ w.heap.size)
    (hx : StrsAt w (.slice a' m c') of) (hm : of.length = m) (hz : ∀ z ∈ of, z.length ≤ 281474976710656) (hmax : m ≤ 100000) :
    Calls Try.prog 15 #[.agg cs.toArray, .slice a' m c'] w fun e w' => ∃ u, e = .returned u ∧ StrsAt w' u (trefs T of) ∧ Below w.heap.size w w' := by
  obtain ⟨kt, xt, at0, nt, ct, bt, mt, dt, et, pt, qt, rfl⟩ := hL.form
  obtain ⟨wA, hwA⟩ : ∃ wA, wA = w.alloc (.cells #[.int .i64 kt, .bool xt, .slice at0 nt ct, .slice bt mt dt, .slice et pt qt] 34) := ⟨_, rfl⟩
  have hbA : Below w.heap.size w wA := by rw [hwA]; exact (Below.refl _ _).alloc (Nat.le_refl _) _
  have HC := hide (fun W (h : Below w.heap.size w W) => Tn.check_any T lo hi _ W (hL.kept h hhi) hF (by have := h.size; omega))
  have HSf := hide (fun W (h : Below w.heap.size w W) => searchFor_any a' m c' of W (hx.below h) hm hz hmax)
  have HLF := hide (And.intro hL (And.intro hF (And.intro hm hz)))
  clear hL hF hx hz hm
  have hxA : wA.heap[w.heap.size]? = some (.cells #[.int .i64 kt, .bool xt, .slice at0 nt ct, .slice bt mt dt, .slice et pt qt] 34) := by rw [hwA]; exact Tn.bx_new w _ _ _ _ _
  have HA := hide (And.intro hbA hxA)
  have HwA := hide hwA
  clear hwA hbA hxA
  go_enter Try.func15, Try.ntmps15
  go_wp2_with fail
  rw [← unhide HwA]
  refine (unhide HC wA (unhide HA).1).mono ?_
  rintro e w1 ⟨rfl, hb1⟩
  have hzA := (Array.getElem?_eq_some_iff.1 (unhide HA).2).1
  have hx1 : w1.heap[w.heap.size]? = some (.cells #[.int .i64 kt, .bool xt, .slice at0 nt ct, .slice bt mt dt, .slice et pt qt] 34) := by rw [hb1.block _ hzA]; exact (unhide HA).2
  have hbw1 : Below w.heap.size w w1 := (unhide HA).1.trans (hb1.mono (unhide HA).1.size)
  have HB1 := hide hbw1
  have HX1 := hide hx1
  have HTr : Hid (trefs T of = if (Tn.chk T 1 0).1 = 0 then refsT (pcs T) of else []) := rfl
  clear HC hb1 hbw1 hx1 HwA HA hzA
  by_cases hc1 : (Tn.chk T 1 0).1 = 0
  case neg =>
    rw [if_neg hc1] at HTr
    have hn1 : ¬ (((Tn.chk T 1 0).1 : Int) = 0) := by omega
    clear hc1
    generalize (Tn.chk T 1 0).1 = c1 at *
    go_wp2_with fail
    go_ret
    exact ⟨_, rfl, by rw [unhide HTr]; exact ⟨none, 0, rfl, Nat.le_refl _, fun h => by simp at h⟩, unhide HB1⟩
  rw [if_pos hc1] at HTr
  have HV := hide (Tn.chk_vld T 1 0 hc1).1
  rw [hc1]
  clear hc1
  have HSf1 := hide (unhide HSf w1 (unhide HB1))
  go_wp2_with fail
  refine (unhide HSf1).mono ?_
  rintro e w2 ⟨rfl, vp, hm2, hp2⟩
  obtain ⟨D, ho2, hD2⟩ := hm2.set
  have hzw1 := (unhide HB1).size
  have hx2 : w2.heap[w.heap.size]? = some (.cells #[.int .i64 kt, .bool xt, .slice at0 nt ct, .slice bt mt dt, .slice et pt qt] 34) := by rw [hm2.below.block _ (Array.getElem?_eq_some_iff.1 (unhide HX1)).1]; exact unhide HX1
  have hbw2 : Below w.heap.size w w2 := (unhide HB1).trans (hm2.below.mono hzw1)
  have HLT := hide (lookTree_any T lo hi _ w2 (w1.heap.size + 1) w1.heap.size m D ((unhide HLF).1.kept hbw2 hhi) (unhide HLF).2.1 (unhide HV) (by omega) (by have := hbw2.size; omega) hm2.cell1 ho2)
  obtain ⟨y0, y1, y2, y3, y4⟩ := box_cells hx2
  have HM2 := hide (And.intro hm2 (And.intro hp2 (And.intro hD2 (And.intro ho2 hbw2))))
  clear hm2 hp2 hD2 ho2 hx2 hbw2 HSf1 HSf HX1
  go_wp2_with fail
  refine (unhide HLT).mono ?_
  rintro e w3 ⟨rfl, hs3, hc3, D', ho3, hhas⟩
  obtain ⟨hm2, hp2, hD2, ho2, hbw2⟩ := unhide HM2
  have hp3 := strs_solo hp2 hs3 ho2
  have hsz2 := hm2.size
  have hc0 : w3.cell? ⟨w1.heap.size + 1, 0, none⟩ = some vp := by
    rw [World.cell?_of_block (w := w2) (a := ⟨w1.heap.size + 1, 0, none⟩) (hs3.block (w1.heap.size + 1) (by omega) (by omega))]; exact hm2.cell0
  have hbl3 : Below w.heap.size w w3 := below_solo hbw2 hs3 hzw1 (by have := hbw2.size; omega)
  obtain ⟨a3, m3, c3, rfl, hm3⟩ : ∃ a3 m3 c3, vp = .slice a3 m3 c3 ∧ (Ord.uniq (pathsOf of)).length = m3 := by
    obtain ⟨a3, c3, e, _⟩ := hp3
    exact ⟨a3, _, c3, e, rfl⟩
  have hle : m3 ≤ m := by
    have h1 := Ord.uniq_length (pathsOf of)
    have h2 := pathsOf_length of
    have h3 := (unhide HLF).2.2.1
    omega
  have HMT := hide (met_any (w1.heap.size + 1) w1.heap.size m D' a3 m3 c3 (Ord.uniq (pathsOf of)) w3 hc0 hc3 ho3 hp3 hm3 (fun z hz => by
    rw [Ord.uniq_mem, pathsOf_mem] at hz
    exact ⟨hz.2, (unhide HLF).2.2.2 z hz.1⟩) (by omega))
  have HR : Hid (metOf D' (Ord.uniq (pathsOf of)) = refsT (pcs T) of) := metOf_refsT fun p hp hpo => by
    obtain ⟨h1, h2, h3⟩ := digs_ok hp
    rw [hhas _ h1 h2 h3, hD2 _ h1 h2]
    exact ⟨fun h => h.2, fun h => ⟨⟨p, (pathsOf_mem _ _).2 ⟨hpo, hp⟩, rfl⟩, h⟩⟩
  have HB3 := hide hbl3
  clear hp3 hc0 hbl3 hs3 hc3 ho3 hhas hm2 hp2 hD2 ho2 hbw2 HLT y0 y1 y2 y3 y4 HM2
  go_wp2_with fail
  refine (unhide HMT).mono ?_
  rintro e w4 ⟨u, rfl, hu, hb4⟩
  have HE : Hid (StrsAt w4 u (trefs T of) ∧ Below w.heap.size w w4) := ⟨by rw [unhide HTr, ← unhide HR]; exact hu, (unhide HB3).trans (hb4.mono (unhide HB3).size)⟩
  clear hu hb4 HMT
  go_wp2_with fail
  go_ret
  exact ⟨_, rfl, unhide HE⟩
end Go.Proofs.Ytlbfcneboaihnaa
