/- The state behind all blocks of a row of bytes: the code's addBlocks. -/
import Derived.Test.YtdkhmjiconedkaaMix
namespace Go.Proofs.Ytdkhmjiconedkaa
open Go.RowKit Go.Great

/-- A slice value whose bytes lie in a block that was there. -/
def BytesAt (w : World) (v : Value) (m : List Nat) : Prop :=
  ∃ a cap, v = .slice a m.length cap ∧ m.length ≤ cap ∧ (0 < m.length → ∃ b o, a = some ⟨b, o, none⟩ ∧ b < w.heap.size ∧ ∀ i, i < m.length → w.cell? ⟨b, o + i, none⟩ = some (.int .u8 ((Sha.nth m i : Nat) : Int)))
theorem BytesAt.below {w w' : World} {v : Value} {m : List Nat} (h : BytesAt w v m) (hb : Below w.heap.size w w') : BytesAt w' v m := by
  obtain ⟨a, cap, e, hc, hm⟩ := h
  refine ⟨a, cap, e, hc, fun hp => ?_⟩
  obtain ⟨b, o, ea, hl, hcell⟩ := hm hp
  exact ⟨b, o, ea, Nat.lt_of_lt_of_le hl hb.size, fun i hi => by rw [hb.cell (p := ⟨b, o + i, none⟩) hl]; exact hcell i hi⟩

/-- The first i words of l, each grown by that of m. -/
def addTo (l m : List Nat) : Nat → List Nat
  | 0 => l
  | i + 1 => (addTo l m i).set i (Sha.add (Sha.nth l i) (Sha.nth m i))
theorem addTo_length (l m : List Nat) (i : Nat) : (addTo l m i).length = l.length := by
  induction i with
  | zero => rfl
  | succ i ih => simp [addTo, ih]
theorem addTo_nth (l m : List Nat) (i : Nat) : ∀ j, i ≤ j → Sha.nth (addTo l m i) j = Sha.nth l j := by
  induction i with
  | zero => intro j _; rfl
  | succ i ih =>
    intro j hj
    rw [← ih j (by omega)]
    show Sha.nth ((addTo l m i).set i _) j = _
    unfold Sha.nth
    rw [List.getElem?_set_ne (by omega)]
theorem addTo_plus (s t : Sha.St) : addTo s.list t.list 8 = (Sha.plus s t).list := rfl

/-- What holds between two rounds over blocks: the state's box, the result's, the rounds' numbers. -/
structure AB (w wr : World) (kb : Nat) (l : List Nat) : Prop where
  bel : Below w.heap.size w wr
  st : rowOf wr w.heap.size = E32 l
  fst : fits wr w.heap.size 8 = true
  fres : fits wr (w.heap.size + 1) 8 = true
  k : rowOf wr kb = E32 Sha.K
  klo : w.heap.size + 1 < kb
  khi : kb < wr.heap.size
theorem AB.below {w wr wr' : World} {kb : Nat} {l : List Nat} (h : AB w wr kb l) (hb : Below wr.heap.size wr wr') : AB w wr' kb l := by
  have h1 := h.klo
  have h2 := h.khi
  exact ⟨h.bel.trans (hb.mono h.bel.size), by rw [below_rowOf hb (by omega)]; exact h.st, by rw [below_fits hb (by omega)]; exact h.fst, by rw [below_fits hb (by omega)]; exact h.fres,
    by rw [below_rowOf hb h2]; exact h.k, h1, Nat.lt_of_lt_of_le h2 hb.size⟩
theorem AB.alloc {w wr : World} {kb : Nat} {l : List Nat} (h : AB w wr kb l) (o : Obj) : AB w (wr.alloc o) kb l :=
  h.below ((Below.refl _ _).alloc (Nat.le_refl _) o)
theorem AB.drews {w wr : World} {kb : Nat} {l : List Nat} (h : AB w wr kb l) (n : Nat) : AB w (wr.drewN n) kb l :=
  h.below (below_drews (Below.refl _ _) n)
theorem rowOf_setCell_at (w : World) (b n i : Nat) (v : Value) (h : fits w b n = true) : rowOf (w.setCell ⟨b, i, none⟩ v) b = (rowOf w b).setIfInBounds i v := by
  obtain ⟨cs, t, e, -, er⟩ := fits_some h
  rw [setCell_eq_setRow w b i cs t (0, 0) v e, er]
  exact rowOf_setRow_at w b n _ h
theorem fits_setCell_at (w : World) (b n i : Nat) (v : Value) (h : fits w b n = true) : fits (w.setCell ⟨b, i, none⟩ v) b n = true := by
  obtain ⟨cs, t, e, es, er⟩ := fits_some h
  rw [setCell_eq_setRow w b i cs t (0, 0) v e]
  unfold fits
  rw [setRow_heap w b cs _ t _ e]
  simp [es]
theorem AB.set {w wr : World} {kb : Nat} {l : List Nat} (h : AB w wr kb l) (i n : Nat) : AB w (wr.setCell ⟨w.heap.size, i, none⟩ (.int .u32 (n : Int))) kb (l.set i n) := by
  have h1 := h.klo
  have h2 := h.khi
  refine ⟨h.bel.setCell (Nat.le_refl _) _, ?_, fits_setCell_at _ _ _ _ _ h.fst, ?_, ?_, h1, ?_⟩
  · rw [rowOf_setCell_at _ _ _ _ _ h.fst, h.st, E32_set]
  · rw [fits_setCell_other _ _ _ _ _ (by simp)]; exact h.fres
  · rw [rowOf_setCell_other _ _ _ _ (by simp; omega)]; exact h.k
  · simp [World.setCell]; omega

def lenOf : Value → Nat
  | .slice _ l _ => l
  | _ => 0
theorem nth_take (m : List Nat) (j i : Nat) (hi : i < 64) : Sha.nth ((m.drop j).take 64) i = Sha.nth m (j + i) := by
  unfold Sha.nth; rw [List.getElem?_take_of_lt hi, List.getElem?_drop]
theorem bytes_take {m : List Nat} (h : Sha.Bytes m) (j n : Nat) : Sha.Bytes ((m.drop j).take n) := fun x hx => h x (List.mem_of_mem_drop (List.mem_of_mem_take hx))

set_option maxRecDepth 20000 in
set_option maxHeartbeats 2000000 in
theorem addBlocks_any (s : Sha.St) (v : Value) (m : List Nat) (n : Nat) (w : World) (hs : s.ok) (hv : BytesAt w v m) (hm : Sha.Bytes m) (hn : m.length = 64 * n) (hmax : m.length ≤ 4611686018427387904) :
    Calls Try.prog 38 #[.agg (E32 s.list), v] w fun e w' => e = .returned (.agg (E32 (Sha.blocks s m n).list)) ∧ Below w.heap.size w w' := by
  obtain ⟨G, hG⟩ : ∃ G : Nat → Sha.St, G = Sha.blocks s m := ⟨_, rfl⟩
  have h0 : s = G 0 := by rw [hG]; rfl
  have HN : Hid (∀ j, G (j + 1) = Sha.plus (G j) (Sha.rounds (G j) (Sha.sched ((m.drop (64 * j)).take 64)) 64)) := fun j => by rw [hG]; rfl
  have hok : ∀ j, (G j).ok := fun j => by rw [hG]; exact Sha.blocks_ok hs m j
  have HE : Hid (Sha.blocks (G 0) m n = G n) := by rw [← h0, hG]; exact rfl
  have HM : Hid (m.length = 64 * n) := hn
  rw [h0]
  clear hG h0 hn
  obtain ⟨a0, cap, rfl, hcap, hbytes⟩ := hv
  have hs8 := list_eight (G 0)
  go_enter Try.func38, Try.ntmps38
  go_wp2_with fail
  refine (roundNumbers_any _).mono ?_; rintro e w1 ⟨rfl, hb1⟩
  have hz : w.heap.size + 2 ≤ w1.heap.size := by have := hb1.size; simp at this; omega
  have hab : AB w (w1.alloc (.cells (E32 Sha.K) 54)) w1.heap.size (G 0).list := by
    have hb0 : Below (w.heap.size + 2) ((w.alloc (.cells (E32 (G 0).list) 50)).alloc (.cells #[Value.int .u32 0, .int .u32 0, .int .u32 0, .int .u32 0, .int .u32 0, .int .u32 0, .int .u32 0, .int .u32 0] 50)) w1 := hb1.mono (by simp)
    refine ⟨(((((Below.refl _ _).alloc (Nat.le_refl _) _).alloc (by simp) _).trans (hb0.mono (by omega))).alloc (by omega) _), ?_, ?_, ?_, ?_, by omega, by simp⟩
    · rw [rowOf_alloc_past _ _ _ (by omega), below_rowOf hb0 (by omega)]; simp [go_sem]
    · rw [fits_alloc_past _ _ _ _ (by omega), below_fits hb0 (by omega)]; simp [go_sem]
    · rw [fits_alloc_past _ _ _ _ (by omega), below_fits hb0 (by omega)]; simp [go_sem]
    · simp [go_sem]
  clear hb1
  generalize hkb : w1.heap.size = kb at *
  go_wp2_with fail
  go_loopw [1] (fun v wr => ∃ (j L c : Nat) (a : Option Addr), L + 64 * j = m.length ∧ v = .slice a L c ∧ L ≤ c ∧ (64 ≤ L → ∃ b o, a = some ⟨b, o, none⟩ ∧ b < w.heap.size ∧ ∀ i, i < L → w.cell? ⟨b, o + i, none⟩ = some (.int .u8 ((Sha.nth m (64 * j + i) : Nat) : Int))) ∧ AB w wr kb (G j).list) (fun v _ => lenOf v)
  case atStart => 
    refine ⟨0, m.length, cap, a0, by omega, rfl, hcap, fun h => ?_, hab⟩
    obtain ⟨b, o, e, hb, hc⟩ := hbytes (by omega)
    exact ⟨b, o, e, hb, fun i hi => by rw [hc i hi]; simp⟩
  case round =>
    obtain ⟨j, L, c, a, hL, rfl, hLc, hcells, hab'⟩ := hrel
    clear hab hbytes
    by_cases hlt : 64 ≤ L
    · obtain ⟨b, o, rfl, hbw, hc⟩ := hcells hlt
      have hwr : w.heap.size ≤ wr.heap.size := hab'.bel.size
      go_wp2_with fail
      refine (schedule_any b o c ((m.drop (64 * j)).take 64) wr (bytes_take hm _ _) (by omega) (by omega) (fun i hi => ?_)).mono ?_
      · rw [hab'.bel.cell (p := ⟨b, o + i, none⟩) hbw, hc i (by omega), nth_take m (64 * j) i hi]
      rintro e w2 ⟨rfl, hb2⟩
      have hab2 := hab'.below hb2
      have HC : Hid (∀ i, i < L → w.cell? ⟨b, o + i, none⟩ = some (.int .u8 ((Sha.nth m (64 * j + i) : Nat) : Int))) := hc
      clear hab' hb2 hc hcells
      have hN := HN.out j
      generalize hP : Sha.sched ((m.drop (64 * j)).take 64) = ps at *
      have hps : ps.length = 64 := by rw [← hP]; exact Sha.sched_length _
      generalize hT : Sha.rounds (G j) ps 64 = t at *
      have HT : Hid (Sha.rounds (G j) ps 64 = t) := hT
      have HNj : Hid (G (j + 1) = Sha.plus (G j) t) := hN
      clear hP hT hN
      have hst2 := hab2.st
      have hk1 := hab2.klo
      have hk2 := hab2.khi
      have hN2 : w.heap.size < w2.heap.size := by omega
      have l8 := list_eight (G j)
      go_wp2_with fail
      have hab3 := hab2.alloc (.cells (E32 ps) 54)
      refine (mix_any (G j) kb w2.heap.size ps _ (hok j) hab3.khi (by simp) hab3.k (rowOf_alloc_at _ _ _ _ rfl) hps).mono ?_
      rw [HT.out]
      rintro e w4 ⟨rfl, hb4⟩
      have hab4 := hab3.below hb4
      have l8t := list_eight t
      have hk4 := hab4.klo
      have hk5 := hab4.khi
      clear hab2 hab3 hst2 hb4 hk1 hk2 hN2 hps HT
      go_wp2_with fail
      go_loopw [20] (fun q wr => ∃ i : Nat, i ≤ 8 ∧ q = .int .i64 (i : Int) ∧ AB w wr kb (addTo (G j).list t.list i) ∧ rowOf wr w4.heap.size = E32 t.list) (fun q _ => 8 - (intOf q).toNat)
      case atStart => exact ⟨0, by omega, rfl, hab4.alloc _, rowOf_alloc_at _ _ _ _ rfl⟩
      case round =>
        obtain ⟨i, hi, rfl, hab, hrt⟩ := hrel
        have hbel := hab.bel.size
        have hst := hab.st
        have hfst := hab.fst
        have hlen := addTo_length (G j).list t.list i
        by_cases hi8 : i < 8
        · have hc1 : wr.cell? ⟨w.heap.size, i, none⟩ = some (.int .u32 ((Sha.nth (G j).list i : Nat) : Int)) := by
            rw [← addTo_nth (G j).list t.list i i (Nat.le_refl _)]
            exact cell_row _ _ _ _ (by rw [hst]; exact E32_get _ _ (by omega))
          have hc2 : wr.cell? ⟨w4.heap.size, i, none⟩ = some (.int .u32 ((Sha.nth t.list i : Nat) : Int)) := cell_row _ _ _ _ (by rw [hrt]; exact E32_get _ _ (by omega))
          have hfz := frozen_fits hfst i
          have HR : Hid (rowOf wr w4.heap.size = E32 t.list) := hrt
          clear hst hfst hlen hrt hab4
          go_wp2
          go_region
          go_wp2
          go_roundw
          case rel => exact ⟨i + 1, by omega, by go_num, (hab.set i _).drews 1, by rw [rowOf_drew, rowOf_setCell_other _ _ _ _ (by simp; omega)]; exact HR.out⟩
          case measure => simp [intOf]; omega
        · have hi' : i = 8 := by omega
          subst hi'
          rw [addTo_plus, ← HNj.out] at hab
          clear hst hfst hlen hrt hab4 HNj
          go_wp2
          refine ⟨⟨j + 1, L - 64, c - 64, _, by omega, rfl, by omega, fun h => ⟨b, o + 64, if_neg (by omega), hbw, fun i hi => ?_⟩, hab⟩, by simp [lenOf]; omega⟩
          have := HC.out (64 + i) (by omega)
          rw [show o + 64 + i = o + (64 + i) by omega, this, show 64 * (j + 1) + i = 64 * j + (64 + i) by omega]
    · have hj : j = n := by have := HM.out; omega
      subst hj
      have hst := hab'.st
      have hfres := hab'.fres
      have l8 := list_eight (G j)
      clear hcells hok
      go_wp2
      exact bodyPost_ret (v := .agg (E32 (G j).list)) (res50 Try.results38 rfl (rowOf_setRow_at _ _ 8 _ hfres) (by simp)) rfl ⟨by rw [HE.out], below_setRow hab'.bel (by omega) _⟩
end Go.Proofs.Ytdkhmjiconedkaa
