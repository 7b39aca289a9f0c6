/- A group is read. -/
import Derived.Test.YtebcmicmklpflaaGreatDoorRg
import Derived.Test.YtebcmicmklpflaaGreatDoorRf
import Derived.Test.YtebcmicmklpflaaGreatDoorK3
namespace Go.Proofs.YtebcmicmklpflaaGreatDoor
open Go.RowKit Go.Maps
set_option linter.unusedSimpArgs false
/-- Bytes that lie from a place on. -/
def Lies (w : World) (g o : Nat) (B : List UInt8) : Prop := ∀ i u, (byteVals B)[i]? = some u → w.cell? ⟨g, o + i, none⟩ = some u
theorem Lies.part {w : World} {g o : Nat} {X Y Z : List UInt8} (h : Lies w g o (X ++ (Y ++ Z))) : Lies w g (o + X.length) Y := fun i u hi => by
  have hi' := (List.getElem?_eq_some_iff.1 hi).1
  rw [Nat.add_assoc]
  refine h (X.length + i) u ?_
  rw [byteVals_append, byteVals_append, List.getElem?_append_right (by rw [byteVals_len]; omega), byteVals_len, Nat.add_sub_cancel_left, List.getElem?_append_left hi']
  exact hi
theorem Lies.below {w w' : World} {g o : Nat} {B : List UInt8} (h : Lies w g o B) (hb : w'.heap[g]? = w.heap[g]?) : Lies w' g o B := fun i u hi => by
  rw [World.cell?_of_block (w := w) (a := ⟨g, o + i, none⟩) hb]; exact h i u hi
theorem Lies.num {w : World} {g o n : Nat} (h : Lies w g o (num n)) (hn : n < 16777216) : w.cell? ⟨g, o, none⟩ = some (.int .u8 ((n / 65536 : Nat) : Int)) ∧ w.cell? ⟨g, o + 1, none⟩ = some (.int .u8 ((n / 256 % 256 : Nat) : Int)) ∧ w.cell? ⟨g, o + 2, none⟩ = some (.int .u8 ((n % 256 : Nat) : Int)) := by
  have e0 : n / 65536 % 256 = n / 65536 := by omega
  refine ⟨h 0 _ ?_, h 1 _ ?_, h 2 _ ?_⟩
  all_goals simp [byteVals, Go.Proofs.YtebcmicmklpflaaGreatDoor.num, UInt8.toNat_ofNat', e0]
theorem Lies.row {w : World} {g o c : Nat} {B : List UInt8} (h : Lies w g o B) (hg : g < w.heap.size) (hc : B.length ≤ c) : Row w.heap.size w (.slice (some ⟨g, o, none⟩) B.length c) B := ⟨_, c, rfl, hc, fun _ => ⟨g, o, rfl, hg, h⟩⟩
theorem lies_ld {w : World} {g X : Nat} {B : List UInt8} (h : Lies w g X B) (hl : B.length = 32) : (Dg.ld113 (.pointer (some ⟨g, X, none⟩))).run Tryz.prog w = .ok (.agg (Dg.E8 (nats B))) w := by
  have e0 : byteVals B = (nats B).map Dg.B8 := by simp [byteVals, nats, Dg.B8, Function.comp_def]
  have : (loadCells ⟨g, X, none⟩ 32).run Tryz.prog w = .ok ((nats B).map Dg.B8).toArray w := by
    have e : 32 = ((nats B).map Dg.B8).length := by rw [List.length_map, nats_len, hl]
    rw [e]
    refine run_loadCells_list (P := Tryz.prog) (w := w) ⟨g, X, none⟩ ((nats B).map Dg.B8) (fun j v hj => ?_)
    rw [Addr.add_mid]
    exact h j v (by rw [e0]; exact hj)
  unfold Dg.ld113
  simp only [Instr.loadAt, Instr.sureAddr, Sem.run_bind, Sem.run_pure, Result.andThen]
  exact Dg.loadVar_of w 113 32 _ _ _ Tryz.underlying113 rfl (zero_of_info Dg.Z113_info).2 this
theorem arr_at (g X c : Nat) (w : World) : (Instr.arrayAt 113 (.slice (some ⟨g, X, none⟩) 32 c)).run Tryz.prog w = .ok (.pointer (some ⟨g, X, none⟩)) w := by
  simp [Instr.arrayAt, go_sem, Tryz.underlying113]
theorem run_neB (w : World) (l : List Nat) (hl : l.length = 32) : (binOp .neq 113 (.agg (Dg.E8 l)) (.agg (Dg.E8 l))).run Tryz.prog w = .ok (.bool false) w := by
  rw [run_neq_struct, Dg.eq113 w l hl]; rfl
/-- A group that is being read: its block behind w, its records behind that. -/
structure RG (w W : World) (ah : Option Nat) (rv : Value) (ds : List (List UInt8)) : Prop where
  bel : Below w.heap.size w W
  blk : W.heap[w.heap.size]? = some (grpBlk ah rv 0 0 (Dg.zs 32))
  recs : Recs W (fun b => w.heap.size < b ∧ b < W.heap.size) rv ds
theorem RG.up {w W W' : World} {ah : Option Nat} {rv : Value} {ds : List (List UInt8)} (h : RG w W ah rv ds) (hb : Below W.heap.size W W') : RG w W' ah rv ds :=
  ⟨h.bel.trans (hb.mono h.bel.size), by rw [hb.block _ (Array.getElem?_eq_some_iff.1 h.blk).1]; exact h.blk, h.recs.kept (fun q o => ⟨o.1, Nat.lt_of_lt_of_le o.2 hb.size⟩) (fun q o => hb.block q o.2)⟩
theorem grp_rv {w : World} {q : Nat} {ah : Option Nat} {rv rv' : Value} {dn lk : Int} {dg : List Nat} (h : w.heap[q]? = some (grpBlk ah rv dn lk dg)) : (w.setCell ⟨q, 1, none⟩ rv').heap[q]? = some (grpBlk ah rv' dn lk dg) := by
  unfold grpBlk grpCells at *
  simp [World.setCell, Array.getElem?_modify, h]
theorem RG.step {w W : World} {ah : Option Nat} {rv : Value} {ds : List (List UInt8)} (h : RG w W ah rv ds) (hn : ds.length ≤ 100000) {x : Value} {L0 : List (Nat × Obj)} {W1 : World} {d : List UInt8} (hnd : NewData W.heap.size L0 x d) (hb : Below W.heap.size W W1) (hL : ∀ p ∈ L0, W1.heap[p.1]? = some p.2) :
    ∃ rv' W3, (∀ ty, (appL ty #[rv, .slice (some ⟨W1.heap.size, 0, none⟩) 1 1]).run Tryz.prog (W1.alloc (.cells #[x] 39)) = .ok rv' W3) ∧ (∃ a' c', rv' = .slice a' (ds.length + 1) c') ∧ W3.cell? ⟨w.heap.size, 1, none⟩ = some rv ∧ W3.frozen? ⟨w.heap.size, 1, none⟩ = false ∧ RG w (W3.setCell ⟨w.heap.size, 1, none⟩ rv') ah rv' (ds ++ [d]) := by
  obtain ⟨vals, h1, h2, h3⟩ := h.recs
  have hz1 := hb.size
  have hqW := (Array.getElem?_eq_some_iff.1 h.blk).1
  have hx : Rec W1 (fun b => W.heap.size ≤ b ∧ b < W1.heap.size) x d := Rec.new hnd hL (fun p hp => by
    have h4 := hL p hp
    rcases hnd with ⟨rfl, _⟩ | ⟨g, cap, cur, rfl, _, hlo, _⟩
    · cases hp
    · have := List.mem_singleton.1 hp
      subst this
      exact ⟨hlo, (Array.getElem?_eq_some_iff.1 h4).1⟩)
  have hx1 : x.oneCell' = true := by obtain ⟨_, _, e, _⟩ := hx; rw [e]; rfl
  have h1' : W1.ownsRow 0 39 1 rv ds.length vals := ownsRow_kept h1 (fun q e => hb.block q (h2 q e).2)
  obtain ⟨rv', W3, hr, hg⟩ := rec_grow h1' hn x hx1
  have hz3 := hg.gr.size
  have hold : ∀ b, b ≤ w.heap.size → W3.heap[b]? = W.heap[b]? := fun b h4 => by
    rw [hg.gr.block b (by omega) (fun e => by have := (h2 b e.symm).1; omega), hb.block b (by omega)]
  have hq3 : W3.heap[w.heap.size]? = some (grpBlk ah rv 0 0 (Dg.zs 32)) := by rw [hold _ (Nat.le_refl _)]; exact h.blk
  have hrec := Recs.grown h1 h2 h3 (fun q o => o.2) hb hx hg
  obtain ⟨_, c1, _, _, cz⟩ := grp_cells hq3
  refine ⟨rv', W3, hr, hg.shp, c1, cz 1, ⟨⟨hg.gr.os.trans (hb.os.trans h.bel.os), hg.gr.tape.trans (hb.tape.trans h.bel.tape), hg.gr.output.trans (hb.output.trans h.bel.output), by rw [size_set]; omega, fun b hb' => ?_⟩, grp_rv hq3, hrec.kept (fun q o => ?_) (fun q o => ?_)⟩⟩
  · rw [set_other _ _ _ _ _ (by omega), hold b (by omega)]; exact h.bel.block b hb'
  · rw [size_set]
    rcases o with o | o
    · exact ⟨o.1, by have := o.2; omega⟩
    · exact ⟨by omega, o.2⟩
  · refine set_other _ _ _ _ _ (fun e => ?_)
    rcases o with o | o
    · have := o.1; omega
    · omega
/-- Where the reading of records is. -/
def RdR (g o c : Nat) (ah : Option Nat) (ds : List (List UInt8)) (prev tail : List UInt8) (w : World) (r : Value) (wr : World) (k : Nat) : Prop :=
  r = .slice (some ⟨g, o + 3 + (recB (ds.take k)).length, none⟩) (recB (ds.drop k) ++ (dig prev ds ++ tail)).length (c - 3 - (recB (ds.take k)).length) ∧ ∃ rv, RG w wr ah rv (ds.take k)
theorem lies_k {w : World} {g o : Nat} {ds : List (List UInt8)} {prev tail : List UInt8} (h : Lies w g o (enc prev ds ++ tail)) (k : Nat) : Lies w g (o + 3 + (recB (ds.take k)).length) (recB (ds.drop k) ++ (dig prev ds ++ tail)) := by
  have e : enc prev ds ++ tail = (num ds.length ++ recB (ds.take k)) ++ ((recB (ds.drop k) ++ (dig prev ds ++ tail)) ++ []) := by
    unfold enc pcs
    conv => lhs; rw [← List.take_append_drop k ds]
    rw [recB_append, List.take_append_drop]
    simp only [List.append_assoc, List.append_nil]
  rw [e] at h
  have := h.part
  rwa [List.length_append, num_len, ← Nat.add_assoc] at this
theorem len_k {ds : List (List UInt8)} {prev tail : List UInt8} (k : Nat) : (enc prev ds ++ tail).length = 3 + ((recB (ds.take k)).length + (recB (ds.drop k) ++ (dig prev ds ++ tail)).length) := by
  unfold enc pcs
  conv => lhs; rw [← List.take_append_drop k ds]
  rw [recB_append, List.take_append_drop]
  simp only [List.length_append, num_len]
  omega
/-- What a round of the reading is: the record is cut off, cloned, and joins. -/
theorem read_round (g o c : Nat) (ah : Option Nat) (ds : List (List UInt8)) (prev tail : List UInt8) (w : World) (hL : Lies w g o (enc prev ds ++ tail)) (hg : g < w.heap.size) (hc : (enc prev ds ++ tail).length ≤ c) (hcm : c ≤ 9223372036854775807) (hl : ds.length ≤ 100000) (hwt : wt ds ≤ 10000000) :
    ∀ (k : Nat) (rv : Value) (W : World) (hk : k < ds.length), RG w W ah rv (ds.take k) → ∃ B C : Nat, B = ds[k].length ∧ C = c - 3 - (recB (ds.take k)).length - 3 ∧
      (∃ r2, Calls Tryz.prog 179 #[.slice (some ⟨g, o + 3 + (recB (ds.take k)).length, none⟩) (recB (ds.drop k) ++ (dig prev ds ++ tail)).length (c - 3 - (recB (ds.take k)).length)] W (fun e w' => e = .returned (.tuple #[.slice (some ⟨g, o + 3 + (recB (ds.take k)).length + 3, none⟩) B C, r2, .bool true]) ∧ ∃ p, w' = W.drewN p) ∧ (∃ a m q, r2 = .slice a m q) ∧
        ∀ p, Calls Tryz.prog 57 #[.slice (some ⟨g, o + 3 + (recB (ds.take k)).length + 3, none⟩) B C] (W.drewN p).drew fun e W1 => ∃ a' c' la' lc' W3, e = .returned (.slice a' B c') ∧ W1.cell? ⟨w.heap.size, 1, none⟩ = some rv ∧ w.heap.size < W1.heap.size ∧ (∀ ty, (appL ty #[rv, .slice (some ⟨W1.heap.size, 0, none⟩) 1 1]).run Tryz.prog (W1.alloc (.cells #[.slice a' B c'] 39)) = .ok (.slice la' (k + 1) lc') W3) ∧ W3.cell? ⟨w.heap.size, 1, none⟩ = some rv ∧ W3.frozen? ⟨w.heap.size, 1, none⟩ = false ∧ Hid (RdR g o c ah ds prev tail w r2 (W3.setCell ⟨w.heap.size, 1, none⟩ (.slice la' (k + 1) lc')) (k + 1))) := by
  intro k rv W hk hRG
  have hlk := len_k (ds := ds) (prev := prev) (tail := tail) k
  have hLk := (lies_k hL k).below (hRG.bel.block g hg)
  have hdk : recB (ds.drop k) = num ds[k].length ++ (ds[k] ++ recB (ds.drop (k + 1))) := by rw [List.drop_eq_getElem_cons hk]; rfl
  have hB : ds[k].length ≤ 10000000 := Nat.le_trans (wt_mem (List.getElem_mem hk)) hwt
  have hm0 : 0 < (recB (ds.drop (k + 1)) ++ (dig prev ds ++ tail)).length := by simp only [List.length_append, dig_len]; omega
  have hlen : (recB (ds.drop k) ++ (dig prev ds ++ tail)).length = 3 + (ds[k].length + (recB (ds.drop (k + 1)) ++ (dig prev ds ++ tail)).length) := by
    rw [hdk]; simp only [List.length_append, num_len]; omega
  have hLn : Lies W g (o + 3 + (recB (ds.take k)).length) (num ds[k].length) := by
    have := Lies.part (X := []) (Y := num ds[k].length) (Z := (ds[k] ++ recB (ds.drop (k + 1))) ++ (dig prev ds ++ tail)) (by rw [hdk] at hLk; simpa only [List.nil_append, List.append_assoc] using hLk)
    simpa using this
  have hLp : Lies W g (o + 3 + (recB (ds.take k)).length + 3) ds[k] := by
    have := Lies.part (X := num ds[k].length) (Y := ds[k]) (Z := recB (ds.drop (k + 1)) ++ (dig prev ds ++ tail)) (by rw [hdk] at hLk; simpa only [List.append_assoc] using hLk)
    rwa [num_len] at this
  obtain ⟨n0, n1, n2⟩ := hLn.num (by omega)
  have htk : (recB (ds.take (k + 1))).length = (recB (ds.take k)).length + 3 + ds[k].length := by
    rw [List.take_succ_eq_append_getElem hk, recB_append]; simp only [recB, List.length_append, num_len, List.length_nil]; omega
  refine ⟨ds[k].length, _, rfl, rfl, .slice (some ⟨g, o + 3 + (recB (ds.take k)).length + 3 + ds[k].length, none⟩) (recB (ds.drop (k + 1)) ++ (dig prev ds ++ tail)).length (c - 3 - (recB (ds.take k)).length - 3 - ds[k].length), ?_, ⟨_, _, _, rfl⟩, fun p => ?_⟩
  · rw [hlen]
    exact cut_record g _ ds[k].length _ (c - 3 - (recB (ds.take k)).length) hm0 (by omega) (by omega) (by omega) W n0 n1 n2
  · have hWl : g < W.heap.size := Nat.lt_of_lt_of_le hg hRG.bel.size
    have hRG' : RG w (W.drewN p).drew ah rv (ds.take k) := ⟨⟨hRG.bel.os, hRG.bel.tape, hRG.bel.output, hRG.bel.size, hRG.bel.block⟩, hRG.blk, hRG.recs⟩
    refine (bclone_new W.heap.size (some ⟨g, _, none⟩) ds[k].length _ ds[k] (W.drewN p).drew (hLp.row hWl (by omega)) rfl (Nat.le_refl _) (by omega)).mono fun e W1 ⟨a', c', L0, e1, h1, h2, h3⟩ => ?_
    obtain ⟨rv', W3, hr, ⟨x, y, rfl⟩, c1, z1, hst⟩ := hRG'.step (by rw [List.length_take]; omega) h1 h2 h3
    have hql := (Array.getElem?_eq_some_iff.1 hRG'.blk).1
    have hkl : (ds.take k).length = k := by rw [List.length_take]; omega
    rw [hkl] at hr hst
    refine ⟨a', c', x, y, W3, e1, by rw [h2.cell (p := ⟨w.heap.size, 1, none⟩) hql]; exact (grp_cells hRG'.blk).2.1, Nat.lt_of_lt_of_le hql h2.size, hr, c1, z1, ?_, .slice x (k + 1) y, ?_⟩
    · show Value.slice _ _ _ = Value.slice _ _ _
      rw [htk, show o + 3 + ((recB (ds.take k)).length + 3 + ds[k].length) = o + 3 + (recB (ds.take k)).length + 3 + ds[k].length from by omega, show c - 3 - ((recB (ds.take k)).length + 3 + ds[k].length) = c - 3 - (recB (ds.take k)).length - 3 - ds[k].length from by omega]
    · rw [List.take_succ_eq_append_getElem hk]; exact hst
theorem AhIs.lt {w : World} {ah : Option Nat} {prev : List UInt8} (h : AhIs w ah prev) {q : Nat} (hq : ah = some q) : q < w.heap.size := by
  obtain ⟨_, h9⟩ := h
  rw [hq] at h9
  obtain ⟨_, _, h9⟩ := h9
  exact (Array.getElem?_eq_some_iff.1 h9).1
/-- What is asked for behind the records. -/
theorem read_end (g o c : Nat) (ah : Option Nat) (ds : List (List UInt8)) (prev tail : List UInt8) (w : World) (hL : Lies w g o (enc prev ds ++ tail)) (hg : g < w.heap.size) (hc : (enc prev ds ++ tail).length ≤ c) (hcm : c ≤ 9223372036854775807) (hA : AhIs w ah prev) (hl : ds.length ≤ 100000) (hwt : wt ds ≤ 10000000) (k : Nat) (hkl : k = ds.length) (R : Nat) (hR : R = (recB ds ++ (dig prev ds ++ tail)).length) (rv : Value) (wr : World) (hRG : RG w wr ah rv (ds.take k)) :
    ∃ (X M Q E : Nat) (DG : List Nat), Value.slice (some ⟨g, o + 3 + (recB (ds.take k)).length, none⟩) (recB (ds.drop k) ++ (dig prev ds ++ tail)).length (c - 3 - (recB (ds.take k)).length) = .slice (some ⟨g, X, none⟩) M Q ∧ E = (enc prev ds).length ∧ ((3 + R : Nat) : Int) - (M : Int) + 32 = (E : Int) ∧ 32 ≤ M ∧ M ≤ Q ∧ Q ≤ 9223372036854775807 ∧ DG.length = 32 ∧ (Dg.ld113 (.pointer (some ⟨g, X, none⟩))).run Tryz.prog wr.drew = .ok (.agg (Dg.E8 DG)) wr.drew ∧
      Calls Tryz.prog 107 #[.pointer (some ⟨w.heap.size, 0, none⟩)] wr.drew fun e w' => e = .returned (.agg (Dg.E8 DG)) ∧ (Dg.ld113 (.pointer (some ⟨g, X, none⟩))).run Tryz.prog w' = .ok (.agg (Dg.E8 DG)) w' ∧ Hid (Below w.heap.size w w' ∧ Grp w' (fun b => w.heap.size ≤ b ∧ b < w'.heap.size) w.heap.size ah ds prev) := by
  have hLk := lies_k hL k
  have hlk := len_k (ds := ds) (prev := prev) (tail := tail) k
  rw [hkl, List.take_length] at hRG hLk hlk ⊢
  rw [List.drop_length, show recB [] = [] from rfl, List.nil_append] at hLk hlk ⊢
  have hLd : Lies w g (o + 3 + (recB ds).length) (dig prev ds) := by
    have := Lies.part (w := w) (g := g) (o := o + 3 + (recB ds).length) (X := []) (Y := dig prev ds) (Z := tail) (by rw [List.nil_append]; exact hLk)
    rwa [List.length_nil, Nat.add_zero] at this
  have hzw : w.heap.size < wr.heap.size := (Array.getElem?_eq_some_iff.1 hRG.blk).1
  have hD0 : (dig prev ds ++ tail).length = 32 + tail.length := by rw [List.length_append, dig_len]
  have hen := enc_len prev ds
  have hrl : (recB ds).length = 3 * ds.length + wt ds := by
    have h1 := pcs_len ds
    unfold pcs at h1
    rw [List.length_append, num_len] at h1
    omega
  have hA' : AhIs wr ah prev := hA.below (fun q hq => hRG.bel.block q (hA.lt hq))
  have hAq : ah ≠ some w.heap.size := fun e => Nat.lt_irrefl _ (hA.lt e)
  have hdl : (nats (dig prev ds)).length = 32 := by rw [nats_len, dig_len]
  have hR2 : R = (recB ds).length + (dig prev ds ++ tail).length := by rw [hR, List.length_append]
  have hlen : (enc prev ds ++ tail).length = (enc prev ds).length + tail.length := List.length_append
  generalize hDD : dig prev ds = DD at *
  have hDl : DD.length = 32 := by rw [← hDD]; exact dig_len _ _
  refine ⟨o + 3 + (recB ds).length, (DD ++ tail).length, c - 3 - (recB ds).length, (enc prev ds).length, nats DD, rfl, rfl, by omega, by omega, by omega, by omega, hdl, ?_, ?_⟩
  · exact lies_ld (hLd.below (hRG.bel.block g hg)) hDl
  · refine (digest_first w.heap.size ah rv (Dg.zs 32) (fun b => w.heap.size < b ∧ b < wr.heap.size) ds prev wr.drew hRG.blk (by simp [Dg.zs]) hRG.recs (fun b hb => hb.2) (fun h => Nat.lt_irrefl _ h.1) hA' hAq hl hwt).mono fun e w' ⟨e1, h1, hs⟩ => ?_
    have hz := hs.size
    have hb' : Below w.heap.size w w' := ⟨hs.os.trans hRG.bel.os, hs.tape.trans hRG.bel.tape, hs.output.trans hRG.bel.output, Nat.le_trans hRG.bel.size hz, fun b hb => by rw [hs.block b (Nat.lt_of_lt_of_le hb hRG.bel.size) (by omega)]; exact hRG.bel.block b hb⟩
    refine ⟨by rw [← hDD]; exact e1, lies_ld (hLd.below (hb'.block g hg)) hDl, hb', ⟨Nat.le_refl _, Nat.lt_of_lt_of_le hzw hz⟩, rv, h1, hRG.recs.kept (fun q o => ⟨by have := o.1; omega, Nat.lt_of_lt_of_le o.2 hz⟩) (fun q o => hs.block q o.2 (by have := o.1; omega))⟩
set_option maxRecDepth 20000 in
set_option maxHeartbeats 2000000 in
theorem read_group (g o c : Nat) (ah : Option Nat) (ds : List (List UInt8)) (prev tail : List UInt8) (w : World) (hL : Lies w g o (enc prev ds ++ tail)) (hg : g < w.heap.size) (hc : (enc prev ds ++ tail).length ≤ c) (hcm : c ≤ 9223372036854775807) (hA : AhIs w ah prev) (hl : ds.length ≤ 100000) (hwt : wt ds ≤ 10000000) :
    Calls Tryz.prog 131 #[.pointer (ah.map fun q => ⟨q, 0, none⟩), .slice (some ⟨g, o, none⟩) (enc prev ds ++ tail).length c] w fun e w' => e = .returned (.tuple #[.pointer (some ⟨w.heap.size, 0, none⟩), .int .i64 ((enc prev ds).length : Int)]) ∧ Below w.heap.size w w' ∧ Grp w' (fun b => w.heap.size ≤ b ∧ b < w'.heap.size) w.heap.size ah ds prev := by
  have hel := enc_len prev ds
  have hlen : (enc prev ds ++ tail).length = 3 + (recB ds ++ (dig prev ds ++ tail)).length := by simp only [enc, pcs, List.length_append, num_len, List.append_assoc]
  have hm0 : 0 < (recB ds ++ (dig prev ds ++ tail)).length := by simp only [List.length_append, dig_len]; omega
  have hL0 : Lies w g o (num ds.length) := by
    have : Lies w g (o + ([] : List UInt8).length) (num ds.length) := Lies.part (X := []) (Y := num ds.length) (Z := recB ds ++ (dig prev ds ++ tail)) (by simpa [enc, pcs] using hL)
    simpa using this
  obtain ⟨n0, n1, n2⟩ := hL0.num (by omega)
  have HC := hide (cut_number g o (recB ds ++ (dig prev ds ++ tail)).length c ds.length hm0 (by omega) hcm (by omega) w n0 n1 n2)
  obtain ⟨R, hR⟩ : ∃ R, R = (recB ds ++ (dig prev ds ++ tail)).length := ⟨_, rfl⟩
  rw [hlen]
  rw [← hR] at HC ⊢
  obtain ⟨N, hN⟩ : ∃ N, N = ds.length := ⟨_, rfl⟩
  rw [← hN] at HC
  have HD := hide (And.intro hL (And.intro hg (And.intro hc (And.intro hcm (And.intro hA (And.intro hl (And.intro hwt (And.intro hlen (And.intro hR hN)))))))))
  clear hL hg hc hcm hA hl hwt hlen hR hN n0 n1 n2 hL0 hel hm0
  go_enter Tryz.func131, Tryz.ntmps131
  go_wp2_with fail
  refine (unhide HC).mono ?_
  rintro e w1 ⟨rfl, p, rfl⟩
  obtain ⟨WA, hWA⟩ : ∃ WA, WA = (w.drewN p).alloc (grpBlk ah (.slice none 0 0) 0 0 (Dg.zs 32)) := ⟨_, rfl⟩
  have hRG0 : RG w WA ah (.slice none 0 0) [] := by
    rw [hWA]
    exact ⟨(show Below w.heap.size w (w.drewN p) from ⟨rfl, rfl, rfl, Nat.le_refl _, fun _ _ => rfl⟩).alloc (Nat.le_refl _) _, heap_alloc_new (w.drewN p) _, Recs.nil _ _⟩
  have HRG0 := hide (And.intro hWA hRG0)
  clear hRG0 hWA
  have HRound := hide (read_round g o c ah ds prev tail w (unhide HD).1 (unhide HD).2.1 (unhide HD).2.2.1 (unhide HD).2.2.2.1 (unhide HD).2.2.2.2.2.1 (unhide HD).2.2.2.2.2.2.1)
  go_wp2_with fail
  change Code.wp _ _ _ _ ((w.drewN p).alloc (grpBlk ah (.slice none 0 0) 0 0 (Dg.zs 32)))
  rw [← (unhide HRG0).1]
  go_loopw [23, 7, 8] (fun i r ok wr => ∃ k : Nat, k ≤ N ∧ i = .int .i64 k ∧ ok = .bool true ∧ RdR g o c ah ds prev tail w r wr k) (fun i _ _ _ => N - (intOf i).toNat)
  case atStart =>
    refine ⟨0, Nat.zero_le _, rfl, rfl, ?_, _, by first | exact (unhide HRG0).2 | (rw [← (unhide HRG0).1]; exact (unhide HRG0).2)⟩
    have hR' := (unhide HD).2.2.2.2.2.2.2.2.1
    rw [hR']
    rfl
  case round =>
    obtain ⟨k, hk, rfl, rfl, hRd⟩ := hrel
    by_cases hlt : k < N
    · obtain ⟨hr1, rv, hRG⟩ := hRd
      have hN' := (unhide HD).2.2.2.2.2.2.2.2.2
      have hNb := hide (show N ≤ 100000 by have := (unhide HD).2.2.2.2.2.1; omega)
      obtain ⟨B, C, -, -, r2, hcut, ⟨xa, xm, xq, hx⟩, hcl⟩ := unhide HRound k rv _ (by omega) hRG
      rw [← hr1] at hcut
      obtain ⟨a, m, q, hr⟩ : ∃ a m q, u7 = .slice a m q := ⟨_, _, _, hr1⟩
      subst hr
      subst hx
      clear hr1
      generalize o + 3 + (recB (ds.take k)).length + 3 = Z at hcut hcl
      obtain ⟨ra, rn, rc, rfl⟩ : ∃ ra rn rc, rv = .slice ra rn rc := by
        obtain ⟨a1, c1, e1⟩ := hRG.recs.shape
        exact ⟨_, _, _, e1⟩
      have hqz : w.heap.size < wr.heap.size := (Array.getElem?_eq_some_iff.1 hRG.blk).1
      have hc1 : wr.cell? ⟨w.heap.size, 1, none⟩ = some (.slice ra rn rc) := (grp_cells hRG.blk).2.1
      have HCut := hide hcut
      have HCl := hide hcl
      clear hcut hcl HRound HC HRG0 hRG hN'
      have hlt2 : (k : Int) < (N : Int) := by omega
      go_wp2_with fail
      refine (unhide HCut).mono ?_
      rintro e w' ⟨rfl, p', rfl⟩
      go_wp2_with fail
      have hc2 : (wr.drewN p').drew.cell? ⟨w.heap.size, 1, none⟩ = some (.slice ra rn rc) := hc1
      refine wp_region_noPanic ?_
      go_region_law (go_simp; refine (unhide HCl p').mono ?_; rintro e W1 ⟨a', c', la', lc', W3, rfl, k1, k2, k3, k4, k5, HE⟩; simp only [])
      all_goals
        refine NoPanic.normal ?_
        clear k1 k2 k3 k4 k5
        go_wp2_with fail
        have hNb2 := unhide hNb
        have e1 : Go.RowKit.wrap64 ((k : Int) + 1) = ((k + 1 : Nat) : Int) := by unfold Go.RowKit.wrap64; omega
        rw [e1]
        exact ⟨⟨k + 1, by omega, rfl, rfl, unhide HE⟩, by simp [intOf]; omega⟩
    · obtain ⟨hr1, rv, hRG⟩ := hRd
      obtain ⟨hL, hg, hc, hcm, hA, hl, hwt, hlen, hR, hN'⟩ := unhide HD
      have hkl : k = ds.length := by omega
      obtain ⟨X, M, Q, E, DG, hr2, hE, hres, hM3, hMQ, hQm, hdl, hld0, hdig⟩ := read_end g o c ah ds prev tail w hL hg hc hcm hA hl hwt k hkl R hR rv _ hRG
      rw [hr2] at hr1
      have hMl : decide ((M : Int) < 32) = false := decide_eq_false (by omega)
      have hQ32 : (32 : Int) ≤ (Q : Int) := by omega
      have hQm : (Q : Int) ≤ 9223372036854775807 := by omega
      have hkN : ¬ ((k : Int) < (N : Int)) := by omega
      have HDig := hide hdig
      have hEq := fun W => run_neB W DG hdl
      have hgd := fun (W : World) (x y : Operand) => run_eqGuard_agg (P := Tryz.prog) (w := W) .neq 113 x y (Dg.E8 DG) (Dg.E8 DG) Dg.guard113
      have harr := arr_at g X Q
      have hRb : 3 + R ≤ 9223372036854775807 := by rw [← hR] at hlen; omega
      have HN := hide (And.intro hMQ (And.intro hM3 (And.intro hres (And.intro hRb hE))))
      subst hr1
      clear hdig HRound HC HRG0 hRG hL hg hc hcm hA hl hwt hlen hR hN' hkl hE hMQ hM3 hr2 HD hlt hk hres hRb
      go_wp2_with fail
      refine wp_region_noPanic ?_
      go_region_law (go_simp; refine (unhide HDig).mono ?_; rintro e W1 ⟨rfl, k1, HE⟩; simp only [])
      all_goals
        refine NoPanic.normal ?_
        go_wp2_with fail
        obtain ⟨hMQ, hM3, hres, hRb, hE⟩ := unhide HN
        have e1 : Go.RowKit.wrap64 (Go.RowKit.wrap64 (3 + (R : Int) - (M : Int)) + 32) = ((enc prev ds).length : Int) := by
          rw [← hE]
          unfold Go.RowKit.wrap64
          omega
        rw [e1]
        exact bodyPost_ret (by simp [results, Tryz.results131]) rfl ⟨rfl, unhide HE⟩
end Go.Proofs.YtebcmicmklpflaaGreatDoor
