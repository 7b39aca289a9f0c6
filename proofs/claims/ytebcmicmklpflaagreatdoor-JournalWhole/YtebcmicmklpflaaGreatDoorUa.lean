/- The law's own helpers: roomy, spoil, stands. -/
import Derived.Test.YtebcmicmklpflaaGreatDoorSg
namespace Go.Proofs.YtebcmicmklpflaaGreatDoor
open Go.RowKit Go.Maps
set_option linter.unusedSimpArgs false
theorem row_one (w : World) (b : Nat) (hb : b < 256) : Row (w.alloc (.cells #[.int .u8 (b : Int)] 5)).heap.size (w.alloc (.cells #[.int .u8 (b : Int)] 5)) (.slice (some ⟨w.heap.size, 0, none⟩) 1 1) [UInt8.ofNat b] := by
  refine ⟨_, 1, rfl, Nat.le_refl _, fun _ => ⟨w.heap.size, 0, rfl, by simp, fun j u hj => ?_⟩⟩
  have hnew : (w.alloc (.cells #[.int .u8 (b : Int)] 5)).heap[w.heap.size]? = some (.cells #[.int .u8 (b : Int)] 5) := heap_alloc_new _ _
  simp only [World.cell?, hnew, Nat.zero_add]
  have : (UInt8.ofNat b).toNat = b := by simp; omega
  simpa [byteVals, this, Nat.mod_eq_of_lt hb] using hj
theorem OwnB.alloc {w : World} {base : Nat} {v : Value} {L : List UInt8} (h : OwnB w base v L) (o : Obj) : OwnB (w.alloc o) base v L := World.ownsRow.alloc h o
/-- A byte joins bytes of one's own. -/
theorem byte_app {w : World} {base : Nat} {v : Value} {out : List UInt8} (x : Nat) (hx : x < 256) (ho : OwnB w base v out) (hb : base ≤ w.heap.size) (hmax : out.length + 1 ≤ 100000000) :
    ∃ a c W', (∀ ty, (app22 ty #[v, .slice (some ⟨w.heap.size, 0, none⟩) 1 1]).run Tryz.prog (w.alloc (.cells #[.int .u8 (x : Int)] 5)) = .ok (.slice a (out.length + 1) c) W') ∧ OwnB W' base (.slice a (out.length + 1) c) (out ++ [UInt8.ofNat x]) ∧ w.grownBy W' v.ownBlock ∧ ((Value.slice a (out.length + 1) c).ownBlock = v.ownBlock ∨ (Value.slice a (out.length + 1) c).ownBlock = some (w.heap.size + 1)) := by
  obtain ⟨i, hi', hz, hsz, hby⟩ := info5
  obtain ⟨v', W', hr, hown, hgr, -, hloc⟩ := run_append_own_at (P := Tryz.prog) (w.alloc (.cells #[.int .u8 (x : Int)] 5)) base 39 39 5 i (.int .u8 0) 1 1 Tryz.underlying39 hi' hz hsz hby rfl (by omega) v out.length (byteVals out) (ho.alloc _) ⟨w.heap.size, 0, none⟩ 1 1 [.int .u8 (x : Int)] rfl
    (cell_one_new w (.int .u8 (x : Int)) 5) (fun u hu => by simp at hu; subst hu; rfl) (by simp only [maxLen]; omega) (by omega) (by simp; omega)
  have hbv : byteVals out ++ [.int .u8 (x : Int)] = byteVals (out ++ [UInt8.ofNat x]) := by
    rw [byteVals_append]
    have : (UInt8.ofNat x).toNat = x := by simp; omega
    simp [byteVals, Nat.mod_eq_of_lt hx]
  rw [hbv] at hown
  have hl : (out ++ [UInt8.ofNat x]).length = out.length + 1 := by simp
  have ho' : OwnB W' base v' (out ++ [UInt8.ofNat x]) := by unfold OwnB; rw [hl]; exact hown
  obtain ⟨a, c, e, _⟩ := ho'.shape
  rw [hl] at e
  subst e
  exact ⟨a, c, W', fun _ => hr, ho', (World.grownBy_alloc w _ _).trans hgr, by rwa [World.size_alloc] at hloc⟩
theorem grown_below {w W : World} {v : Value} {base : Nat} {out : List UInt8} (h : w.grownBy W v.ownBlock) (ho : OwnB w base v out) (hb : base ≤ w.heap.size) : Below base w W :=
  ⟨h.os, h.tape, h.output, h.size, fun b hb' => h.block b (by omega) (fun e => by have := (ho.tag b e.symm).1; omega)⟩
set_option maxRecDepth 20000 in
set_option maxHeartbeats 1000000 in
theorem roomy_ok (a : Option Addr) (c : Nat) (B : List UInt8) (w : World) (hr : Row w.heap.size w (.slice a B.length c) B) (hB : B.length ≤ 1000000) :
    Calls Tryz.prog 51 #[.slice a B.length c] w fun e w' => ∃ g c1, e = .returned (.slice (some ⟨g, 0, none⟩) (B.length + 1) c1) ∧ B.length + 1 ≤ c1 ∧ OwnB w' w.heap.size (.slice (some ⟨g, 0, none⟩) (B.length + 1) c1) (B ++ [171]) ∧ Below w.heap.size w w' := by
  have hb0 : Below w.heap.size w (w.alloc (.cells #[] 5)) := (Below.refl _ _).alloc (Nat.le_refl _) _
  have ho0 : OwnB (w.alloc (.cells #[] 5)) w.heap.size (.slice (some ⟨w.heap.size, 0, none⟩) 0 0) [] := owns_new w 5 1
  have hr0 : Row (w.alloc (.cells #[] 5)).heap.size (w.alloc (.cells #[] 5)) (.slice a B.length c) B := by
    obtain ⟨a1, c1, f1, f2, f3⟩ := hr.below hb0
    exact ⟨a1, c1, f1, f2, fun h0 => by obtain ⟨g, o, g1, g2, g3⟩ := f3 h0; exact ⟨g, o, g1, Nat.lt_of_lt_of_le g2 hb0.size, g3⟩⟩
  obtain ⟨v1, w1, happ1, ho1, hg1⟩ := app_bytes ho0 hb0.size hr0 (by simp; omega)
  rw [List.nil_append] at ho1
  have hb1 : Below w.heap.size w w1 := hb0.trans (grown_below hg1 ho0 hb0.size)
  obtain ⟨a1, c1, e1, _⟩ := ho1.shape
  subst e1
  obtain ⟨a2, c2, w2, happ2, ho2, hg2, -⟩ := byte_app 171 (by decide) ho1 hb1.size (by omega)
  have hb2 : Below w.heap.size w w2 := hb1.trans (grown_below hg2 ho1 hb1.size)
  obtain ⟨a3, c3, w3, happ3, ho3, hg3, -⟩ := byte_app 171 (by decide) ho2 hb2.size (by simp; omega)
  have hb3 : Below w.heap.size w w3 := hb2.trans (grown_below hg3 ho2 hb2.size)
  have hl2 : (B ++ [UInt8.ofNat 171]).length + 1 = B.length + 1 + 1 := by simp
  rw [hl2] at happ3 ho3
  obtain ⟨g, cur, ea, hg, hh, hcc, hm, hcs, htk⟩ : ∃ g cur, a3 = some ⟨g, 0, none⟩ ∧ w.heap.size ≤ g ∧ w3.heap[g]? = some (.cells cur 5 (0, 0)) ∧ B.length + 2 ≤ c3 ∧ c3 ≤ maxLen ∧ cur.size = c3 ∧ byteVals (B ++ [171] ++ [171]) <+: cur.toList := by
    rcases ho3.2 with ⟨h1, h2⟩ | ⟨g, cap, cur, e, hg, hh, hcap, hm, hcs, htk⟩
    · simp at h2
    · injection e with e1 e2 e3
      subst e3
      refine ⟨g, cur, e1, hg, hh, by simp at hcap; omega, hm, by omega, ?_⟩
      rw [Nat.mul_one] at htk
      exact prefix_of_take htk
  subst ea
  have HO : Hid (OwnB w3 w.heap.size (.slice (some ⟨g, 0, none⟩) (B.length + 1) c3) (B ++ [171])) := by
    refine ⟨by simp [byteVals], .inr ⟨g, c3, cur, by simp, hg, hh, by simp; omega, hm, by omega, ?_⟩⟩
    rw [Nat.mul_one]
    have hp : byteVals (B ++ [171]) <+: cur.toList := by
      refine List.IsPrefix.trans ?_ htk
      rw [byteVals_append (B ++ [171])]
      exact List.prefix_append _ _
    rw [List.prefix_iff_eq_take.1 hp]
    simp [byteVals]
  have HB := hide hb3
  have h1c : B.length + 1 ≤ c3 := by omega
  have HF := hide h1c
  have happ1' : ∀ ty, (app22 ty #[.slice (some ⟨w.heap.size, 0, none⟩) 0 0, .slice a B.length c]).run Tryz.prog (w.alloc (.cells #[] 5)) = .ok (.slice a1 B.length c1) w1 := happ1
  have happ2' : ∀ ty, (app22 ty #[.slice a1 B.length c1, .slice (some ⟨w1.heap.size, 0, none⟩) 1 1]).run Tryz.prog (w1.alloc (.cells #[.int .u8 171] 5)) = .ok (.slice a2 (B.length + 1) c2) w2 := happ2
  have happ3' : ∀ ty, (app22 ty #[.slice a2 (B.length + 1) c2, .slice (some ⟨w2.heap.size, 0, none⟩) 1 1]).run Tryz.prog (w2.alloc (.cells #[.int .u8 171] 5)) = .ok (.slice (some ⟨g, 0, none⟩) (B.length + 1 + 1) c3) w3 := happ3
  have hcc' : (B.length : Int) + 1 ≤ (c3 : Int) := by omega
  clear hr hr0 happ1 happ2 happ3 ho0 ho1 ho2 ho3 hb0 hb1 hb2 hb3 hg1 hg2 hg3 hh htk hm hcs hcc hg hl2
  go_enter Tryz.func51, Tryz.ntmps51
  go_wp2_with fail
  go_ret
  exact ⟨g, c3, rfl, unhide HF, unhide HO, unhide HB⟩
set_option maxRecDepth 20000 in
set_option maxHeartbeats 1000000 in
theorem spoil_ok (base : Nat) (a : Option Addr) (c : Nat) (d : List UInt8) (w : World) (ho : OwnB w base (.slice a d.length c) d) (hd : d.length ≤ 2000000) (hbase : base ≤ w.heap.size) :
    Calls Tryz.prog 20 #[.slice a d.length c] w fun e w' => e = .returned (.tuple #[]) ∧ w.grownBy w' (Value.slice a d.length c).ownBlock := by
  obtain ⟨a1, c1, w1, happ, ho1, hg1, hloc⟩ := byte_app 99 (by decide) ho hbase (by omega)
  have happ' : ∀ ty, (app22 ty #[.slice a d.length c, .slice (some ⟨w.heap.size, 0, none⟩) 1 1]).run Tryz.prog (w.alloc (.cells #[.int .u8 99] 5)) = .ok (.slice a1 (d.length + 1) c1) w1 := happ
  obtain ⟨OB, hOB⟩ : ∃ OB, OB = (Value.slice a d.length c).ownBlock := ⟨_, rfl⟩
  rw [← hOB] at hg1 ⊢
  obtain ⟨g, cur, ea, hh, hcs, hcap⟩ : ∃ g cur, a1 = some ⟨g, 0, none⟩ ∧ w1.heap[g]? = some (.cells cur 5 (0, 0)) ∧ d.length + 1 ≤ cur.size ∧ d.length + 1 ≤ c1 := by
    rcases ho1.2 with ⟨h1, h2⟩ | ⟨g, cap, cur, e, hg, hh, hcap, hm, hcs, htk⟩
    · simp at h2
    · injection e with e1 e2 e3
      subst e3
      exact ⟨g, cur, e1, hh, by simp at hcap; omega, by simpa using hcap⟩
  subst ea
  have hgb : OB = some g ∨ w.heap.size ≤ g := by
    rcases hloc with e | e
    · left; rw [hOB, ← e]; rfl
    · right; simp [Value.ownBlock] at e; omega
  have HG1 := hide hg1
  have HH : Hid (∃ cur, w1.heap[g]? = some (.cells cur 5 (0, 0)) ∧ d.length + 1 ≤ cur.size) := ⟨cur, hh, hcs⟩
  have HK : Hid (OB = some g ∨ w.heap.size ≤ g) := hgb
  clear ho ho1 hg1 happ hh hcs hbase hgb hloc hOB
  generalize d.length = N at *
  go_enter Tryz.func20, Tryz.ntmps20
  go_wp2_with fail
  go_loopw [3] (fun vi wr => ∃ i : Nat, i ≤ N + 1 ∧ vi = .int .i64 (i : Int) ∧ Hid (w.grownBy wr OB) ∧ Hid (∃ cur, wr.heap[g]? = some (.cells cur 5 (0, 0)) ∧ N + 1 ≤ cur.size)) (fun vi _ => N + 1 - (intOf vi).toNat)
  case atStart => exact ⟨0, by omega, rfl, unhide HG1, unhide HH⟩
  case round =>
    clear HG1 HH happ'
    obtain ⟨i, hi, rfl, hB, hC⟩ := hrel
    by_cases hlt : i < N + 1
    · obtain ⟨cur, hcur, hsz⟩ := unhide hC
      have hcell : wr.cell? ⟨g, i, none⟩ = some cur[i] := by simp only [World.cell?, hcur]; exact Array.getElem?_eq_getElem (by omega)
      have hfr : wr.frozen? ⟨g, i, none⟩ = false := by unfold World.frozen?; rw [hcur]; simp
      have HB' : Hid (w.grownBy (wr.setCell ⟨g, i, none⟩ (.int .u8 98)) OB) := by
        have hB := unhide hB
        refine ⟨hB.os, hB.tape, hB.output, by rw [size_set]; exact hB.size, fun k hk hne => ?_⟩
        rw [set_other _ _ _ _ _ (fun e => by
          rcases unhide HK with h | h
          · exact hne (by rw [h, e])
          · omega)]
        exact hB.block k hk hne
      have HC' : Hid (∃ cur, (wr.setCell ⟨g, i, none⟩ (.int .u8 98)).heap[g]? = some (.cells cur 5 (0, 0)) ∧ N + 1 ≤ cur.size) := ⟨cur.setIfInBounds i (.int .u8 98), by simp [World.setCell, Array.getElem?_modify, hcur], by simp; omega⟩
      generalize cur[i] = old at *
      clear hcur hsz hB hC
      go_wp2_with fail
      refine ⟨⟨i + 1, by omega, by simp, unhide HB', unhide HC'⟩, ?_⟩
      simp [intOf]; omega
    · obtain rfl : i = N + 1 := by omega
      go_wp2_with fail
      exact bodyPost_end (v := .tuple #[]) (by simp [results, Tryz.results20, go_sem]) rfl ⟨rfl, unhide hB⟩
set_option maxRecDepth 20000 in
set_option maxHeartbeats 1000000 in
theorem stands_ok (hi hj : Nat) (a b : Option Addr) (c d : Nat) (B : List UInt8) (w : World) (hx : Row hi w (.slice a (B.length + 1) c) (B ++ [171])) (hy : Row hj w (.slice b B.length d) B) (hB : B.length ≤ 1000000) :
    Calls Tryz.prog 52 #[.slice a (B.length + 1) c, .slice b B.length d] w fun e w' => e = .returned (.bool true) ∧ ∃ k, w' = w.drewN k := by
  obtain ⟨a', c', e, hc, h3⟩ := hx
  injection e with e1 e2 e3
  subst e1 e3
  obtain ⟨g, o, rfl, hg, hcell⟩ := h3 (by simp)
  simp only [List.length_append, List.length_singleton] at hc
  have hr : Row hi w (.slice (some ⟨g, o, none⟩) B.length c) B := ⟨_, c, rfl, by omega, fun _ => ⟨g, o, rfl, hg, fun j u hj => hcell j u (by
    rw [byteVals_append, List.getElem?_append_left (List.getElem?_eq_some_iff.1 hj).1]; exact hj)⟩⟩
  have HS := hide (same_any hi hj (some ⟨g, o, none⟩) b B.length B.length c d B B w hr hy rfl rfl (by omega) (by omega))
  have hce : w.cell? ⟨g, o + B.length, none⟩ = some (.int .u8 171) := hcell B.length _ (by
    have hl : (byteVals B).length = B.length := by simp [byteVals]
    rw [byteVals_append, List.getElem?_append_right (by omega), hl, Nat.sub_self]; rfl)
  rw [decide_eq_true rfl] at HS
  have hnc : B.length ≤ c := by omega
  have hl1 : (B ++ [171]).length = B.length + 1 := by simp
  rw [hl1] at e2
  clear hy hr hcell hg h3 hl1 e2
  generalize B.length = N at *
  go_enter Tryz.func52, Tryz.ntmps52
  go_wp2_with fail
  refine (unhide HS).mono ?_
  rintro e w' ⟨⟨k, rfl⟩, rfl⟩
  go_wp2_with fail
  go_ret
  exact ⟨rfl, k, rfl⟩
end Go.Proofs.YtebcmicmklpflaaGreatDoor
