/- met: the paths whose digits were met, in memory of their own. -/
import Derived.Test.YtlbfcneboaihnaaSf
import Derived.Test.YtlbfcneboaihnaaLookw
namespace Go.Proofs.Ytlbfcneboaihnaa
open Go.RowKit Go.Great Go.ChangeMaps Go.MapKept
set_option linter.unusedSimpArgs false
/-- Those that are not in the set. -/
noncomputable def metOf (D : DataW Unit) (P : List Ord.S) : List Ord.S := P.filter fun p => !Maps.has D (rowKey (digsOf p))
theorem metOf_snoc (D : DataW Unit) (P : List Ord.S) (p : Ord.S) (h : Maps.has D (rowKey (digsOf p)) = false) : metOf D (P ++ [p]) = metOf D P ++ [p] := by simp [metOf, h]
theorem metOf_skip (D : DataW Unit) (P : List Ord.S) (p : Ord.S) (h : Maps.has D (rowKey (digsOf p)) = true) : metOf D (P ++ [p]) = metOf D P := by simp [metOf, h]
theorem metOf_length (D : DataW Unit) (P : List Ord.S) : (metOf D P).length ≤ P.length := List.length_filter_le _ _
def cvP (v : Value) : Sem Value := convert 25 22 v
@[go_sem ↓] theorem convert_cvP (v : Value) : convert 25 22 v = cvP v := rfl
theorem look_row {w : World} {mb n : Nat} {D : DataW Unit} (h : w.ownsMap Try.prog 82 unitElem mb n D) {d : List Nat} (hl : d.length = 32) (hb : Sha.Bytes d) :
    (Instr.lookup 75 (.map (some mb)) (.agg (E8 d)) true).run Try.prog w = .ok (.tuple #[.agg #[], .bool (Maps.has D (rowKey d))]) w := by
  obtain ⟨v, ps, hr, hv⟩ := h.look_ok keyed50 Try.underlying75 (z := .agg #[]) (Try.zeroValue80 w) (zd := .agg []) (zp := []) unitElem_mk (rowKey_eq hl hb)
  obtain ⟨rfl, _⟩ := unitElem_inv hv
  exact hr
/-- The state of the loop: behind i of them. -/
structure MetI (D : DataW Unit) (w wr : World) (P : List Ord.S) (i : Nat) (vm : Value) : Prop where
  below : Below w.heap.size w wr
  own : OwnL wr w.heap.size vm (metOf D (P.take i))
set_option maxRecDepth 20000 in
set_option maxHeartbeats 1000000 in
theorem met_any (g mb n : Nat) (D : DataW Unit) (a : Option Addr) (m c : Nat) (P : List Ord.S) (w : World) (hp : w.cell? ⟨g, 0, none⟩ = some (.slice a m c)) (hq : w.cell? ⟨g, 1, none⟩ = some (.map (some mb))) (ho : w.ownsMap Try.prog 82 unitElem mb n D)
    (hx : StrsAt w (.slice a m c) P) (hm : P.length = m) (hz : ∀ z ∈ P, IsP z ∧ z.length ≤ 281474976710656) (hmax : m ≤ 100000) :
    Calls Try.prog 26 #[.pointer (some ⟨g, 0, none⟩)] w fun e w' => ∃ u, e = .returned u ∧ StrsAt w' u (metOf D P) ∧ Below w.heap.size w w' := by
  have HX := hide hx
  have HZ := hide hz
  have HN := hide hm
  have HST0 : Hid (∀ w', Below w.heap.size w w' → w'.cell? ⟨g, 1, none⟩ = some (.map (some mb)) ∧ w'.ownsMap Try.prog 82 unitElem mb n D) := fun w' hb =>
    ⟨by rw [hb.cell (p := ⟨g, 1, none⟩) (cell_lt hq)]; exact hq, ownsMap_keep ho (hb.block mb ho.lt)⟩
  have HINF : Hid (∀ d : List Nat, d.length = 32 → (Try.prog.info? 82).map (·.size) = some (E8 d).toList.length) := fun d hd => by
    rw [show (E8 d).toList.length = 32 by rw [Array.length_toList]; simp [hd]]; kernel_rfl
  clear hx hz hm ho hq
  go_enter Try.func26, Try.ntmps26
  go_wp2_with fail
  go_loopw [3, 13] (fun vm vi wr => ∃ i : Nat, i ≤ m ∧ vi = .int .i64 (i : Int) ∧ Hid (MetI D w wr P i vm)) (fun _ vi _ => m - (intOf vi).toNat)
  case atStart => exact ⟨0, by omega, rfl, Below.refl _ _, by simp [metOf], .inl ⟨rfl, by simp [metOf]⟩⟩
  case round =>
    obtain ⟨i, hin, rfl, HI⟩ := hrel
    by_cases hlt : i < m
    · obtain ⟨gx, ox, rfl, hc⟩ := str_at ((unhide HX).below (unhide HI).below) (unhide HN) i hlt
      have hmem : P.getD i [] ∈ P := by rw [List.getD_eq_getElem?_getD, List.getElem?_eq_getElem (by rw [unhide HN]; exact hlt)]; exact List.getElem_mem _
      obtain ⟨hisp, hzl⟩ := unhide HZ _ hmem
      have HS := hide (take_snoc (of := P) (i := i) (by rw [unhide HN]; exact hlt))
      generalize P.getD i [] = p at *
      rw [← strOf_nats] at hc
      have hl32 : ((natsOf p).take 32).length = 32 := by rw [List.length_take]; have := hisp.1; omega
      have HLEN : Hid ((natsOf p).length ≤ 281474976710656) := by rw [natsOf_length]; exact hzl
      have hlen32 : 32 ≤ (natsOf p).length := by have := hisp.1; omega
      have hext : (strOf (natsOf p)).extract 0 32 = strOf ((natsOf p).take 32) := by rw [strOf_extract]; rfl
      have HL32 := hide (And.intro hl32 ((natsOf_bytes p).take 32))
      have HD : Hid (digsOf p = (natsOf p).take 32) := rfl
      have HDs : Hid ((strOf ((natsOf p).take 32)).size = 32) := by rw [strOf_size, hl32]; exact rfl
      have HP : Hid (strOf (natsOf p) = ⟨p.toArray⟩) := strOf_nats p
      generalize (natsOf p).take 32 = Dg at *
      generalize natsOf p = PN at *
      have HIN := hide (unhide HINF Dg (unhide HL32).1)
      have HST : Hid (∀ w', Below wr.heap.size wr w' → w'.cell? ⟨g, 1, none⟩ = some (.map (some mb)) ∧ w'.ownsMap Try.prog 82 unitElem mb n D) := fun w' hb =>
        unhide HST0 w' ((unhide HI).below.trans (hb.mono (unhide HI).below.size))
      have hS0 := unhide HST wr.drew (Below.refl _ _).drew
      clear hmem hisp hzl hl32
      go_wp2_with fail
      refine wp_region_noPanic ?_
      refine wp_region_held_drew (S := fun w' => w'.cell? ⟨g, 1, none⟩ = some (.map (some mb)) ∧ w'.ownsMap Try.prog 82 unitElem mb n D) (by kernel_rfl) hS0 (fun hHeld => ?_)
      clear hS0
      refine wpAnyH_take (i := 0) (v := .pointer (some ⟨g, 0, none⟩)) rfl (by kernel_rfl) (by kernel_rfl) (by kernel_rfl) (fun _ _ _ h => h) (Or.inl ⟨by rfl, ?_⟩) hHeld ?_
      · intro w' hS'; have hq' := hS'.1; go_simp
      try simp only [Act.put, List.getElem_toArray, List.getElem_cons_zero, List.getElem_cons_succ, List.setIfInBounds_toArray, List.set_cons_zero, List.set_cons_succ]
      refine wpAnyH_take (i := 1) (v := .pointer (some ⟨g, 0, none⟩)) rfl (by kernel_rfl) (by kernel_rfl) (by kernel_rfl) (fun _ _ _ h => h) (Or.inl ⟨by rfl, ?_⟩) hHeld ?_
      · intro w' hS'; have hq' := hS'.1; go_simp
      try simp only [Act.put, List.getElem_toArray, List.getElem_cons_zero, List.getElem_cons_succ, List.setIfInBounds_toArray, List.set_cons_zero, List.set_cons_succ]
      refine wpAnyH_take (i := 2) (v := .pointer (some ⟨g, 1, none⟩)) rfl (by kernel_rfl) (by kernel_rfl) (by kernel_rfl) (fun _ _ _ h => h) (Or.inl ⟨by rfl, ?_⟩) hHeld ?_
      · intro w' hS'; have hq' := hS'.1; go_simp
      try simp only [Act.put, List.getElem_toArray, List.getElem_cons_zero, List.getElem_cons_succ, List.setIfInBounds_toArray, List.set_cons_zero, List.set_cons_succ]
      refine wpAnyH_take (i := 3) (v := .map (some mb)) rfl (by kernel_rfl) (by kernel_rfl) (by kernel_rfl) (fun _ _ _ h => h) (Or.inl ⟨by rfl, ?_⟩) hHeld ?_
      · intro w' hS'; have hq' := hS'.1; go_simp
      try simp only [Act.put, List.getElem_toArray, List.getElem_cons_zero, List.getElem_cons_succ, List.setIfInBounds_toArray, List.set_cons_zero, List.set_cons_succ]
      refine wpAnyH_take (i := 4) (v := .string (strOf PN)) rfl (by kernel_rfl) (by kernel_rfl) (by kernel_rfl) (fun _ _ _ h => h) (Or.inl ⟨by rfl, ?_⟩) hHeld ?_
      · intro w' hS'; have hq' := hS'.1; go_simp
      try simp only [Act.put, List.getElem_toArray, List.getElem_cons_zero, List.getElem_cons_succ, List.setIfInBounds_toArray, List.set_cons_zero, List.set_cons_succ]
      refine wpAnyH_take (i := 5) (v := .string (strOf Dg)) rfl (by kernel_rfl) (by kernel_rfl) (by kernel_rfl) (fun _ _ _ h => h) (Or.inl ⟨by rfl, ?_⟩) hHeld ?_
      · intro w' hS'; have hq' := hS'.1; go_simp; all_goals (intro h; omega)
      try simp only [Act.put, List.getElem_toArray, List.getElem_cons_zero, List.getElem_cons_succ, List.setIfInBounds_toArray, List.set_cons_zero, List.set_cons_succ]
      refine wpAnyH_ready (rs := [6, 13]) (by kernel_rfl) (by simp) (AllReadyH.cons rfl (fun K hK => ?_) (AllReadyH.cons rfl (fun K hK => ?_) AllReadyH.nil))
      · simp only [List.getElem_toArray, List.getElem_cons_zero, List.getElem_cons_succ]
        have hcv : (cvP (.string (strOf Dg))).run Try.prog wr.drew = _ := Lib.run_convert_string_bytes wr.drew 25 22 5 (strOf Dg) Try.underlying25 Try.underlying22 Try.underlying5
        rw [unhide HDs] at hcv
        have hrng := conv_text wr.drew (strOf Dg) (unhide HDs)
        rw [bytesOf_strOf Dg (unhide HL32).2] at hrng
        have hb4 : Below wr.heap.size wr (Lib.bytesWorld wr.drew 5 (strOf Dg)) := ((Below.refl _ _).drew).trans ((below_conv wr.drew (strOf Dg)).mono (by simp))
        have hg32 : 32 ≤ grownCap wr.drew 32 0 5 := grownCap_ge _ _ _ _
        have hS4 := (unhide HST) _ hb4
        generalize grownCap wr.drew 32 0 5 = G at *
        generalize Lib.bytesWorld wr.drew 5 (strOf Dg) = w4 at *
        go_simp
        refine hK.out _ _ hS4 (fun hHeld => ?_)
        clear hK K hcv
        try simp only [Act.put, List.getElem_toArray, List.getElem_cons_zero, List.getElem_cons_succ, List.setIfInBounds_toArray, List.set_cons_zero, List.set_cons_succ]
        refine wpAnyH_take (i := 7) (v := .pointer (some ⟨wr.heap.size, 0, none⟩)) rfl (by kernel_rfl) (by kernel_rfl) (by kernel_rfl) (fun _ _ _ h => h) (Or.inl ⟨by rfl, ?_⟩) hHeld ?_
        · intro w' hS'; have hq' := hS'.1; go_simp; all_goals (simp [Instr.arrayAt, Try.underlying82, go_sem]; done)
        try simp only [Act.put, List.getElem_toArray, List.getElem_cons_zero, List.getElem_cons_succ, List.setIfInBounds_toArray, List.set_cons_zero, List.set_cons_succ]
        refine wpAnyH_ready (rs := [8, 13]) (by kernel_rfl) (by simp) (AllReadyH.cons rfl (fun K hK => ?_) (AllReadyH.cons rfl (fun K hK => ?_) AllReadyH.nil))
        · simp only [List.getElem_toArray, List.getElem_cons_zero, List.getElem_cons_succ]
          rw [if_pos (by rfl)]
          refine wp_load_mid 82 (.tmp 25) rfl wr.heap.size 0 rfl (E8 Dg).toList _ hrng Try.underlying82 rfl (unhide HIN) ?_
          rw [Array.toArray_toList]
          refine hK.out _ _ hS4 (fun hHeld => ?_)
          clear hK K
          try simp only [Act.put, List.getElem_toArray, List.getElem_cons_zero, List.getElem_cons_succ, List.setIfInBounds_toArray, List.set_cons_zero, List.set_cons_succ]
          refine wpAnyH_take (i := 9) (v := .tuple #[.agg #[], .bool (Maps.has D (rowKey Dg))]) rfl (by kernel_rfl) (by kernel_rfl) (by kernel_rfl) (fun _ _ _ h => h) (Or.inl ⟨by rfl, ?_⟩) hHeld ?_
          · intro w' hS'; have hlk := look_row hS'.2 (unhide HL32).1 (unhide HL32).2; go_simp
          try simp only [Act.put, List.getElem_toArray, List.getElem_cons_zero, List.getElem_cons_succ, List.setIfInBounds_toArray, List.set_cons_zero, List.set_cons_succ]
          refine wpAnyH_take (i := 10) (v := .tuple #[.agg #[], .bool (Maps.has D (rowKey Dg))]) rfl (by kernel_rfl) (by kernel_rfl) (by kernel_rfl) (fun _ _ _ h => h) (Or.inl ⟨by rfl, ?_⟩) hHeld ?_
          · intro w' hS'; have hq' := hS'.1; go_simp
          try simp only [Act.put, List.getElem_toArray, List.getElem_cons_zero, List.getElem_cons_succ, List.setIfInBounds_toArray, List.set_cons_zero, List.set_cons_succ]
          refine wpAnyH_take (i := 11) (v := .agg #[]) rfl (by kernel_rfl) (by kernel_rfl) (by kernel_rfl) (fun _ _ _ h => h) (Or.inl ⟨by rfl, ?_⟩) hHeld ?_
          · intro w' hS'; have hq' := hS'.1; go_simp
          try simp only [Act.put, List.getElem_toArray, List.getElem_cons_zero, List.getElem_cons_succ, List.setIfInBounds_toArray, List.set_cons_zero, List.set_cons_succ]
          refine wpAnyH_take (i := 12) (v := .bool (Maps.has D (rowKey Dg))) rfl (by kernel_rfl) (by kernel_rfl) (by kernel_rfl) (fun _ _ _ h => h) (Or.inl ⟨by rfl, ?_⟩) hHeld ?_
          · intro w' hS'; have hq' := hS'.1; go_simp
          try simp only [Act.put, List.getElem_toArray, List.getElem_cons_zero, List.getElem_cons_succ, List.setIfInBounds_toArray, List.set_cons_zero, List.set_cons_succ]
          refine wpAnyH_ready (rs := [13]) (by kernel_rfl) (by simp) (AllReadyH.cons rfl (fun K hK => ?_) AllReadyH.nil)
          simp only [List.getElem_toArray, List.getElem_cons_zero, List.getElem_cons_succ]
          have hbn : Below wr.heap.size wr (w4.alloc (.cells #[] 80)) := hb4.alloc hb4.size _
          have hSn := unhide HST _ hbn
          go_simp
          refine hK.out _ _ hSn (fun hHeld => ?_)
          clear hK K
          try simp only [Act.put, List.getElem_toArray, List.getElem_cons_zero, List.getElem_cons_succ, List.setIfInBounds_toArray, List.set_cons_zero, List.set_cons_succ]
          refine wpAnyH_ready (rs := [14]) (by kernel_rfl) (by simp) (AllReadyH.cons rfl (fun K hK => ?_) AllReadyH.nil)
          simp only [List.getElem_toArray, List.getElem_cons_zero, List.getElem_cons_succ]
          go_simp
          refine hK.out _ _ hSn (fun hHeld => ?_)
          clear hK K
          try simp only [Act.put, List.getElem_toArray, List.getElem_cons_zero, List.getElem_cons_succ, List.setIfInBounds_toArray, List.set_cons_zero, List.set_cons_succ]
          refine wpAnyH_take (i := 15) (v := .bool (Maps.has D (rowKey Dg))) rfl (by kernel_rfl) (by kernel_rfl) (by kernel_rfl) (fun _ _ _ h => h) (Or.inl ⟨by rfl, ?_⟩) hHeld ?_
          · intro w' hS'; have hq' := hS'.1; go_simp
          try simp only [Act.put, List.getElem_toArray, List.getElem_cons_zero, List.getElem_cons_succ, List.setIfInBounds_toArray, List.set_cons_zero, List.set_cons_succ]
          refine wpAnyH_done (by kernel_rfl) ?_ _
          refine NoPanic.normal ?_
          clear hHeld
          have HBC := hide hbn
          generalize w4.alloc (.cells #[] 80) = wc at *
          cases hhas : Maps.has D (rowKey Dg) with
          | true =>
            have HN1 : Hid (MetI D w wc P (i + 1) u3) := ⟨(unhide HI).below.trans ((unhide HBC).mono (unhide HI).below.size), by rw [unhide HS, metOf_skip _ _ _ (by rw [unhide HD]; exact hhas)]; exact ownL_keep (unhide HI).own fun k _ hk => (unhide HBC).block k hk⟩
            go_wp2_with fail
            exact ⟨⟨i + 1, by omega, rfl, HN1⟩, by simp [intOf]; omega⟩
          | false =>
            have HCL := hide (clone_any (strOf PN) wc (by rw [strOf_size]; exact unhide HLEN))
            go_wp2_with fail
            refine (unhide HCL).mono ?_
            rintro e w6 ⟨rfl, hb6⟩
            have hown6 : OwnL w6 w.heap.size u3 (metOf D (P.take i)) := ownL_keep (ownL_keep (unhide HI).own fun k _ hk => (unhide HBC).block k hk) fun k _ hk => hb6.block k hk
            have hbl6 : Below w.heap.size w w6 := ((unhide HI).below.trans ((unhide HBC).mono (unhide HI).below.size)).trans (hb6.mono (Nat.le_trans (unhide HI).below.size (unhide HBC).size))
            have hsz6 := hbl6.size
            clear HCL
            go_wp2_with fail
            have hat6 := oneS_at w6 p
            rw [← unhide HP] at hat6
            obtain ⟨v7, w7, hr7, ho7, hb7, hz7⟩ := appS (w6.alloc (.cells #[.string (strOf PN)] 25)) w.heap.size u3 (metOf D (P.take i)) (some ⟨w6.heap.size, 0, none⟩) 1 1 [p] 23 rfl (World.ownsRow.alloc hown6 _) hat6 (by have := metOf_length D (P.take i); rw [List.length_take] at this; omega) (by simp; omega)
            rw [hr7]
            have HN1 : Hid (MetI D w w7 P (i + 1) v7) := ⟨(hbl6.alloc hsz6 _).trans hb7, by rw [unhide HS, metOf_snoc _ _ _ (by rw [unhide HD]; exact hhas)]; exact ho7⟩
            clear hr7 ho7 hb7 hz7 hat6 hown6 hbl6 hsz6 hb6
            go_wp2_with fail
            exact ⟨⟨i + 1, by omega, rfl, HN1⟩, by simp [intOf]; omega⟩
        · simp only [List.getElem_toArray, List.getElem_cons_zero, List.getElem_cons_succ]
          have hbn : Below wr.heap.size wr (w4.alloc (.cells #[] 80)) := hb4.alloc hb4.size _
          have hSn := unhide HST _ hbn
          go_simp
          refine hK.out _ _ hSn (fun hHeld => ?_)
          clear hK K
          try simp only [Act.put, List.getElem_toArray, List.getElem_cons_zero, List.getElem_cons_succ, List.setIfInBounds_toArray, List.set_cons_zero, List.set_cons_succ]
          refine wpAnyH_ready (rs := [8]) (by kernel_rfl) (by simp) (AllReadyH.cons rfl (fun K hK => ?_) AllReadyH.nil)
          simp only [List.getElem_toArray, List.getElem_cons_zero, List.getElem_cons_succ]
          rw [if_pos (by rfl)]
          refine wp_load_mid 82 (.tmp 25) rfl wr.heap.size 0 rfl (E8 Dg).toList _ (World.rangeAt_alloc hrng _) Try.underlying82 rfl (unhide HIN) ?_
          rw [Array.toArray_toList]
          refine hK.out _ _ hSn (fun hHeld => ?_)
          clear hK K
          try simp only [Act.put, List.getElem_toArray, List.getElem_cons_zero, List.getElem_cons_succ, List.setIfInBounds_toArray, List.set_cons_zero, List.set_cons_succ]
          refine wpAnyH_take (i := 9) (v := .tuple #[.agg #[], .bool (Maps.has D (rowKey Dg))]) rfl (by kernel_rfl) (by kernel_rfl) (by kernel_rfl) (fun _ _ _ h => h) (Or.inl ⟨by rfl, ?_⟩) hHeld ?_
          · intro w' hS'; have hlk := look_row hS'.2 (unhide HL32).1 (unhide HL32).2; go_simp
          try simp only [Act.put, List.getElem_toArray, List.getElem_cons_zero, List.getElem_cons_succ, List.setIfInBounds_toArray, List.set_cons_zero, List.set_cons_succ]
          refine wpAnyH_take (i := 10) (v := .tuple #[.agg #[], .bool (Maps.has D (rowKey Dg))]) rfl (by kernel_rfl) (by kernel_rfl) (by kernel_rfl) (fun _ _ _ h => h) (Or.inl ⟨by rfl, ?_⟩) hHeld ?_
          · intro w' hS'; have hq' := hS'.1; go_simp
          try simp only [Act.put, List.getElem_toArray, List.getElem_cons_zero, List.getElem_cons_succ, List.setIfInBounds_toArray, List.set_cons_zero, List.set_cons_succ]
          refine wpAnyH_take (i := 11) (v := .agg #[]) rfl (by kernel_rfl) (by kernel_rfl) (by kernel_rfl) (fun _ _ _ h => h) (Or.inl ⟨by rfl, ?_⟩) hHeld ?_
          · intro w' hS'; have hq' := hS'.1; go_simp
          try simp only [Act.put, List.getElem_toArray, List.getElem_cons_zero, List.getElem_cons_succ, List.setIfInBounds_toArray, List.set_cons_zero, List.set_cons_succ]
          refine wpAnyH_take (i := 12) (v := .bool (Maps.has D (rowKey Dg))) rfl (by kernel_rfl) (by kernel_rfl) (by kernel_rfl) (fun _ _ _ h => h) (Or.inl ⟨by rfl, ?_⟩) hHeld ?_
          · intro w' hS'; have hq' := hS'.1; go_simp
          try simp only [Act.put, List.getElem_toArray, List.getElem_cons_zero, List.getElem_cons_succ, List.setIfInBounds_toArray, List.set_cons_zero, List.set_cons_succ]
          refine wpAnyH_ready (rs := [14]) (by kernel_rfl) (by simp) (AllReadyH.cons rfl (fun K hK => ?_) AllReadyH.nil)
          simp only [List.getElem_toArray, List.getElem_cons_zero, List.getElem_cons_succ]
          go_simp
          refine hK.out _ _ hSn (fun hHeld => ?_)
          clear hK K
          try simp only [Act.put, List.getElem_toArray, List.getElem_cons_zero, List.getElem_cons_succ, List.setIfInBounds_toArray, List.set_cons_zero, List.set_cons_succ]
          refine wpAnyH_take (i := 15) (v := .bool (Maps.has D (rowKey Dg))) rfl (by kernel_rfl) (by kernel_rfl) (by kernel_rfl) (fun _ _ _ h => h) (Or.inl ⟨by rfl, ?_⟩) hHeld ?_
          · intro w' hS'; have hq' := hS'.1; go_simp
          try simp only [Act.put, List.getElem_toArray, List.getElem_cons_zero, List.getElem_cons_succ, List.setIfInBounds_toArray, List.set_cons_zero, List.set_cons_succ]
          refine wpAnyH_done (by kernel_rfl) ?_ _
          refine NoPanic.normal ?_
          clear hHeld
          have HBC := hide hbn
          generalize w4.alloc (.cells #[] 80) = wc at *
          cases hhas : Maps.has D (rowKey Dg) with
          | true =>
            have HN1 : Hid (MetI D w wc P (i + 1) u3) := ⟨(unhide HI).below.trans ((unhide HBC).mono (unhide HI).below.size), by rw [unhide HS, metOf_skip _ _ _ (by rw [unhide HD]; exact hhas)]; exact ownL_keep (unhide HI).own fun k _ hk => (unhide HBC).block k hk⟩
            go_wp2_with fail
            exact ⟨⟨i + 1, by omega, rfl, HN1⟩, by simp [intOf]; omega⟩
          | false =>
            have HCL := hide (clone_any (strOf PN) wc (by rw [strOf_size]; exact unhide HLEN))
            go_wp2_with fail
            refine (unhide HCL).mono ?_
            rintro e w6 ⟨rfl, hb6⟩
            have hown6 : OwnL w6 w.heap.size u3 (metOf D (P.take i)) := ownL_keep (ownL_keep (unhide HI).own fun k _ hk => (unhide HBC).block k hk) fun k _ hk => hb6.block k hk
            have hbl6 : Below w.heap.size w w6 := ((unhide HI).below.trans ((unhide HBC).mono (unhide HI).below.size)).trans (hb6.mono (Nat.le_trans (unhide HI).below.size (unhide HBC).size))
            have hsz6 := hbl6.size
            clear HCL
            go_wp2_with fail
            have hat6 := oneS_at w6 p
            rw [← unhide HP] at hat6
            obtain ⟨v7, w7, hr7, ho7, hb7, hz7⟩ := appS (w6.alloc (.cells #[.string (strOf PN)] 25)) w.heap.size u3 (metOf D (P.take i)) (some ⟨w6.heap.size, 0, none⟩) 1 1 [p] 23 rfl (World.ownsRow.alloc hown6 _) hat6 (by have := metOf_length D (P.take i); rw [List.length_take] at this; omega) (by simp; omega)
            rw [hr7]
            have HN1 : Hid (MetI D w w7 P (i + 1) v7) := ⟨(hbl6.alloc hsz6 _).trans hb7, by rw [unhide HS, metOf_snoc _ _ _ (by rw [unhide HD]; exact hhas)]; exact ho7⟩
            clear hr7 ho7 hb7 hz7 hat6 hown6 hbl6 hsz6 hb6
            go_wp2_with fail
            exact ⟨⟨i + 1, by omega, rfl, HN1⟩, by simp [intOf]; omega⟩
      · simp only [List.getElem_toArray, List.getElem_cons_zero, List.getElem_cons_succ]
        have hbn : Below wr.heap.size wr (wr.drew.alloc (.cells #[] 80)) := (Below.refl _ _).drew.alloc (Nat.le_refl _) _
        have hSn := unhide HST _ hbn
        go_simp
        refine hK.out _ _ hSn (fun hHeld => ?_)
        clear hK K
        try simp only [Act.put, List.getElem_toArray, List.getElem_cons_zero, List.getElem_cons_succ, List.setIfInBounds_toArray, List.set_cons_zero, List.set_cons_succ]
        refine wpAnyH_ready (rs := [6]) (by kernel_rfl) (by simp) (AllReadyH.cons rfl (fun K hK => ?_) AllReadyH.nil)
        simp only [List.getElem_toArray, List.getElem_cons_zero, List.getElem_cons_succ]
        have hcv : (cvP (.string (strOf Dg))).run Try.prog ((wr.alloc (.cells #[] 80)).drew) = _ := Lib.run_convert_string_bytes ((wr.alloc (.cells #[] 80)).drew) 25 22 5 (strOf Dg) Try.underlying25 Try.underlying22 Try.underlying5
        rw [unhide HDs] at hcv
        have hrng := conv_text ((wr.alloc (.cells #[] 80)).drew) (strOf Dg) (unhide HDs)
        rw [bytesOf_strOf Dg (unhide HL32).2] at hrng
        have hb4 : Below wr.heap.size wr (Lib.bytesWorld ((wr.alloc (.cells #[] 80)).drew) 5 (strOf Dg)) := (hbn).trans ((below_conv ((wr.alloc (.cells #[] 80)).drew) (strOf Dg)).mono (by simp))
        have hg32 : 32 ≤ grownCap ((wr.alloc (.cells #[] 80)).drew) 32 0 5 := grownCap_ge _ _ _ _
        have hS4 := (unhide HST) _ hb4
        generalize grownCap ((wr.alloc (.cells #[] 80)).drew) 32 0 5 = G at *
        generalize Lib.bytesWorld ((wr.alloc (.cells #[] 80)).drew) 5 (strOf Dg) = w4 at *
        go_simp
        refine hK.out _ _ hS4 (fun hHeld => ?_)
        clear hK K hcv
        try simp only [Act.put, List.getElem_toArray, List.getElem_cons_zero, List.getElem_cons_succ, List.setIfInBounds_toArray, List.set_cons_zero, List.set_cons_succ]
        refine wpAnyH_take (i := 7) (v := .pointer (some ⟨(wr.heap.size + 1), 0, none⟩)) rfl (by kernel_rfl) (by kernel_rfl) (by kernel_rfl) (fun _ _ _ h => h) (Or.inl ⟨by rfl, ?_⟩) hHeld ?_
        · intro w' hS'; have hq' := hS'.1; go_simp; all_goals (simp [Instr.arrayAt, Try.underlying82, go_sem]; done)
        try simp only [Act.put, List.getElem_toArray, List.getElem_cons_zero, List.getElem_cons_succ, List.setIfInBounds_toArray, List.set_cons_zero, List.set_cons_succ]
        refine wpAnyH_ready (rs := [8]) (by kernel_rfl) (by simp) (AllReadyH.cons rfl (fun K hK => ?_) AllReadyH.nil)
        simp only [List.getElem_toArray, List.getElem_cons_zero, List.getElem_cons_succ]
        rw [if_pos (by rfl)]
        refine wp_load_mid 82 (.tmp 25) rfl (wr.heap.size + 1) 0 rfl (E8 Dg).toList _ (by simpa using hrng) Try.underlying82 rfl (unhide HIN) ?_
        rw [Array.toArray_toList]
        refine hK.out _ _ hS4 (fun hHeld => ?_)
        clear hK K
        try simp only [Act.put, List.getElem_toArray, List.getElem_cons_zero, List.getElem_cons_succ, List.setIfInBounds_toArray, List.set_cons_zero, List.set_cons_succ]
        refine wpAnyH_take (i := 9) (v := .tuple #[.agg #[], .bool (Maps.has D (rowKey Dg))]) rfl (by kernel_rfl) (by kernel_rfl) (by kernel_rfl) (fun _ _ _ h => h) (Or.inl ⟨by rfl, ?_⟩) hHeld ?_
        · intro w' hS'; have hlk := look_row hS'.2 (unhide HL32).1 (unhide HL32).2; go_simp
        try simp only [Act.put, List.getElem_toArray, List.getElem_cons_zero, List.getElem_cons_succ, List.setIfInBounds_toArray, List.set_cons_zero, List.set_cons_succ]
        refine wpAnyH_take (i := 10) (v := .tuple #[.agg #[], .bool (Maps.has D (rowKey Dg))]) rfl (by kernel_rfl) (by kernel_rfl) (by kernel_rfl) (fun _ _ _ h => h) (Or.inl ⟨by rfl, ?_⟩) hHeld ?_
        · intro w' hS'; have hq' := hS'.1; go_simp
        try simp only [Act.put, List.getElem_toArray, List.getElem_cons_zero, List.getElem_cons_succ, List.setIfInBounds_toArray, List.set_cons_zero, List.set_cons_succ]
        refine wpAnyH_take (i := 11) (v := .agg #[]) rfl (by kernel_rfl) (by kernel_rfl) (by kernel_rfl) (fun _ _ _ h => h) (Or.inl ⟨by rfl, ?_⟩) hHeld ?_
        · intro w' hS'; have hq' := hS'.1; go_simp
        try simp only [Act.put, List.getElem_toArray, List.getElem_cons_zero, List.getElem_cons_succ, List.setIfInBounds_toArray, List.set_cons_zero, List.set_cons_succ]
        refine wpAnyH_take (i := 12) (v := .bool (Maps.has D (rowKey Dg))) rfl (by kernel_rfl) (by kernel_rfl) (by kernel_rfl) (fun _ _ _ h => h) (Or.inl ⟨by rfl, ?_⟩) hHeld ?_
        · intro w' hS'; have hq' := hS'.1; go_simp
        try simp only [Act.put, List.getElem_toArray, List.getElem_cons_zero, List.getElem_cons_succ, List.setIfInBounds_toArray, List.set_cons_zero, List.set_cons_succ]
        refine wpAnyH_ready (rs := [14]) (by kernel_rfl) (by simp) (AllReadyH.cons rfl (fun K hK => ?_) AllReadyH.nil)
        simp only [List.getElem_toArray, List.getElem_cons_zero, List.getElem_cons_succ]
        go_simp
        refine hK.out _ _ hS4 (fun hHeld => ?_)
        clear hK K
        try simp only [Act.put, List.getElem_toArray, List.getElem_cons_zero, List.getElem_cons_succ, List.setIfInBounds_toArray, List.set_cons_zero, List.set_cons_succ]
        refine wpAnyH_take (i := 15) (v := .bool (Maps.has D (rowKey Dg))) rfl (by kernel_rfl) (by kernel_rfl) (by kernel_rfl) (fun _ _ _ h => h) (Or.inl ⟨by rfl, ?_⟩) hHeld ?_
        · intro w' hS'; have hq' := hS'.1; go_simp
        try simp only [Act.put, List.getElem_toArray, List.getElem_cons_zero, List.getElem_cons_succ, List.setIfInBounds_toArray, List.set_cons_zero, List.set_cons_succ]
        refine wpAnyH_done (by kernel_rfl) ?_ _
        refine NoPanic.normal ?_
        clear hHeld
        have HBC := hide hb4
        generalize w4 = wc at *
        cases hhas : Maps.has D (rowKey Dg) with
        | true =>
          have HN1 : Hid (MetI D w wc P (i + 1) u3) := ⟨(unhide HI).below.trans ((unhide HBC).mono (unhide HI).below.size), by rw [unhide HS, metOf_skip _ _ _ (by rw [unhide HD]; exact hhas)]; exact ownL_keep (unhide HI).own fun k _ hk => (unhide HBC).block k hk⟩
          go_wp2_with fail
          exact ⟨⟨i + 1, by omega, rfl, HN1⟩, by simp [intOf]; omega⟩
        | false =>
          have HCL := hide (clone_any (strOf PN) wc (by rw [strOf_size]; exact unhide HLEN))
          go_wp2_with fail
          refine (unhide HCL).mono ?_
          rintro e w6 ⟨rfl, hb6⟩
          have hown6 : OwnL w6 w.heap.size u3 (metOf D (P.take i)) := ownL_keep (ownL_keep (unhide HI).own fun k _ hk => (unhide HBC).block k hk) fun k _ hk => hb6.block k hk
          have hbl6 : Below w.heap.size w w6 := ((unhide HI).below.trans ((unhide HBC).mono (unhide HI).below.size)).trans (hb6.mono (Nat.le_trans (unhide HI).below.size (unhide HBC).size))
          have hsz6 := hbl6.size
          clear HCL
          go_wp2_with fail
          have hat6 := oneS_at w6 p
          rw [← unhide HP] at hat6
          obtain ⟨v7, w7, hr7, ho7, hb7, hz7⟩ := appS (w6.alloc (.cells #[.string (strOf PN)] 25)) w.heap.size u3 (metOf D (P.take i)) (some ⟨w6.heap.size, 0, none⟩) 1 1 [p] 23 rfl (World.ownsRow.alloc hown6 _) hat6 (by have := metOf_length D (P.take i); rw [List.length_take] at this; omega) (by simp; omega)
          rw [hr7]
          have HN1 : Hid (MetI D w w7 P (i + 1) v7) := ⟨(hbl6.alloc hsz6 _).trans hb7, by rw [unhide HS, metOf_snoc _ _ _ (by rw [unhide HD]; exact hhas)]; exact ho7⟩
          clear hr7 ho7 hb7 hz7 hat6 hown6 hbl6 hsz6 hb6
          go_wp2_with fail
          exact ⟨⟨i + 1, by omega, rfl, HN1⟩, by simp [intOf]; omega⟩
    · obtain rfl : i = m := by omega
      have HE : Hid (StrsAt wr u3 (metOf D P) ∧ Below w.heap.size w wr) := by
        have h := (unhide HI).own.at
        rw [List.take_of_length_le (by have := unhide HN; omega)] at h
        exact ⟨h, (unhide HI).below⟩
      go_wp2_with fail
      go_ret
      exact ⟨_, rfl, unhide HE⟩
end Go.Proofs.Ytlbfcneboaihnaa
