/- lookTree: the look goes through each piece of a tree. -/
import Derived.Test.YtlbfcneboaihnaaRefs
import Derived.Test.YtlbfcneboaihnaaK4
namespace Go.Proofs.Ytlbfcneboaihnaa
open Go.RowKit Go.Great Go.ChangeMaps Go.MapKept
set_option linter.unusedSimpArgs false
mutual
/-- The pieces of a tree in which paths are looked for. -/
def pcs : Tn.Tr → List (List Nat)
  | .mk _ _ d ns ks => bytesOf d :: pcz ns ks
def pcz : List ByteArray → List Tn.Tr → List (List Nat)
  | n :: ns, t :: ks => bytesOf n :: (pcs t ++ pcz ns ks)
  | _, _ => []
end
/-- Digits stand in a piece. -/
def StandsIn (L : List (List Nat)) (d : List Nat) : Prop := ∃ B ∈ L, Stands B d
theorem standsIn_cons (B : List Nat) (L : List (List Nat)) (d : List Nat) : StandsIn (B :: L) d ↔ Stands B d ∨ StandsIn L d := by
  unfold StandsIn; simp
theorem standsIn_append (L M : List (List Nat)) (d : List Nat) : StandsIn (L ++ M) d ↔ StandsIn L d ∨ StandsIn M d := by
  unfold StandsIn
  constructor
  · rintro ⟨B, hB, h⟩
    rcases List.mem_append.1 hB with h1 | h1
    · exact .inl ⟨B, h1, h⟩
    · exact .inr ⟨B, h1, h⟩
  · rintro (⟨B, hB, h⟩ | ⟨B, hB, h⟩)
    · exact ⟨B, List.mem_append_left _ hB, h⟩
    · exact ⟨B, List.mem_append_right _ hB, h⟩
theorem pcz_step {ns : List ByteArray} {ks : List Tn.Tr} {i : Nat} (h1 : i < ns.length) (h2 : i < ks.length) : pcz (ns.drop i) (ks.drop i) = bytesOf ns[i] :: (pcs ks[i] ++ pcz (ns.drop (i + 1)) (ks.drop (i + 1))) := by
  rw [List.drop_eq_getElem_cons h1, List.drop_eq_getElem_cons h2, pcz]
theorem pcz_end {ns : List ByteArray} (ks : List Tn.Tr) {i : Nat} (h : ns.length ≤ i) : pcz (ns.drop i) ks = [] := by
  rw [List.drop_eq_nil_of_le h]; cases ks <;> rw [pcz]
  all_goals simp
/-- A tree's data, as bytes that came in. -/
theorem row_bytes {lo hi : Nat} {w : World} {a : Option Addr} {c : Nat} {d : ByteArray} (h : Tn.Row lo hi w (.slice a d.size c) d.size (Tn.byteVals d)) (hhi : hi ≤ w.heap.size) : BytesAt w (.slice a d.size c) (bytesOf d) := by
  obtain ⟨a', c', e, hc, hx⟩ := h
  injection e with e1 e2 e3
  subst e1 e3
  refine ⟨a, c, by rw [bytesOf_length], by rw [bytesOf_length]; exact hc, fun h0 => ?_⟩
  rw [bytesOf_length] at h0
  obtain ⟨g, o, ea, _, hg2, hcell⟩ := hx h0
  refine ⟨g, o, ea, by omega, fun j hj => ?_⟩
  rw [bytesOf_length] at hj
  have hj' : j < d.data.toList.length := by rw [Array.length_toList]; exact hj
  refine hcell j _ ?_
  have e2 : Sha.nth (bytesOf d) j = (d.data.toList[j]).toNat := by
    unfold bytesOf Sha.nth
    rw [List.getElem?_map, List.getElem?_eq_getElem hj']; rfl
  rw [e2]
  unfold Tn.byteVals
  rw [List.getElem?_map, List.getElem?_eq_getElem hj']; rfl
theorem solo_below {mb hi : Nat} {w w' : World} (h : Solo mb w w') (h1 : hi ≤ mb) (h2 : hi ≤ w.heap.size) : Below hi w w' :=
  ⟨h.os, h.tape, h.output, h.size, fun k hk => h.block k (by omega) (by omega)⟩
theorem Solo.of_below {b : Nat} {x y : World} (h : Below x.heap.size x y) : Solo b x y := ⟨h.os, h.tape, h.output, h.size, fun k hk _ => h.block k hk⟩
theorem map_lt {w : World} {mb n : Nat} {D : DataW Unit} (h : w.ownsMap Try.prog 82 unitElem mb n D) : mb < w.heap.size := by
  obtain ⟨es, clock, hb, _⟩ := h
  exact (Array.getElem?_eq_some_iff.1 hb).1
theorem map_ne {w : World} {g mb n : Nat} {D : DataW Unit} {v : Value} {o : Nat} (hc : w.cell? ⟨g, o, none⟩ = some v) (h : w.ownsMap Try.prog 82 unitElem mb n D) : g ≠ mb := by
  rintro rfl
  obtain ⟨es, clock, hb, _⟩ := h
  simp [World.cell?, hb] at hc
theorem map_keep {w w' : World} {mb n : Nat} {D : DataW Unit} (h : w.ownsMap Try.prog 82 unitElem mb n D) (hk : w'.heap[mb]? = w.heap[mb]?) : w'.ownsMap Try.prog 82 unitElem mb n D := by
  obtain ⟨es, clock, hb, r⟩ := h
  exact ⟨es, clock, hk.trans hb, r⟩
theorem box_cells {w : World} {b : Nat} {v0 v1 v2 v3 v4 : Value} (h : w.heap[b]? = some (.cells #[v0, v1, v2, v3, v4] 34)) : w.cell? ⟨b, 0, none⟩ = some v0 ∧ w.cell? ⟨b, 1, none⟩ = some v1 ∧ w.cell? ⟨b, 2, none⟩ = some v2 ∧ w.cell? ⟨b, 3, none⟩ = some v3 ∧ w.cell? ⟨b, 4, none⟩ = some v4 := by
  simp [World.cell?, h]
/-- What a look leaves. -/
def Left (g mb n : Nat) (D : DataW Unit) (L : List (List Nat)) (w w' : World) : Prop :=
  Solo mb w w' ∧ w'.cell? ⟨g, 1, none⟩ = some (.map (some mb)) ∧ ∃ D' : DataW Unit, w'.ownsMap Try.prog 82 unitElem mb n D' ∧
    ∀ d, d.length = 32 → Sha.Bytes d → (∀ j, j < 32 → digB (d.getD j 0) = true) → (Maps.has D' (rowKey d) = true ↔ Maps.has D (rowKey d) = true ∧ ¬ StandsIn L d)
set_option maxRecDepth 20000 in
set_option maxHeartbeats 1000000 in
theorem lookTree_any (T : Tn.Tr) : ∀ (lo hi : Nat) (cs : List Value) (w : World) (g mb n : Nat) (D : DataW Unit), Tn.Lies lo hi w T cs → Tn.Fit T → Tn.Vld T → hi ≤ mb → hi ≤ w.heap.size → w.cell? ⟨g, 1, none⟩ = some (.map (some mb)) → w.ownsMap Try.prog 82 unitElem mb n D →
    Calls Try.prog 32 #[.pointer (some ⟨g, 0, none⟩), .agg cs.toArray] w fun e w' => e = .returned (.tuple #[]) ∧ Left g mb n D (pcs T) w w' := by
  induction T using Tn.Tr.ind with
  | h k x d ns ks ih =>
  intro lo hi cs w g mb n D hL hF hV hm hhi hg ho
  have hSm := Tn.small_of hF
  obtain ⟨hv0, hvk⟩ := hV.here
  obtain ⟨hd20, hnk, hok⟩ := Tn.loc_ok hv0
  cases hL with
  | mk _ _ _ _ _ vd vn vk Ks hl hd hn hk hK =>
  obtain ⟨ad, cd, rfl, hcd⟩ := hd.slice
  obtain ⟨an, cn', rfl, hcn⟩ := hn.slice
  obtain ⟨ak, ck, rfl, hck⟩ := hk.slice
  obtain ⟨N, hN⟩ : ∃ N, ks.length = N := ⟨_, rfl⟩
  have hM : ns.length = N := hnk.trans hN
  obtain ⟨M, hMd⟩ : ∃ M, d.size = M := ⟨_, rfl⟩
  have hmb := map_lt ho
  have hgl := cell_lt hg
  have hgm := map_ne hg ho
  obtain ⟨wA, hwA⟩ : ∃ wA, wA = w.alloc (.cells #[.int .i64 k, .bool x, .slice ad M cd, .slice an N cn', .slice ak N ck] 34) := ⟨_, rfl⟩
  have hbA : Below w.heap.size w wA := by rw [hwA]; exact (Below.refl _ _).alloc (Nat.le_refl _) _
  have hsA : wA.heap.size = w.heap.size + 1 := by rw [hwA]; simp
  have hxA : wA.heap[w.heap.size]? = some (.cells #[.int .i64 k, .bool x, .slice ad M cd, .slice an N cn', .slice ak N ck] 34) := by rw [hwA]; exact Tn.bx_new w _ _ _ _ _
  have hoA : wA.ownsMap Try.prog 82 unitElem mb n D := map_keep ho (hbA.block mb hmb)
  have hgA : wA.cell? ⟨g, 1, none⟩ = some (.map (some mb)) := by rw [hbA.cell (p := ⟨g, 1, none⟩) hgl]; exact hg
  have hdA := row_bytes (hd.below hbA hhi) (by omega)
  rw [hMd] at hdA
  have HLk := hide (look_any g mb n D ad M cd (bytesOf d) wA hgA hoA (by rw [bytesOf_length]; exact hMd) hdA (bytesOf_bytes d) (by omega))
  have HA := hide (And.intro hbA (And.intro hsA hxA))
  have HwA := hide hwA
  have HR := hide (And.intro hn (And.intro hk (And.intro hl (And.intro hK (And.intro hN hM)))))
  have HV := hide (And.intro hvk (And.intro hSm hok))
  have HIH := hide ih
  have HM := hide (And.intro hMd (And.intro hd20 (And.intro hmb (And.intro hgl (And.intro hgm hm)))))
  rw [hN, hM, hMd]
  rw [hN] at hck
  rw [hM] at hcn
  clear hd hn hk hl hK hF hV hSm hvk hv0 hok ih hbA hxA hoA hgA hdA hwA hsA hnk hg ho hN hM hMd hcd hd20 hmb hgl hgm hm
  have hNb : N ≤ 1599289640401 := by have h1 := (unhide HV).2.1.k; have h2 := (unhide HR).2.2.2.2.1; omega
  go_enter Try.func32, Try.ntmps32
  go_wp2_with fail
  rw [← unhide HwA]
  refine (unhide HLk).mono ?_
  rintro e w1 ⟨rfl, i1, r1, D1, hI, hend⟩
  have hx1 : w1.heap[w.heap.size]? = some (.cells #[.int .i64 k, .bool x, .slice ad M cd, .slice an N cn', .slice ak N ck] 34) := by
    rw [hI.solo.block _ (by have := (unhide HA).2.1; omega) (by have := (unhide HM).2.2.1; omega)]; exact (unhide HA).2.2
  have HL1 : Hid (Left g mb n D [bytesOf d] w w1) := by
    refine ⟨(Solo.of_below (unhide HA).1).trans hI.solo, hI.cell, D1, hI.own, fun y h1 h2 h3 => ?_⟩
    rw [hI.done (by rw [bytesOf_length]; exact (unhide HM).1) hend y h1 h2 h3, standsIn_cons]
    simp [StandsIn]
  have HX1 := hide hx1
  obtain ⟨y0, y1, y2, y3, y4⟩ := box_cells hx1
  clear HLk hI hend hx1
  go_wp2_with fail
  clear y0 y1 y2 y3 y4
  go_loopw [13] (fun vi wr => ∃ (i : Nat) (L : List (List Nat)), i ≤ N ∧ vi = .int .i64 (i : Int) ∧ Hid (bytesOf d :: pcz ns ks = L ++ pcz (ns.drop i) (ks.drop i)) ∧ Hid (Left g mb n D L w wr) ∧ wr.heap[w.heap.size]? = some (.cells #[.int .i64 k, .bool x, .slice ad M cd, .slice an N cn', .slice ak N ck] 34)) (fun vi _ => N - (intOf vi).toNat)
  case atStart => exact ⟨0, [bytesOf d], by omega, rfl, rfl, HL1, unhide HX1⟩
  case round =>
    obtain ⟨i, L, hiN, rfl, HP, HL, hx⟩ := hrel
    by_cases hlt : i < N
    · obtain ⟨hn, hk, hl, hK, hN, hM⟩ := unhide HR
      obtain ⟨hMd, hd20, hmb, hgl, hgm, hm⟩ := unhide HM
      obtain ⟨hvk, hSm, hok⟩ := unhide HV
      obtain ⟨hso, hcg, Dr, hor, hhas⟩ := unhide HL
      have hbr : Below hi w wr := solo_below hso hm hhi
      have hzr := (Array.getElem?_eq_some_iff.1 hx).1
      have hin : i < ns.length := by omega
      have hik : i < ks.length := by omega
      have hst := pcz_step hin hik
      obtain ⟨gn, on, rfl, hgn1, hgn2, hcelln⟩ := hn.at (by omega)
      have hcn1 : wr.cell? ⟨gn, on + i, none⟩ = some (.string ns[i]) := by
        rw [hbr.cell (p := ⟨gn, on + i, none⟩) (by show gn < hi; omega)]
        exact hcelln i _ (by rw [List.getElem?_map, List.getElem?_eq_getElem hin]; rfl)
      have hsz100 : ns[i].size ≤ 140737488355328 := hSm.s _ (List.getElem_mem hin)
      have hent : ns[i].size ≤ 100 := by
        have h1 := hok (by omega) i hin
        unfold Tn.okName at h1
        rw [List.getElem?_eq_getElem hin] at h1
        simp only [Bool.and_eq_true] at h1
        exact (of_decide_eq_true h1.1).2.1
      have hvi : Tn.Vld ks[i] := hvk _ (List.getElem_mem hik)
      have hfi : Tn.Fit ks[i] := hSm.t _ (List.getElem_mem hik)
      obtain ⟨gk, ok, rfl, hgk1, hgk2, hcellk⟩ := hk.at (by omega)
      have HIi := hide (unhide HIH ks[i] (List.getElem_mem hik))
      have HK := hide (fun (W : World) (hW : Below hi w W) => Tn.kid_sl hl (fun j u hj => by rw [hW.cell (p := ⟨gk, ok + j, none⟩) (by show gk < hi; omega)]; exact hcellk j u hj) (fun i t c h1 h2 => (hK i t c h1 h2).kept hW (Nat.le_refl _)) i hik)
      obtain ⟨nm, hnm⟩ : ∃ nm, ns[i] = nm := ⟨_, rfl⟩
      obtain ⟨t, hkd⟩ : ∃ t, ks[i] = t := ⟨_, rfl⟩
      rw [hst, hnm, hkd] at HP
      rw [hnm] at hcn1 hsz100 hent
      rw [hkd] at hvi hfi HIi HK
      clear hst hcelln hcellk hn hk hl hK hvk hSm hok hnm hkd hin
      obtain ⟨cap, w2, hr2, hb2, hat2, hz2⟩ := run_cvB wr nm
      have ho2 : w2.ownsMap Try.prog 82 unitElem mb n Dr := map_keep hor (hb2.block mb (map_lt hor))
      have hg2 : w2.cell? ⟨g, 1, none⟩ = some (.map (some mb)) := by rw [hb2.cell (p := ⟨g, 1, none⟩) (cell_lt hcg)]; exact hcg
      have HLk := hide (look_any g mb n Dr (some ⟨wr.heap.size, 0, none⟩) nm.size cap (bytesOf nm) w2 hg2 ho2 (bytesOf_length nm) hat2 (bytesOf_bytes nm) (by omega))
      have hs2 : Solo mb w w2 := hso.trans (Solo.of_below hb2)
      have hx2 : w2.heap[w.heap.size]? = some (.cells #[.int .i64 k, .bool x, .slice ad M cd, .slice (some ⟨gn, on, none⟩) N cn', .slice (some ⟨gk, ok, none⟩) N ck] 34) := by rw [hb2.block _ hzr]; exact hx
      have hzw := hso.size
      have HS2 := hide (And.intro hs2 (And.intro hx2 hhas))
      have hl2 : w.heap.size < w2.heap.size := by omega
      clear hso hcg hor hhas hbr hb2 hat2 hz2 ho2 hg2 hs2 hx2 hx HL
      go_wp2_with fail
      refine (unhide HLk).mono ?_
      rintro e w3 ⟨rfl, i3, r3, D3, hI, hend⟩
      obtain ⟨hs2, hx2, hhas⟩ := unhide HS2
      have hx3 : w3.heap[w.heap.size]? = some (.cells #[.int .i64 k, .bool x, .slice ad M cd, .slice (some ⟨gn, on, none⟩) N cn', .slice (some ⟨gk, ok, none⟩) N ck] 34) := by rw [hI.solo.block _ hl2 (by omega)]; exact hx2
      have hs3 : Solo mb w w3 := hs2.trans hI.solo
      have hb3 : Below hi w w3 := solo_below hs3 hm hhi
      have hhas3 : ∀ y, y.length = 32 → Sha.Bytes y → (∀ j, j < 32 → digB (y.getD j 0) = true) → (Maps.has D3 (rowKey y) = true ↔ Maps.has D (rowKey y) = true ∧ ¬ StandsIn (L ++ [bytesOf nm]) y) := fun y h1 h2 h3 => by
        rw [hI.done (bytesOf_length nm) hend y h1 h2 h3, hhas y h1 h2 h3, standsIn_append, standsIn_cons]
        simp only [StandsIn, List.not_mem_nil, false_and, exists_false, or_false, not_or, and_assoc]
      obtain ⟨q0, q1, f1, g1, h1, f2, g2, h2, f3, g3, h3, hLi, m0, m1, m2, m3, m4⟩ := unhide HK w3 hb3
      have HT := hide (unhide HIi lo hi _ w3 g mb n D3 hLi hfi hvi hm (by have := hs3.size; omega) hI.cell hI.own)
      obtain ⟨y0, y1, y2, y3, y4⟩ := box_cells hx3
      have HS3 := hide (And.intro hs3 (And.intro hx3 hhas3))
      have hl3 : w.heap.size < w3.heap.size := (Array.getElem?_eq_some_iff.1 hx3).1
      clear hs2 hx2 hhas hx3 hs3 hb3 hhas3 hLi hI hend HLk HS2 HK HIi
      go_wp2_with fail
      refine (unhide HT).mono ?_
      rintro e w4 ⟨rfl, hs4, hc4, D4, ho4, hhas4⟩
      obtain ⟨hs3, hx3, hhas3⟩ := unhide HS3
      have hx4 : w4.heap[w.heap.size]? = some (.cells #[.int .i64 k, .bool x, .slice ad M cd, .slice (some ⟨gn, on, none⟩) N cn', .slice (some ⟨gk, ok, none⟩) N ck] 34) := by rw [hs4.block _ hl3 (by omega)]; exact hx3
      have HL4 : Hid (Left g mb n D (L ++ [bytesOf nm] ++ pcs t) w w4) := by
        refine ⟨hs3.trans hs4, hc4, D4, ho4, fun y h1 h2 h3 => ?_⟩
        rw [hhas4 y h1 h2 h3, hhas3 y h1 h2 h3, standsIn_append (L ++ [bytesOf nm])]
        simp only [not_or, and_assoc]
      have HP4 : Hid (bytesOf d :: pcz ns ks = L ++ [bytesOf nm] ++ pcs t ++ pcz (ns.drop (i + 1)) (ks.drop (i + 1))) := by
        show _ = _
        rw [unhide HP]; simp
      have HX4 := hide hx4
      clear hs3 hx3 hhas3 hs4 hc4 ho4 hhas4 hx4 HT HS3 y0 y1 y2 y3 y4 m0 m1 m2 m3 m4 HP
      go_wp2_with fail
      exact ⟨⟨i + 1, _, by omega, rfl, HP4, HL4, unhide HX4⟩, by simp [intOf]; omega⟩
    · obtain rfl : i = N := by omega
      have HE : Hid (Left g mb n D (pcs (.mk k x d ns ks)) w wr) := by
        have h1 := unhide HP
        rw [pcz_end _ (by have := (unhide HR).2.2.2.2.2; omega), List.append_nil] at h1
        show Left g mb n D (pcs (.mk k x d ns ks)) w wr
        rw [pcs, h1]; exact unhide HL
      go_wp2_with fail
      exact bodyPost_end (v := .tuple #[]) (by simp [results, Try.results32, go_sem]) rfl ⟨rfl, unhide HE⟩
end Go.Proofs.Ytlbfcneboaihnaa
