/- The document's own rewrite of a tree. -/
import Derived.Test.YtlbfcneboaihnaaRpl
import Derived.Test.YtlbfcneboaihnaaLtr
import Derived.Test.YtlbfcneboaihnaaK6
import Derived.Test.YtlbfcneboaihnaaLai
import Derived.Test.YtlbfcneboaihnaaRwk
namespace Go.Proofs.Ytlbfcneboaihnaa
open Go.RowKit Go.Great Tn
set_option linter.unusedSimpArgs false
theorem bytes_same {w w' : World} {v : Value} {m : List Nat} (h : BytesAt w v m) (hs : ∀ q : Nat, q < w.heap.size → w'.heap[q]? = w.heap[q]?) (hz : w.heap.size ≤ w'.heap.size) : BytesAt w' v m := by
  obtain ⟨a, c, e, hc, hx⟩ := h
  refine ⟨a, c, e, hc, fun h0 => ?_⟩
  obtain ⟨b, o, ea, hb, hcell⟩ := hx h0
  exact ⟨b, o, ea, by omega, fun i hi => by rw [World.cell?_of_block (w := w) (a := ⟨b, o + i, none⟩) (hs b hb)]; exact hcell i hi⟩
set_option maxRecDepth 20000 in
set_option maxHeartbeats 8000000 in
theorem rewriteR_any (F D : List Nat) (hF : Sha.Bytes F) (hFl : F.length = 32) (hD : Sha.Bytes D) (hDl : D.length = 32) (T : Tr) : ∀ (lo hi : Nat) (cs : List Value) (w : World),
    Lies lo hi w T cs → Sml T → rcA F T ≤ 1000000 → hi ≤ w.heap.size →
    Calls Try.prog 40 #[.agg cs.toArray, .string (strOf F), .string (strOf D)] w fun e w' => ∃ cs', e = .returned (.tuple #[.agg cs'.toArray, .int .i64 (rcA F T : Nat)]) ∧ Lies w.heap.size w'.heap.size w' (rwD F D T) cs' ∧ Below w.heap.size w w' := by
  induction T using Tr.ind with
  | h k x d ns ks ih =>
  intro lo hi cs w hL hS hAm hhi
  rw [rcA] at hAm
  obtain ⟨hd4, hn3, hsz, hnk, hSk⟩ := hS.here
  cases hL with
  | mk _ _ _ _ _ vd vn vk Ks hl hd hn hk hK =>
  obtain ⟨ad, cd, rfl, hcd⟩ := hd.slice
  obtain ⟨an, cn', rfl, hcn⟩ := hn.slice
  obtain ⟨ak, ck, rfl, hck⟩ := hk.slice
  obtain ⟨N, hN⟩ : ∃ N, ks.length = N := ⟨_, rfl⟩
  have hM : ns.length = N := hnk.trans hN
  obtain ⟨Q, hQ⟩ : ∃ Q, d.size = Q := ⟨_, rfl⟩
  have hN3 : N ≤ 300 := by omega
  obtain ⟨wA, hwA⟩ : ∃ wA, wA = ((w.alloc (.cells #[.int .i64 k, .bool x, .slice ad Q cd, .slice an N cn', .slice ak N ck] 34)).alloc (.cells #[.int .i64 0, .bool false, .slice none 0 0, .slice none 0 0, .slice none 0 0] 34)).alloc (.cells #[.int .i64 k, .bool x, .slice none 0 0, .slice none 0 0, .slice none 0 0] 34) := ⟨_, rfl⟩
  have hbA : Below w.heap.size w wA := by rw [hwA]; exact (((Below.refl _ _).alloc (Nat.le_refl _) _).alloc (by simp) _).alloc (by simp; omega) _
  have hsA : wA.heap.size = w.heap.size + 1 + 1 + 1 := by rw [hwA]; simp
  have hx0 : Bx wA w.heap.size (.int .i64 k) (.bool x) (.slice ad Q cd) (.slice an N cn') (.slice ak N ck) := by
    rw [hwA]
    exact (bx_new w _ _ _ _ _).kept (((Below.refl (w.heap.size + 1) _).alloc (by simp) _).alloc (by simp) _) (by omega)
  have hx1 : Bx wA (w.heap.size + 1) (.int .i64 0) (.bool false) (.slice none 0 0) (.slice none 0 0) (.slice none 0 0) := by
    rw [hwA]
    have := bx_new (w.alloc (.cells #[.int .i64 k, .bool x, .slice ad Q cd, .slice an N cn', .slice ak N ck] 34)) (.int .i64 0) (.bool false) (.slice none 0 0) (.slice none 0 0) (.slice none 0 0)
    rw [World.size_alloc] at this
    exact this.kept ((Below.refl (w.heap.size + 1 + 1) _).alloc (by simp) _) (by omega)
  have hx2 : Bx wA (w.heap.size + 1 + 1) (.int .i64 k) (.bool x) (.slice none 0 0) (.slice none 0 0) (.slice none 0 0) := by
    rw [hwA]
    have := bx_new ((w.alloc (.cells #[.int .i64 k, .bool x, .slice ad Q cd, .slice an N cn', .slice ak N ck] 34)).alloc (.cells #[.int .i64 0, .bool false, .slice none 0 0, .slice none 0 0, .slice none 0 0] 34)) (.int .i64 k) (.bool x) (.slice none 0 0) (.slice none 0 0) (.slice none 0 0)
    rw [World.size_alloc, World.size_alloc] at this
    exact this
  have hat := row_bytes (hd.below hbA hhi) (by omega)
  rw [hQ] at hat
  have HI := hide (replaceRef_any ad Q cd (bytesOf d) F D wA hat (bytesOf_bytes d) (by rw [bytesOf_length]; exact hQ) hF hFl hD hDl (by omega))
  rw [hN, hM, hQ]
  have HA := hide (And.intro hbA (And.intro hx0 (And.intro hx1 hx2)))
  have HR := hide (And.intro hn (And.intro hk (And.intro hl (And.intro hK (And.intro hN (And.intro hM hQ))))))
  have HV := hide (And.intro hSk hsz)
  have HIH := hide ih
  have HwA := hide hwA
  rw [hN] at hck
  rw [hM] at hcn
  clear hd hn hk hl hK hN hM hQ hSk hsz ih hbA hx0 hx1 hx2 hat hwA hS hd4
  go_enter Try.func40, Try.ntmps40
  go_wp2_with fail
  rw [← unhide HwA]
  refine (unhide HI).mono ?_
  rintro e w1 ⟨v, rfl, ho, hb1⟩
  obtain ⟨av, cv, rfl, -⟩ := ho.at
  obtain ⟨hbA, hx0, hx1, hx2⟩ := unhide HA
  have hs1 := hb1.size
  have hy0 := hx0.kept hb1 (by omega)
  have hy1 := hx1.kept hb1 (by omega)
  have hy2 := hx2.kept hb1 (by omega)
  obtain ⟨y0, y1, y2, y3, y4⟩ := hy0.cells
  obtain ⟨z0, z1, z2, z3, z4⟩ := hy2.cells
  have r2 := hy2.fr 2
  have hrw := ownR_row hD ho
  have HB1 := hide (And.intro (hbA.trans (hb1.mono hbA.size)) (And.intro hy0 (And.intro hy1 (And.intro hy2 hrw))))
  have hl1 : w.heap.size + 1 + 1 < w1.heap.size := by omega
  clear hbA hx0 hx1 hx2 hy0 hy1 hy2 hrw hb1 HI HA HwA ho
  obtain ⟨P, hP⟩ : ∃ P, (layAll D (bytesOf d) (plcs (bytesOf d) F 0)).length = P := ⟨_, rfl⟩
  rw [hP] at HB1 ⊢
  clear hP
  have HC0 : Hid ((plcs (bytesOf d) F 0).length = rc F d) := rfl
  rw [unhide HC0]
  go_wp2_with fail
  obtain ⟨ws, hws⟩ : ∃ ws, ws = w1.setCell ⟨w.heap.size + 1 + 1, 2, none⟩ (.slice av P cv) := ⟨_, rfl⟩
  have HG0 : Hid (Rwi F D ns ks (w.heap.size + 1 + 1) 0 (rc F d) (rc F d + rcAs F ns ks) [] k x (.slice av P cv) none none 0 0 w1 ws) := by
    obtain ⟨hbw, hy0, hy1, hy2, hrw⟩ := unhide HB1
    refine ⟨by rw [hws]; rfl, by rw [hws]; rfl, by rw [hws]; rfl, by rw [hws]; simp, fun q h1 h2 => by rw [hws]; exact set_other _ _ _ _ _ h2, by rw [hws]; exact hy2.set2 _, rfl, ⟨none, 0, rfl, Nat.le_refl _, fun h => by omega⟩, ⟨[], rfl, ⟨none, 0, rfl, Nat.le_refl _, fun h => by omega⟩, fun j e c h => by simp at h⟩, rfl, rfl⟩
  rw [← hws]
  have hsws : ws.heap.size = w1.heap.size := by rw [hws]; simp
  clear hws y0 y1 y2 y3 y4 z0 z1 z2 z3 z4 r2
  go_loopw [10, 11] (fun vn vi wr => ∃ (i nn : Nat) (acc : List En) (a1 a2 : Option Addr) (c1 c2 : Nat), i ≤ N ∧ vi = .int .i64 (i : Int) ∧ vn = .int .i64 (nn : Int) ∧ Hid (Rwi F D ns ks (w.heap.size + 1 + 1) i nn (rc F d + rcAs F ns ks) acc k x (.slice av P cv) a1 a2 c1 c2 w1 wr)) (fun _ vi _ => N - (intOf vi).toNat)
  case atStart => exact ⟨0, _, [], none, none, 0, 0, by omega, rfl, rfl, HG0⟩
  case round =>
    obtain ⟨i, nn, acc, a1, a2, c1, c2, hiN, rfl, rfl, HG⟩ := hrel
    have hG := unhide HG
    obtain ⟨hbw, hy0, hy1, hy2, hrw⟩ := unhide HB1
    have hzr := hG.size
    have hx0 : Bx wr w.heap.size (.int .i64 k) (.bool x) (.slice ad Q cd) (.slice an N cn') (.slice ak N ck) := hy0.of (hG.rest _ (by omega) (by omega))
    obtain ⟨y0, y1, y2, y3, y4⟩ := hx0.cells
    by_cases hlt : i < N
    · obtain ⟨hn, hk, hl, hK, hN, hM, hQ⟩ := unhide HR
      obtain ⟨hSk, hsz⟩ := unhide HV
      have hin : i < ns.length := by omega
      have hik : i < ks.length := by omega
      have hlow : ∀ q, q < w.heap.size → wr.heap[q]? = w.heap[q]? := fun q hq => by rw [hG.rest q (by omega) (by omega), hbw.block q hq]
      obtain ⟨gn, on, rfl, hgn1, hgn2, hcelln⟩ := hn.at (by omega)
      have hcn1 : wr.cell? ⟨gn, on + i, none⟩ = some (.string ns[i]) := by
        rw [World.cell?_of_block (w := w) (a := ⟨gn, on + i, none⟩) (hlow gn (by omega))]
        exact hcelln i _ (by rw [List.getElem?_map, List.getElem?_eq_getElem hin]; rfl)
      obtain ⟨gk, ok, rfl, hgk1, hgk2, hcellk⟩ := hk.at (by omega)
      obtain ⟨q0, q1, f1, g1, h1, f2, g2, h2, f3, g3, h3, hLi, m0, m1, m2, m3, m4⟩ := kid_sl (w := wr) hl (fun j u hj => by rw [World.cell?_of_block (w := w) (a := ⟨gk, ok + j, none⟩) (hlow gk (by omega))]; exact hcellk j u hj) (fun i t c h1 h2 => (hK i t c h1 h2).same fun q _ hq => hlow q (by omega)) i hik
      have hnsz := hsz ns[i] (List.getElem_mem hin)
      have htot := hG.tot
      rw [rcAs_step hin hik] at htot
      have hnb : nn + rc F ns[i] + rcA F ks[i] ≤ 1000000 := by omega
      obtain ⟨cap, w2, hr2, hb2, hat2, hz2⟩ := run_cvB wr ns[i]
      have HRp := hide (replaceRef_any (some ⟨wr.heap.size, 0, none⟩) ns[i].size cap (bytesOf ns[i]) F D w2 hat2 (bytesOf_bytes _) (bytesOf_length _) hF hFl hD hDl (by omega))
      have HKd := hide (fun W (hW : Below wr.heap.size wr W) => unhide HIH ks[i] (List.getElem_mem hik) lo hi _ W (hLi.kept hW (by omega)) (hSk _ (List.getElem_mem hik)) (by omega) (by have := hW.size; omega))
      have HMs := hide (fun W (hW : Below wr.heap.size wr W) => show (W.cell? ⟨gk, ok + i * 5, none⟩ = some (.int .i64 q0) ∧ W.cell? ⟨gk, ok + i * 5 + 1, none⟩ = some (.bool q1) ∧ W.cell? ⟨gk, ok + i * 5 + 2, none⟩ = some (.slice f1 g1 h1) ∧ W.cell? ⟨gk, ok + i * 5 + 3, none⟩ = some (.slice f2 g2 h2) ∧ W.cell? ⟨gk, ok + i * 5 + 4, none⟩ = some (.slice f3 g3 h3)) ∧ Bx W w.heap.size (.int .i64 k) (.bool x) (.slice ad Q cd) (.slice (some ⟨gn, on, none⟩) N cn') (.slice (some ⟨gk, ok, none⟩) N ck) from ⟨⟨by rw [hW.cell (p := ⟨gk, ok + i * 5, none⟩) (cell_lt m0)]; exact m0, by rw [hW.cell (p := ⟨gk, ok + i * 5 + 1, none⟩) (cell_lt m1)]; exact m1, by rw [hW.cell (p := ⟨gk, ok + i * 5 + 2, none⟩) (cell_lt m2)]; exact m2, by rw [hW.cell (p := ⟨gk, ok + i * 5 + 3, none⟩) (cell_lt m3)]; exact m3, by rw [hW.cell (p := ⟨gk, ok + i * 5 + 4, none⟩) (cell_lt m4)]; exact m4⟩, hx0.kept hW hx0.lt⟩)
      obtain ⟨nm, hnm⟩ : ∃ nm, ns[i] = nm := ⟨_, rfl⟩
      obtain ⟨kd, hkd⟩ : ∃ kd, ks[i] = kd := ⟨_, rfl⟩
      have HNK : Hid (ns[i]? = some nm ∧ ks[i]? = some kd) := ⟨by rw [List.getElem?_eq_getElem hin, hnm], by rw [List.getElem?_eq_getElem hik, hkd]⟩
      rw [hnm] at hcn1 hr2 HRp hnsz hnb
      have HSt := hide (And.intro hnsz hb2)
      rw [hkd] at HKd hnb
      clear hn hk hl hK hN hM hQ hSk hsz hlow hcelln hcellk hLi m0 m1 m2 m3 m4 hnm hkd hnsz hat2 hz2 htot hb2 hG hbw hy0 hy1 hy2 hrw hx0 HIH hin hik
      go_wp2_with fail
      refine (unhide HRp).mono ?_
      rintro e w3 ⟨v3, rfl, ho3, hb3⟩
      obtain ⟨av3, cv3, rfl, hat3⟩ := ho3.at
      obtain ⟨hnsz, hb2⟩ := unhide HSt
      have hbr3 : Below wr.heap.size wr w3 := hb2.trans (hb3.mono hb2.size)
      have HK3 := hide (unhide HKd w3 hbr3)
      obtain ⟨⟨n0, n1, n2, n3, n4⟩, hx3⟩ := unhide HMs w3 hbr3
      obtain ⟨x0, x1, x2, x3, x4⟩ := hx3.cells
      have HB3 := hide (And.intro hbr3 hat3)
      obtain ⟨B, hB⟩ : ∃ B, layAll D (bytesOf nm) (plcs (bytesOf nm) F 0) = B := ⟨_, rfl⟩
      have HBn : Hid (strOf B = rp F D nm) := by show strOf B = _; rw [← hB]; rfl
      have HCn : Hid ((plcs (bytesOf nm) F 0).length = rc F nm) := rfl
      rw [unhide HCn]
      rw [hB] at HB3 ⊢
      clear hB hbr3 hat3 hx3 hb2 hb3 ho3 HRp HKd hnsz
      go_wp2_with fail
      refine (unhide HK3).mono ?_
      rintro e w4 ⟨cs4, rfl, hL4, hb4⟩
      obtain ⟨k4, t4, b1, l1, e1, b2, l2, e2, b3, l3, e3, rfl⟩ := hL4.form
      have HL4 := hide (And.intro hL4 hb4)
      clear hL4 hb4 HK3
      go_wp2_with fail
      obtain ⟨w5, hw5⟩ : ∃ w5, w5 = w4.alloc (.cells #[.int .i64 k4, .bool t4, .slice b1 l1 e1, .slice b2 l2 e2, .slice b3 l3 e3] 34) := ⟨_, rfl⟩
      have hG := unhide HG
      obtain ⟨hL4, hb4⟩ := unhide HL4
      obtain ⟨hbr3, hat3⟩ := unhide HB3
      have hb5' : Below w4.heap.size w4 w5 := by rw [hw5]; exact (Below.refl _ _).alloc (Nat.le_refl _) _
      have hbr5 : Below wr.heap.size wr w5 := (hbr3.trans (hb4.mono hbr3.size)).trans (hb5'.mono (by have := hbr3.size; have := hb4.size; omega))
      have hbx5 := hG.box.kept hbr5 hG.box.lt
      have hnm5 := hG.nms.below hbr5 (Nat.le_refl _)
      have hat5 : BytesAt w5 (.slice av3 B.length cv3) B := (hat3.below hb4).below hb5'
      have hkx5 : Bx w5 w4.heap.size (.int .i64 k4) (.bool t4) (.slice b1 l1 e1) (.slice b2 l2 e2) (.slice b3 l3 e3) := by rw [hw5]; exact bx_new w4 _ _ _ _ _
      have hcap1 : i ≤ c1 := by obtain ⟨_, _, e, h, _⟩ := hG.nms; injection e with _ _ e3; omega
      have hcap2 : i ≤ c2 := by obtain ⟨Ks, _, ⟨_, _, e, h, _⟩, _⟩ := hG.kds; injection e with _ _ e3; omega
      have hl5 : w4.heap.size < w5.heap.size := hkx5.lt
      have hl4 : w.heap.size + 1 + 1 < w4.heap.size := by have := hbr3.size; have := hb4.size; omega
      have hlen := hG.len
      have hz3 : wr.heap.size ≤ w3.heap.size := hbr3.size
      have H5 := hide (And.intro hbr5 (And.intro hbx5 (And.intro hnm5 (And.intro hat5 (And.intro hkx5 hb5')))))
      rw [← hw5]
      clear hw5 hG hL4 hb4 hbr3 hat3 hb5' hbr5 hbx5 hnm5 hat5 hkx5 y0 y1 y2 y3 y4 x0 x1 x2 x3 x4 n0 n1 n2 n3 n4 hcn1 hr2 HMs HB3
      have HJ0 : Hid (∀ (j' : Nat) (e : En), j' < 0 → acc[j']? = some e → ¬ (rp F D nm).toList < e.1.toList) := fun j' _ h => by omega
      go_loopw [16] (fun va wq => ∃ (j m : Nat), j ≤ i ∧ va = .int .i64 (j : Int) ∧ wq = w5.drewN m ∧ Hid (∀ (j' : Nat) (e : En), j' < j → acc[j']? = some e → ¬ (rp F D nm).toList < e.1.toList)) (fun va _ => i - (intOf va).toNat)
      case atStart => exact ⟨0, 0, by omega, rfl, rfl, HJ0⟩
      case round =>
        obtain ⟨j, m, hji, rfl, rfl, HJ⟩ := hrel
        obtain ⟨hbr5, hbx5, hnm5, hat5, hkx5, hb5'⟩ := unhide H5
        obtain ⟨p0, p1, p2, p3, p4⟩ := hbx5.cells
        have hcv := conv_at (w5.drewN (m + 1)) _ _ (show BytesAt (w5.drewN (m + 1)) (.slice av3 B.length cv3) B from hat5)
        rw [unhide HBn] at hcv
        obtain ⟨W0, hW0⟩ : ∃ W0, W0 = w5.drewN (m + 1) := ⟨_, rfl⟩
        have hG := unhide HG
        have hs0 : W0.heap.size = w5.heap.size := by rw [hW0]; rfl
        have hk0 : ∀ q : Nat, W0.heap[q]? = w5.heap[q]? := fun q => by rw [hW0]; rfl
        have hb0 : Below wr.heap.size wr W0 := ⟨by rw [hW0]; exact hbr5.os, by rw [hW0]; exact hbr5.tape, by rw [hW0]; exact hbr5.output, by have := hbr5.size; omega, fun q hq => by rw [hk0, hbr5.block q hq]⟩
        obtain ⟨Ks', hKl, hKr, hKs⟩ := hG.kds
        have hK5 : ∀ c ∈ Ks', c.length = 5 := fun c hc => by
          obtain ⟨q, hq, rfl⟩ := List.getElem_of_mem hc
          exact (hKs q acc[q] Ks'[q] (List.getElem?_eq_getElem (by omega)) (List.getElem?_eq_getElem hq)).length
        have hK1 : ∀ u ∈ Ks'.flatten, u.oneCell' = true := fun u hu => by
          obtain ⟨c, hc, huc⟩ := List.mem_flatten.1 hu
          obtain ⟨q, hq, rfl⟩ := List.getElem_of_mem hc
          exact (hKs q acc[q] Ks'[q] (List.getElem?_eq_getElem (by omega)) (List.getElem?_eq_getElem hq)).one u huc
        obtain ⟨hL4, hb4⟩ := unhide HL4
        have hL0 : Lies wr.heap.size W0.heap.size W0 (rwD F D kd) [.int .i64 k4, .bool t4, .slice b1 l1 e1, .slice b2 l2 e2, .slice b3 l3 e3] := by
          refine Lies.mono (lo := w3.heap.size) (hi := w4.heap.size) (hL4.same fun q h1 h2 => ?_) hz3 (by omega)
          rw [hk0, hb5'.block q h2]
        have HLd := hide (fun (s1 s2 : Option Addr) h1 h2 => laid6 (W0 := W0) (OB := w.heap.size + 1 + 1) (i := i) (j := j) (lo := w1.heap.size) (a1 := a1) (a2 := a2) (s1 := s1) (s2 := s2) (c1 := c1) (c2 := c2) (xs := acc.map fun e => .string e.1) (ys := Ks'.flatten) (rp F D nm) [.int .i64 k4, .bool t4, .slice b1 l1 e1, .slice b2 l2 e2, .slice b3 l3 e3]
          ((hG.nms.below hb0 (Nat.le_refl _)).mono (Nat.le_refl _) hb0.size) (by rw [List.length_map]; exact hlen) (fun u hu => by obtain ⟨e, _, rfl⟩ := List.mem_map.1 hu; rfl) ((hKr.below hb0 (Nat.le_refl _)).mono (Nat.le_refl _) hb0.size) (by rw [flat5_length Ks' hK5, hKl]) hK1 rfl hL0.one hji (by omega) (hG.box.kept hb0 hG.box.lt) hl1 h1 h2)
        have HSp := hide (And.intro hG (And.intro hb0 (And.intro hL0 (And.intro hKl (And.intro hKs hK5)))))
        have HW0 := hide hW0
        have hbx0 := hG.box.kept hb0 hG.box.lt
        have hl0 : w.heap.size + 1 + 1 < W0.heap.size := by omega
        have hkb0 : Bx W0 w4.heap.size (.int .i64 k4) (.bool t4) (.slice b1 l1 e1) (.slice b2 l2 e2) (.slice b3 l3 e3) := hkx5.of (hk0 _)
        have HAt : Hid (BytesAt W0 (.slice av3 B.length cv3) B) := by rw [hW0]; exact hat5
        have hl40 : w4.heap.size < W0.heap.size := by omega
        obtain ⟨o0, o1, o2, o3, o4⟩ := hbx0.cells
        obtain ⟨i0, i1, i2, i3, i4⟩ := hkb0.cells
        have HB0 := hide (And.intro hbx0 hkb0)
        have hj1 : j ≤ c1 := by omega
        have hj2 : j ≤ c2 := by omega
        clear hG hs0 hk0 hb0 hKl hKr hKs hK5 hK1 hL4 hb4 hL0 hW0 hbx0 hkb0
        by_cases hjl : j < i
        · obtain ⟨ga, oa, ha1, _, _, hcella⟩ := hnm5.at (by omega)
          rw [ha1] at p3
          have hja : j < acc.length := by omega
          have hcj : w5.cell? ⟨ga, oa + j, none⟩ = some (.string acc[j].1) := hcella j _ (by rw [List.getElem?_map, List.getElem?_eq_getElem hja]; rfl)
          obtain ⟨nj, hnj⟩ : ∃ nj, acc[j].1 = nj := ⟨_, rfl⟩
          rw [hnj] at hcj
          have HA : Hid (∀ e, acc[j]? = some e → e.1 = nj) := fun e he => by rw [List.getElem?_eq_getElem hja] at he; injection he with he; rw [← he]; exact hnj
          clear hcella hnj ha1 hbr5 hbx5 hnm5 hat5 hkx5 hb5' hja
          obtain ⟨sn, hsn⟩ : ∃ sn, rp F D nm = sn := ⟨_, rfl⟩
          rw [hsn] at hcv HJ
          have HSN := hide hsn
          clear hsn
          by_cases hls : sn.toList < nj.toList
          · have hb1 : Op.bytesLess nj.toList sn.toList = false := by rw [bytesLess_eq]; exact decide_eq_false fun h => Ord.irrefl _ (Ord.trans h hls)
            have hb2 : (nj.toList == sn.toList) = false := by
              cases hq : nj.toList == sn.toList with
              | false => rfl
              | true => have e := eq_of_beq hq; rw [e] at hls; exact absurd hls (Ord.irrefl _)
            have HLS := hide hls
            clear hls
            go_wp2_with fail
            go_region
            have hc1 : ¬ c1 = j := by omega
            have hc2 : ¬ c2 = j := by omega
            rw [← unhide HW0]
            obtain ⟨W1, W2, W3, W4, W5, W6, b1', b2', b3', b4', b5', b6', d1, d2, d3, d4, d5, d6, hL6⟩ := unhide HLd (a1.map fun p => p.add (j * 1)) (a2.map fun p => p.add (j * 5)) (fun _ => rfl) (fun _ => rfl)
            have hsz6 := hL6.sz
            have hcv1 := conv_at W1 _ _ (bytes_same (unhide HAt) hL6.k1 hsz6.1)
            rw [unhide HBn] at hcv1
            obtain ⟨hbx0, hkb0⟩ := unhide HB0
            have u4 := (hbx0.of (hL6.k2 _ hbx0.lt)).cells.2.2.2.2
            obtain ⟨j0, j1, j2, j3, j4⟩ := (hkb0.of (hL6.k3 _ hkb0.lt)).cells
            have u3 := (hbx0.of (hL6.k4 _ hbx0.lt)).cells.2.2.2.1
            have hbx5 := hbx0.of (hL6.k5 _ hbx0.lt)
            have v3 := hbx5.cells.2.2.2.1
            have v4 := hbx5.cells.2.2.2.2
            have g3 := hbx5.fr 3
            have y4 := hL6.bx6.cells.2.2.2.2
            have g4 := hL6.bx6.fr 4
            have hq1 : w.heap.size + 1 + 1 < W1.heap.size := by omega
            have hq2 : w.heap.size + 1 + 1 < W2.heap.size := by omega
            have hq3 : w4.heap.size < W3.heap.size := by omega
            have R1 := hL6.r1
            have R2 := hL6.r2
            have R3 := hL6.r3
            have R4 := hL6.r4
            have R5 := hL6.r5
            have R6 := hL6.r6
            simp only [Nat.mul_one] at R5
            obtain ⟨hG, hb0, hL0, hKl, hKs, hK5⟩ := unhide HSp
            have HN := hide (rwi_step hG (unhide HNK).1 (unhide HNK).2 hb0 hL0 (insP_at _ acc j (by omega) (fun j' e h1 h2 => by show ¬ (rp F D nm).toList < _; rw [unhide HSN]; exact unhide HJ j' e h1 h2) (fun e he => by show (rp F D nm).toList < _; rw [unhide HSN, unhide HA e he]; exact unhide HLS)) hl1 hKl hKs hK5 hL6)
            clear hL6 hbx0 hkb0 hbx5 hG hb0 hL0 hKl hKs hK5 hsz6
            obtain ⟨acc', hacc'⟩ : ∃ acc', insP (rp F D nm, rwD F D kd) acc = acc' := ⟨_, rfl⟩
            rw [hacc'] at HN
            clear hacc'
            go_wp2_with fail
            exact ⟨⟨i + 1, nn + rc F nm + rcA F kd, acc', _, _, _, _, by omega, by go_num, by first | rfl | congr 1, HN⟩, by simp [intOf]; omega⟩
          · have hb : (Op.bytesLess nj.toList sn.toList || nj.toList == sn.toList) = true := by
              rcases Ord.tri nj.toList sn.toList with h | h | h
              · rw [bytesLess_eq, decide_eq_true h]; rfl
              · rw [h]; simp
              · exact absurd h hls
            have HJ1 : Hid (∀ (j' : Nat) (e : En), j' < j + 1 → acc[j']? = some e → ¬ (rp F D nm).toList < e.1.toList) := fun j' e h1 h2 => by
              rw [unhide HSN]
              rcases Nat.lt_or_ge j' j with h | h
              · exact unhide HJ j' e h h2
              · obtain rfl : j' = j := by omega
                rw [unhide HA e h2]; exact hls
            clear hls
            go_wp2_with fail
            go_region
            all_goals go_wp2_with fail
            exact ⟨⟨j + 1, m + 1, by omega, by go_num, rfl, HJ1⟩, by simp [intOf]; omega⟩
        · clear hbr5 hbx5 hnm5 hat5 hkx5 hb5'
          go_wp2_with fail
          go_region
          by_cases hc1 : c1 = j
          · replace hc1 := hc1.symm
            subst hc1
            by_cases hc2 : c2 = j
            · replace hc2 := hc2.symm
              subst hc2
              rw [← unhide HW0]
              obtain ⟨W1, W2, W3, W4, W5, W6, b1', b2', b3', b4', b5', b6', d1, d2, d3, d4, d5, d6, hL6⟩ := unhide HLd (a1) (a2) (fun h => absurd rfl h) (fun h => absurd rfl h)
              have hsz6 := hL6.sz
              have hcv1 := conv_at W1 _ _ (bytes_same (unhide HAt) hL6.k1 hsz6.1)
              rw [unhide HBn] at hcv1
              obtain ⟨hbx0, hkb0⟩ := unhide HB0
              have u4 := (hbx0.of (hL6.k2 _ hbx0.lt)).cells.2.2.2.2
              obtain ⟨j0, j1, j2, j3, j4⟩ := (hkb0.of (hL6.k3 _ hkb0.lt)).cells
              have u3 := (hbx0.of (hL6.k4 _ hbx0.lt)).cells.2.2.2.1
              have hbx5 := hbx0.of (hL6.k5 _ hbx0.lt)
              have v3 := hbx5.cells.2.2.2.1
              have v4 := hbx5.cells.2.2.2.2
              have g3 := hbx5.fr 3
              have y4 := hL6.bx6.cells.2.2.2.2
              have g4 := hL6.bx6.fr 4
              have hq1 : w.heap.size + 1 + 1 < W1.heap.size := by omega
              have hq2 : w.heap.size + 1 + 1 < W2.heap.size := by omega
              have hq3 : w4.heap.size < W3.heap.size := by omega
              have R1 := hL6.r1
              have R2 := hL6.r2
              have R3 := hL6.r3
              have R4 := hL6.r4
              have R5 := hL6.r5
              have R6 := hL6.r6
              rw [show i - j = 0 by omega] at R5 R6
              rw [Nat.sub_self] at R5
              rw [Nat.sub_self] at R6
              obtain ⟨hG, hb0, hL0, hKl, hKs, hK5⟩ := unhide HSp
              have HN := hide (rwi_step hG (unhide HNK).1 (unhide HNK).2 hb0 hL0 (insP_at _ acc j (by omega) (unhide HJ) (fun e he => by have := (List.getElem?_eq_some_iff.1 he).1; omega)) hl1 hKl hKs hK5 hL6)
              clear hL6 hbx0 hkb0 hbx5 hG hb0 hL0 hKl hKs hK5 hsz6
              obtain ⟨acc', hacc'⟩ : ∃ acc', insP (rp F D nm, rwD F D kd) acc = acc' := ⟨_, rfl⟩
              rw [hacc'] at HN
              clear hacc'
              go_wp2_with fail
              exact ⟨⟨i + 1, nn + rc F nm + rcA F kd, acc', _, _, _, _, by omega, by go_num, by first | rfl | congr 1, HN⟩, by simp [intOf]; omega⟩
            · rw [← unhide HW0]
              obtain ⟨W1, W2, W3, W4, W5, W6, b1', b2', b3', b4', b5', b6', d1, d2, d3, d4, d5, d6, hL6⟩ := unhide HLd (a1) (a2.map fun p => p.add (j * 5)) (fun h => absurd rfl h) (fun _ => rfl)
              have hsz6 := hL6.sz
              have hcv1 := conv_at W1 _ _ (bytes_same (unhide HAt) hL6.k1 hsz6.1)
              rw [unhide HBn] at hcv1
              obtain ⟨hbx0, hkb0⟩ := unhide HB0
              have u4 := (hbx0.of (hL6.k2 _ hbx0.lt)).cells.2.2.2.2
              obtain ⟨j0, j1, j2, j3, j4⟩ := (hkb0.of (hL6.k3 _ hkb0.lt)).cells
              have u3 := (hbx0.of (hL6.k4 _ hbx0.lt)).cells.2.2.2.1
              have hbx5 := hbx0.of (hL6.k5 _ hbx0.lt)
              have v3 := hbx5.cells.2.2.2.1
              have v4 := hbx5.cells.2.2.2.2
              have g3 := hbx5.fr 3
              have y4 := hL6.bx6.cells.2.2.2.2
              have g4 := hL6.bx6.fr 4
              have hq1 : w.heap.size + 1 + 1 < W1.heap.size := by omega
              have hq2 : w.heap.size + 1 + 1 < W2.heap.size := by omega
              have hq3 : w4.heap.size < W3.heap.size := by omega
              have R1 := hL6.r1
              have R2 := hL6.r2
              have R3 := hL6.r3
              have R4 := hL6.r4
              have R5 := hL6.r5
              have R6 := hL6.r6
              rw [show i - j = 0 by omega] at R5 R6
              rw [Nat.sub_self] at R5
              obtain ⟨hG, hb0, hL0, hKl, hKs, hK5⟩ := unhide HSp
              have HN := hide (rwi_step hG (unhide HNK).1 (unhide HNK).2 hb0 hL0 (insP_at _ acc j (by omega) (unhide HJ) (fun e he => by have := (List.getElem?_eq_some_iff.1 he).1; omega)) hl1 hKl hKs hK5 hL6)
              clear hL6 hbx0 hkb0 hbx5 hG hb0 hL0 hKl hKs hK5 hsz6
              obtain ⟨acc', hacc'⟩ : ∃ acc', insP (rp F D nm, rwD F D kd) acc = acc' := ⟨_, rfl⟩
              rw [hacc'] at HN
              clear hacc'
              go_wp2_with fail
              exact ⟨⟨i + 1, nn + rc F nm + rcA F kd, acc', _, _, _, _, by omega, by go_num, by first | rfl | congr 1, HN⟩, by simp [intOf]; omega⟩
          · by_cases hc2 : c2 = j
            · replace hc2 := hc2.symm
              subst hc2
              rw [← unhide HW0]
              obtain ⟨W1, W2, W3, W4, W5, W6, b1', b2', b3', b4', b5', b6', d1, d2, d3, d4, d5, d6, hL6⟩ := unhide HLd (a1.map fun p => p.add (j * 1)) (a2) (fun _ => rfl) (fun h => absurd rfl h)
              have hsz6 := hL6.sz
              have hcv1 := conv_at W1 _ _ (bytes_same (unhide HAt) hL6.k1 hsz6.1)
              rw [unhide HBn] at hcv1
              obtain ⟨hbx0, hkb0⟩ := unhide HB0
              have u4 := (hbx0.of (hL6.k2 _ hbx0.lt)).cells.2.2.2.2
              obtain ⟨j0, j1, j2, j3, j4⟩ := (hkb0.of (hL6.k3 _ hkb0.lt)).cells
              have u3 := (hbx0.of (hL6.k4 _ hbx0.lt)).cells.2.2.2.1
              have hbx5 := hbx0.of (hL6.k5 _ hbx0.lt)
              have v3 := hbx5.cells.2.2.2.1
              have v4 := hbx5.cells.2.2.2.2
              have g3 := hbx5.fr 3
              have y4 := hL6.bx6.cells.2.2.2.2
              have g4 := hL6.bx6.fr 4
              have hq1 : w.heap.size + 1 + 1 < W1.heap.size := by omega
              have hq2 : w.heap.size + 1 + 1 < W2.heap.size := by omega
              have hq3 : w4.heap.size < W3.heap.size := by omega
              have R1 := hL6.r1
              have R2 := hL6.r2
              have R3 := hL6.r3
              have R4 := hL6.r4
              have R5 := hL6.r5
              have R6 := hL6.r6
              rw [show i - j = 0 by omega] at R5 R6
              simp only [Nat.mul_one] at R5
              rw [Nat.sub_self] at R6
              obtain ⟨hG, hb0, hL0, hKl, hKs, hK5⟩ := unhide HSp
              have HN := hide (rwi_step hG (unhide HNK).1 (unhide HNK).2 hb0 hL0 (insP_at _ acc j (by omega) (unhide HJ) (fun e he => by have := (List.getElem?_eq_some_iff.1 he).1; omega)) hl1 hKl hKs hK5 hL6)
              clear hL6 hbx0 hkb0 hbx5 hG hb0 hL0 hKl hKs hK5 hsz6
              obtain ⟨acc', hacc'⟩ : ∃ acc', insP (rp F D nm, rwD F D kd) acc = acc' := ⟨_, rfl⟩
              rw [hacc'] at HN
              clear hacc'
              go_wp2_with fail
              exact ⟨⟨i + 1, nn + rc F nm + rcA F kd, acc', _, _, _, _, by omega, by go_num, by first | rfl | congr 1, HN⟩, by simp [intOf]; omega⟩
            · rw [← unhide HW0]
              obtain ⟨W1, W2, W3, W4, W5, W6, b1', b2', b3', b4', b5', b6', d1, d2, d3, d4, d5, d6, hL6⟩ := unhide HLd (a1.map fun p => p.add (j * 1)) (a2.map fun p => p.add (j * 5)) (fun _ => rfl) (fun _ => rfl)
              have hsz6 := hL6.sz
              have hcv1 := conv_at W1 _ _ (bytes_same (unhide HAt) hL6.k1 hsz6.1)
              rw [unhide HBn] at hcv1
              obtain ⟨hbx0, hkb0⟩ := unhide HB0
              have u4 := (hbx0.of (hL6.k2 _ hbx0.lt)).cells.2.2.2.2
              obtain ⟨j0, j1, j2, j3, j4⟩ := (hkb0.of (hL6.k3 _ hkb0.lt)).cells
              have u3 := (hbx0.of (hL6.k4 _ hbx0.lt)).cells.2.2.2.1
              have hbx5 := hbx0.of (hL6.k5 _ hbx0.lt)
              have v3 := hbx5.cells.2.2.2.1
              have v4 := hbx5.cells.2.2.2.2
              have g3 := hbx5.fr 3
              have y4 := hL6.bx6.cells.2.2.2.2
              have g4 := hL6.bx6.fr 4
              have hq1 : w.heap.size + 1 + 1 < W1.heap.size := by omega
              have hq2 : w.heap.size + 1 + 1 < W2.heap.size := by omega
              have hq3 : w4.heap.size < W3.heap.size := by omega
              have R1 := hL6.r1
              have R2 := hL6.r2
              have R3 := hL6.r3
              have R4 := hL6.r4
              have R5 := hL6.r5
              have R6 := hL6.r6
              simp only [Nat.mul_one] at R5
              obtain ⟨hG, hb0, hL0, hKl, hKs, hK5⟩ := unhide HSp
              have HN := hide (rwi_step hG (unhide HNK).1 (unhide HNK).2 hb0 hL0 (insP_at _ acc j (by omega) (unhide HJ) (fun e he => by have := (List.getElem?_eq_some_iff.1 he).1; omega)) hl1 hKl hKs hK5 hL6)
              clear hL6 hbx0 hkb0 hbx5 hG hb0 hL0 hKl hKs hK5 hsz6
              obtain ⟨acc', hacc'⟩ : ∃ acc', insP (rp F D nm, rwD F D kd) acc = acc' := ⟨_, rfl⟩
              rw [hacc'] at HN
              clear hacc'
              go_wp2_with fail
              exact ⟨⟨i + 1, nn + rc F nm + rcA F kd, acc', _, _, _, _, by omega, by go_num, by first | rfl | congr 1, HN⟩, by simp [intOf]; omega⟩
    · obtain rfl : i = N := by omega
      have hx1 := hy1.of (hG.rest _ (by omega) (by omega))
      obtain ⟨z0, z1, z2, z3, z4⟩ := hx1.cells
      have r0 := hx1.fr 0
      have r1 := hx1.fr 1
      have r2 := hx1.fr 2
      have r3 := hx1.fr 3
      have r4 := hx1.fr 4
      obtain ⟨o0, o1, o2, o3, o4⟩ := hG.box.cells
      obtain ⟨hn, hk, hl, hK, hN, hM, hQ⟩ := unhide HR
      have hacc : acc = rwEs F D ns ks [] := by
        have h := hG.acc
        have e0 : ns.drop i = [] := List.drop_eq_nil_of_le (by omega)
        rw [e0] at h
        rw [← h, rwEs]
        all_goals simp
      have htot := hG.tot
      rw [rcAs_end _ (by omega)] at htot
      have HE : Hid (∀ W : World, (∀ q : Nat, q ≠ w.heap.size + 1 → W.heap[q]? = wr.heap[q]?) → W.heap.size = wr.heap.size → W.os = wr.os → W.tape = wr.tape → W.output = wr.output → Lies w.heap.size W.heap.size W (rwD F D (.mk k x d ns ks)) [.int .i64 k, .bool x, .slice av P cv, .slice a1 i c1, .slice a2 i c2] ∧ Below w.heap.size w W) := fun W hW hWs hWo hWt hWp => by
        have hsame : ∀ q, w1.heap.size ≤ q → W.heap[q]? = wr.heap[q]? := fun q hq => hW q (by omega)
        obtain ⟨Ks', hKl, hKr, hKs⟩ := hG.kds
        refine ⟨?_, ⟨hWo.trans (hG.os.trans hbw.os), hWt.trans (hG.tape.trans hbw.tape), hWp.trans (hG.output.trans hbw.output), by omega, fun q hq => by rw [hW q (by omega), hG.rest q (by omega) (by omega), hbw.block q hq]⟩⟩
        rw [rwD, ← hacc]
        refine .mk k x _ _ _ _ _ _ Ks' (by rw [List.length_map, hKl, hG.len]) ?_ ?_ ?_ fun q t c h1 h2 => ?_
        · refine (hrw.same (w' := W) fun q hq => ?_).row fun q hq => by omega
          rw [hW q (by omega), hG.rest q (by omega) (by omega)]
        · rw [List.length_map, hG.len, List.map_map]
          exact (hG.nms.same fun q hq _ => hsame q hq).mono (by omega) (by omega)
        · rw [List.length_map, hG.len]
          exact (hKr.same fun q hq _ => hsame q hq).mono (by omega) (by omega)
        · rw [List.getElem?_map] at h1
          obtain ⟨e, he, rfl⟩ := Option.map_eq_some_iff.1 h1
          exact ((hKs q e c he h2).same fun q hq _ => hsame q hq).mono (by omega) (by omega)
      have HT : Hid (nn = rcA F (.mk k x d ns ks)) := by show nn = _; rw [rcA]; omega
      clear hn hk hl hK hN hM hQ hacc htot hG hbw hy0 hy1 hy2 hrw hx0 hx1
      go_wp2_with fail
      obtain ⟨hLf, hbf⟩ := unhide HE (((((wr.setCell ⟨w.heap.size + 1, 0, none⟩ (.int .i64 k)).setCell ⟨w.heap.size + 1, 1, none⟩ (.bool x)).setCell ⟨w.heap.size + 1, 2, none⟩ (.slice av P cv)).setCell ⟨w.heap.size + 1, 3, none⟩ (.slice a1 i c1)).setCell ⟨w.heap.size + 1, 4, none⟩ (.slice a2 i c2)) (fun q hq => by rw [set_other _ _ _ _ _ hq, set_other _ _ _ _ _ hq, set_other _ _ _ _ _ hq, set_other _ _ _ _ _ hq, set_other _ _ _ _ _ hq]) (by simp) rfl rfl rfl
      refine bodyPost_ret (v := .tuple #[.agg #[.int .i64 k, .bool x, .slice av P cv, .slice a1 i c1, .slice a2 i c2], .int .i64 (nn : Int)]) (by simp [results, Try.results40, go_sem, z0, z1, z2, z3, z4]) rfl ⟨[.int .i64 k, .bool x, .slice av P cv, .slice a1 i c1, .slice a2 i c2], ?_, hLf, hbf⟩
      rw [← unhide HT]
end Go.Proofs.Ytlbfcneboaihnaa
