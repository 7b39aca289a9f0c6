/- The document's walk, in the code. -/
import Derived.Test.YthfjofmfiklegaaDoorK4
namespace Go.Proofs.YthfjofmfiklegaaDoor
open Go.RowKit
set_option linter.unusedSimpArgs false
set_option maxRecDepth 20000 in
set_option maxHeartbeats 2000000 in
theorem walk_any (T : Tr) : ∀ (lo hi : Nat) (cs : List Value) (w : World) (c : Nat) (p : ByteArray) (a : Option Addr) (cp : Nat) (xs : List ByteArray), Lies lo hi w T cs → hi ≤ c → Ev T → wt T ≤ 100000 → p.size + 20 * wt T ≤ 10000000 → xs.length + wt T ≤ 900000 → Ctr w c (.slice a xs.length cp) → w.ownsRow (c + 1) 9 1 (.slice a xs.length cp) xs.length (xs.map .string) →
    Calls Tryd.prog 35 #[.agg cs.toArray, .string p, .pointer (some ⟨c, 0, none⟩)] w fun e w' => e = .returned (.tuple #[]) ∧ GatA c w (.slice a xs.length cp) (xs ++ filesL T p) w' := by
  induction T using Tr.ind with
  | h k x d ns ks ih =>
  intro lo hi cs w c p a cp xs hL hhi hev hW hps hxl hCt hOw
  have hSm := small_of hW
  obtain ⟨hlen, hevk⟩ : ns.length = ks.length ∧ ∀ t ∈ ks, Ev t := by cases hev with | mk _ _ _ _ _ h1 h2 => exact ⟨h1, h2⟩
  clear hev
  cases hL with
  | mk _ _ _ _ _ vd vn vk Ks hl hd hn hk hK =>
  obtain ⟨ad, cd, rfl, hcd⟩ := hd.slice
  obtain ⟨an, cn, rfl, hcn⟩ := hn.slice
  obtain ⟨ak, ck, rfl, hck⟩ := hk.slice
  have hcw := hCt.lt
  have hG0 : GW w (w.alloc (.cells #[.int .i64 k, .bool x, .slice ad d.size cd, .slice an ns.length cn, .slice ak ks.length ck] 26)) c (.slice a xs.length cp) (.slice a xs.length cp) xs (.int .i64 k) (.bool x) (.slice ad d.size cd) (.slice an ns.length cn) (.slice ak ks.length ck) := by
    have hb : Below w.heap.size w (w.alloc (.cells #[.int .i64 k, .bool x, .slice ad d.size cd, .slice an ns.length cn, .slice ak ks.length ck] 26)) := (Below.refl _ _).alloc (Nat.le_refl _) _
    exact ⟨Gt.of_below _ hb, bx_new _ _ _ _ _ _, hCt.below hb hcw, owns_same hOw (fun g hg => hb.block g (owns_lt hOw g hg).2) (fun _ _ h => h), by simp, fun e => by have := (owns_lt hOw _ e).2; omega⟩
  have hwt : ∀ (i : Nat) (h1 : i < ns.length) (h2 : i < ks.length), (belowB p ns[i]).size + 20 * wt ks[i] ≤ 10000000 ∧ ns[i].size ≤ 1000009 ∧ wt ks[i] ≤ 100000 := fun i h1 h2 => by
    have e1 := belowB_size p ns[i]
    have e2 := wts_mem (List.getElem_mem h2)
    have e3 := tenths_mem (List.getElem_mem h1)
    rw [wt] at hps hW
    refine ⟨by omega, hSm.s _ (List.getElem_mem h1), by omega⟩
  have hcnt : ∀ i (h2 : i < ks.length), (filesLs (ns.take i) (ks.take i) p).length + wt ks[i] ≤ wts ks := fun i h2 => by
    have e1 := wts_take ks i h2
    have e2 := wts_take_le ks (i + 1)
    have e3 : (filesLs (ns.take i) (ks.take i) p).length ≤ wts (ks.take i) := filesLs_len _ _ _
    omega
  have hwk : xs.length + 1 + wts ks ≤ 900000 := by rw [wt] at hxl; omega
  have HF : Hid (filesL (.mk k x d ns ks) p = (if k = 1 then [p] else []) ++ filesLs ns ks p) := by show _ = _; rw [filesL]
  obtain ⟨N, hN⟩ : ∃ N, ns.length = N := ⟨_, rfl⟩
  have hNk : ks.length = N := by rw [← hlen]; exact hN
  have hN1 : N ≤ 100000 := by rw [← hN]; exact hSm.n
  have HWt := hide (And.intro hwt (And.intro hcnt hwk))
  have HOw := hide (And.intro hOw hCt)
  have HIH := hide (fun (t : Tr) (ht : t ∈ ks) => ih t ht lo hi)
  have HEv := hide hevk
  rw [hN] at hn hG0 hcn
  rw [hNk] at hk hG0 hck hl
  have HR := hide (And.intro hn (And.intro hk (And.intro hl hK)))
  have HN := hide (And.intro hN hNk)
  rw [hN, hNk]
  have hps' : p.size ≤ 10000000 := by omega
  have HPs := hide (And.intro hps' hxl)
  clear hN hNk hlen hn hk hl hK hSm hd hcd hwt hcnt hwk ih hevk hCt hOw hps hW hxl hps'
  -- from here on: the loop, from a world that GW speaks of
  have HLoop := hide hG0
  obtain ⟨b0, b1, b2, b3, b4⟩ := hG0.b.cells
  clear hG0
  by_cases hk1 : k = 1
  case pos =>
    subst hk1
    obtain ⟨a1, c1, w2, happ, hct2, hG⟩ := g_app p (unhide HLoop) hcw (by have := (unhide HWt).2.2; omega)
    have z0 := (unhide HLoop).cr.cell
    have hct2c := hct2.cell
    have hct2f := hct2.fr
    have hsz : (w.alloc (.cells #[.int .i64 1, .bool x, .slice ad d.size cd, .slice an N cn, .slice ak N ck] 26)).heap.size = w.heap.size + 1 := by simp
    rw [hsz] at happ
    have HG := hide hG
    have hcw1 : c < w.heap.size + 1 := by omega
    obtain ⟨d0, d1, d2, d3, d4⟩ := hG.b.cells
    have hne : w.heap.size ≠ c := by omega
    clear hG hct2 hsz z0 HLoop b0 b1 b2 b3 b4
    have HCt := hide (unhide HOw).2
    have zc := (unhide HCt).cell
    go_enter Tryd.func35, Tryd.ntmps35
    go_wp2_with fail
    obtain ⟨ys, eys⟩ : ∃ ys, ys = (xs ++ [p]) := ⟨_, rfl⟩
    have HY : Hid (ys ++ filesLs ns ks p = xs ++ filesL (.mk 1 x d ns ks) p) := by show _ = _; rw [eys, unhide HF]; simp
    have hys : ys.length ≤ xs.length + 1 := by rw [eys]; simp
    have H0 : Hid (GW w (w2.setCell ⟨c, 0, none⟩ (.slice a1 (xs.length + 1) c1)) c (.slice a xs.length cp) (.slice a1 ys.length c1) ys (.int .i64 1) (.bool x) (.slice ad d.size cd) (.slice an N cn) (.slice ak N ck)) := by show GW _ _ _ _ _ _ _ _ _ _ _; rw [eys]; rw [show (xs ++ [p]).length = xs.length + 1 by simp]; exact unhide HG
    have HYs := hide hys
    clear eys hys
    clear happ hct2c hct2f HG d0 d1 d2 d3 d4 zc
    go_loopw [6] (fun vi wr => ∃ (i : Nat) (av : Option Addr) (cv : Nat), i ≤ N ∧ vi = .int .i64 (i : Int) ∧ GW w wr c (.slice a xs.length cp) (.slice av (Zl ys ns ks p i).length cv) (Zl ys ns ks p i) (.int .i64 1) (.bool x) (.slice ad d.size cd) (.slice an N cn) (.slice ak N ck)) (fun vi _ => N - (intOf vi).toNat)
    case atStart => exact ⟨0, a1, c1, by omega, rfl, by rw [zl_zero]; exact unhide H0⟩
    case round =>
     clear H0
     obtain ⟨i, av, cv, hiN, rfl, hW⟩ := hrel
     obtain ⟨y0, y1, y2, y3, y4⟩ := hW.b.cells
     have hz := hW.z
     have hb := hW.old hcw (unhide HOw).1
     by_cases hlt : i < N
     · have hn1 : i < ns.length := by rw [(unhide HN).1]; exact hlt
       have hk1 : i < ks.length := by rw [(unhide HN).2]; exact hlt
       obtain ⟨g, o, rfl, hg1, hg2, hcell⟩ := (unhide HR).1.at (by omega)
       obtain ⟨g', o', rfl, hg1', hg2', hcell'⟩ := (unhide HR).2.1.at (by omega)
       obtain ⟨hl, hK⟩ := (unhide HR).2.2
       have hci : wr.cell? ⟨g, o + i, none⟩ = some (.string ns[i]) := by rw [hb.cell (p := ⟨g, o + i, none⟩) (show g < c by omega)]; exact hcell i _ (by simp [List.getElem?_eq_getElem hn1])
       obtain ⟨q0, q1, f1, g1, h1, f2, g2, h2, f3, g3, h3, hLi, m0, m1, m2, m3, m4⟩ := kid_sl (hl.trans (unhide HN).2.symm) (fun j u hj => by rw [hb.cell (p := ⟨g', o' + j, none⟩) (show g' < c by omega)]; exact hcell' j u hj) (fun i t c h1 h2 => (hK i t c h1 h2).kept hb hhi) i hk1
       have HKc : Hid (kidC wr g' (o' + i * 5) (.int .i64 q0) (.bool q1) (.slice f1 g1 h1) (.slice f2 g2 h2) (.slice f3 g3 h3)) := ⟨m0, m1, m2, m3, m4⟩
       have hwi := (unhide HWt).1 i hn1 hk1
       have hps := (unhide HPs).1
       have hns : ns[i].size ≤ 1000009 := by omega
       have HZ := hide (zl_step ys (p := p) hn1 hk1)
       have hZl : (Zl ys ns ks p i).length + wt ks[i] ≤ 900000 := by
         have e1 := (unhide HWt).2.1 i hk1
         have e2 := (unhide HWt).2.2
         have e3 := unhide HYs
         unfold Zl
         rw [List.length_append]
         omega
       have HI := hide (fun (w' : World) (hL : Lies lo hi w' ks[i] [.int .i64 q0, .bool q1, .slice f1 g1 h1, .slice f2 g2 h2, .slice f3 g3 h3]) (hC : Ctr w' c (.slice av (Zl ys ns ks p i).length cv)) (hO : w'.ownsRow (c + 1) 9 1 (.slice av (Zl ys ns ks p i).length cv) (Zl ys ns ks p i).length ((Zl ys ns ks p i).map .string)) => unhide HIH ks[i] (List.getElem_mem hk1) _ w' c (belowB p ns[i]) av cv (Zl ys ns ks p i) hL hhi (unhide HEv _ (List.getElem_mem hk1)) hwi.2.2 hwi.1 hZl hC hO)
       have HLi := hide hLi
       have HW := hide hW
       have hgw : g' < wr.heap.size := by omega
       have hgc : g < wr.heap.size := by omega
       clear hcell hcell' hl hK hW hLi hZl hwi hb m0 m1 m2 m3 m4
       generalize ns[i] = s at *
       generalize ks[i] = t at *
       clear hn1 hk1
       have hL9 := unhide HI wr (unhide HLi) (unhide HW).cr (unhide HW).o
       have HI2 := hide hL9
       obtain ⟨m0, m1, m2, m3, m4⟩ := unhide HKc
       clear hL9 HI
       by_cases hp0 : p.size = 0
       · have e0 : (p.toList == []) = true := by rw [ByteArray.toList_eq]; have : p.data.toList = [] := List.eq_nil_of_length_eq_zero hp0; rw [this]; rfl
         have hB : belowB p s = s := by unfold belowB; rw [if_pos hp0]
         rw [hB] at HI2 HZ
         clear hB hp0
         go_wp2_with fail
         refine (unhide HI2).mono ?_
         rintro e w2 ⟨rfl, a2, c2, hG2, hC2, hO2⟩
         have HW2 := hide ((unhide HW).step (Below.refl _ _) hG2 hcw hC2 hO2)
         clear HI2 hG2 hC2 hO2
         go_wp2_with fail
         go_roundw
         case rel => exact ⟨i + 1, a2, c2, by omega, by go_num, by rw [unhide HZ]; exact unhide HW2⟩
         case measure => simp [intOf]; try omega
       · have e0 : (p.toList == []) = false := by rw [beq_eq_false_iff_ne, ByteArray.toList_eq]; intro h; apply hp0; show p.data.toList.length = 0; rw [h]; rfl
         have hB : belowB p s = p ++ ⟨#[47]⟩ ++ s := by unfold belowB; rw [if_neg hp0]
         rw [hB] at HI2 HZ
         clear hB hp0
         go_wp2_with fail
         refine (unhide HI2).mono ?_
         rintro e w2 ⟨rfl, a2, c2, hG2, hC2, hO2⟩
         have HW2 := hide ((unhide HW).step (Below.refl _ _) hG2 hcw hC2 hO2)
         clear HI2 hG2 hC2 hO2
         go_wp2_with fail
         go_roundw
         case rel => exact ⟨i + 1, a2, c2, by omega, by go_num, by rw [unhide HZ]; exact unhide HW2⟩
         case measure => simp [intOf]; try omega
     · obtain rfl : i = N := by omega
       have HW := hide hW
       clear hW hb
       go_wp2_with fail
       refine bodyPost_end (v := .tuple #[]) (by simp [results, Tryd.results35, go_sem]) rfl ⟨rfl, ?_⟩
       have e1 : Zl ys ns ks p i = xs ++ filesL (.mk 1 x d ns ks) p := by
         unfold Zl
         rw [List.take_of_length_le (by rw [(unhide HN).1]; omega), List.take_of_length_le (by rw [(unhide HN).2]; omega)]
         exact unhide HY
       rw [e1] at HW
       exact ⟨av, cv, (unhide HW).g, (unhide HW).cr, (unhide HW).o⟩
  case neg =>
    have e2 : (k == 1) = false := by simpa using hk1
    have HK1 := hide hk1
    clear hk1
    go_enter Tryd.func35, Tryd.ntmps35
    go_wp2_with fail
    obtain ⟨ys, eys⟩ : ∃ ys, ys = xs := ⟨_, rfl⟩
    have HY : Hid (ys ++ filesLs ns ks p = xs ++ filesL (.mk k x d ns ks) p) := by show _ = _; rw [eys, unhide HF]; rw [if_neg (unhide HK1)]; simp
    have hys : ys.length ≤ xs.length + 1 := by rw [eys]; simp
    have H0 : Hid (GW w (w.alloc (.cells #[.int .i64 k, .bool x, .slice ad d.size cd, .slice an N cn, .slice ak N ck] 26)) c (.slice a xs.length cp) (.slice a ys.length cp) ys (.int .i64 k) (.bool x) (.slice ad d.size cd) (.slice an N cn) (.slice ak N ck)) := by show GW _ _ _ _ _ _ _ _ _ _ _; rw [eys]; exact unhide HLoop
    have HYs := hide hys
    clear eys hys
    clear b0 b1 b2 b3 b4 HLoop
    go_loopw [6] (fun vi wr => ∃ (i : Nat) (av : Option Addr) (cv : Nat), i ≤ N ∧ vi = .int .i64 (i : Int) ∧ GW w wr c (.slice a xs.length cp) (.slice av (Zl ys ns ks p i).length cv) (Zl ys ns ks p i) (.int .i64 k) (.bool x) (.slice ad d.size cd) (.slice an N cn) (.slice ak N ck)) (fun vi _ => N - (intOf vi).toNat)
    case atStart => exact ⟨0, a, cp, by omega, rfl, by rw [zl_zero]; exact unhide H0⟩
    case round =>
     clear H0
     obtain ⟨i, av, cv, hiN, rfl, hW⟩ := hrel
     obtain ⟨y0, y1, y2, y3, y4⟩ := hW.b.cells
     have hz := hW.z
     have hb := hW.old hcw (unhide HOw).1
     by_cases hlt : i < N
     · have hn1 : i < ns.length := by rw [(unhide HN).1]; exact hlt
       have hk1 : i < ks.length := by rw [(unhide HN).2]; exact hlt
       obtain ⟨g, o, rfl, hg1, hg2, hcell⟩ := (unhide HR).1.at (by omega)
       obtain ⟨g', o', rfl, hg1', hg2', hcell'⟩ := (unhide HR).2.1.at (by omega)
       obtain ⟨hl, hK⟩ := (unhide HR).2.2
       have hci : wr.cell? ⟨g, o + i, none⟩ = some (.string ns[i]) := by rw [hb.cell (p := ⟨g, o + i, none⟩) (show g < c by omega)]; exact hcell i _ (by simp [List.getElem?_eq_getElem hn1])
       obtain ⟨q0, q1, f1, g1, h1, f2, g2, h2, f3, g3, h3, hLi, m0, m1, m2, m3, m4⟩ := kid_sl (hl.trans (unhide HN).2.symm) (fun j u hj => by rw [hb.cell (p := ⟨g', o' + j, none⟩) (show g' < c by omega)]; exact hcell' j u hj) (fun i t c h1 h2 => (hK i t c h1 h2).kept hb hhi) i hk1
       have HKc : Hid (kidC wr g' (o' + i * 5) (.int .i64 q0) (.bool q1) (.slice f1 g1 h1) (.slice f2 g2 h2) (.slice f3 g3 h3)) := ⟨m0, m1, m2, m3, m4⟩
       have hwi := (unhide HWt).1 i hn1 hk1
       have hps := (unhide HPs).1
       have hns : ns[i].size ≤ 1000009 := by omega
       have HZ := hide (zl_step ys (p := p) hn1 hk1)
       have hZl : (Zl ys ns ks p i).length + wt ks[i] ≤ 900000 := by
         have e1 := (unhide HWt).2.1 i hk1
         have e2 := (unhide HWt).2.2
         have e3 := unhide HYs
         unfold Zl
         rw [List.length_append]
         omega
       have HI := hide (fun (w' : World) (hL : Lies lo hi w' ks[i] [.int .i64 q0, .bool q1, .slice f1 g1 h1, .slice f2 g2 h2, .slice f3 g3 h3]) (hC : Ctr w' c (.slice av (Zl ys ns ks p i).length cv)) (hO : w'.ownsRow (c + 1) 9 1 (.slice av (Zl ys ns ks p i).length cv) (Zl ys ns ks p i).length ((Zl ys ns ks p i).map .string)) => unhide HIH ks[i] (List.getElem_mem hk1) _ w' c (belowB p ns[i]) av cv (Zl ys ns ks p i) hL hhi (unhide HEv _ (List.getElem_mem hk1)) hwi.2.2 hwi.1 hZl hC hO)
       have HLi := hide hLi
       have HW := hide hW
       have hgw : g' < wr.heap.size := by omega
       have hgc : g < wr.heap.size := by omega
       clear hcell hcell' hl hK hW hLi hZl hwi hb m0 m1 m2 m3 m4
       generalize ns[i] = s at *
       generalize ks[i] = t at *
       clear hn1 hk1
       have hL9 := unhide HI wr (unhide HLi) (unhide HW).cr (unhide HW).o
       have HI2 := hide hL9
       obtain ⟨m0, m1, m2, m3, m4⟩ := unhide HKc
       clear hL9 HI
       by_cases hp0 : p.size = 0
       · have e0 : (p.toList == []) = true := by rw [ByteArray.toList_eq]; have : p.data.toList = [] := List.eq_nil_of_length_eq_zero hp0; rw [this]; rfl
         have hB : belowB p s = s := by unfold belowB; rw [if_pos hp0]
         rw [hB] at HI2 HZ
         clear hB hp0
         go_wp2_with fail
         refine (unhide HI2).mono ?_
         rintro e w2 ⟨rfl, a2, c2, hG2, hC2, hO2⟩
         have HW2 := hide ((unhide HW).step (Below.refl _ _) hG2 hcw hC2 hO2)
         clear HI2 hG2 hC2 hO2
         go_wp2_with fail
         go_roundw
         case rel => exact ⟨i + 1, a2, c2, by omega, by go_num, by rw [unhide HZ]; exact unhide HW2⟩
         case measure => simp [intOf]; try omega
       · have e0 : (p.toList == []) = false := by rw [beq_eq_false_iff_ne, ByteArray.toList_eq]; intro h; apply hp0; show p.data.toList.length = 0; rw [h]; rfl
         have hB : belowB p s = p ++ ⟨#[47]⟩ ++ s := by unfold belowB; rw [if_neg hp0]
         rw [hB] at HI2 HZ
         clear hB hp0
         go_wp2_with fail
         refine (unhide HI2).mono ?_
         rintro e w2 ⟨rfl, a2, c2, hG2, hC2, hO2⟩
         have HW2 := hide ((unhide HW).step (Below.refl _ _) hG2 hcw hC2 hO2)
         clear HI2 hG2 hC2 hO2
         go_wp2_with fail
         go_roundw
         case rel => exact ⟨i + 1, a2, c2, by omega, by go_num, by rw [unhide HZ]; exact unhide HW2⟩
         case measure => simp [intOf]; try omega
     · obtain rfl : i = N := by omega
       have HW := hide hW
       clear hW hb
       go_wp2_with fail
       refine bodyPost_end (v := .tuple #[]) (by simp [results, Tryd.results35, go_sem]) rfl ⟨rfl, ?_⟩
       have e1 : Zl ys ns ks p i = xs ++ filesL (.mk k x d ns ks) p := by
         unfold Zl
         rw [List.take_of_length_le (by rw [(unhide HN).1]; omega), List.take_of_length_le (by rw [(unhide HN).2]; omega)]
         exact unhide HY
       rw [e1] at HW
       exact ⟨av, cv, (unhide HW).g, (unhide HW).cr, (unhide HW).o⟩
end Go.Proofs.YthfjofmfiklegaaDoor
