/- inNames: a tree's names with the digits laid, in order anew. -/
import Derived.Test.YtlbfcneboaihnaaInn
import Derived.Test.YtlbfcneboaihnaaEnw
import Derived.Test.YtlbfcneboaihnaaK5
import Derived.Test.YtlbfcneboaihnaaLtr
import Derived.Deep.RegionLaw
namespace Go.Proofs.Ytlbfcneboaihnaa
open Go.RowKit Go.Great Tn
set_option linter.unusedSimpArgs false
theorem one_way1 {P G : Prop} (all : P) (go : Hid P → G) : G := go all
set_option maxRecDepth 20000 in
set_option maxHeartbeats 1000000 in
theorem inNames_any (F D : List Nat) (hF : Sha.Bytes F) (hFl : F.length = 32) (hD : Sha.Bytes D) (hDl : D.length = 32) (T : Tr) : ∀ (lo hi gs t : Nat) (cs : List Value) (w : World),
    Lies lo hi w T cs → Sml T → hi ≤ gs → 1 ≤ gs → w.heap[gs]? = some (SwBox F D t) → t + rcN F T ≤ 1000000 → (∃ m, w.cell? ⟨0, 0, none⟩ = some (.int .i64 m)) →
    Calls Try.prog 38 #[.pointer (some ⟨gs, 0, none⟩), .agg cs.toArray] w fun e w' => ∃ C cs', e = .returned (.agg cs'.toArray) ∧ Srt F D T C ∧ Mine lo hi w' w.heap.size w'.heap.size C cs' ∧ SoleG gs w w' ∧ w'.heap[gs]? = some (SwBox F D (t + rcN F T)) := by
  induction T using Tr.ind with
  | h k x d ns ks ih =>
  intro lo hi gs t cs w hL hS hhi hg1 hs ht hmx
  obtain ⟨hd4, hn3, hsz, hnk, hSk⟩ := hS.here
  cases hL with
  | mk _ _ _ _ _ vd vn vk Ks hl hd hn hk hK =>
  obtain ⟨ad, cd, rfl, hcd⟩ := hd.slice
  obtain ⟨an, cn', rfl, hcn⟩ := hn.slice
  obtain ⟨ak, ck, rfl, hck⟩ := hk.slice
  obtain ⟨N, hN⟩ : ∃ N, ks.length = N := ⟨_, rfl⟩
  have hM : ns.length = N := hnk.trans hN
  obtain ⟨Q, hQ⟩ : ∃ Q, d.size = Q := ⟨_, rfl⟩
  have hN3 : N ≤ 300 := by omega
  obtain ⟨w1, hmk, hb1, hz1, d0, hd0, hH0⟩ := makeE ((w.alloc (.cells #[.int .i64 k, .bool x, .slice ad Q cd, .slice an N cn', .slice ak N ck] 34)).alloc (.cells #[.int .i64 0, .bool false, .slice none 0 0, .slice none 0 0, .slice none 0 0] 34)) N hN3
  have hbA : Below w.heap.size w ((w.alloc (.cells #[.int .i64 k, .bool x, .slice ad Q cd, .slice an N cn', .slice ak N ck] 34)).alloc (.cells #[.int .i64 0, .bool false, .slice none 0 0, .slice none 0 0, .slice none 0 0] 34)) := ((Below.refl _ _).alloc (Nat.le_refl _) _).alloc (by simp) _
  have hx0 : w1.heap[w.heap.size]? = some (.cells #[.int .i64 k, .bool x, .slice ad Q cd, .slice an N cn', .slice ak N ck] 34) := by
    rw [hb1.block _ (by simp; omega)]
    exact ((bx_new w _ _ _ _ _).kept ((Below.refl (w.heap.size + 1) _).alloc (by simp) _) (by omega))
  have hx1 : w1.heap[w.heap.size + 1]? = some (.cells #[.int .i64 0, .bool false, .slice none 0 0, .slice none 0 0, .slice none 0 0] 34) := by
    rw [hb1.block _ (by simp)]
    have := bx_new (w.alloc (.cells #[.int .i64 k, .bool x, .slice ad Q cd, .slice an N cn', .slice ak N ck] 34)) (.int .i64 0) (.bool false) (.slice none 0 0) (.slice none 0 0) (.slice none 0 0)
    rwa [World.size_alloc] at this
  have hbw1 : Below w.heap.size w w1 := hbA.trans (hb1.mono (by simp; omega))
  simp only [World.size_alloc] at hmk hH0 hz1
  rw [hN, hM, hQ]
  obtain ⟨y0, y1, y2, y3, y4⟩ := box_cells hx0
  have HX := hide (And.intro hx0 (And.intro hx1 (And.intro hbw1 (And.intro hd0 hH0))))
  have HR := hide (And.intro hd (And.intro hn (And.intro hk (And.intro hl (And.intro hK (And.intro hN (And.intro hM hQ)))))))
  have HV := hide (And.intro hSk (And.intro hsz (And.intro hs (And.intro ht hmx))))
  have HIH := hide ih
  clear hd hn hk hl hK hN hM hQ hSk hsz hs ht hmx ih hx0 hx1 hbw1 hbA hb1 hH0 hS hd4
  go_enter Try.func38, Try.ntmps38
  go_wp2_with fail
  have HE0 : Hid (Enw F D ns ks lo hi gs (w.heap.size + 1 + 1) 0 t (t + rcNs F ns ks) N d0 w w1) := by
    obtain ⟨hx0, hx1, hbw1, hd0, hH0⟩ := unhide HX
    obtain ⟨hSk, hsz, hs, ht, hmx⟩ := unhide HV
    exact ⟨.of_below hbw1, by rw [hbw1.block _ (Array.getElem?_eq_some_iff.1 hs).1]; exact hs, by rw [List.drop_zero, List.drop_zero], hd0, by omega, hH0, fun j _ _ _ h => by omega, fun j j' _ _ _ h => by omega⟩
  have HXX := hide (And.intro (unhide HX).1 (unhide HX).2.1)
  clear y0 y1 y2 y3 y4 HX hmk
  go_loopw [18] (fun vi wr => ∃ (i tt : Nat) (d : Array Ey), i ≤ N ∧ vi = .int .i64 (i : Int) ∧ Hid (Enw F D ns ks lo hi gs (w.heap.size + 1 + 1) i tt (t + rcNs F ns ks) N d w wr) ∧ wr.heap[w.heap.size]? = some (.cells #[.int .i64 k, .bool x, .slice ad Q cd, .slice an N cn', .slice ak N ck] 34) ∧ wr.heap[w.heap.size + 1]? = some (.cells #[.int .i64 0, .bool false, .slice none 0 0, .slice none 0 0, .slice none 0 0] 34)) (fun vi _ => N - (intOf vi).toNat)
  case atStart => exact ⟨0, t, d0, by omega, rfl, HE0, unhide HXX⟩
  case round =>
    obtain ⟨i, tt, dd, hiN, rfl, HE, hx0, hx1⟩ := hrel
    by_cases hlt : i < N
    · obtain ⟨hd, hn, hk, hl, hK, hN, hM, hQ⟩ := unhide HR
      obtain ⟨hSk, hsz, hs, ht, hmx⟩ := unhide HV
      have hEw := unhide HE
      have hgs : gs < w.heap.size := (Array.getElem?_eq_some_iff.1 hs).1
      have hzr := hEw.so.size
      have hez := hEw.ez
      have hin : i < ns.length := by omega
      have hik : i < ks.length := by omega
      obtain ⟨gn, on, rfl, hgn1, hgn2, hcelln⟩ := hn.at (by omega)
      have hcn1 : wr.cell? ⟨gn, on + i, none⟩ = some (.string ns[i]) := by
        rw [World.cell?_of_block (w := w) (a := ⟨gn, on + i, none⟩) (hEw.so.block gn (by omega) (by omega))]
        exact hcelln i _ (by rw [List.getElem?_map, List.getElem?_eq_getElem hin]; rfl)
      obtain ⟨gk, ok, rfl, hgk1, hgk2, hcellk⟩ := hk.at (by omega)
      obtain ⟨q0, q1, f1, g1, h1, f2, g2, h2, f3, g3, h3, hLi, m0, m1, m2, m3, m4⟩ := kid_sl hl hcellk hK i hik
      have hkeep : ∀ W, SoleG gs w W → (W.cell? ⟨gk, ok + i * 5, none⟩ = some (.int .i64 q0) ∧ W.cell? ⟨gk, ok + i * 5 + 1, none⟩ = some (.bool q1) ∧ W.cell? ⟨gk, ok + i * 5 + 2, none⟩ = some (.slice f1 g1 h1) ∧ W.cell? ⟨gk, ok + i * 5 + 3, none⟩ = some (.slice f2 g2 h2) ∧ W.cell? ⟨gk, ok + i * 5 + 4, none⟩ = some (.slice f3 g3 h3)) ∧ Lies lo hi W ks[i] [.int .i64 q0, .bool q1, .slice f1 g1 h1, .slice f2 g2 h2, .slice f3 g3 h3] ∧ ∃ m, W.cell? ⟨0, 0, none⟩ = some (.int .i64 m) := fun W hW => by
        have hb := hW.block gk (by omega) (by omega)
        refine ⟨⟨?_, ?_, ?_, ?_, ?_⟩, hLi.same fun k _ hk => hW.block k (by omega) (by omega), ?_⟩
        · rw [World.cell?_of_block (w := w) (a := ⟨gk, ok + i * 5, none⟩) hb]; exact m0
        · rw [World.cell?_of_block (w := w) (a := ⟨gk, ok + i * 5 + 1, none⟩) hb]; exact m1
        · rw [World.cell?_of_block (w := w) (a := ⟨gk, ok + i * 5 + 2, none⟩) hb]; exact m2
        · rw [World.cell?_of_block (w := w) (a := ⟨gk, ok + i * 5 + 3, none⟩) hb]; exact m3
        · rw [World.cell?_of_block (w := w) (a := ⟨gk, ok + i * 5 + 4, none⟩) hb]; exact m4
        · obtain ⟨m, hm⟩ := hmx
          exact ⟨m, by rw [World.cell?_of_block (w := w) (a := ⟨0, 0, none⟩) (hW.block 0 (by omega) (by omega))]; exact hm⟩
      have htot := hEw.tot
      rw [rcNs_step hin hik] at htot
      rw [rcN] at ht
      have hnsz := hsz ns[i] (List.getElem_mem hin)
      have hki := hkeep wr hEw.so
      have HI1 := hide (inName_any gs tt F D ns[i] wr.drew hEw.sw hnsz hF hFl hD hDl (by omega) hg1 hki.2.2)
      have HI2 : Hid (∀ W, SoleG gs w W → W.heap[gs]? = some (SwBox F D (tt + rc F ns[i])) → Calls Try.prog 38 #[.pointer (some ⟨gs, 0, none⟩), .agg #[.int .i64 q0, .bool q1, .slice f1 g1 h1, .slice f2 g2 h2, .slice f3 g3 h3]] W fun e w' => ∃ C cs', e = .returned (.agg cs'.toArray) ∧ Srt F D ks[i] C ∧ Mine lo hi w' W.heap.size w'.heap.size C cs' ∧ SoleG gs W w' ∧ w'.heap[gs]? = some (SwBox F D (tt + rc F ns[i] + rcN F ks[i]))) := fun W hW hs' =>
        unhide HIH ks[i] (List.getElem_mem hik) lo hi gs _ _ W (hkeep W hW).2.1 (hSk _ (List.getElem_mem hik)) hhi hg1 hs' (by omega) (hkeep W hW).2.2
      have HKp := hide fun W (hW : SoleG gs w W) => (hkeep W hW).1
      have HSt : Hid (∀ (e : Ey) (w2 w3 : World), SoleG gs wr w2 → SoleG gs w2 w3 → w3.heap[gs]? = some (SwBox F D (tt + rc F ns[i] + rcN F ks[i])) → e.s = rp F D ns[i] → (e.r.1 = w2.heap.size ∧ e.r.2 = w3.heap.size) → Srt F D ks[i] e.t → Mine lo hi w3 w2.heap.size w3.heap.size e.t e.kid → Enw F D ns ks lo hi gs (w.heap.size + 1 + 1) (i + 1) (tt + rc F ns[i] + rcN F ks[i]) (t + rcNs F ns ks) N (dd.setIfInBounds i e) w (w3.setCells (w.heap.size + 1 + 1) (i * 6) (encE e))) := fun e w2 w3 a1 a2 a3 a4 a5 a6 a7 =>
        enw_step e hEw hlt (List.getElem?_eq_getElem hin) (List.getElem?_eq_getElem hik) hgs hhi (by omega) a1 a2 a3 a4 a5 a6 a7
      have HFr : Hid (∀ W, SoleG gs wr W → (∃ u0 u1 u2 u3 u4 u5, W.cell? ⟨w.heap.size + 1 + 1, i * 6, none⟩ = some u0 ∧ W.cell? ⟨w.heap.size + 1 + 1, i * 6 + 1, none⟩ = some u1 ∧ W.cell? ⟨w.heap.size + 1 + 1, i * 6 + 2, none⟩ = some u2 ∧ W.cell? ⟨w.heap.size + 1 + 1, i * 6 + 3, none⟩ = some u3 ∧ W.cell? ⟨w.heap.size + 1 + 1, i * 6 + 4, none⟩ = some u4 ∧ W.cell? ⟨w.heap.size + 1 + 1, i * 6 + 5, none⟩ = some u5) ∧ W.frozen? ⟨w.heap.size + 1 + 1, i * 6, none⟩ = false ∧ W.frozen? ⟨w.heap.size + 1 + 1, i * 6 + 1, none⟩ = false ∧ W.frozen? ⟨w.heap.size + 1 + 1, i * 6 + 2, none⟩ = false ∧ W.frozen? ⟨w.heap.size + 1 + 1, i * 6 + 3, none⟩ = false ∧ W.frozen? ⟨w.heap.size + 1 + 1, i * 6 + 4, none⟩ = false ∧ W.frozen? ⟨w.heap.size + 1 + 1, i * 6 + 5, none⟩ = false) := fun W hW => by
        have hh := holds_same hEw.holds (hW.block _ hez (by omega))
        have hi' : i < dd.size := by have := hEw.ds; omega
        exact ⟨⟨_, _, _, _, _, _, entry_cells hh i hi'⟩, entry_fr hh i 0 hi' (by omega), entry_fr hh i 1 hi' (by omega), entry_fr hh i 2 hi' (by omega), entry_fr hh i 3 hi' (by omega), entry_fr hh i 4 hi' (by omega), entry_fr hh i 5 hi' (by omega)⟩
      have HBx : Hid (∀ W, SoleG gs wr W → W.heap[w.heap.size]? = some (.cells #[.int .i64 k, .bool x, .slice ad Q cd, .slice (some ⟨gn, on, none⟩) N cn', .slice (some ⟨gk, ok, none⟩) N ck] 34) ∧ W.heap[w.heap.size + 1]? = some (.cells #[.int .i64 0, .bool false, .slice none 0 0, .slice none 0 0, .slice none 0 0] 34)) := fun W hW => ⟨by rw [hW.block _ (by omega) (by omega)]; exact hx0, by rw [hW.block _ (by omega) (by omega)]; exact hx1⟩
      have HSo := hide hEw.so
      obtain ⟨nm, hnm⟩ : ∃ nm, ns[i] = nm := ⟨_, rfl⟩
      obtain ⟨kd, hkd⟩ : ∃ kd, ks[i] = kd := ⟨_, rfl⟩
      obtain ⟨p0, p1, p2, p3, p4⟩ := hki.1
      obtain ⟨y0, y1, y2, y3, y4⟩ := box_cells hx0
      have hrd : SoleG gs wr wr.drew := ⟨rfl, rfl, rfl, Nat.le_refl _, fun _ _ _ => rfl⟩
      have HRd := hide hrd
      rw [hnm] at hcn1 HI1 HI2 HSt
      rw [hkd] at HI2 HSt
      clear hd hn hk hl hK hN hM hQ hSk hsz hs ht hmx hEw hcelln hcellk hLi m0 m1 m2 m3 m4 hkeep htot hnsz hki hnm hkd HE HIH hrd hx0 hx1
      go_wp2_with fail
      go_region_law (first | (go_simp; refine (unhide HI1).mono ?_; rintro e w2 ⟨rfl, hso2, hsw2⟩; have hso2r : SoleG gs wr w2 := (unhide HRd).trans hso2; have hso2w : SoleG gs w w2 := (unhide HSo).trans hso2r; obtain ⟨z0, z1, z2, z3, z4⟩ := box_cells (unhide HBx w2 hso2r).1; obtain ⟨s0, s1, s2, s3, s4⟩ := unhide HKp w2 hso2w; simp only []) | (go_simp; refine (unhide HI2 w2 hso2w hsw2).mono ?_; rintro e w3 ⟨C, cs3, rfl, hSr, hMi, hso3, hsw3⟩; obtain ⟨k3, x3, b1, l1, e1, b2, l2, e2, b3, l3, e3, rfl⟩ := hMi.form; obtain ⟨⟨u0, u1, u2, u3, u4, u5, hu0, hu1, hu2, hu3, hu4, hu5⟩, r0, r1, r2, r3, r4, r5⟩ := unhide HFr w3 (hso2r.trans hso3); simp only []))
      all_goals
        have HN := hide (unhide HSt ⟨rp F D nm, k3, x3, b1, l1, e1, b2, l2, e2, b3, l3, e3, C, (w2.heap.size, w3.heap.size)⟩ w2 w3 hso2r hso3 hsw3 rfl ⟨rfl, rfl⟩ hSr hMi)
        have HB3 := hide (unhide HBx w3 (hso2r.trans hso3))
        clear hu0 hu1 hu2 hu3 hu4 hu5 r0 r1 r2 r3 r4 r5 z0 z1 z2 z3 z4 s0 s1 s2 s3 s4 p0 p1 p2 p3 p4 y0 y1 y2 y3 y4 hcn1 hMi hSr hso2 hso2r hso2w hso3 hsw2 hsw3 HI1 HI2 HSt HFr HBx HKp HSo HRd
        rw [← setCells6]
        obtain ⟨W, hW⟩ : ∃ W, W = w3.setCells (w.heap.size + 1 + 1) (i * 6) [.string (rp F D nm), .int .i64 k3, .bool x3, .slice b1 l1 e1, .slice b2 l2 e2, .slice b3 l3 e3] := ⟨_, rfl⟩
        have HB4 : Hid (W.heap[w.heap.size]? = some (.cells #[.int .i64 k, .bool x, .slice ad Q cd, .slice (some ⟨gn, on, none⟩) N cn', .slice (some ⟨gk, ok, none⟩) N ck] 34) ∧ W.heap[w.heap.size + 1]? = some (.cells #[.int .i64 0, .bool false, .slice none 0 0, .slice none 0 0, .slice none 0 0] 34)) := by
          rw [hW]
          exact ⟨by rw [setCells_other _ _ _ (by omega)]; exact (unhide HB3).1, by rw [setCells_other _ _ _ (by omega)]; exact (unhide HB3).2⟩
        have HN4 : Hid (Enw F D ns ks lo hi gs (w.heap.size + 1 + 1) (i + 1) (tt + rc F nm + rcN F kd) (t + rcNs F ns ks) N (dd.setIfInBounds i ⟨rp F D nm, k3, x3, b1, l1, e1, b2, l2, e2, b3, l3, e3, C, (w2.heap.size, w3.heap.size)⟩) w W) := by rw [hW]; exact unhide HN
        rw [← hW]
        clear hW HN HB3
        go_wp2_with fail
        exact ⟨⟨i + 1, _, _, by omega, rfl, HN4, (unhide HB4).1, (unhide HB4).2⟩, by simp [intOf]; omega⟩
    · obtain rfl : i = N := by omega
      have hEw := unhide HE
      have hds := hEw.ds
      have HSo := hide (sortE (w.heap.size + 1 + 1) i dd wr hEw.holds hEw.ez (by omega))
      rw [hds] at HSo
      have HXs := hide (And.intro hx0 hx1)
      clear hEw hds hx0 hx1
      go_wp2_with fail
      refine (unhide HSo).mono ?_
      rintro e w2 ⟨rfl, d', nn, os, hpm, hst, hw2⟩
      have hEw := unhide HE
      have hds := hEw.ds
      obtain ⟨so1, so2, so3, so4, so5⟩ := sortWorld_other wr (w.heap.size + 1 + 1) nn d' os
      have hh2 := sortWorld_holds (n := nn) (os := os) hEw.holds (d := d') (by have := hpm.1; omega) hEw.ez
      rw [← hw2] at so1 so2 so3 so4 so5 hh2
      have hsl := sorted_list (d := dd) (d' := d') (by rw [hds]; exact hpm) (by rw [hds]; exact hst)
      have hez := hEw.ez
      have hx0 : w2.heap[w.heap.size]? = some (.cells #[.int .i64 k, .bool x, .slice ad Q cd, .slice an i cn', .slice ak i ck] 34) := by rw [so1 _ (by omega) (by omega)]; exact (unhide HXs).1
      have hx1 : w2.heap[w.heap.size + 1]? = some (.cells #[.int .i64 0, .bool false, .slice none 0 0, .slice none 0 0, .slice none 0 0] 34) := by rw [so1 _ (by omega) (by omega)]; exact (unhide HXs).2
      have hd'i : d'.size = i := hpm.1.trans hds
      have HS2 := hide (And.intro so1 (And.intro so2 (And.intro so3 (And.intro so4 (And.intro so5 (And.intro hh2 (And.intro hsl hd'i)))))))
      obtain ⟨y0, y1, y2, y3, y4⟩ := box_cells hx0
      obtain ⟨z0, z1, z2, z3, z4⟩ := box_cells hx1
      have hfr : ∀ o, w2.frozen? ⟨w.heap.size + 1, o, none⟩ = false := fun o => Bx.fr hx1 o
      have r0 := hfr 0
      have r1 := hfr 1
      have r2 := hfr 2
      have r3 := hfr 3
      have r4 := hfr 4
      have HX2 := hide (And.intro hx0 hx1)
      have hz2 : w.heap.size + 1 + 1 < w2.heap.size := by omega
      clear hEw hds so1 so2 so3 so4 so5 hh2 hsl hez hx0 hx1 hpm hst hw2 hfr HSo HXs hd'i
      go_wp2_with fail
      obtain ⟨ws, hws⟩ : ∃ ws, ws = w2.alloc (.cells #[.int .i64 k, .bool x, .slice ad Q cd, .slice none 0 0, .slice none 0 0] 34) := ⟨_, rfl⟩
      have hszs : ws.heap.size = w2.heap.size + 1 := by rw [hws]; simp
      have hbs : Below w2.heap.size w2 ws := by rw [hws]; exact (Below.refl _ _).alloc (Nat.le_refl _) _
      have HG0 : Hid (Gat d'.toList w2.heap.size 0 0 k x (.slice ad Q cd) (.slice none 0 0) (.slice none 0 0) ws ws) :=
        ⟨rfl, rfl, rfl, Nat.le_refl _, fun _ _ _ => rfl, by rw [hws]; exact bx_new w2 _ _ _ _ _, ⟨rfl, .inl ⟨rfl, rfl⟩⟩, ⟨rfl, .inl ⟨rfl, rfl⟩⟩⟩
      rw [← hws]
      have HWS := hide (And.intro hszs hbs)
      clear y0 y1 y2 y3 y4 z0 z1 z2 z3 z4 r0 r1 r2 r3 r4 hws hbs
      go_loopw [49] (fun vj wq => ∃ (j : Nat) (a1 a2 : Option Addr) (c1 c2 : Nat), j ≤ i ∧ vj = .int .i64 (j : Int) ∧ Hid (Gat d'.toList w2.heap.size j j k x (.slice ad Q cd) (.slice a1 j c1) (.slice a2 j c2) ws wq)) (fun vj _ => i - (intOf vj).toNat)
      case atStart => exact ⟨0, none, none, 0, 0, by omega, rfl, HG0⟩
      case round =>
        obtain ⟨j, a1, a2, c1, c2, hji, rfl, HG⟩ := hrel
        obtain ⟨so1, so2, so3, so4, so5, hh2, hsl, hd'i⟩ := unhide HS2
        by_cases hlt : j < i
        · have hjl : j < d'.toList.length := by rw [Array.length_toList]; omega
          have hjd : j < d'.size := by omega
          obtain ⟨hszs, hbs⟩ := unhide HWS
          have hGt := unhide HG
          have hzq := hGt.size
          have hhq := holds_same hh2 (w' := wr) (by rw [hGt.rest _ (by omega) (by omega), hbs.block _ (by omega)])
          obtain ⟨t0, t1, t2, t3, t4, t5⟩ := entry_cells hhq j hjd
          have hej : d'.toList[j] = d'[j] := Array.getElem_toList hjd
          obtain ⟨n0, n1, n2, n3, n4⟩ := hGt.box.cells
          have f3 := hGt.box.fr 3
          have f4 := hGt.box.fr 4
          have hnl : ∀ g, (Value.slice a1 j c1).ownBlock = some g → g < wr.heap.size := fun g hg => (owns_lt hGt.nms g hg).2
          have hG1 := hGt.alloc (.cells #[.string d'[j].s, .int .i64 d'[j].k, .bool d'[j].x, .slice d'[j].a1 d'[j].n1 d'[j].c1, .slice d'[j].a2 d'[j].n2 d'[j].c2, .slice d'[j].a3 d'[j].n3 d'[j].c3] 100)
          obtain ⟨b1, e1, W3, happ1, hG2, hz3, hbl3⟩ := gat_name hG1 hjl (by omega) (by omega)
          have hxx : W3.heap[wr.heap.size]? = some (.cells #[.string d'[j].s, .int .i64 d'[j].k, .bool d'[j].x, .slice d'[j].a1 d'[j].n1 d'[j].c1, .slice d'[j].a2 d'[j].n2 d'[j].c2, .slice d'[j].a3 d'[j].n3 d'[j].c3] 100) := by
            rw [hbl3 _ (by simp) (fun e => by have := hnl _ e; omega)]
            show (wr.heap.push _)[wr.heap.size]? = _
            rw [Array.getElem?_push, if_pos rfl]
          have hbx3 := hG1.box.of (hbl3 _ (by have := hG1.box.lt; exact this) (fun e => by have := (owns_lt hG1.nms _ e).1; omega))
          obtain ⟨m0, m1, m2, m3, m4⟩ := hbx3.cells
          have g3 := hbx3.fr 3
          have g4 := hbx3.fr 4
          have x1 := cell_of_row W3 wr.heap.size 1 _ _ _ hxx
          have x2 := cell_of_row W3 wr.heap.size 2 _ _ _ hxx
          have x3 := cell_of_row W3 wr.heap.size 3 _ _ _ hxx
          have x4 := cell_of_row W3 wr.heap.size 4 _ _ _ hxx
          have x5 := cell_of_row W3 wr.heap.size 5 _ _ _ hxx
          simp only [List.getElem?_toArray, List.getElem?_cons_succ, List.getElem?_cons_zero] at x1 x2 x3 x4 x5
          obtain ⟨b2, e2, W6, happ2, hG3, hbx6⟩ := gat_kid hG2 hjl (by omega) (by omega)
          have k4 := hbx6.cells.2.2.2.2
          have f6 := hbx6.fr 4
          rw [hej] at happ1 happ2
          simp only [World.size_alloc, setCell_size, Ey.kid] at happ1 happ2
          have hl1 : w2.heap.size < wr.heap.size := by omega
          have hl2 : w2.heap.size < W3.heap.size := by simp only [World.size_alloc] at hz3; omega
          have HN := hide hG3
          generalize d'[j] = ee at *
          obtain ⟨s', k', x', u1, l1, v1, u2, l2, v2, u3, l3, v3, t', r'⟩ := ee
          simp only [] at t0 t1 t2 t3 t4 t5 x1 x2 x3 x4 x5 happ1 happ2
          clear so1 so2 so3 so4 so5 hh2 hsl hszs hbs hGt hhq hG1 hG2 hG3 hbl3 hxx hbx3 hbx6 hej HS2 HX2 HE HE0 HXX HG HG0 hnl
          go_wp2_with fail
          exact ⟨⟨j + 1, b1, b2, e1, e2, by omega, by go_num, HN⟩, by simp [intOf]; omega⟩
        · obtain rfl : j = i := by omega
          obtain ⟨hszs, hbs⟩ := unhide HWS
          have hGt := unhide HG
          have hzq := hGt.size
          obtain ⟨n0, n1, n2, n3, n4⟩ := hGt.box.cells
          have hx1 : wr.heap[w.heap.size + 1]? = some (.cells #[.int .i64 0, .bool false, .slice none 0 0, .slice none 0 0, .slice none 0 0] 34) := by rw [hGt.rest _ (by omega) (by omega), hbs.block _ (by omega)]; exact (unhide HX2).2
          obtain ⟨z0, z1, z2, z3, z4⟩ := box_cells hx1
          have hfr : ∀ o, wr.frozen? ⟨w.heap.size + 1, o, none⟩ = false := fun o => Bx.fr hx1 o
          have r0 := hfr 0
          have r1 := hfr 1
          have r2 := hfr 2
          have r3 := hfr 3
          have r4 := hfr 4
          have hl1 : w.heap.size + 1 < w2.heap.size := by omega
          clear so1 so2 so3 so4 so5 hh2 hsl hszs hbs hGt hx1 hfr hd'i
          go_wp2_with fail
          obtain ⟨so1, so2, so3, so4, so5, hh2, hsl, hd'i⟩ := unhide HS2
          obtain ⟨hszs, hbs⟩ := unhide HWS
          obtain ⟨hd, hn, hk, hl, hK, hN, hM, hQ⟩ := unhide HR
          obtain ⟨hSk, hsz, hs, ht, hmx⟩ := unhide HV
          have hEw := unhide HE
          have hGt := unhide HG
          have hez := hEw.ez
          have hzr := hEw.so.size
          have hgs : gs < w.heap.size := (Array.getElem?_eq_some_iff.1 hs).1
          obtain ⟨hall, hap⟩ := enw_all hEw hM hN hsl.1
          have hsrt := enw_srt hEw hM hN hsl.1 hsl.2 k x d
          have hw2s : ∀ q, q < w2.heap.size → ws.heap[q]? = w2.heap[q]? := fun q hq => hbs.block q hq
          have hlow : ∀ q, q < w.heap.size → q ≠ gs → ws.heap[q]? = w.heap[q]? := fun q h1 h2 => by rw [hw2s q (by omega), so1 q (by omega) (by omega), hEw.so.block q h1 h2]
          obtain ⟨W, hW⟩ : ∃ W, W = ((((wr.setCell ⟨w.heap.size + 1, 0, none⟩ (.int .i64 k)).setCell ⟨w.heap.size + 1, 1, none⟩ (.bool x)).setCell ⟨w.heap.size + 1, 2, none⟩ (.slice ad Q cd)).setCell ⟨w.heap.size + 1, 3, none⟩ (.slice a1 j c1)).setCell ⟨w.heap.size + 1, 4, none⟩ (.slice a2 j c2) := ⟨_, rfl⟩
          have hWo : ∀ q, q ≠ w.heap.size + 1 → W.heap[q]? = wr.heap[q]? := fun q hq => by rw [hW, set_other _ _ _ _ _ hq, set_other _ _ _ _ _ hq, set_other _ _ _ _ _ hq, set_other _ _ _ _ _ hq, set_other _ _ _ _ _ hq]
          have hWs : W.heap.size = wr.heap.size := by rw [hW]; simp
          have hWr : W.os = wr.os ∧ W.tape = wr.tape ∧ W.output = wr.output := by rw [hW]; exact ⟨rfl, rfl, rfl⟩
          have HW := hide hW
          rw [← hW]
          refine bodyPost_ret (v := .agg #[.int .i64 k, .bool x, .slice ad Q cd, .slice a1 j c1, .slice a2 j c2]) (by rw [hW]; simp [results, Try.results38, go_sem, z0, z1, z2, z3, z4, r0, r1, r2, r3, r4]) rfl ⟨_, [.int .i64 k, .bool x, .slice ad Q cd, .slice a1 j c1, .slice a2 j c2], rfl, hsrt, ?_, ?_, ?_⟩
          · refine gat_end (OB := w2.heap.size) hGt (by rw [Array.length_toList]; exact hd'i) (hi := hi) (lo := lo) ?_ (by omega) (by omega) (by omega) (fun e he => ?_) hap (fun q hq => ?_) (fun e he => by have := (hall e he).2.1; omega) hWs (by omega)
            · rw [← hQ]
              exact hd.same fun q _ hq => hlow q (by omega) (by omega)
            · obtain ⟨q1, q2, q3⟩ := hall e he
              refine ⟨by omega, by omega, q1.same (fun q _ hq => by rw [hw2s q (by omega), so1 q (by omega) (by omega)]) (fun q h1 h2 => by rw [hw2s q (by omega), so1 q (by omega) (by omega)])⟩
            · exact hWo q (by omega)
          · refine ⟨?_, ?_, ?_, by omega, fun q h1 h2 => ?_⟩
            · rw [hWr.1, hGt.os, hbs.os, so3, hEw.so.os]
            · rw [hWr.2.1, hGt.tape, hbs.tape, so4, hEw.so.tape]
            · rw [hWr.2.2, hGt.output, hbs.output, so5, hEw.so.output]
            · rw [hWo q (by omega), hGt.rest q (by omega) (by omega), hlow q h1 h2]
          · rw [hWo gs (by omega), hGt.rest gs (by omega) (by omega), hw2s gs (by omega), so1 gs (by omega) (by omega), hEw.sw, rcN]
            have := hEw.tot
            rw [rcNs_end _ (by omega)] at this
            have e : tt = t + rcNs F ns ks := by omega
            rw [e]
end Go.Proofs.Ytlbfcneboaihnaa
