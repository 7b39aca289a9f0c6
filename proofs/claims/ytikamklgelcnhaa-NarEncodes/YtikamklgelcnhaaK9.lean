import Derived.Test.YtikamklgelcnhaaK7
import Derived.Test.YtikamklgelcnhaaK6
import Derived.Test.YtikamklgelcnhaaK8
import Derived.Deep.RegionHeld3
import Derived.Deep.RegionLaw
/- The document's node: a node's bytes behind others. -/
namespace Go.Proofs.Ytikamklgelcnhaa
open Go.RowKit
set_option linter.unusedSimpArgs false
/-- What the document's node answers. -/
def EnC (T : Tr) : Prop := ∀ (lo hi base : Nat) (cs : List Value) (a : Option Addr) (c n : Nat) (xs : List UInt8) (w : World), Lies lo hi w T cs → hi ≤ base → base ≤ w.heap.size → w.ownsRow base 5 1 (.slice a n c) n (bv xs) → n + (nodeB T).length ≤ 5000000 →
  Calls Try.prog 30 #[.slice a n c, .agg cs.toArray] w fun e w' => RowG base w (.slice a n c) (n + (nodeB T).length) (xs ++ nodeB T) e w'
/-- Where it stands: the row, the box, the tree. -/
structure EnW (lo hi base B : Nat) (T : Tr) (cs : List Value) (v0 : Value) (t0 t1 t2 t3 t4 : Value) (w W : World) (v : Value) (n : Nat) (xs : List UInt8) : Prop where
  g : Gw w W v0 v
  o : W.ownsRow base 5 1 v n (bv xs)
  x : Bx W B t0 t1 t2 t3 t4
  l : Lies lo hi W T cs
  h0 : ∀ k, v0.ownBlock = some k → base ≤ k ∧ k < B
  hb : base ≤ B
  hh : hi ≤ base
  hB : B < w.heap.size
theorem EnW.call {lo hi base B : Nat} {T : Tr} {cs : List Value} {v0 t0 t1 t2 t3 t4 : Value} {w W W' : World} {v v' : Value} {n n' : Nat} {xs ys : List UInt8} (h : EnW lo hi base B T cs v0 t0 t1 t2 t3 t4 w W v n xs) (hg : Gw W W' v v') (ho : W'.ownsRow base 5 1 v' n' (bv ys)) : EnW lo hi base B T cs v0 t0 t1 t2 t3 t4 w W' v' n' ys := by
  obtain ⟨g, o, x, l, h0, hb, hh, hB⟩ := h
  have hz := g.size
  have hx := x.lt
  refine ⟨g.trans hg, ho, x.of (hg.keep _ hx (fun e => ?_)), l.same (fun k hk1 hk2 => hg.keep k (by omega) (fun e => ?_)), h0, hb, hh, hB⟩
  · rcases g.own _ e with h | h
    · have := (h0 _ h).2; omega
    · omega
  · have := (owns_lt o _ e).1; omega
/-- A text behind it. -/
theorem EnW.text {lo hi base B : Nat} {T : Tr} {cs : List Value} {v0 t0 t1 t2 t3 t4 : Value} {w W : World} {a : Option Addr} {c n : Nat} {xs : List UInt8} (h : EnW lo hi base B T cs v0 t0 t1 t2 t3 t4 w W (.slice a n c) n xs) (s : ByteArray) (hmax : n + s.size ≤ 9000000) :
    Calls Try.prog 31 #[.slice a n c, .string s] W fun e W' => ∃ a' c', e = .returned (.slice a' (n + (tx (sB s)).length) c') ∧ EnW lo hi base B T cs v0 t0 t1 t2 t3 t4 w W' (.slice a' (n + (tx (sB s)).length) c') (n + (tx (sB s)).length) (xs ++ tx (sB s)) := by
  have hx := h.x.lt
  have := h.hb
  refine (etext_any base a c n xs s W h.o hmax (by omega)).mono ?_
  rintro e W' ⟨a', c', rfl, ho, hg⟩
  have hl : (tx (sB s)).length = 8 + s.size + padN s.size := tx_len (sB s)
  rw [hl]
  exact ⟨a', c', rfl, h.call hg ho⟩
theorem en_meas {i N : Nat} (h : i < N) : N - (intOf (.int .i64 ((i : Int) + 1))).toNat < N - (intOf (.int .i64 (i : Int))).toNat := by simp [intOf]; omega
theorem en_le {n n1 n2 B B' : Nat} {l : List UInt8} (h : n1 ≤ n + B) (e : n2 = n1 + l.length) (hl : l.length ≤ 34) (hB : B + 34 ≤ B') : Hid (n2 ≤ n + B') := by show _ ≤ _; omega
theorem Gw.drew {w w' : World} {v v' : Value} (h : Gw w w' v v') : Gw w w'.drew v v' := ⟨h.os, h.tape, h.output, h.size, h.keep, h.own⟩
theorem EnW.drew {lo hi base B : Nat} {T : Tr} {cs : List Value} {v0 t0 t1 t2 t3 t4 : Value} {w W : World} {v : Value} {n : Nat} {xs : List UInt8} (h : EnW lo hi base B T cs v0 t0 t1 t2 t3 t4 w W v n xs) : EnW lo hi base B T cs v0 t0 t1 t2 t3 t4 w W.drew v n xs :=
  ⟨h.g.drew, owns_same h.o (fun _ _ => rfl) (fun _ _ h => h), h.x, h.l.same (fun _ _ _ => rfl), h.h0, h.hb, h.hh, h.hB⟩
set_option maxRecDepth 20000 in
set_option maxHeartbeats 4000000 in
theorem enode_any (T : Tr) : (∃ dp m, (chk T dp m).1 = 0) → wt T ≤ 100000 → EnC T := by
  induction T using Tr.ind with
  | h K x d ns ks ih =>
  intro hN hW lo hi base cs a c n xs w hL hhi hbase ho hmax
  have hSm := small_of hW
  obtain ⟨dp, m, hchk⟩ := hN
  obtain ⟨hloc, _, hkk⟩ := chk_kids hchk
  have HL := hide hL
  cases hL with
  | mk _ _ _ _ _ vd vn vk Ks hl hd hn hk hK =>
  obtain ⟨ad, cd, rfl, _⟩ := hd.slice
  obtain ⟨an, cn, rfl, _⟩ := hn.slice
  obtain ⟨ak, ck, rfl, _⟩ := hk.slice
  obtain ⟨Q, hQ⟩ : ∃ Q, Q = fun (e : Ending) (w' : World) => RowG base w (.slice a n c) (n + (nodeB (.mk K x d ns ks)).length) (xs ++ nodeB (.mk K x d ns ks)) e w' := ⟨_, rfl⟩
  rw [← hQ]
  have HQ := hide hQ
  obtain ⟨W0, hW0⟩ : ∃ W0, W0 = w.alloc (.cells #[.int .i64 K, .bool x, .slice ad d.size cd, .slice an ns.length cn, .slice ak ks.length ck] 26) := ⟨_, rfl⟩
  have hb0 : Below w.heap.size w W0 := by rw [hW0]; exact (Below.refl _ _).alloc (Nat.le_refl _) _
  have hE0 : EnW lo hi base w.heap.size (.mk K x d ns ks) [.int .i64 K, .bool x, .slice ad d.size cd, .slice an ns.length cn, .slice ak ks.length ck] (.slice a n c) (.int .i64 K) (.bool x) (.slice ad d.size cd) (.slice an ns.length cn) (.slice ak ks.length ck) W0 W0 (.slice a n c) n xs :=
    ⟨Gw.refl _ _, owns_same ho (fun g hg => hb0.block g (owns_lt ho g hg).2) (fun _ _ h => h), by rw [hW0]; exact bx_new _ _ _ _ _ _, (unhide HL).kept hb0 (by omega), fun k hk => owns_lt ho k hk, hbase, hhi, by rw [hW0]; simp⟩
  have HG0 : Hid (Gw w W0 (.slice a n c) (.slice a n c)) := Gw.of_below _ hb0
  have HEND : Hid (∀ (W : World) (a' : Option Addr) (c' n' : Nat) (ys : List UInt8), EnW lo hi base w.heap.size (.mk K x d ns ks) [.int .i64 K, .bool x, .slice ad d.size cd, .slice an ns.length cn, .slice ak ks.length ck] (.slice a n c) (.int .i64 K) (.bool x) (.slice ad d.size cd) (.slice an ns.length cn) (.slice ak ks.length ck) W0 W (.slice a' n' c') n' ys → ys = xs ++ nodeB (.mk K x d ns ks) → Q (.returned (.slice a' n' c')) W) := by
    intro W a' c' n' ys hE hy
    have hlen : n' = n + (nodeB (.mk K x d ns ks)).length := by
      have h1 := hE.o.1
      have h2 := ho.1
      rw [hy, bv_length, List.length_append] at h1
      rw [bv_length] at h2
      omega
    rw [unhide HQ]
    subst hlen
    subst hy
    exact ⟨a', c', rfl, hE.o, (unhide HG0).trans hE.g⟩
  have HE0 := hide hE0
  have HL0 := hide hE0.l
  have HXN : Hid (xs.length = n) := by have h := ho.1; rw [bv_length] at h; exact (show _ = _ by omega)
  have HXX := hide hE0.x
  have HW0 := hide hW0
  have H1 := hide (hE0.text bOpen (by have : bOpen.size = 1 := rfl; omega))
  have HNUM := hide (And.intro hmax (And.intro hW (And.intro hbase hhi)))
  have HSM := hide hSm
  have HLC := hide (And.intro hloc hkk)
  clear hQ hb0 hE0 hW0 ho hn hk hd hK hl hchk hmax hW hbase hhi hSm hloc hkk
  go_enter Try.func30, Try.ntmps30
  go_wp2_with fail
  rw [← unhide HW0]
  refine (unhide H1).mono ?_
  rintro e w1 ⟨a1, c1, rfl, hE1⟩
  have HE1 := hide hE1
  obtain ⟨n1, hn1⟩ : ∃ n1, n1 = n + (tx (sB bOpen)).length := ⟨_, rfl⟩
  have HM1 : Hid (n1 ≤ n + 100) := en_le (B := 0) (Nat.le_refl _) hn1 (by decide) (by omega)
  rw [← hn1] at HE1 ⊢
  clear hE1 hn1 H1 HE0 HW0
  have H2 := hide ((unhide HE1).text bType (by have h := unhide HM1; have h2 := (unhide HNUM).1; have : (bType : ByteArray).size = 4 := rfl; omega))
  go_wp2_with fail
  refine (unhide H2).mono ?_
  rintro e w2 ⟨a2, c2, rfl, hE2⟩
  have HE2 := hide hE2
  obtain ⟨n2, hn2⟩ : ∃ n2, n2 = n1 + (tx (sB bType)).length := ⟨_, rfl⟩
  have HM2 : Hid (n2 ≤ n + 200) := en_le (unhide HM1) hn2 (by decide) (by omega)
  rw [← hn2] at HE2 ⊢
  clear hE2 hn2 H2 HE1 HM1
  obtain ⟨y0, y1, y2, y3, y4⟩ := (unhide HE2).x.cells
  rcases loc0 (unhide HLC).1 with ⟨rfl, q1, q2⟩ | ⟨rfl, q0, q1, q2⟩ | ⟨rfl, q0, q1, q2, q3⟩
  · clear q1 q2
    have H3 := hide ((unhide HE2).text bReg (by have h := unhide HM2; have h2 := (unhide HNUM).1; have : (bReg : ByteArray).size = 7 := rfl; omega))
    go_wp2_with fail
    refine (unhide H3).mono ?_
    rintro e w3 ⟨a3, c3, rfl, hE3⟩
    have HE3 := hide hE3
    obtain ⟨n3, hn3⟩ : ∃ n3, n3 = n2 + (tx (sB bReg)).length := ⟨_, rfl⟩
    have HM3 : Hid (n3 ≤ n + 300) := en_le (unhide HM2) hn3 (by decide) (by omega)
    rw [← hn3] at HE3 ⊢
    clear hE3 hn3 H3 HE2 HM2
    clear y0 y1 y2 y3 y4
    obtain ⟨y0, y1, y2, y3, y4⟩ := (unhide HE3).x.cells
    cases x with
    | false =>
      have HS0 : Hid (∀ W nn vv yy, EnW lo hi base w.heap.size (.mk 1 false d ns ks) [.int .i64 1, .bool false, .slice ad d.size cd, .slice an ns.length cn, .slice ak ks.length ck] (.slice a n c) (.int .i64 1) (.bool false) (.slice ad d.size cd) (.slice an ns.length cn) (.slice ak ks.length ck) W0 W vv nn yy → (Bx W w.heap.size (.int .i64 1) (.bool false) (.slice ad d.size cd) (.slice an ns.length cn) (.slice ak ks.length ck) ∧ Row lo hi W (.slice ad d.size cd) d.size (byteVals d))) := fun W nn vv yy h => ⟨h.x, by have hl := h.l; cases hl with | mk _ _ _ _ _ _ _ _ _ _ hd => exact hd⟩
      go_wp2_with fail
      refine wp_region_noPanic ?_
      refine wp_region_held_drew (S := fun w' => Bx w' w.heap.size (.int .i64 1) (.bool false) (.slice ad d.size cd) (.slice an ns.length cn) (.slice ak ks.length ck) ∧ Row lo hi w' (.slice ad d.size cd) d.size (byteVals d)) (by kernel_rfl) (unhide HS0 _ _ _ _ (EnW.drew (unhide HE3))) (fun hHeld => ?_)
      refine wpAnyH_take (i := 0) (v := .slice a3 n3 c3) rfl (by kernel_rfl) (by kernel_rfl) (by kernel_rfl) (fun _ _ _ h => h) (Or.inl ⟨by rfl, ?_⟩) hHeld ?_
      · intro w' hS'; go_simp
      try simp only [Act.put, List.getElem_toArray, List.getElem_cons_zero, List.getElem_cons_succ, List.setIfInBounds_toArray, List.set_cons_zero, List.set_cons_succ]
      refine wpAnyH_take (i := 2) (v := .pointer (some ⟨w.heap.size, 2, none⟩)) rfl (by kernel_rfl) (by kernel_rfl) (by kernel_rfl) (fun _ _ _ h => h) (Or.inl ⟨by rfl, ?_⟩) hHeld ?_
      · intro w' hS'; go_simp
      try simp only [Act.put, List.getElem_toArray, List.getElem_cons_zero, List.getElem_cons_succ, List.setIfInBounds_toArray, List.set_cons_zero, List.set_cons_succ]
      refine wpAnyH_take (i := 3) (v := .slice ad d.size cd) rfl (by kernel_rfl) (by kernel_rfl) (by kernel_rfl) (fun _ _ _ h => h) (Or.inl ⟨by rfl, ?_⟩) hHeld ?_
      · intro w' hS'; obtain ⟨t0, t1, t2, t3, t4⟩ := hS'.1.cells; go_simp
      try simp only [Act.put, List.getElem_toArray, List.getElem_cons_zero, List.getElem_cons_succ, List.setIfInBounds_toArray, List.set_cons_zero, List.set_cons_succ]
      refine wpAnyH_take (i := 4) (v := .string d) rfl (by kernel_rfl) (by kernel_rfl) (by kernel_rfl) (fun _ _ _ h => h) (Or.inl ⟨by rfl, ?_⟩) hHeld ?_
      · intro w' hS'; have hcv := run_cv22 hS'.2; go_simp
      try simp only [Act.put, List.getElem_toArray, List.getElem_cons_zero, List.getElem_cons_succ, List.setIfInBounds_toArray, List.set_cons_zero, List.set_cons_succ]
      refine wpAnyH_ready (rs := [1]) (by kernel_rfl) (by simp) (AllReadyH.cons rfl (fun K hK => ?_) AllReadyH.nil)
      simp only [List.getElem_toArray, List.getElem_cons_zero, List.getElem_cons_succ]
      go_simp
      refine ((EnW.drew (unhide HE3)).text bCont (by have h := unhide HM3; have h2 := (unhide HNUM).1; have : (bCont : ByteArray).size = 8 := rfl; omega)).mono ?_
      rintro e w6 ⟨a6, c6, rfl, hE6⟩
      have HE6 := hide hE6
      obtain ⟨n6, hn6⟩ : ∃ n6, n6 = n3 + (tx (sB bCont)).length := ⟨_, rfl⟩
      have HM6 : Hid (n6 ≤ n + 400) := en_le (unhide HM3) hn6 (by decide) (by omega)
      rw [← hn6] at HE6 ⊢
      clear hE6 hn6
      refine hK.out _ _ (unhide HS0 _ _ _ _ (unhide HE6)) (fun hHeld => ?_)
      clear hK K
      try simp only [Act.put, List.getElem_toArray, List.getElem_cons_zero, List.getElem_cons_succ, List.setIfInBounds_toArray, List.set_cons_zero, List.set_cons_succ]
      refine wpAnyH_ready (rs := [5]) (by kernel_rfl) (by simp) (AllReadyH.cons rfl (fun K hK => ?_) AllReadyH.nil)
      simp only [List.getElem_toArray, List.getElem_cons_zero, List.getElem_cons_succ]
      go_simp
      refine ((unhide HE6).text d (by have h := unhide HM6; have h2 := (unhide HNUM).1; have h3 := (unhide HSM).d; omega)).mono ?_
      rintro e w7 ⟨a7, c7, rfl, hE7⟩
      have HE7 := hide hE7
      obtain ⟨n7, hn7⟩ : ∃ n7, n7 = n6 + (tx (sB d)).length := ⟨_, rfl⟩
      have HM7 : Hid (n7 ≤ n + 2000000) := by have h := unhide HM6; have h3 := (unhide HSM).d; have h4 : (tx (sB d)).length = 8 + d.size + padN d.size := tx_len (sB d); have h5 := padN_le8 d.size; exact (show _ ≤ _ by omega)
      rw [← hn7] at HE7 ⊢
      clear hE7 hn7
      refine hK.out _ _ (unhide HS0 _ _ _ _ (unhide HE7)) (fun hHeld => ?_)
      clear hK K
      try simp only [Act.put, List.getElem_toArray, List.getElem_cons_zero, List.getElem_cons_succ, List.setIfInBounds_toArray, List.set_cons_zero, List.set_cons_succ]
      refine wpAnyH_take (i := 6) (v := .slice a7 n7 c7) rfl (by kernel_rfl) (by kernel_rfl) (by kernel_rfl) (fun _ _ _ h => h) (Or.inl ⟨by rfl, ?_⟩) hHeld ?_
      · intro w' hS'; go_simp
      try simp only [Act.put, List.getElem_toArray, List.getElem_cons_zero, List.getElem_cons_succ, List.setIfInBounds_toArray, List.set_cons_zero, List.set_cons_succ]
      refine wpAnyH_done (by kernel_rfl) ?_ _
      refine NoPanic.normal ?_
      clear hHeld HS0
      have H99 := hide ((unhide HE7).text bClose (by have h := unhide HM7; have h2 := (unhide HNUM).1; have : (bClose : ByteArray).size = 1 := rfl; omega))
      go_wp2_with fail
      refine (unhide H99).mono ?_
      rintro e w99 ⟨a99, c99, rfl, hE99⟩
      have HZ := hide (unhide HEND _ _ _ _ _ hE99 (by rw [nodeB, if_pos rfl]; simp only [Bool.false_eq_true, if_false]; simp only [txs, List.append_assoc, List.append_nil, List.nil_append]; rfl))
      clear hE99 H99
      go_wp2_with fail
      exact unhide HZ
    | true =>
      have H4 := hide ((unhide HE3).text bExec (by have h := unhide HM3; have h2 := (unhide HNUM).1; have : (bExec : ByteArray).size = 10 := rfl; omega))
      go_wp2_with fail
      refine (unhide H4).mono ?_
      rintro e w4 ⟨a4, c4, rfl, hE4⟩
      have HE4 := hide hE4
      obtain ⟨n4, hn4⟩ : ∃ n4, n4 = n3 + (tx (sB bExec)).length := ⟨_, rfl⟩
      have HM4 : Hid (n4 ≤ n + 400) := en_le (unhide HM3) hn4 (by decide) (by omega)
      rw [← hn4] at HE4 ⊢
      clear hE4 hn4 H4 HE3 HM3
      have H5 := hide ((unhide HE4).text (⟨#[]⟩ : ByteArray) (by have h := unhide HM4; have h2 := (unhide HNUM).1; have : ((⟨#[]⟩ : ByteArray) : ByteArray).size = 0 := rfl; omega))
      go_wp2_with fail
      refine (unhide H5).mono ?_
      rintro e w5 ⟨a5, c5, rfl, hE5⟩
      have HE5 := hide hE5
      obtain ⟨n5, hn5⟩ : ∃ n5, n5 = n4 + (tx (sB (⟨#[]⟩ : ByteArray))).length := ⟨_, rfl⟩
      have HM5 : Hid (n5 ≤ n + 500) := en_le (unhide HM4) hn5 (by decide) (by omega)
      rw [← hn5] at HE5 ⊢
      clear hE5 hn5 H5 HE4 HM4
      clear y0 y1 y2 y3 y4
      have HS0 : Hid (∀ W nn vv yy, EnW lo hi base w.heap.size (.mk 1 true d ns ks) [.int .i64 1, .bool true, .slice ad d.size cd, .slice an ns.length cn, .slice ak ks.length ck] (.slice a n c) (.int .i64 1) (.bool true) (.slice ad d.size cd) (.slice an ns.length cn) (.slice ak ks.length ck) W0 W vv nn yy → (Bx W w.heap.size (.int .i64 1) (.bool true) (.slice ad d.size cd) (.slice an ns.length cn) (.slice ak ks.length ck) ∧ Row lo hi W (.slice ad d.size cd) d.size (byteVals d))) := fun W nn vv yy h => ⟨h.x, by have hl := h.l; cases hl with | mk _ _ _ _ _ _ _ _ _ _ hd => exact hd⟩
      go_wp2_with fail
      refine wp_region_noPanic ?_
      refine wp_region_held_drew (S := fun w' => Bx w' w.heap.size (.int .i64 1) (.bool true) (.slice ad d.size cd) (.slice an ns.length cn) (.slice ak ks.length ck) ∧ Row lo hi w' (.slice ad d.size cd) d.size (byteVals d)) (by kernel_rfl) (unhide HS0 _ _ _ _ (EnW.drew (unhide HE5))) (fun hHeld => ?_)
      refine wpAnyH_take (i := 0) (v := .slice a5 n5 c5) rfl (by kernel_rfl) (by kernel_rfl) (by kernel_rfl) (fun _ _ _ h => h) (Or.inl ⟨by rfl, ?_⟩) hHeld ?_
      · intro w' hS'; go_simp
      try simp only [Act.put, List.getElem_toArray, List.getElem_cons_zero, List.getElem_cons_succ, List.setIfInBounds_toArray, List.set_cons_zero, List.set_cons_succ]
      refine wpAnyH_take (i := 2) (v := .pointer (some ⟨w.heap.size, 2, none⟩)) rfl (by kernel_rfl) (by kernel_rfl) (by kernel_rfl) (fun _ _ _ h => h) (Or.inl ⟨by rfl, ?_⟩) hHeld ?_
      · intro w' hS'; go_simp
      try simp only [Act.put, List.getElem_toArray, List.getElem_cons_zero, List.getElem_cons_succ, List.setIfInBounds_toArray, List.set_cons_zero, List.set_cons_succ]
      refine wpAnyH_take (i := 3) (v := .slice ad d.size cd) rfl (by kernel_rfl) (by kernel_rfl) (by kernel_rfl) (fun _ _ _ h => h) (Or.inl ⟨by rfl, ?_⟩) hHeld ?_
      · intro w' hS'; obtain ⟨t0, t1, t2, t3, t4⟩ := hS'.1.cells; go_simp
      try simp only [Act.put, List.getElem_toArray, List.getElem_cons_zero, List.getElem_cons_succ, List.setIfInBounds_toArray, List.set_cons_zero, List.set_cons_succ]
      refine wpAnyH_take (i := 4) (v := .string d) rfl (by kernel_rfl) (by kernel_rfl) (by kernel_rfl) (fun _ _ _ h => h) (Or.inl ⟨by rfl, ?_⟩) hHeld ?_
      · intro w' hS'; have hcv := run_cv22 hS'.2; go_simp
      try simp only [Act.put, List.getElem_toArray, List.getElem_cons_zero, List.getElem_cons_succ, List.setIfInBounds_toArray, List.set_cons_zero, List.set_cons_succ]
      refine wpAnyH_ready (rs := [1]) (by kernel_rfl) (by simp) (AllReadyH.cons rfl (fun K hK => ?_) AllReadyH.nil)
      simp only [List.getElem_toArray, List.getElem_cons_zero, List.getElem_cons_succ]
      go_simp
      refine ((EnW.drew (unhide HE5)).text bCont (by have h := unhide HM5; have h2 := (unhide HNUM).1; have : (bCont : ByteArray).size = 8 := rfl; omega)).mono ?_
      rintro e w6 ⟨a6, c6, rfl, hE6⟩
      have HE6 := hide hE6
      obtain ⟨n6, hn6⟩ : ∃ n6, n6 = n5 + (tx (sB bCont)).length := ⟨_, rfl⟩
      have HM6 : Hid (n6 ≤ n + 600) := en_le (unhide HM5) hn6 (by decide) (by omega)
      rw [← hn6] at HE6 ⊢
      clear hE6 hn6
      refine hK.out _ _ (unhide HS0 _ _ _ _ (unhide HE6)) (fun hHeld => ?_)
      clear hK K
      try simp only [Act.put, List.getElem_toArray, List.getElem_cons_zero, List.getElem_cons_succ, List.setIfInBounds_toArray, List.set_cons_zero, List.set_cons_succ]
      refine wpAnyH_ready (rs := [5]) (by kernel_rfl) (by simp) (AllReadyH.cons rfl (fun K hK => ?_) AllReadyH.nil)
      simp only [List.getElem_toArray, List.getElem_cons_zero, List.getElem_cons_succ]
      go_simp
      refine ((unhide HE6).text d (by have h := unhide HM6; have h2 := (unhide HNUM).1; have h3 := (unhide HSM).d; omega)).mono ?_
      rintro e w7 ⟨a7, c7, rfl, hE7⟩
      have HE7 := hide hE7
      obtain ⟨n7, hn7⟩ : ∃ n7, n7 = n6 + (tx (sB d)).length := ⟨_, rfl⟩
      have HM7 : Hid (n7 ≤ n + 2000000) := by have h := unhide HM6; have h3 := (unhide HSM).d; have h4 : (tx (sB d)).length = 8 + d.size + padN d.size := tx_len (sB d); have h5 := padN_le8 d.size; exact (show _ ≤ _ by omega)
      rw [← hn7] at HE7 ⊢
      clear hE7 hn7
      refine hK.out _ _ (unhide HS0 _ _ _ _ (unhide HE7)) (fun hHeld => ?_)
      clear hK K
      try simp only [Act.put, List.getElem_toArray, List.getElem_cons_zero, List.getElem_cons_succ, List.setIfInBounds_toArray, List.set_cons_zero, List.set_cons_succ]
      refine wpAnyH_take (i := 6) (v := .slice a7 n7 c7) rfl (by kernel_rfl) (by kernel_rfl) (by kernel_rfl) (fun _ _ _ h => h) (Or.inl ⟨by rfl, ?_⟩) hHeld ?_
      · intro w' hS'; go_simp
      try simp only [Act.put, List.getElem_toArray, List.getElem_cons_zero, List.getElem_cons_succ, List.setIfInBounds_toArray, List.set_cons_zero, List.set_cons_succ]
      refine wpAnyH_done (by kernel_rfl) ?_ _
      refine NoPanic.normal ?_
      clear hHeld HS0
      have H99 := hide ((unhide HE7).text bClose (by have h := unhide HM7; have h2 := (unhide HNUM).1; have : (bClose : ByteArray).size = 1 := rfl; omega))
      go_wp2_with fail
      refine (unhide H99).mono ?_
      rintro e w99 ⟨a99, c99, rfl, hE99⟩
      have HZ := hide (unhide HEND _ _ _ _ _ hE99 (by rw [nodeB, if_pos rfl]; simp only [if_true]; simp only [txs, List.append_assoc, List.append_nil, List.nil_append]; rfl))
      clear hE99 H99
      go_wp2_with fail
      exact unhide HZ
  · subst q0
    clear q1 q2
    have HS0 : Hid (∀ W nn vv yy, EnW lo hi base w.heap.size (.mk 3 false d ns ks) [.int .i64 3, .bool false, .slice ad d.size cd, .slice an ns.length cn, .slice ak ks.length ck] (.slice a n c) (.int .i64 3) (.bool false) (.slice ad d.size cd) (.slice an ns.length cn) (.slice ak ks.length ck) W0 W vv nn yy → (Bx W w.heap.size (.int .i64 3) (.bool false) (.slice ad d.size cd) (.slice an ns.length cn) (.slice ak ks.length ck) ∧ Row lo hi W (.slice ad d.size cd) d.size (byteVals d))) := fun W nn vv yy h => ⟨h.x, by have hl := h.l; cases hl with | mk _ _ _ _ _ _ _ _ _ _ hd => exact hd⟩
    go_wp2_with fail
    refine wp_region_noPanic ?_
    refine wp_region_held_drew (S := fun w' => Bx w' w.heap.size (.int .i64 3) (.bool false) (.slice ad d.size cd) (.slice an ns.length cn) (.slice ak ks.length ck) ∧ Row lo hi w' (.slice ad d.size cd) d.size (byteVals d)) (by kernel_rfl) (unhide HS0 _ _ _ _ (EnW.drew (unhide HE2))) (fun hHeld => ?_)
    refine wpAnyH_take (i := 0) (v := .slice a2 n2 c2) rfl (by kernel_rfl) (by kernel_rfl) (by kernel_rfl) (fun _ _ _ h => h) (Or.inl ⟨by rfl, ?_⟩) hHeld ?_
    · intro w' hS'; go_simp
    try simp only [Act.put, List.getElem_toArray, List.getElem_cons_zero, List.getElem_cons_succ, List.setIfInBounds_toArray, List.set_cons_zero, List.set_cons_succ]
    refine wpAnyH_take (i := 3) (v := .pointer (some ⟨w.heap.size, 2, none⟩)) rfl (by kernel_rfl) (by kernel_rfl) (by kernel_rfl) (fun _ _ _ h => h) (Or.inl ⟨by rfl, ?_⟩) hHeld ?_
    · intro w' hS'; go_simp
    try simp only [Act.put, List.getElem_toArray, List.getElem_cons_zero, List.getElem_cons_succ, List.setIfInBounds_toArray, List.set_cons_zero, List.set_cons_succ]
    refine wpAnyH_take (i := 4) (v := .slice ad d.size cd) rfl (by kernel_rfl) (by kernel_rfl) (by kernel_rfl) (fun _ _ _ h => h) (Or.inl ⟨by rfl, ?_⟩) hHeld ?_
    · intro w' hS'; obtain ⟨t0, t1, t2, t3, t4⟩ := hS'.1.cells; go_simp
    try simp only [Act.put, List.getElem_toArray, List.getElem_cons_zero, List.getElem_cons_succ, List.setIfInBounds_toArray, List.set_cons_zero, List.set_cons_succ]
    refine wpAnyH_take (i := 5) (v := .string d) rfl (by kernel_rfl) (by kernel_rfl) (by kernel_rfl) (fun _ _ _ h => h) (Or.inl ⟨by rfl, ?_⟩) hHeld ?_
    · intro w' hS'; have hcv := run_cv22 hS'.2; go_simp
    try simp only [Act.put, List.getElem_toArray, List.getElem_cons_zero, List.getElem_cons_succ, List.setIfInBounds_toArray, List.set_cons_zero, List.set_cons_succ]
    refine wpAnyH_ready (rs := [1]) (by kernel_rfl) (by simp) (AllReadyH.cons rfl (fun K hK => ?_) AllReadyH.nil)
    simp only [List.getElem_toArray, List.getElem_cons_zero, List.getElem_cons_succ]
    go_simp
    refine ((EnW.drew (unhide HE2)).text bSym (by have h := unhide HM2; have h2 := (unhide HNUM).1; have : (bSym : ByteArray).size = 7 := rfl; omega)).mono ?_
    rintro e w3 ⟨a3, c3, rfl, hE3⟩
    have HE3 := hide hE3
    obtain ⟨n3, hn3⟩ : ∃ n3, n3 = n2 + (tx (sB bSym)).length := ⟨_, rfl⟩
    have HM3 : Hid (n3 ≤ n + 300) := en_le (unhide HM2) hn3 (by decide) (by omega)
    rw [← hn3] at HE3 ⊢
    clear hE3 hn3
    refine hK.out _ _ (unhide HS0 _ _ _ _ (unhide HE3)) (fun hHeld => ?_)
    clear hK K
    try simp only [Act.put, List.getElem_toArray, List.getElem_cons_zero, List.getElem_cons_succ, List.setIfInBounds_toArray, List.set_cons_zero, List.set_cons_succ]
    refine wpAnyH_ready (rs := [2]) (by kernel_rfl) (by simp) (AllReadyH.cons rfl (fun K hK => ?_) AllReadyH.nil)
    simp only [List.getElem_toArray, List.getElem_cons_zero, List.getElem_cons_succ]
    go_simp
    refine ((unhide HE3).text bTarg (by have h := unhide HM3; have h2 := (unhide HNUM).1; have : (bTarg : ByteArray).size = 6 := rfl; omega)).mono ?_
    rintro e w4 ⟨a4, c4, rfl, hE4⟩
    have HE4 := hide hE4
    obtain ⟨n4, hn4⟩ : ∃ n4, n4 = n3 + (tx (sB bTarg)).length := ⟨_, rfl⟩
    have HM4 : Hid (n4 ≤ n + 400) := en_le (unhide HM3) hn4 (by decide) (by omega)
    rw [← hn4] at HE4 ⊢
    clear hE4 hn4
    refine hK.out _ _ (unhide HS0 _ _ _ _ (unhide HE4)) (fun hHeld => ?_)
    clear hK K
    try simp only [Act.put, List.getElem_toArray, List.getElem_cons_zero, List.getElem_cons_succ, List.setIfInBounds_toArray, List.set_cons_zero, List.set_cons_succ]
    refine wpAnyH_ready (rs := [6]) (by kernel_rfl) (by simp) (AllReadyH.cons rfl (fun K hK => ?_) AllReadyH.nil)
    simp only [List.getElem_toArray, List.getElem_cons_zero, List.getElem_cons_succ]
    go_simp
    refine ((unhide HE4).text d (by have h := unhide HM4; have h2 := (unhide HNUM).1; have h3 := (unhide HSM).d; omega)).mono ?_
    rintro e w7 ⟨a7, c7, rfl, hE7⟩
    have HE7 := hide hE7
    obtain ⟨n7, hn7⟩ : ∃ n7, n7 = n4 + (tx (sB d)).length := ⟨_, rfl⟩
    have HM7 : Hid (n7 ≤ n + 2000000) := by have h := unhide HM4; have h3 := (unhide HSM).d; have h4 : (tx (sB d)).length = 8 + d.size + padN d.size := tx_len (sB d); have h5 := padN_le8 d.size; exact (show _ ≤ _ by omega)
    rw [← hn7] at HE7 ⊢
    clear hE7 hn7
    refine hK.out _ _ (unhide HS0 _ _ _ _ (unhide HE7)) (fun hHeld => ?_)
    clear hK K
    try simp only [Act.put, List.getElem_toArray, List.getElem_cons_zero, List.getElem_cons_succ, List.setIfInBounds_toArray, List.set_cons_zero, List.set_cons_succ]
    refine wpAnyH_take (i := 7) (v := .slice a7 n7 c7) rfl (by kernel_rfl) (by kernel_rfl) (by kernel_rfl) (fun _ _ _ h => h) (Or.inl ⟨by rfl, ?_⟩) hHeld ?_
    · intro w' hS'; go_simp
    try simp only [Act.put, List.getElem_toArray, List.getElem_cons_zero, List.getElem_cons_succ, List.setIfInBounds_toArray, List.set_cons_zero, List.set_cons_succ]
    refine wpAnyH_done (by kernel_rfl) ?_ _
    refine NoPanic.normal ?_
    clear hHeld HS0
    have H99 := hide ((unhide HE7).text bClose (by have h := unhide HM7; have h2 := (unhide HNUM).1; have : (bClose : ByteArray).size = 1 := rfl; omega))
    go_wp2_with fail
    refine (unhide H99).mono ?_
    rintro e w99 ⟨a99, c99, rfl, hE99⟩
    have HZ := hide (unhide HEND _ _ _ _ _ hE99 (by rw [nodeB, if_neg (by decide), if_pos rfl]; simp only [txs, List.append_assoc, List.append_nil, List.nil_append]; rfl))
    clear hE99 H99
    go_wp2_with fail
    exact unhide HZ
  · subst q0
    have HQQ := hide q2
    clear q1 q2 q3
    have H3 := hide ((unhide HE2).text bDir (by have h := unhide HM2; have h2 := (unhide HNUM).1; have : (bDir : ByteArray).size = 9 := rfl; omega))
    go_wp2_with fail
    refine (unhide H3).mono ?_
    rintro e w3 ⟨a3, c3, rfl, hE3⟩
    have HE3 := hide hE3
    obtain ⟨n3, hn3⟩ : ∃ n3, n3 = n2 + (tx (sB bDir)).length := ⟨_, rfl⟩
    have HM3 : Hid (n3 ≤ n + 300) := en_le (unhide HM2) hn3 (by decide) (by omega)
    rw [← hn3] at HE3 ⊢
    clear hE3 hn3 H3 HE2 HM2
    clear y0 y1 y2 y3 y4
    obtain ⟨y0, y1, y2, y3, y4⟩ := (unhide HE3).x.cells
    have HX0 : Hid (Bx W0 w.heap.size (.int .i64 2) (.bool false) (.slice ad d.size cd) (.slice an ns.length cn) (.slice ak ks.length ck)) := unhide HXX
    have HLOW : Hid (∀ W nn vv yy, EnW lo hi base w.heap.size (.mk 2 false d ns ks) [.int .i64 2, .bool false, .slice ad d.size cd, .slice an ns.length cn, .slice ak ks.length ck] (.slice a n c) (.int .i64 2) (.bool false) (.slice ad d.size cd) (.slice an ns.length cn) (.slice ak ks.length ck) W0 W vv nn yy → ∀ k, (k < base ∨ k = w.heap.size) → W.heap[k]? = W0.heap[k]?) := fun W nn vv yy h k hk => h.g.keep k (by have := h.hB; have := h.hb; omega) (fun e => by have := h.h0 k e; omega)
    obtain ⟨pre, hpre⟩ : ∃ pre, pre = xs ++ tx (sB bOpen) ++ tx (sB bType) ++ tx (sB bDir) := ⟨_, rfl⟩
    rw [← hpre] at HE3
    have HPRE := hide hpre
    clear hpre
    go_wp2_with fail
    go_loopw [5, 0] (fun vi vb wr => ∃ (i : Nat) (a' : Option Addr) (c' n' : Nat), i ≤ ks.length ∧ vi = .int .i64 (i : Int) ∧ vb = .slice a' n' c' ∧ Hid (EnW lo hi base w.heap.size (.mk 2 false d ns ks) [.int .i64 2, .bool false, .slice ad d.size cd, .slice an ns.length cn, .slice ak ks.length ck] (.slice a n c) (.int .i64 2) (.bool false) (.slice ad d.size cd) (.slice an ns.length cn) (.slice ak ks.length ck) W0 wr (.slice a' n' c') n' (pre ++ entsB (ns.take i) (ks.take i)))) (fun vi _ _ => ks.length - (intOf vi).toNat)
    case atStart => exact ⟨0, a3, c3, n3, by omega, rfl, rfl, by show EnW _ _ _ _ _ _ _ _ _ _ _ _ _ _ _ _ _; rw [List.take_zero, entsB_nil, List.append_nil]; exact unhide HE3⟩
    case round =>
      clear y0 y1 y2 y3 y4 HE3 HM3
      obtain ⟨i, a20, c20, n20, hi20, rfl, rfl, HE20⟩ := hrel
      obtain ⟨y0, y1, y2, y3, y4⟩ := (unhide HE20).x.cells
      by_cases hlt : i < ks.length
      · have hni : i < ns.length := by rw [unhide HQQ]; exact hlt
        obtain ⟨gn, on, han, hgn⟩ : ∃ gn on, an = some ⟨gn, on, none⟩ ∧ gn < base ∧ W0.cell? ⟨gn, on + i, none⟩ = some (.string (ns.getD i ⟨#[]⟩)) := by
          have hl := unhide HL0
          cases hl with
          | mk _ _ _ _ _ _ _ _ _ _ _ hn _ _ =>
            obtain ⟨g, o, e, h1, h2, hc⟩ := hn.at (by omega)
            exact ⟨g, o, e, by have := (unhide HNUM).2.2.2; omega, hc i _ (by rw [List.getElem?_map, List.getElem?_eq_getElem hni, List.getD_eq_getElem?_getD, List.getElem?_eq_getElem hni]; rfl)⟩
        subst han
        have HNMS : Hid ((ns.getD i ⟨#[]⟩).size ≤ 1000009) := (unhide HSM).s _ (by rw [List.getD_eq_getElem?_getD, List.getElem?_eq_getElem hni]; exact List.getElem_mem hni)
        have HTK := hide (entsB_take hni hlt)
        generalize ns.getD i ⟨#[]⟩ = nm at *
        have HGN := hide hgn
        have HLN : Hid (n20 + (txs [wEntry, wOpen, wName, sB nm, wNode] ++ nodeB ks[i] ++ txs [wClose]).length ≤ 5000000) := by
          have h1 := (unhide HE20).o.1
          have h2 := entsB_le ns ks (i + 1)
          have h3 := (unhide HNUM).1
          have h4 := unhide HXN
          rw [unhide HTK, List.length_append] at h2
          rw [bv_length, List.length_append] at h1
          rw [unhide HPRE, List.length_append, List.length_append, List.length_append] at h1
          rw [nodeB, if_neg (by decide), if_neg (by decide), if_pos rfl] at h3
          simp only [txs, List.length_append, List.length_nil, List.append_nil] at h2 h3 ⊢
          have e1 : (tx (sB bOpen)).length = (tx wOpen).length := rfl
          have e2 : (tx (sB bType)).length = (tx wType).length := rfl
          have e3 : (tx (sB bDir)).length = (tx wDir).length := rfl
          show _ ≤ _
          omega
        have HM20 : Hid (n20 ≤ 5000000 + 0) := by have h := unhide HLN; exact (show _ ≤ _ by omega)
        clear hgn
        go_wp2_with fail
        refine wp_region_noPanic ?_
        refine wp_region_held_drew (S := (fun w' => ∀ k, (k < base ∨ k = w.heap.size) → w'.heap[k]? = W0.heap[k]?)) (by kernel_rfl) (unhide HLOW _ _ _ _ (EnW.drew (unhide HE20))) (fun hHeld => ?_)
        refine wpAnyH_take (i := 0) (v := .slice a20 n20 c20) rfl (by kernel_rfl) (by kernel_rfl) (by kernel_rfl) (fun _ _ _ h => h) (Or.inl ⟨by rfl, ?_⟩) hHeld ?_
        · intro w' hS'; go_simp
        try simp only [Act.put, List.getElem_toArray, List.getElem_cons_zero, List.getElem_cons_succ, List.setIfInBounds_toArray, List.set_cons_zero, List.set_cons_succ]
        refine wpAnyH_take (i := 4) (v := .pointer (some ⟨w.heap.size, 3, none⟩)) rfl (by kernel_rfl) (by kernel_rfl) (by kernel_rfl) (fun _ _ _ h => h) (Or.inl ⟨by rfl, ?_⟩) hHeld ?_
        · intro w' hS'; go_simp
        try simp only [Act.put, List.getElem_toArray, List.getElem_cons_zero, List.getElem_cons_succ, List.setIfInBounds_toArray, List.set_cons_zero, List.set_cons_succ]
        refine wpAnyH_take (i := 5) (v := .slice (some ⟨gn, on, none⟩) ns.length cn) rfl (by kernel_rfl) (by kernel_rfl) (by kernel_rfl) (fun _ _ _ h => h) (Or.inl ⟨by rfl, ?_⟩) hHeld ?_
        · intro w' hS'; obtain ⟨t0, t1, t2, t3, t4⟩ := ((unhide HX0).of (hS' _ (.inr rfl))).cells; go_simp
        try simp only [Act.put, List.getElem_toArray, List.getElem_cons_zero, List.getElem_cons_succ, List.setIfInBounds_toArray, List.set_cons_zero, List.set_cons_succ]
        refine wpAnyH_take (i := 6) (v := .int .i64 (i : Int)) rfl (by kernel_rfl) (by kernel_rfl) (by kernel_rfl) (fun _ _ _ h => h) (Or.inl ⟨by rfl, ?_⟩) hHeld ?_
        · intro w' hS'; go_simp
        try simp only [Act.put, List.getElem_toArray, List.getElem_cons_zero, List.getElem_cons_succ, List.setIfInBounds_toArray, List.set_cons_zero, List.set_cons_succ]
        refine wpAnyH_take (i := 7) (v := .pointer (some ⟨gn, on + i, none⟩)) rfl (by kernel_rfl) (by kernel_rfl) (by kernel_rfl) (fun _ _ _ h => h) (Or.inl ⟨by rfl, ?_⟩) hHeld ?_
        · intro w' hS'; go_simp
        try simp only [Act.put, List.getElem_toArray, List.getElem_cons_zero, List.getElem_cons_succ, List.setIfInBounds_toArray, List.set_cons_zero, List.set_cons_succ]
        refine wpAnyH_take (i := 8) (v := .string nm) rfl (by kernel_rfl) (by kernel_rfl) (by kernel_rfl) (fun _ _ _ h => h) (Or.inl ⟨by rfl, ?_⟩) hHeld ?_
        · intro w' hS'; have hcn : w'.cell? ⟨gn, on + i, none⟩ = some (.string nm) := by rw [World.cell?_of_block (w := W0) (a := ⟨gn, on + i, none⟩) (hS' gn (.inl (unhide HGN).1))]; exact (unhide HGN).2
          go_simp
        try simp only [Act.put, List.getElem_toArray, List.getElem_cons_zero, List.getElem_cons_succ, List.setIfInBounds_toArray, List.set_cons_zero, List.set_cons_succ]
        refine wpAnyH_ready (rs := [1]) (by kernel_rfl) (by simp) (AllReadyH.cons rfl (fun K hK => ?_) AllReadyH.nil)
        simp only [List.getElem_toArray, List.getElem_cons_zero, List.getElem_cons_succ]
        go_simp
        refine ((EnW.drew (unhide HE20)).text bEntry (by have h := unhide HM20; have : (bEntry : ByteArray).size = 5 := rfl; omega)).mono ?_
        rintro e w21 ⟨a21, c21, rfl, hE21⟩
        have HE21 := hide hE21
        obtain ⟨n21, hn21⟩ : ∃ n21, n21 = n20 + (tx (sB bEntry)).length := ⟨_, rfl⟩
        have HM21 : Hid (n21 ≤ 5000000 + 100) := en_le (n := 5000000) (unhide HM20) hn21 (by decide) (by omega)
        rw [← hn21] at HE21 ⊢
        clear hE21 hn21
        refine hK.out _ _ (unhide HLOW _ _ _ _ (unhide HE21)) (fun hHeld => ?_)
        clear hK K
        try simp only [Act.put, List.getElem_toArray, List.getElem_cons_zero, List.getElem_cons_succ, List.setIfInBounds_toArray, List.set_cons_zero, List.set_cons_succ]
        refine wpAnyH_ready (rs := [2]) (by kernel_rfl) (by simp) (AllReadyH.cons rfl (fun K hK => ?_) AllReadyH.nil)
        simp only [List.getElem_toArray, List.getElem_cons_zero, List.getElem_cons_succ]
        go_simp
        refine ((unhide HE21).text bOpen (by have h := unhide HM21; have : (bOpen : ByteArray).size = 1 := rfl; omega)).mono ?_
        rintro e w22 ⟨a22, c22, rfl, hE22⟩
        have HE22 := hide hE22
        obtain ⟨n22, hn22⟩ : ∃ n22, n22 = n21 + (tx (sB bOpen)).length := ⟨_, rfl⟩
        have HM22 : Hid (n22 ≤ 5000000 + 200) := en_le (n := 5000000) (unhide HM21) hn22 (by decide) (by omega)
        rw [← hn22] at HE22 ⊢
        clear hE22 hn22
        refine hK.out _ _ (unhide HLOW _ _ _ _ (unhide HE22)) (fun hHeld => ?_)
        clear hK K
        try simp only [Act.put, List.getElem_toArray, List.getElem_cons_zero, List.getElem_cons_succ, List.setIfInBounds_toArray, List.set_cons_zero, List.set_cons_succ]
        refine wpAnyH_ready (rs := [3]) (by kernel_rfl) (by simp) (AllReadyH.cons rfl (fun K hK => ?_) AllReadyH.nil)
        simp only [List.getElem_toArray, List.getElem_cons_zero, List.getElem_cons_succ]
        go_simp
        refine ((unhide HE22).text bName (by have h := unhide HM22; have : (bName : ByteArray).size = 4 := rfl; omega)).mono ?_
        rintro e w23 ⟨a23, c23, rfl, hE23⟩
        have HE23 := hide hE23
        obtain ⟨n23, hn23⟩ : ∃ n23, n23 = n22 + (tx (sB bName)).length := ⟨_, rfl⟩
        have HM23 : Hid (n23 ≤ 5000000 + 300) := en_le (n := 5000000) (unhide HM22) hn23 (by decide) (by omega)
        rw [← hn23] at HE23 ⊢
        clear hE23 hn23
        refine hK.out _ _ (unhide HLOW _ _ _ _ (unhide HE23)) (fun hHeld => ?_)
        clear hK K
        try simp only [Act.put, List.getElem_toArray, List.getElem_cons_zero, List.getElem_cons_succ, List.setIfInBounds_toArray, List.set_cons_zero, List.set_cons_succ]
        refine wpAnyH_ready (rs := [9]) (by kernel_rfl) (by simp) (AllReadyH.cons rfl (fun K hK => ?_) AllReadyH.nil)
        simp only [List.getElem_toArray, List.getElem_cons_zero, List.getElem_cons_succ]
        go_simp
        refine ((unhide HE23).text nm (by have h := unhide HM23; have h3 := unhide HNMS; omega)).mono ?_
        rintro e w24 ⟨a24, c24, rfl, hE24⟩
        have HE24 := hide hE24
        obtain ⟨n24, hn24⟩ : ∃ n24, n24 = n23 + (tx (sB nm)).length := ⟨_, rfl⟩
        have HM24 : Hid (n24 ≤ 5000000 + 1500000) := by have h := unhide HM23; have h3 := unhide HNMS; have h4 : (tx (sB nm)).length = 8 + nm.size + padN nm.size := tx_len (sB nm); have h5 := padN_le8 nm.size; exact (show _ ≤ _ by omega)
        rw [← hn24] at HE24 ⊢
        clear hE24 hn24
        refine hK.out _ _ (unhide HLOW _ _ _ _ (unhide HE24)) (fun hHeld => ?_)
        clear hK K
        try simp only [Act.put, List.getElem_toArray, List.getElem_cons_zero, List.getElem_cons_succ, List.setIfInBounds_toArray, List.set_cons_zero, List.set_cons_succ]
        refine wpAnyH_ready (rs := [10]) (by kernel_rfl) (by simp) (AllReadyH.cons rfl (fun K hK => ?_) AllReadyH.nil)
        simp only [List.getElem_toArray, List.getElem_cons_zero, List.getElem_cons_succ]
        go_simp
        refine ((unhide HE24).text bNode (by have h := unhide HM24; have : (bNode : ByteArray).size = 4 := rfl; omega)).mono ?_
        rintro e w25 ⟨a25, c25, rfl, hE25⟩
        have HE25 := hide hE25
        obtain ⟨n25, hn25⟩ : ∃ n25, n25 = n24 + (tx (sB bNode)).length := ⟨_, rfl⟩
        have HM25 : Hid (n25 ≤ 5000000 + 1500100) := en_le (n := 5000000) (unhide HM24) hn25 (by decide) (by omega)
        rw [← hn25] at HE25 ⊢
        clear hE25 hn25
        refine hK.out _ _ (unhide HLOW _ _ _ _ (unhide HE25)) (fun hHeld => ?_)
        clear hK K
        try simp only [Act.put, List.getElem_toArray, List.getElem_cons_zero, List.getElem_cons_succ, List.setIfInBounds_toArray, List.set_cons_zero, List.set_cons_succ]
        refine wpAnyH_take (i := 11) (v := .slice a25 n25 c25) rfl (by kernel_rfl) (by kernel_rfl) (by kernel_rfl) (fun _ _ _ h => h) (Or.inl ⟨by rfl, ?_⟩) hHeld ?_
        · intro w' hS'; go_simp
        try simp only [Act.put, List.getElem_toArray, List.getElem_cons_zero, List.getElem_cons_succ, List.setIfInBounds_toArray, List.set_cons_zero, List.set_cons_succ]
        refine wpAnyH_done (by kernel_rfl) ?_ _
        refine NoPanic.normal ?_
        clear hHeld
        obtain ⟨gk, ok, hak, hgk, hkc⟩ : ∃ gk ok, ak = some ⟨gk, ok, none⟩ ∧ gk < base ∧ ∃ k' x' r1 r2 r3 r4 r5 r6 r7 r8 r9, Lies lo hi w25 ks[i] [.int .i64 k', .bool x', .slice r1 r2 r3, .slice r4 r5 r6, .slice r7 r8 r9] ∧ w25.cell? ⟨gk, ok + i * 5, none⟩ = some (.int .i64 k') ∧ w25.cell? ⟨gk, ok + i * 5 + 1, none⟩ = some (.bool x') ∧ w25.cell? ⟨gk, ok + i * 5 + 2, none⟩ = some (.slice r1 r2 r3) ∧ w25.cell? ⟨gk, ok + i * 5 + 3, none⟩ = some (.slice r4 r5 r6) ∧ w25.cell? ⟨gk, ok + i * 5 + 4, none⟩ = some (.slice r7 r8 r9) := by
          have hl := (unhide HE25).l
          cases hl with
          | mk _ _ _ _ _ _ _ _ Ks hl hd hn hk hK =>
            obtain ⟨g, o, e, h1, h2, hc⟩ := hk.at (by omega)
            exact ⟨g, o, e, by have := (unhide HNUM).2.2.2; omega, kid_sl hl hc hK i hlt⟩
        subst hak
        obtain ⟨k', x', r1, r2, r3, r4, r5, r6, r7, r8, r9, hLi, z0, z1, z2, z3, z4⟩ := hkc
        have H26 := hide (ih ks[i] (List.getElem_mem hlt) (by obtain ⟨n', h⟩ := (unhide HLC).2 ks[i] (List.getElem_mem hlt); exact ⟨_, n', h⟩) ((unhide HSM).t _ (List.getElem_mem hlt)) lo hi base _ a25 c25 n25 _ w25 hLi (unhide HNUM).2.2.2 (by have := (unhide HE25).x.lt; have := (unhide HNUM).2.2.1; omega) (unhide HE25).o (by
          have h1 := (unhide HE25).o.1
          have h2 := (unhide HE20).o.1
          have h3 := unhide HLN
          rw [bv_length] at h1 h2
          simp only [txs, List.length_append, List.length_nil, List.append_nil] at h1 h2 h3
          have e1 : (tx (sB bEntry)).length = (tx wEntry).length := rfl
          have e2 : (tx (sB bOpen)).length = (tx wOpen).length := rfl
          have e3 : (tx (sB bName)).length = (tx wName).length := rfl
          have e4 : (tx (sB bNode)).length = (tx wNode).length := rfl
          omega))
        clear hLi hgk y0 y1 y2 y3 y4
        obtain ⟨y0, y1, y2, y3, y4⟩ := (unhide HE25).x.cells
        have HEN : Hid (n25 + (nodeB ks[i]).length ≤ 5000000) := by
          have h1 := (unhide HE25).o.1
          have h2 := (unhide HE20).o.1
          have h3 := unhide HLN
          rw [bv_length] at h1 h2
          simp only [txs, List.length_append, List.length_nil, List.append_nil] at h1 h2 h3
          have e1 : (tx (sB bEntry)).length = (tx wEntry).length := rfl
          have e2 : (tx (sB bOpen)).length = (tx wOpen).length := rfl
          have e3 : (tx (sB bName)).length = (tx wName).length := rfl
          have e4 : (tx (sB bNode)).length = (tx wNode).length := rfl
          exact (show _ ≤ _ by omega)
        have HLT := hide hlt
        go_wp2_with fail
        refine (unhide H26).mono ?_
        rintro e w26 ⟨a26, c26, rfl, ho26, hg26⟩
        have HE26 := hide ((unhide HE25).call hg26 ho26)
        have H27 := hide ((unhide HE26).text bClose (by have h := unhide HEN; have : (bClose : ByteArray).size = 1 := rfl; omega))
        clear H26 ho26 hg26 z0 z1 z2 z3 z4 y0 y1 y2 y3 y4
        generalize n25 + (nodeB ks[i]).length = n26 at *
        go_wp2_with fail
        refine (unhide H27).mono ?_
        rintro e w27 ⟨a27, c27, rfl, hE27⟩
        have HE27 : Hid (EnW lo hi base w.heap.size (.mk 2 false d ns ks) [.int .i64 2, .bool false, .slice ad d.size cd, .slice (some ⟨gn, on, none⟩) ns.length cn, .slice (some ⟨gk, ok, none⟩) ks.length ck] (.slice a n c) (.int .i64 2) (.bool false) (.slice ad d.size cd) (.slice (some ⟨gn, on, none⟩) ns.length cn) (.slice (some ⟨gk, ok, none⟩) ks.length ck) W0 w27 (.slice a27 (n26 + (tx (sB bClose)).length) c27) (n26 + (tx (sB bClose)).length) (pre ++ entsB (ns.take (i + 1)) (ks.take (i + 1)))) := by
          show EnW _ _ _ _ _ _ _ _ _ _ _ _ _ _ _ _ _
          rw [unhide HTK]
          have := hE27
          simp only [txs, List.append_assoc, List.append_nil, List.nil_append] at this ⊢
          exact this
        clear hE27 H27
        generalize n26 + (tx (sB bClose)).length = n27 at *
        have hwp : wrap64 ((i : Int) + 1) = (i : Int) + 1 := by have h1 := (unhide HSM).k; have h2 := unhide HLT; rw [wrap64]; omega
        go_wp2_with fail
        go_roundw
        case rel => exact ⟨i + 1, a27, c27, n27, by have := unhide HLT; omega, by go_num, rfl, unhide HE27⟩
        case measure => rw [hwp]; exact en_meas (unhide HLT)
      · obtain rfl : i = ks.length := by omega
        have e1 : ns.take ks.length = ns := by rw [← unhide HQQ, List.take_length]
        rw [e1, List.take_length] at HE20
        have HM20 : Hid (n20 ≤ 5000000) := by
          have h1 := (unhide HE20).o.1
          have h3 := (unhide HNUM).1
          have h4 := unhide HXN
          rw [bv_length, List.length_append] at h1
          rw [unhide HPRE, List.length_append, List.length_append, List.length_append] at h1
          rw [nodeB, if_neg (by decide), if_neg (by decide), if_pos rfl] at h3
          simp only [txs, List.length_append, List.length_nil, List.append_nil] at h3
          have e1 : (tx (sB bOpen)).length = (tx wOpen).length := rfl
          have e2 : (tx (sB bType)).length = (tx wType).length := rfl
          have e3 : (tx (sB bDir)).length = (tx wDir).length := rfl
          exact (show _ ≤ _ by omega)
        clear e1
        have H99 := hide ((unhide HE20).text bClose (by have h := unhide HM20; have : (bClose : ByteArray).size = 1 := rfl; omega))
        go_wp2_with fail
        refine (unhide H99).mono ?_
        rintro e w99 ⟨a99, c99, rfl, hE99⟩
        have HZ := hide (unhide HEND _ _ _ _ _ hE99 (by rw [unhide HPRE, nodeB, if_neg (by decide), if_neg (by decide), if_pos rfl]; simp only [txs, List.append_assoc, List.append_nil, List.nil_append]; rfl))
        clear hE99 H99
        go_wp2_with fail
        exact unhide HZ
end Go.Proofs.Ytikamklgelcnhaa
/- The document's Encode. -/
namespace Go.Proofs.Ytikamklgelcnhaa
open Go.RowKit
set_option linter.unusedSimpArgs false
set_option maxRecDepth 20000 in
set_option maxHeartbeats 1000000 in
theorem eencode_any (T : Tr) (lo hi : Nat) (cs : List Value) (w : World) (hL : Lies lo hi w T cs) (hW : wt T ≤ 3000) (hhi : hi ≤ w.heap.size) :
    Calls Try.prog 12 #[.agg cs.toArray] w fun e w' => Below w.heap.size w w' ∧ EncA w.heap.size T e w' := by
  obtain ⟨kt, xt, at0, nt, ct, bt, mt, dt, et, pt, qt, rfl⟩ := hL.form
  have HC1 := hide (fun W (h : Below w.heap.size w W) => checkR_any T lo hi _ W (hL.kept h hhi) (by omega) (by have := h.size; omega))
  have HL := hide hL
  obtain ⟨wA, hwA⟩ : ∃ wA, wA = w.alloc (.cells #[.int .i64 kt, .bool xt, .slice at0 nt ct, .slice bt mt dt, .slice et pt qt] 26) := ⟨_, rfl⟩
  have hbA : Below w.heap.size w wA := by rw [hwA]; exact (Below.refl _ _).alloc (Nat.le_refl _) _
  have hsA : wA.heap.size = w.heap.size + 1 := by rw [hwA]; simp
  have hbx : Bx wA w.heap.size (.int .i64 kt) (.bool xt) (.slice at0 nt ct) (.slice bt mt dt) (.slice et pt qt) := by rw [hwA]; exact bx_new _ _ _ _ _ _
  have HA := hide (And.intro hbA (And.intro hsA hbx))
  have HwA := hide hwA
  have HF : Hid (encS T = if (chk T 1 0).1 = 0 then narB T else []) := rfl
  have hlen := nodeB_len T
  have HLN : Hid ((nodeB T).length ≤ 900000) := by show _ ≤ _; omega
  have HWH := hide (And.intro hW hhi)
  clear hL hwA hbA hsA hbx hlen hW hhi
  go_enter Try.func12, Try.ntmps12
  go_wp2_with fail
  rw [← unhide HwA]
  refine (unhide HC1 wA (unhide HA).1).mono ?_
  rintro e w1 ⟨rfl, hb1⟩
  have hs1 := hb1.size
  have HA1 := hide (And.intro ((unhide HA).1.trans (hb1.mono (by have := (unhide HA).2.1; omega))) ((unhide HA).2.2.kept hb1 (by have := (unhide HA).2.1; omega)))
  have hs0 := (unhide HA).2.1
  clear HC1 HwA hb1 HA
  by_cases hc1 : (chk T 1 0).1 = 0
  case neg =>
    have hn1 := ne0 hc1
    rw [if_neg hc1] at HF
    have HZ : Hid (EncA w.heap.size T (.returned (.tuple #[.slice none 0 0, .int .i64 (((chk T 1 0).1 : Nat) : Int)])) w1) := by
      refine ⟨none, 0, ?_, ?_⟩
      · rw [unhide HF]; rfl
      · rw [unhide HF]; exact ⟨none, 0, rfl, Nat.le_refl _, fun h => absurd h (Nat.lt_irrefl _)⟩
    clear hc1
    generalize (chk T 1 0).1 = c1 at *
    go_wp2_with fail
    refine bodyPost_ret (v := .tuple #[.slice none 0 0, .int .i64 (c1 : Int)]) (by simp [results, Try.results12, go_sem]) rfl ⟨(unhide HA1).1, unhide HZ⟩
  case pos =>
  rw [if_pos hc1] at HF
  have Hc := hide hc1
  rw [hc1]
  clear hc1
  obtain ⟨y0, y1, y2, y3, y4⟩ := (unhide HA1).2.cells
  go_wp2_with fail
  refine wp_region_noPanic ?_
  refine wp_region_held_drew (S := fun w' => Bx w' w.heap.size (.int .i64 kt) (.bool xt) (.slice at0 nt ct) (.slice bt mt dt) (.slice et pt qt)) (by kernel_rfl) (unhide HA1).2 (fun hHeld => ?_)
  refine wpAnyH_take (i := 1) (v := .agg #[.int .i64 kt, .bool xt, .slice at0 nt ct, .slice bt mt dt, .slice et pt qt]) rfl (by kernel_rfl) (by kernel_rfl) (by kernel_rfl) (fun _ _ _ h => h) (Or.inl ⟨by rfl, ?_⟩) hHeld ?_
  · intro w' hS'; obtain ⟨t0, t1, t2, t3, t4⟩ := hS'.cells; go_simp
  try simp only [Act.put, List.getElem_toArray, List.getElem_cons_zero, List.getElem_cons_succ, List.setIfInBounds_toArray, List.set_cons_zero, List.set_cons_succ]
  refine wpAnyH_ready (rs := [0]) (by kernel_rfl) (by simp) (AllReadyH.cons rfl (fun K hK => ?_) AllReadyH.nil)
  simp only [List.getElem_toArray, List.getElem_cons_zero, List.getElem_cons_succ]
  go_simp
  refine (etext_any w1.heap.size none 0 0 [] bMagic w1.drew (by simpa [bv] using World.ownsRow_nil _ _ _ _) (by decide) (Nat.le_refl _)).mono ?_
  rintro e w2 ⟨a2, c2, rfl, ho2, hg2⟩
  have hs2 : w1.heap.size ≤ w2.heap.size := hg2.size
  have hb2 : Below w1.heap.size w1 w2 := by
    have := hg2.below (base := w1.heap.size) (fun g hg => by simp [Value.ownBlock] at hg) (Nat.le_refl _)
    exact ⟨this.os, this.tape, this.output, this.size, this.block⟩
  have hlt1 : w.heap.size < w1.heap.size := by omega
  have hx2 := (unhide HA1).2.kept hb2 hlt1
  have HB2 := hide ((unhide HA1).1.trans (hb2.mono (by omega)))
  have HO2 := hide ho2
  obtain ⟨n2, hn2⟩ : ∃ n2, n2 = 0 + (8 + bMagic.size + padN bMagic.size) := ⟨_, rfl⟩
  have HN2 : Hid (n2 = 24) := by show n2 = 24; rw [hn2]; decide
  rw [← hn2] at HO2 ⊢
  clear ho2 hg2 hn2
  refine hK.out _ _ hx2 (fun hHeld => ?_)
  clear hK K
  try simp only [Act.put, List.getElem_toArray, List.getElem_cons_zero, List.getElem_cons_succ, List.setIfInBounds_toArray, List.set_cons_zero, List.set_cons_succ]
  refine wpAnyH_ready (rs := [2]) (by kernel_rfl) (by simp) (AllReadyH.cons rfl (fun K hK => ?_) AllReadyH.nil)
  simp only [List.getElem_toArray, List.getElem_cons_zero, List.getElem_cons_succ]
  go_simp
  refine (enode_any T ⟨1, 0, unhide Hc⟩ (by have := (unhide HWH).1; omega) lo hi w1.heap.size _ a2 c2 n2 _ w2 ((unhide HL).kept (unhide HB2) (unhide HWH).2) (by have := (unhide HWH).2; omega) hs2 (unhide HO2) (by have h1 := unhide HLN; have h2 := unhide HN2; omega)).mono ?_
  rintro e w3 ⟨a3, c3, rfl, ho3, hg3⟩
  have hs3 := hg3.size
  have hb3 : Below w1.heap.size w2 w3 := hg3.below (fun g hg => (owns_lt (unhide HO2) g hg).1) hs2
  have hx3 := hx2.kept hb3 hlt1
  have hE : encS T = [] ++ tx (sB bMagic) ++ nodeB T := by
    rw [unhide HF, List.nil_append]
    unfold narB
    simp only [txs, List.append_nil]
    rfl
  have hl : (encS T).length = n2 + (nodeB T).length := by
    rw [hE, List.nil_append, List.length_append, tx_len]
    rw [unhide HN2, show (sB bMagic).length = 13 from rfl, show padN 13 = 3 from rfl]
  have HZ : Hid (Below w.heap.size w w3 ∧ EncA w.heap.size T (.returned (.tuple #[.slice a3 (n2 + (nodeB T).length) c3, .int .i64 0])) w3) := by
    refine ⟨(unhide HB2).trans (hb3.mono (by omega)), a3, c3, ?_, ?_⟩
    · rw [unhide Hc, hl]; rfl
    · rw [hl, hE]
      exact (owns_row ho3 (owns_lt ho3)).mono (by omega) (Nat.le_refl _)
  clear ho3 hg3 hb3 hE hl HB2 HO2
  generalize n2 + (nodeB T).length = n3 at *
  refine hK.out _ _ hx3 (fun hHeld => ?_)
  clear hK K
  try simp only [Act.put, List.getElem_toArray, List.getElem_cons_zero, List.getElem_cons_succ, List.setIfInBounds_toArray, List.set_cons_zero, List.set_cons_succ]
  refine wpAnyH_take (i := 3) (v := .slice a3 n3 c3) rfl (by kernel_rfl) (by kernel_rfl) (by kernel_rfl) (fun _ _ _ h => h) (Or.inl ⟨by rfl, ?_⟩) hHeld ?_
  · intro w' hS'; go_simp
  try simp only [Act.put, List.getElem_toArray, List.getElem_cons_zero, List.getElem_cons_succ, List.setIfInBounds_toArray, List.set_cons_zero, List.set_cons_succ]
  refine wpAnyH_take (i := 4) (v := .int .i64 0) rfl (by kernel_rfl) (by kernel_rfl) (by kernel_rfl) (fun _ _ _ h => h) (Or.inl ⟨by rfl, ?_⟩) hHeld ?_
  · intro w' hS'; go_simp
  try simp only [Act.put, List.getElem_toArray, List.getElem_cons_zero, List.getElem_cons_succ, List.setIfInBounds_toArray, List.set_cons_zero, List.set_cons_succ]
  refine wpAnyH_done (by kernel_rfl) ?_ _
  refine NoPanic.normal ?_
  clear hHeld
  go_wp2_with fail
  exact bodyPost_ret (v := .tuple #[.slice a3 n3 c3, .int .i64 0]) (by simp [results, Try.results12, go_sem]) rfl (unhide HZ)
end Go.Proofs.Ytikamklgelcnhaa
/- Reading what was written. Mathematics alone. -/
namespace Go.Proofs.Ytikamklgelcnhaa
open Go.RowKit
set_option linter.unusedSimpArgs false
def Suf (B l : List UInt8) : Prop := ∃ p, B = p ++ l
theorem Suf.tl {B a l : List UInt8} (h : Suf B (a ++ l)) : Suf B l := by obtain ⟨p, rfl⟩ := h; exact ⟨p ++ a, by simp⟩
theorem Suf.len {B l : List UInt8} (h : Suf B l) : l.length ≤ B.length := by obtain ⟨p, rfl⟩ := h; simp
/-- So much is left to read. -/
def okS (B l : List UInt8) (m : Nat) : RS := .ok (B.length - l.length, m)
theorem Suf.drop {B l : List UInt8} (h : Suf B l) : B.drop (B.length - l.length) = l := by
  obtain ⟨p, rfl⟩ := h
  rw [List.length_append, Nat.add_sub_cancel]
  exact List.drop_left' rfl
theorem rdT_tx (s rest : List UInt8) (h : s.length ≤ 2097152) : rdT (tx s ++ rest) = .ok s.length := by
  have h8 : (tx s ++ rest).take 8 = lenB 8 s.length := by
    unfold tx
    rw [List.append_assoc, List.append_assoc]
    exact List.take_left' (lenB_length 8 _)
  have hn : s.length = leN ((tx s ++ rest).take 8) := by
    rw [h8, leN_lenB 8 _ (by have : (256 : Nat) ^ 8 = 18446744073709551616 := by decide
                             omega)]
  refine rdT_ok (by rw [List.length_append, tx_len]; omega) hn h (by rw [List.length_append, tx_len]; omega) ?_
  have e : (tx s ++ rest).drop (8 + s.length) = List.replicate (padN s.length) 0 ++ rest := by
    unfold tx
    rw [List.append_assoc]
    exact List.drop_left' (by rw [List.length_append, lenB_length])
  rw [e, List.take_left' (by simp)]
  simp
theorem lenB_leN (l : List UInt8) : lenB l.length (leN l) = l := by
  induction l with
  | nil => rfl
  | cons x r ih =>
    rw [List.length_cons, lenB, leN]
    have hx := x.toNat_lt
    have e1 : (x.toNat + 256 * leN r) / 256 = leN r := by omega
    rw [e1, ih]
    congr 1
    apply UInt8.toNat_inj.1
    rw [UInt8.toNat_ofNat']
    omega
theorem rdT_inv {l : List UInt8} {n : Nat} (h : rdT l = .ok n) : n ≤ 2097152 ∧ l = tx ((l.drop 8).take n) ++ l.drop (8 + n + padN n) := by
  have hle := rdT_le h
  unfold rdT at h
  split at h
  · cases h
  rename_i h8
  split at h
  · cases h
  rename_i hb
  split at h
  · cases h
  split at h
  · rename_i hz
    injection h with h
    rw [h] at hz hb
    refine ⟨by omega, ?_⟩
    have e1 : ((l.drop 8).take n).length = n := by rw [List.length_take, List.length_drop]; omega
    unfold tx
    rw [e1]
    have e2 : lenB 8 n = l.take 8 := by
      have := lenB_leN (l.take 8)
      rwa [show (l.take 8).length = 8 by rw [List.length_take]; omega, h] at this
    have e3 : (l.drop (8 + n)).take (padN n) = List.replicate (padN n) 0 := by
      rw [List.eq_replicate_iff]
      refine ⟨by rw [List.length_take, List.length_drop]; omega, fun b hb => ?_⟩
      have := List.all_eq_true.1 hz b hb
      simpa using this
    rw [e2, ← e3, List.append_assoc, List.append_assoc]
    conv => lhs; rw [← List.take_append_drop 8 l]
    congr 1
    conv => lhs; rw [← List.take_append_drop n (l.drop 8)]
    congr 1
    rw [List.drop_drop]
    conv => lhs; rw [← List.take_append_drop (padN n) (l.drop (8 + n))]
    rw [List.drop_drop]
  · cases h
theorem bA (s : ByteArray) : (⟨(sB s).toArray⟩ : ByteArray) = s := by unfold sB; simp
theorem txt_w {B s l : List UInt8} {m : Nat} (hs : Suf B (tx s ++ l)) (h : s.length ≤ 2097152) : txtS B (okS B (tx s ++ l) m) = (okS B l m, ⟨s.toArray⟩) := by
  have e : B.length - (tx s ++ l).length + 8 + s.length + padN s.length = B.length - l.length := by
    have := hs.len
    rw [List.length_append, tx_len] at this
    rw [List.length_append, tx_len]; omega
  have e2 : (B.drop (B.length - (tx s ++ l).length + 8)).take s.length = s := by
    rw [← List.drop_drop, hs.drop]
    unfold tx
    rw [List.append_assoc, List.append_assoc, List.drop_left' (lenB_length 8 _), List.take_left' rfl]
  unfold okS
  simp only [txtS]
  rw [hs.drop, rdT_tx s l h]
  simp only
  rw [e, e2]
theorem want_w {B l : List UInt8} {m : Nat} {s : ByteArray} (hs : Suf B (tx (sB s) ++ l)) (h : s.size ≤ 2097152) : wantS B (okS B (tx (sB s) ++ l) m) s = okS B l m := by
  unfold wantS
  rw [txt_w hs h, bA]
  exact if_pos rfl
theorem wants_w {B : List UInt8} (ts : List ByteArray) : ∀ {l : List UInt8} {m : Nat}, Suf B (txs (ts.map sB) ++ l) → (∀ s ∈ ts, s.size ≤ 2097152) → wantsS B (okS B (txs (ts.map sB) ++ l) m) ts = okS B l m := by
  induction ts with
  | nil => intro l m _ _; rfl
  | cons s ts ih =>
    intro l m hs h
    rw [List.map_cons, txs, List.append_assoc] at hs ⊢
    show wantsS B (wantS B _ s) ts = _
    rw [want_w hs (h s (by simp))]
    exact ih hs.tl (fun s hs => h s (by simp [hs]))
theorem either_w1 {B l : List UInt8} {m : Nat} {f s : ByteArray} (hs : Suf B (tx (sB f) ++ l)) (h : f.size ≤ 2097152) : eitherS B (okS B (tx (sB f) ++ l) m) f s = (okS B l m, true) := by
  unfold eitherS
  rw [txt_w hs h, bA]
  exact if_pos rfl
theorem either_w2 {B l : List UInt8} {m : Nat} {f s : ByteArray} (hs : Suf B (tx (sB s) ++ l)) (h : s.size ≤ 2097152) (hne : s ≠ f) : eitherS B (okS B (tx (sB s) ++ l) m) f s = (okS B l m, false) := by
  unfold eitherS
  rw [want_w hs h, txt_w hs h, bA]
  exact if_neg hne
theorem kind_w {B l : List UInt8} {m deep : Nat} {W : ByteArray} (hb : ¬ (65536 < m + 1 ∨ 64 < deep)) (hs : Suf B (txs [wOpen, wType] ++ (tx (sB W) ++ l))) (h : W.size ≤ 2097152) : kindS B deep (okS B (txs [wOpen, wType] ++ (tx (sB W) ++ l)) m) = (okS B l (m + 1), W) := by
  unfold kindS
  have e : beginS deep (okS B (txs [wOpen, wType] ++ (tx (sB W) ++ l)) m) = okS B (txs ([bOpen, bType].map sB) ++ (tx (sB W) ++ l)) (m + 1) := by
    unfold okS
    simp only [beginS]
    rw [if_neg hb]
    rfl
  rw [e, wants_w [bOpen, bType] hs (by decide), txt_w hs.tl h, bA]
theorem bCE : bCont ≠ bExec := by decide
theorem file_w {B l : List UInt8} {m : Nat} (x : Bool) (d : ByteArray) (hd : d.size ≤ 2097152) (hs : Suf B ((if x then txs [wExec, []] else []) ++ (tx wCont ++ (tx (sB d) ++ (txs [wClose] ++ l))))) :
    fileS B (okS B ((if x then txs [wExec, []] else []) ++ (tx wCont ++ (tx (sB d) ++ (txs [wClose] ++ l)))) m) = (okS B l m, x, d) := by
  cases x with
  | false =>
    simp only [Bool.false_eq_true, if_false, List.nil_append] at hs ⊢
    have e1 : eitherS B (okS B (tx wCont ++ (tx (sB d) ++ (txs [wClose] ++ l))) m) bExec bCont = (okS B (tx (sB d) ++ (txs [wClose] ++ l)) m, false) := either_w2 (s := bCont) hs (by decide) bCE
    have e2 : fileS1 B (okS B (tx wCont ++ (tx (sB d) ++ (txs [wClose] ++ l))) m) = okS B (tx (sB d) ++ (txs [wClose] ++ l)) m := by unfold fileS1; rw [e1]; rfl
    unfold fileS
    rw [e2, e1, txt_w hs.tl hd, bA]
    simp only
    rw [show wantsS B (okS B (txs [wClose] ++ l) m) [bClose] = okS B l m from wants_w [bClose] hs.tl.tl (by decide)]
  | true =>
    simp only [if_true, txs, List.append_assoc, List.nil_append] at hs ⊢
    have e1 : eitherS B (okS B (tx wExec ++ (tx [] ++ (tx wCont ++ (tx (sB d) ++ (tx wClose ++ l))))) m) bExec bCont = (okS B (tx [] ++ (tx wCont ++ (tx (sB d) ++ (tx wClose ++ l)))) m, true) := either_w1 (f := bExec) hs (by decide)
    have e2 : fileS1 B (okS B (tx wExec ++ (tx [] ++ (tx wCont ++ (tx (sB d) ++ (tx wClose ++ l))))) m) = okS B (tx (sB d) ++ (tx wClose ++ l)) m := by
      unfold fileS1; rw [e1]
      have := wants_w (B := B) (m := m) [⟨#[]⟩, bCont] (l := tx (sB d) ++ (tx wClose ++ l)) (by
        show Suf B (txs [[], wCont] ++ _)
        simp only [txs, List.append_assoc, List.nil_append]; exact hs.tl) (by decide)
      simp only [List.map_cons, List.map_nil, txs, List.append_assoc, List.nil_append] at this
      exact this
    unfold fileS
    rw [e2, e1, txt_w hs.tl.tl.tl hd, bA]
    simp only
    have := wants_w (B := B) (m := m) [bClose] (l := l) (by
        show Suf B (txs [wClose] ++ _)
        simp only [txs, List.append_assoc, List.nil_append]; exact hs.tl.tl.tl.tl) (by decide)
    simp only [List.map_cons, List.map_nil, txs, List.append_assoc, List.nil_append] at this
    rw [show wantsS B (okS B (tx wClose ++ l) m) [bClose] = okS B l m from this]
theorem link_w {B l : List UInt8} {m : Nat} (d : ByteArray) (hd : d.size ≤ 2097152) (hs : Suf B (txs [wTarg] ++ (tx (sB d) ++ (txs [wClose] ++ l)))) :
    linkS B (okS B (txs [wTarg] ++ (tx (sB d) ++ (txs [wClose] ++ l))) m) = (okS B l m, d) := by
  unfold linkS
  rw [show wantsS B (okS B (txs [wTarg] ++ (tx (sB d) ++ (txs [wClose] ++ l))) m) [bTarg] = okS B (tx (sB d) ++ (txs [wClose] ++ l)) m from wants_w [bTarg] hs (by decide), txt_w hs.tl hd, bA]
  simp only
  rw [show wantsS B (okS B (txs [wClose] ++ l) m) [bClose] = okS B l m from wants_w [bClose] hs.tl.tl (by decide)]
theorem entsB_len (ns : List ByteArray) : ∀ ks : List Tr, ns.length = ks.length → ks.length ≤ (entsB ns ks).length := by
  induction ns with
  | nil => intro ks h; simp at h; simp [← h]
  | cons s ns ih =>
    intro ks h
    cases ks with
    | nil => simp
    | cons t ks =>
      have := ih ks (by simpa using h)
      rw [entsB]
      simp only [txs, List.length_append, List.length_cons, tx_len]
      omega
theorem ent_w {B l : List UInt8} {m : Nat} (s : ByteArray) (h : s.size ≤ 2097152) (hs : Suf B (txs [wOpen, wName] ++ (tx (sB s) ++ (txs [wNode] ++ l)))) : entS B (okS B (txs [wOpen, wName] ++ (tx (sB s) ++ (txs [wNode] ++ l))) m) = (okS B l m, s) := by
  unfold entS
  rw [show wantsS B (okS B (txs [wOpen, wName] ++ (tx (sB s) ++ (txs [wNode] ++ l))) m) [bOpen, bName] = okS B (tx (sB s) ++ (txs [wNode] ++ l)) m from wants_w [bOpen, bName] hs (by decide), txt_w hs.tl h, bA]
  simp only
  rw [show wantsS B (okS B (txs [wNode] ++ l) m) [bNode] = okS B l m from wants_w [bNode] hs.tl.tl (by decide)]
theorem dir_w (B : List UInt8) (N : RS → RS × Tr) (deep : Nat) (ks : List Tr) : ∀ (ns : List ByteArray) (k m : Nat) (ns0 : List ByteArray) (ks0 : List Tr) (l : List UInt8), ns.length = ks.length → (∀ s ∈ ns, s.size ≤ 2097152) → ks.length + 1 ≤ k → (chks ks deep m).1 = 0 →
    (∀ t ∈ ks, ∀ m l, (chk t deep m).1 = 0 → Suf B (nodeB t ++ l) → N (okS B (nodeB t ++ l) m) = (okS B l (chk t deep m).2, t)) → Suf B (entsB ns ks ++ (txs [wClose] ++ l)) →
    dirS B N k (okS B (entsB ns ks ++ (txs [wClose] ++ l)) m) ns0 ks0 = (okS B l (chks ks deep m).2, ns0 ++ ns, ks0 ++ ks) := by
  induction ks with
  | nil =>
    intro ns k m ns0 ks0 l hl _ hk hc _ hs
    obtain rfl : ns = [] := List.eq_nil_of_length_eq_zero (by simpa using hl)
    obtain ⟨k, rfl⟩ : ∃ k', k = k' + 1 := ⟨k - 1, by simp at hk; omega⟩
    rw [entsB, List.nil_append] at hs ⊢
    simp only [txs, List.append_nil] at hs ⊢
    have e : eitherS B (okS B (tx wClose ++ l) m) bEntry bClose = (okS B l m, false) := either_w2 (s := bClose) hs (by decide) (by decide)
    rw [dirS, e]
    simp [chks]
    all_goals intro a b c; simp
  | cons t ks ih =>
    intro ns k m ns0 ks0 l hl hn hk hc hN hs
    obtain ⟨s, ns, rfl⟩ : ∃ s ns', ns = s :: ns' := by
      cases ns with
      | nil => simp at hl
      | cons s ns => exact ⟨s, ns, rfl⟩
    obtain ⟨k, rfl⟩ : ∃ k', k = k' + 1 := ⟨k - 1, by simp at hk; omega⟩
    rw [chks] at hc ⊢
    by_cases h0 : (chk t deep m).1 = 0
    · rw [if_pos h0] at hc ⊢
      have eq : entsB (s :: ns) (t :: ks) ++ (txs [wClose] ++ l) = tx (sB bEntry) ++ (txs [wOpen, wName] ++ (tx (sB s) ++ (txs [wNode] ++ (nodeB t ++ (txs [wClose] ++ (entsB ns ks ++ (txs [wClose] ++ l))))))) := by
        rw [entsB]
        simp only [txs, List.append_assoc, List.nil_append, List.append_nil]
        rfl
      rw [eq] at hs ⊢
      have e1 := either_w1 (m := m) (s := bClose) hs (by decide)
      have e2 := ent_w (m := m) s (hn s (by simp)) hs.tl
      have e3 := hN t (by simp) m _ h0 hs.tl.tl.tl.tl
      have e4 : wantsS B (okS B (txs [wClose] ++ (entsB ns ks ++ (txs [wClose] ++ l))) (chk t deep m).2) [bClose] = okS B (entsB ns ks ++ (txs [wClose] ++ l)) (chk t deep m).2 := wants_w [bClose] hs.tl.tl.tl.tl.tl (by decide)
      rw [dirS, e1]
      simp only [if_true]
      rw [e2]
      simp only
      rw [e3]
      simp only
      rw [e4, ih ns k _ _ _ l (by simpa using hl) (fun s hs => hn s (by simp [hs])) (by simp at hk; omega) hc (fun t ht => hN t (by simp [ht])) hs.tl.tl.tl.tl.tl.tl]
      simp
    · rw [if_neg h0] at hc; exact absurd hc h0
theorem node_w (B : List UInt8) (T : Tr) : ∀ (f deep m : Nat) (l : List UInt8), 65 ≤ f + deep → (chk T deep m).1 = 0 → Suf B (nodeB T ++ l) → nodeS B f deep (okS B (nodeB T ++ l) m) = (okS B l (chk T deep m).2, T) := by
  induction T using Tr.ind with
  | h k x d ns ks ih =>
  intro f deep m l hf hc hs
  rw [chk] at hc ⊢
  by_cases hb : 65536 < m + 1 ∨ 64 < deep
  · rw [if_pos hb] at hc; exact absurd hc (by simp)
  rw [if_neg hb] at hc ⊢
  by_cases hl : locErr k x d.size ns ks.length = 0
  rotate_left
  · rw [if_neg hl] at hc; exact absurd hc hl
  rw [if_pos hl] at hc ⊢
  obtain ⟨f, rfl⟩ : ∃ f', f = f' + 1 := ⟨f - 1, by omega⟩
  have nil0 : ∀ {l : List ByteArray}, ¬ 0 < l.length → l = [] := fun h => List.eq_nil_of_length_eq_zero (by omega)
  have nil1 : ∀ {l : List Tr}, ¬ 0 < l.length → l = [] := fun h => List.eq_nil_of_length_eq_zero (by omega)
  unfold locErr at hl
  by_cases k1 : k = 1
  · subst k1
    rw [if_pos rfl] at hl
    by_cases h1 : 0 < ns.length ∨ 0 < ks.length
    · rw [if_pos h1] at hl; omega
    rw [if_neg h1] at hl
    by_cases h2 : 1048576 < d.size
    · rw [if_pos h2] at hl; omega
    obtain rfl := nil0 (fun h => h1 (.inl h))
    obtain rfl := nil1 (fun h => h1 (.inr h))
    have eq : nodeB (.mk 1 x d [] []) ++ l = txs [wOpen, wType] ++ (tx (sB bReg) ++ ((if x then txs [wExec, []] else []) ++ (tx wCont ++ (tx (sB d) ++ (txs [wClose] ++ l))))) := by
      rw [nodeB, if_pos rfl]
      simp only [txs, List.append_assoc, List.append_nil]
      rfl
    rw [eq] at hs ⊢
    rw [nodeS, kind_w hb hs (by decide)]
    simp only [if_true]
    rw [file_w x d (by omega) hs.tl.tl]
    simp [chks]
  rw [if_neg k1] at hl
  by_cases k3 : k = 3
  · subst k3
    rw [if_pos rfl] at hl
    by_cases h1 : 0 < ns.length ∨ 0 < ks.length ∨ x = true
    · rw [if_pos h1] at hl; omega
    rw [if_neg h1] at hl
    by_cases h2 : 1000 < d.size
    · rw [if_pos h2] at hl; omega
    obtain rfl := nil0 (fun h => h1 (.inl h))
    obtain rfl := nil1 (fun h => h1 (.inr (.inl h)))
    obtain rfl : x = false := by
      cases x
      · rfl
      · exact absurd (.inr (.inr rfl)) h1
    have eq : nodeB (.mk 3 false d [] []) ++ l = txs [wOpen, wType] ++ (tx (sB bSym) ++ (txs [wTarg] ++ (tx (sB d) ++ (txs [wClose] ++ l)))) := by
      rw [nodeB, if_neg (by decide), if_pos rfl]
      simp only [txs, List.append_assoc, List.append_nil]
      rfl
    rw [eq] at hs ⊢
    rw [nodeS, kind_w hb hs (by decide)]
    simp only [if_true]
    rw [if_neg (by decide), link_w d (by omega) hs.tl.tl]
    simp [chks]
  rw [if_neg k3] at hl
  by_cases k2 : k = 2
  · subst k2
    rw [if_pos rfl] at hl
    by_cases h1 : x = true ∨ 0 < d.size ∨ ns.length ≠ ks.length
    · rw [if_pos h1] at hl; omega
    rw [if_neg h1] at hl
    by_cases h2 : okNames ns
    rotate_left
    · rw [if_neg h2] at hl; omega
    obtain rfl : x = false := by
      cases x
      · rfl
      · exact absurd (.inl rfl) h1
    obtain rfl : d = ⟨#[]⟩ := by
      have h3 : ¬ 0 < d.size := fun h => h1 (.inr (.inl h))
      have e1 : d.data.toList = [] := List.eq_nil_of_length_eq_zero (by show d.size = 0; omega)
      exact ByteArray.ext (Array.ext' e1)
    have hlen : ns.length = ks.length := by
      by_cases h : ns.length = ks.length
      · exact h
      · exact absurd (.inr (.inr h)) h1
    have hsz : ∀ s ∈ ns, s.size ≤ 2097152 := by
      intro s hs
      obtain ⟨i, hi, he⟩ := List.getElem_of_mem hs
      have := h2 i hi
      unfold okName at this
      rw [List.getElem?_eq_getElem hi, he] at this
      simp [entB] at this
      omega
    have eq : nodeB (.mk 2 false ⟨#[]⟩ ns ks) ++ l = txs [wOpen, wType] ++ (tx (sB bDir) ++ (entsB ns ks ++ (txs [wClose] ++ l))) := by
      rw [nodeB, if_neg (by decide), if_neg (by decide), if_pos rfl]
      simp only [txs, List.append_assoc, List.append_nil]
      rfl
    rw [eq] at hs ⊢
    have hfu : ks.length + 1 ≤ B.length + 1 := by
      have h5 := hs.tl.tl.len
      have h6 := entsB_len ns ks hlen
      rw [List.length_append] at h5
      omega
    rw [nodeS, kind_w hb hs (by decide)]
    simp only [if_true]
    rw [if_neg (by decide), if_neg (by decide), dir_w B (nodeS B f (deep + 1)) (deep + 1) ks ns (B.length + 1) (m + 1) [] [] l hlen hsz hfu hc (fun t ht m l h1 h2 => ih t ht f (deep + 1) m l (by omega) h1 h2) hs.tl.tl]
    simp
  rw [if_neg k2] at hl
  omega
/-- What was written is read, whatever stands behind. -/
theorem tree_w (T : Tr) (l : List UInt8) (hc : (chk T 1 0).1 = 0) : treeS (narB T ++ l) (.ok (0, 0)) = (.ok ((narB T).length, (chk T 1 0).2), T) := by
  have eq : narB T ++ l = txs [wMagic] ++ (nodeB T ++ l) := by unfold narB; rw [List.append_assoc]
  have hs : Suf (narB T ++ l) (txs [wMagic] ++ (nodeB T ++ l)) := ⟨[], by rw [eq]; rfl⟩
  have e0 : (.ok (0, 0) : RS) = okS (narB T ++ l) (txs [wMagic] ++ (nodeB T ++ l)) 0 := by
    unfold okS; rw [eq, Nat.sub_self]
  unfold treeS
  rw [e0, show wantsS (narB T ++ l) (okS (narB T ++ l) (txs [wMagic] ++ (nodeB T ++ l)) 0) [bMagic] = okS (narB T ++ l) (nodeB T ++ l) 0 from wants_w [bMagic] hs (by decide), node_w (narB T ++ l) T 65 1 0 l (by omega) hc hs.tl]
  unfold okS
  rw [List.length_append, Nat.add_sub_cancel]
end Go.Proofs.Ytikamklgelcnhaa
/- The reader's node, from its dir. -/
namespace Go.Proofs.Ytikamklgelcnhaa
open Go.RowKit
set_option linter.unusedSimpArgs false
/-- What node and dir answer. -/
def NdA (lo hi r : Nat) (b : Value) (B : List UInt8) (w : World) (τ : RS) (T : Tr) (x : Ending) (w' : World) : Prop :=
  ∃ cs : List Value, x = .returned (.agg cs.toArray) ∧ Sole r w w' ∧ Rst lo hi r b B w' τ ∧ Rdn (fun v d => Tv lo hi b v B d) w' w.heap.size w'.heap.size T cs
theorem LfA.node {lo hi r : Nat} {b : Value} {B : List UInt8} {w : World} {τ : RS} {k : Int} {x : Bool} {d : ByteArray} {e : Ending} {w' : World} (h : LfA lo hi r b B w τ k x d e w') : NdA lo hi r b B w τ (.mk k x d [] []) e w' := by
  obtain ⟨a, c, rfl, h1, h2, h3⟩ := h
  exact ⟨_, rfl, h1, h2, (rl_end (rl_nil _ w.heap.size w') h3)⟩
/-- A node that was answered is stored and answered. -/
theorem NdA.store {lo hi r : Nat} {b : Value} {B : List UInt8} {w W w' : World} {τ : RS} {T : Tr} {v0 v1 v2 v3 v4 : Value} (h : NdA lo hi r b B W τ T (.returned (.agg #[v0, v1, v2, v3, v4])) w') (hs : Sole r w W) (hz : w.heap.size + 1 ≤ W.heap.size) (hr : r < w.heap.size) (hhi : hi ≤ w.heap.size) : NdA lo hi r b B w τ T (.returned (.agg #[v0, v1, v2, v3, v4])) (set5 w' w.heap.size v0 v1 v2 v3 v4) := by
  obtain ⟨cs, he, h1, h2, h3⟩ := h
  have hbz : Below w.heap.size w' (set5 w' w.heap.size v0 v1 v2 v3 v4) := below_set5 (Below.refl _ _) (Nat.le_refl _) _ _ _ _ _
  refine ⟨cs, he, sole_set5 (hs.trans h1) (Nat.le_refl _) _ _ _ _ _, h2.kept hbz hr hhi, ?_⟩
  refine Rdn.mono (h3.same (fun k hk _ => set5_other _ _ _ _ _ _ _ _ (by omega))) (by omega) (by simp)
theorem NdA.form {lo hi r : Nat} {b : Value} {B : List UInt8} {w : World} {τ : RS} {T : Tr} {x : Ending} {w' : World} (h : NdA lo hi r b B w τ T x w') : ∃ k y a1 n1 c1 a2 n2 c2 a3 n3 c3, x = .returned (.agg #[.int .i64 k, .bool y, .slice a1 n1 c1, .slice a2 n2 c2, .slice a3 n3 c3]) := by
  obtain ⟨cs, rfl, h1, h2, h3⟩ := h
  obtain ⟨k, x, a1, n1, c1, a2, n2, c2, a3, n3, c3, rfl⟩ := h3.form
  exact ⟨k, x, a1, n1, c1, a2, n2, c2, a3, n3, c3, rfl⟩
theorem tl_reg : bReg.toList = [114, 101, 103, 117, 108, 97, 114] := by rw [ByteArray.toList_eq]; rfl
theorem tl_sym : bSym.toList = [115, 121, 109, 108, 105, 110, 107] := by rw [ByteArray.toList_eq]; rfl
theorem tl_dir : bDir.toList = [100, 105, 114, 101, 99, 116, 111, 114, 121] := by rw [ByteArray.toList_eq]; rfl
set_option maxRecDepth 20000 in
set_option maxHeartbeats 2000000 in
theorem node_step (lo hi r : Nat) (b : Value) (B : List UInt8) (f deep : Nat) (hdeep : deep ≤ 1000000)
    (HD : ∀ (w : World) (σ : RS), Rst lo hi r b B w σ → deep ≤ 64 → Calls Try.prog 83 #[.pointer (some ⟨r, 0, none⟩), .int .i64 (deep : Int)] w (NdA lo hi r b B w (dirS B (nodeS B f (deep + 1)) (B.length + 1) σ [] []).1 (.mk 2 false ⟨#[]⟩ (dirS B (nodeS B f (deep + 1)) (B.length + 1) σ [] []).2.1 (dirS B (nodeS B f (deep + 1)) (B.length + 1) σ [] []).2.2)))
    (w : World) (σ : RS) (h : Rst lo hi r b B w σ) :
    Calls Try.prog 59 #[.pointer (some ⟨r, 0, none⟩), .int .i64 (deep : Int)] w (NdA lo hi r b B w (nodeS B (f + 1) deep σ).1 (nodeS B (f + 1) deep σ).2) := by
  obtain ⟨Q, hQ⟩ : ∃ Q, Q = NdA lo hi r b B w (nodeS B (f + 1) deep σ).1 (nodeS B (f + 1) deep σ).2 := ⟨_, rfl⟩
  rw [← hQ]
  rw [nodeS] at hQ
  have hko : (kindS B deep σ).2 = bDir → deep ≤ 64 := fun hk => (kind_ok hk (by decide)).1
  have HQ := hide hQ
  obtain ⟨W0, hW0⟩ : ∃ W0, W0 = w.alloc (.cells #[.int .i64 0, .bool false, .slice none 0 0, .slice none 0 0, .slice none 0 0] 26) := ⟨_, rfl⟩
  have hb0 : Below w.heap.size w W0 := by rw [hW0]; exact (Below.refl _ _).alloc (Nat.le_refl _) _
  have hs0 : W0.heap.size = w.heap.size + 1 := by rw [hW0]; simp
  have hx0 : Bx W0 w.heap.size (.int .i64 0) (.bool false) (.slice none 0 0) (.slice none 0 0) (.slice none 0 0) := by rw [hW0]; exact bx_new _ _ _ _ _ _
  have hlt := h.lt
  have hhi := h.hi
  have H1 := hide (begin_any lo hi r b B W0 σ deep (h.kept hb0 hlt h.hi) hdeep)
  have HX0 := hide (And.intro (Sole.of_below (g := r) hb0) hx0)
  have HS0 := hide hs0
  have HW0 := hide hW0
  have HDD := hide HD
  have HKO := hide hko
  clear h hb0 hx0 hQ hs0 hW0 HD hko
  go_enter Try.func59, Try.ntmps59
  go_wp2_with fail
  rw [← unhide HW0]
  refine (unhide H1).mono ?_
  rintro x w1 ⟨rfl, hs1, hR1⟩
  have hz1 := hs1.size
  rw [unhide HS0] at hz1
  have HX1 := hide (And.intro ((unhide HX0).1.trans hs1) ((unhide HX0).2.sole hs1 (by omega)))
  have H2 := hide (wants_any lo hi r b B w1 _ [bOpen, bType] hR1 (by decide))
  clear hs1 hR1 H1 HX0
  go_wp2_with fail
  refine (unhide H2).mono ?_
  rintro x w2 ⟨rfl, hs2, hR2⟩
  have hz2 := hs2.size
  have HX2 := hide (And.intro ((unhide HX1).1.trans hs2) ((unhide HX1).2.sole hs2 (by omega)))
  have H3 := hide (text_rst lo hi r b B w2 _ hR2)
  clear hs2 hR2 H2 HX1
  go_wp2_with fail
  refine (unhide H3).mono ?_
  rintro x w3 ⟨a, c, rfl, hs3, hR3, hv⟩
  have hcv := tv_conv hR3 hv
  have hz3 := hs3.size
  have HX3 := hide (And.intro ((unhide HX2).1.trans hs3) ((unhide HX2).2.sole hs3 (by omega)))
  have HK : Hid (kindS B deep σ = txtS B (wantsS B (beginS deep σ) [bOpen, bType])) := rfl
  generalize txtS B (wantsS B (beginS deep σ) [bOpen, bType]) = K at *
  obtain ⟨τ, d⟩ := K
  have HR3 := hide hR3
  obtain ⟨x0, x1, x2, x3, x4⟩ := (unhide HX3).2.cells
  have hqe := unhide HQ
  rw [unhide HK] at hqe
  have hko := unhide HKO
  rw [unhide HK] at hko
  simp only at hqe hko hcv
  clear hs3 hR3 hv H3 HX2 HQ HKO HK
  by_cases h1 : d = bReg
  · rw [if_pos h1] at hqe
    have hb1 : (d.toList == [114, 101, 103, 117, 108, 97, 114]) = true := by rw [h1, tl_reg]; rfl
    have HC := hide (file_any lo hi r b B w3 τ (unhide HR3))
    have HQE := hqe
    clear hqe
    clear h1 hko
    go_wp2_with fail
    refine (unhide HC).mono ?_
    intro x w4 hL
    have hN := hL.node
    clear hL
    revert hN
    revert w4 x
    rintro x w4 hN
    obtain ⟨k', y', b1, n1, d1, b2, n2, d2, b3, n3, d3, rfl⟩ := hN.form
    have hs4 : Sole r w3 w4 := by obtain ⟨_, _, h, _⟩ := hN; exact h
    have hx4 := (unhide HX3).2.sole hs4 (by omega)
    have HE := hide (hN.store (unhide HX3).1 (by omega) hlt hhi)
    clear x0 x1 x2 x3 x4
    obtain ⟨x0, x1, x2, x3, x4⟩ := hx4.cells
    have g0 := hx4.fr 0
    have g1 := hx4.fr 1
    have g2 := hx4.fr 2
    have g3 := hx4.fr 3
    have g4 := hx4.fr 4
    clear hN hs4 hx4
    go_wp2_with fail
    refine bodyPost_ret (v := .agg #[.int .i64 k', .bool y', .slice b1 n1 d1, .slice b2 n2 d2, .slice b3 n3 d3]) (by simp [results, Try.results59, go_sem, x0, x1, x2, x3, x4]) rfl ?_
    rw [HQE]
    exact unhide HE
  · rw [if_neg h1] at hqe
    have hb1 := toList_ne h1
    rw [tl_reg] at hb1
    by_cases h2 : d = bSym
    · rw [if_pos h2] at hqe
      have hb2 : (d.toList == [115, 121, 109, 108, 105, 110, 107]) = true := by rw [h2, tl_sym]; rfl
      have HC := hide (link_any lo hi r b B w3 τ (unhide HR3))
      have HQE := hqe
      clear hqe h1 h2 hko
      go_wp2_with fail
      refine (unhide HC).mono ?_
      intro x w4 hL
      have hN := hL.node
      clear hL
      revert hN
      revert w4 x
      rintro x w4 hN
      obtain ⟨k', y', b1, n1, d1, b2, n2, d2, b3, n3, d3, rfl⟩ := hN.form
      have hs4 : Sole r w3 w4 := by obtain ⟨_, _, h, _⟩ := hN; exact h
      have hx4 := (unhide HX3).2.sole hs4 (by omega)
      have HE := hide (hN.store (unhide HX3).1 (by omega) hlt hhi)
      clear x0 x1 x2 x3 x4
      obtain ⟨x0, x1, x2, x3, x4⟩ := hx4.cells
      have g0 := hx4.fr 0
      have g1 := hx4.fr 1
      have g2 := hx4.fr 2
      have g3 := hx4.fr 3
      have g4 := hx4.fr 4
      clear hN hs4 hx4
      go_wp2_with fail
      refine bodyPost_ret (v := .agg #[.int .i64 k', .bool y', .slice b1 n1 d1, .slice b2 n2 d2, .slice b3 n3 d3]) (by simp [results, Try.results59, go_sem, x0, x1, x2, x3, x4]) rfl ?_
      rw [HQE]
      exact unhide HE
    · rw [if_neg h2] at hqe
      have hb2 := toList_ne h2
      rw [tl_sym] at hb2
      by_cases h3 : d = bDir
      · rw [if_pos h3] at hqe
        have HC := hide (unhide HDD w3 τ (unhide HR3) (hko h3))
        have hb3 : (d.toList == [100, 105, 114, 101, 99, 116, 111, 114, 121]) = true := by rw [h3, tl_dir]; rfl
        have HQE := hqe
        clear hqe hko h1 h2 h3
        go_wp2_with fail
        refine (unhide HC).mono ?_
        rintro x w4 hN
        obtain ⟨k', y', b1, n1, d1, b2, n2, d2, b3, n3, d3, rfl⟩ := hN.form
        have hs4 : Sole r w3 w4 := by obtain ⟨_, _, h, _⟩ := hN; exact h
        have hx4 := (unhide HX3).2.sole hs4 (by omega)
        have HE := hide (hN.store (unhide HX3).1 (by omega) hlt hhi)
        clear x0 x1 x2 x3 x4
        obtain ⟨x0, x1, x2, x3, x4⟩ := hx4.cells
        have g0 := hx4.fr 0
        have g1 := hx4.fr 1
        have g2 := hx4.fr 2
        have g3 := hx4.fr 3
        have g4 := hx4.fr 4
        clear hN hs4 hx4
        go_wp2_with fail
        refine bodyPost_ret (v := .agg #[.int .i64 k', .bool y', .slice b1 n1 d1, .slice b2 n2 d2, .slice b3 n3 d3]) (by simp [results, Try.results59, go_sem, x0, x1, x2, x3, x4]) rfl ?_
        rw [HQE]
        exact unhide HE
      · rw [if_neg h3] at hqe
        have hb3 := toList_ne h3
        rw [tl_dir] at hb3
        have HC := hide (fail_rst lo hi r b B w3 τ 3 (by omega) (unhide HR3))
        have HQE := hqe
        clear hqe hko h1 h2 h3
        go_wp2_with fail
        refine (unhide HC).mono ?_
        rintro x w4 ⟨rfl, hs4, hR4⟩
        have hx4 := (unhide HX3).2.sole hs4 (by omega)
        have hN : NdA lo hi r b B w3 (failS 3 τ) (.mk 0 false ⟨#[]⟩ [] []) (.returned (.agg #[.int .i64 0, .bool false, .slice none 0 0, .slice none 0 0, .slice none 0 0])) w4 := ⟨_, rfl, hs4, hR4, rl_end (d := ⟨#[]⟩) (rl_nil _ w3.heap.size w4) (tv_nil _ _ _ _)⟩
        have HE := hide (hN.store (unhide HX3).1 (by omega) hlt hhi)
        clear x0 x1 x2 x3 x4
        obtain ⟨x0, x1, x2, x3, x4⟩ := hx4.cells
        have g0 := hx4.fr 0
        have g1 := hx4.fr 1
        have g2 := hx4.fr 2
        have g3 := hx4.fr 3
        have g4 := hx4.fr 4
        clear hN hs4 hx4 hR4
        go_wp2_with fail
        refine bodyPost_ret (v := .agg #[.int .i64 0, .bool false, .slice none 0 0, .slice none 0 0, .slice none 0 0]) (by simp [results, Try.results59, go_sem, x0, x1, x2, x3, x4]) rfl ?_
        rw [HQE]
        exact unhide HE
end Go.Proofs.Ytikamklgelcnhaa
/- The reader's dir under way. -/
namespace Go.Proofs.Ytikamklgelcnhaa
open Go.RowKit
set_option linter.unusedSimpArgs false
/-- How far the reader is from the end, or from its error. -/
def rmeas (B : List UInt8) (r : Nat) (w : World) : Nat :=
  match w.cell? ⟨r, 3, none⟩ with
  | some (.int _ e) => if e = 0 then (match w.cell? ⟨r, 1, none⟩ with | some (.int _ p) => B.length + 1 - p.toNat | _ => 0) else 0
  | _ => 0
theorem rmeas_ok {lo hi r : Nat} {b : Value} {B : List UInt8} {w : World} {p m : Nat} (h : Rst lo hi r b B w (.ok (p, m))) : rmeas B r w = B.length + 1 - p := by
  obtain ⟨h0, h1, h2, h3⟩ := h.1.rx.cells
  unfold rmeas
  rw [h3, h1]
  simp
theorem rmeas_err {lo hi r : Nat} {b : Value} {B : List UInt8} {w : World} {E : Int} (h : Rst lo hi r b B w (.error E)) : rmeas B r w = 0 := by
  obtain ⟨he, p, m, k⟩ := h
  obtain ⟨h0, h1, h2, h3⟩ := k.rx.cells
  unfold rmeas
  rw [h3]
  simp [he]
/-- A dir under way. -/
structure DirW (D : Value → ByteArray → Prop) (lo hi r : Nat) (b : Value) (B : List UInt8) (w wr : World) (τ : RS) (ns : List ByteArray) (ks : List Tr) (vn vk : Value) (p q : Nat) : Prop where
  sole : Sole r w wr
  rst : Rst lo hi r b B wr τ
  br : Bx wr w.heap.size (.int .i64 0) (.bool false) (.slice none 0 0) (.slice none 0 0) (.slice none 0 0)
  bt : Bx wr (w.heap.size + 1) (.int .i64 2) (.bool false) (.slice none 0 0) vn vk
  rl : Rl D (w.heap.size + 2) wr vn vk ns ks p q
  sz : w.heap.size + 2 ≤ wr.heap.size
  lt : r < w.heap.size
  hh : hi ≤ w.heap.size
theorem DirW.call {D : Value → ByteArray → Prop} {lo hi r : Nat} {b : Value} {B : List UInt8} {w wr w1 : World} {τ τ' : RS} {ns : List ByteArray} {ks : List Tr} {vn vk : Value} {p q : Nat} (h : DirW D lo hi r b B w wr τ ns ks vn vk p q) (hs : Sole r wr w1) (hR : Rst lo hi r b B w1 τ') : DirW D lo hi r b B w w1 τ' ns ks vn vk p q := by
  obtain ⟨h1, h2, h3, h4, h5, h6, h7, h8⟩ := h
  have hz := hs.size
  exact ⟨h1.trans hs, hR, h3.sole hs (by omega), h4.sole hs (by omega), h5.same (fun k hk hk2 => hs.block k hk2 (by omega)) hz, by omega, h7, h8⟩
theorem DirW.drew {D : Value → ByteArray → Prop} {lo hi r : Nat} {b : Value} {B : List UInt8} {w wr : World} {τ : RS} {ns : List ByteArray} {ks : List Tr} {vn vk : Value} {p q : Nat} (h : DirW D lo hi r b B w wr τ ns ks vn vk p q) : DirW D lo hi r b B w wr.drew τ ns ks vn vk p q := by
  have hs : Sole r wr wr.drew := (Sole.refl r wr).drew
  have hb : Below wr.heap.size wr wr.drew := ⟨hs.os, hs.tape, hs.output, hs.size, fun _ _ => rfl⟩
  exact h.call hs (h.rst.kept hb (by have := h.sz; have := h.lt; omega) h.rst.hi)
theorem DirW.name {D : Value → ByteArray → Prop} {lo hi r : Nat} {b : Value} {B : List UInt8} {w wr w8 : World} {τ : RS} {ns ns' : List ByteArray} {ks : List Tr} {vn vk vn' : Value} {p p' q : Nat} (h : DirW D lo hi r b B w wr τ ns ks vn vk p q) (hb : Below (w.heap.size + 2) wr w8) (hz : wr.heap.size ≤ w8.heap.size) (hc : Rl D (w.heap.size + 2) w8 vn' vk ns' ks p' q) :
    DirW D lo hi r b B w (w8.setCell ⟨w.heap.size + 1, 3, none⟩ vn') τ ns' ks vn' vk p' q := by
  obtain ⟨h1, h2, h3, h4, h5, h6, h7, h8⟩ := h
  have k1 : Below w.heap.size wr (w8.setCell ⟨w.heap.size + 1, 3, none⟩ vn') := (hb.mono (by omega)).setCell (by simp) _
  refine ⟨⟨k1.os.trans h1.os, k1.tape.trans h1.tape, k1.output.trans h1.output, by simp; omega, fun i hi hg => (k1.block i hi).trans (h1.block i hi hg)⟩, h2.kept k1 h7 h8, (h3.kept hb (by omega)).of (set_other _ _ _ _ _ (by omega)), (h4.kept hb (by omega)).set3 _, hc.same (fun k hk _ => set_other _ _ _ _ _ (by omega)) (by simp), by simp; omega, h7, h8⟩
theorem DirW.kid {D : Value → ByteArray → Prop} {lo hi r : Nat} {b : Value} {B : List UInt8} {w wr w8 : World} {τ : RS} {ns : List ByteArray} {ks ks' : List Tr} {vn vk vk' : Value} {p q q' : Nat} (h : DirW D lo hi r b B w wr τ ns ks vn vk p q) (hb : Below (w.heap.size + 2) wr w8) (hz : wr.heap.size ≤ w8.heap.size) (hc : Rl D (w.heap.size + 2) w8 vn vk' ns ks' p q') :
    DirW D lo hi r b B w (w8.setCell ⟨w.heap.size + 1, 4, none⟩ vk') τ ns ks' vn vk' p q' := by
  obtain ⟨h1, h2, h3, h4, h5, h6, h7, h8⟩ := h
  have k1 : Below w.heap.size wr (w8.setCell ⟨w.heap.size + 1, 4, none⟩ vk') := (hb.mono (by omega)).setCell (by simp) _
  refine ⟨⟨k1.os.trans h1.os, k1.tape.trans h1.tape, k1.output.trans h1.output, by simp; omega, fun i hi hg => (k1.block i hi).trans (h1.block i hi hg)⟩, h2.kept k1 h7 h8, (h3.kept hb (by omega)).of (set_other _ _ _ _ _ (by omega)), (h4.kept hb (by omega)).set4 _, hc.same (fun k hk _ => set_other _ _ _ _ _ (by omega)) (by simp), by simp; omega, h7, h8⟩
end Go.Proofs.Ytikamklgelcnhaa
