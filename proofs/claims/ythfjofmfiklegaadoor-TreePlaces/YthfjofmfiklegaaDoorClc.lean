/- clone, in the code: a tree in memory of its own. -/
import Derived.Test.YthfjofmfiklegaaDoorGrow
import Derived.Test.YthfjofmfiklegaaDoorClr
import Derived.Deep.RegionLaw
namespace Go.Proofs.YthfjofmfiklegaaDoor
open Go.RowKit
theorem sclone_any (s : ByteArray) (w : World) (hlim : s.size ≤ 281474976710656) :
    Calls Tryd.prog 57 #[.string s] w fun e w' => e = .returned (.string s) ∧ Below w.heap.size w w' := by
  go_enter Tryd.func57, Tryd.ntmps57
  go_wp2_with fail
  refine (Tryd.stringslite_Clone s w hlim).mono ?_
  rintro e w1 ⟨rfl, hb⟩
  go_wp2_with fail
  go_ret
  exact ⟨rfl, hb⟩
/-- Onto nothing. -/
theorem onto22 (w : World) (lo hi : Nat) (a : Option Addr) (m c : Nat) (ys : List Value) (hr : Row lo hi w (.slice a m c) m ys) (hl : ys.length = m) (h1 : ∀ u ∈ ys, u.oneCell' = true) (hmax : m ≤ 100000000) :
    ∃ a1 c1 w1, (∀ ty, (app22 ty #[.slice none 0 0, .slice a m c]).run Tryd.prog w = .ok (.slice a1 m c1) w1) ∧ Below w.heap.size w w1 ∧ w1.ownsRow w.heap.size 5 1 (.slice a1 m c1) m ys := by
  obtain ⟨v1, w1, happ, ho, hg, _⟩ := app22_own w w.heap.size lo hi (.slice none 0 0) 0 [] a m c ys ⟨by simp, .inl ⟨rfl, rfl⟩⟩ hr hl h1 (by omega) (Nat.le_refl _)
  rw [Nat.zero_add, List.nil_append] at ho
  obtain ⟨a1, c1, rfl, _⟩ := owns_slice ho
  exact ⟨a1, c1, w1, happ, (Below.refl _ _).grown hg (Nat.le_refl _) (fun k hk => by simp [Value.ownBlock] at hk), ho⟩
/-- As many names as kids, everywhere. -/
inductive Ev : Tr → Prop
  | mk (k : Int) (x : Bool) (d : ByteArray) (ns : List ByteArray) (ks : List Tr) (h : ns.length = ks.length) (hk : ∀ t ∈ ks, Ev t) : Ev (.mk k x d ns ks)
theorem below_drew' {B : Nat} {w w1 : World} (h : Below B w.drew w1) : Below B w w1 := ⟨h.os, h.tape, h.output, h.size, h.block⟩
/-- What stands in a clone under way. -/
structure ClW (w wr : World) (Z : Nat) (k : Int) (x : Bool) (d : ByteArray) (ns : List ByteArray) (ks : List Tr) (t1 t2 t3 v1 vn vk : Value) (p q : Nat) : Prop where
  old : Below w.heap.size w wr
  bt : Bx wr w.heap.size (.int .i64 k) (.bool x) t1 t2 t3
  br : Bx wr (w.heap.size + 1) (.int .i64 0) (.bool false) (.slice none 0 0) (.slice none 0 0) (.slice none 0 0)
  bc : Bx wr (w.heap.size + 1 + 1) (.int .i64 k) (.bool x) v1 vn vk
  dat : wr.ownsRow (w.heap.size + 3) 5 1 v1 d.size (byteVals d)
  datZ : ∀ g, v1.ownBlock = some g → g < Z
  cl : Cl Z wr vn vk ns ks p q
  z1 : w.heap.size + 3 ≤ Z
  z2 : Z ≤ wr.heap.size
theorem ClW.name {w wr w2 : World} {Z : Nat} {k : Int} {x : Bool} {d : ByteArray} {ns : List ByteArray} {ks : List Tr} {t1 t2 t3 v1 vn vk vn' : Value} {p p' q : Nat} (h : ClW w wr Z k x d ns ks t1 t2 t3 v1 vn vk p q) (hb : Below Z wr w2) (hc : Cl Z w2 vn' vk ns ks p' q) :
    ClW w (w2.setCell ⟨w.heap.size + 1 + 1, 3, none⟩ vn') Z k x d ns ks t1 t2 t3 v1 vn' vk p' q := by
  obtain ⟨h1, h2, h3, h4, h5, h6, h7, h8, h9⟩ := h
  have hz := hb.size
  refine ⟨(h1.trans (hb.mono (by omega))).setCell (by simp; omega) _, (h2.kept hb (by omega)).of (set_other _ _ _ _ _ (by omega)), (h3.kept hb (by omega)).of (set_other _ _ _ _ _ (by omega)), (h4.kept hb (by omega)).set3 _, ?_, h6, hc.same (fun k hk _ => set_other _ _ _ _ _ (by omega)) (by simp), h8, by simp; omega⟩
  exact owns_same h5 (fun g hg => by rw [set_other _ _ _ _ _ (by have := (owns_lt h5 g hg).1; omega), hb.block g (h6 g hg)]) (fun _ _ h => h)
theorem ClW.kid {w wr w2 : World} {Z : Nat} {k : Int} {x : Bool} {d : ByteArray} {ns : List ByteArray} {ks : List Tr} {t1 t2 t3 v1 vn vk vk' : Value} {p q q' : Nat} (h : ClW w wr Z k x d ns ks t1 t2 t3 v1 vn vk p q) (hb : Below Z wr w2) (hc : Cl Z w2 vn vk' ns ks p q') :
    ClW w (w2.setCell ⟨w.heap.size + 1 + 1, 4, none⟩ vk') Z k x d ns ks t1 t2 t3 v1 vn vk' p q' := by
  obtain ⟨h1, h2, h3, h4, h5, h6, h7, h8, h9⟩ := h
  have hz := hb.size
  refine ⟨(h1.trans (hb.mono (by omega))).setCell (by simp; omega) _, (h2.kept hb (by omega)).of (set_other _ _ _ _ _ (by omega)), (h3.kept hb (by omega)).of (set_other _ _ _ _ _ (by omega)), (h4.kept hb (by omega)).set4 _, ?_, h6, hc.same (fun k hk _ => set_other _ _ _ _ _ (by omega)) (by simp), h8, by simp; omega⟩
  exact owns_same h5 (fun g hg => by rw [set_other _ _ _ _ _ (by have := (owns_lt h5 g hg).1; omega), hb.block g (h6 g hg)]) (fun _ _ h => h)
theorem ClW.drew {w wr : World} {Z : Nat} {k : Int} {x : Bool} {d : ByteArray} {ns : List ByteArray} {ks : List Tr} {t1 t2 t3 v1 vn vk : Value} {p q : Nat} (h : ClW w wr Z k x d ns ks t1 t2 t3 v1 vn vk p q) : ClW w wr.drew Z k x d ns ks t1 t2 t3 v1 vn vk p q := by
  obtain ⟨h1, h2, h3, h4, h5, h6, h7, h8, h9⟩ := h
  exact ⟨h1.drew, h2, h3, h4, h5, h6, h7.same (fun _ _ _ => rfl) (Nat.le_refl _), h8, h9⟩
set_option maxRecDepth 20000 in
set_option maxHeartbeats 2000000 in
theorem clone_any (T : Tr) : ∀ (lo hi : Nat) (cs : List Value) (w : World), Lies lo hi w T cs → wt T ≤ 100000 → hi ≤ w.heap.size → Ev T →
    Calls Tryd.prog 39 #[.agg cs.toArray] w fun e w' => ∃ cs', e = .returned (.agg cs'.toArray) ∧ Below w.heap.size w w' ∧ Own w' w.heap.size w'.heap.size T cs' := by
  induction T using Tr.ind with
  | h k x d ns ks ih =>
  intro lo hi cs w hL hW hhi hev
  have hSm := small_of hW
  obtain ⟨hlen, hevk⟩ : ns.length = ks.length ∧ ∀ t ∈ ks, Ev t := by cases hev with | mk _ _ _ _ _ h1 h2 => exact ⟨h1, h2⟩
  clear hev
  cases hL with
  | mk _ _ _ _ _ vd vn vk Ks hl hd hn hk hK =>
  obtain ⟨ad, cd, rfl, hcd⟩ := hd.slice
  obtain ⟨an, cn, rfl, hcn⟩ := hn.slice
  obtain ⟨ak, ck, rfl, hck⟩ := hk.slice
  have hW3 : ∃ w3, w3 = ((w.alloc (.cells #[.int .i64 k, .bool x, .slice ad d.size cd, .slice an ns.length cn, .slice ak ks.length ck] 26)).alloc (.cells #[.int .i64 0, .bool false, .slice none 0 0, .slice none 0 0, .slice none 0 0] 26)).alloc (.cells #[.int .i64 k, .bool x, .slice none 0 0, .slice none 0 0, .slice none 0 0] 26) := ⟨_, rfl⟩
  obtain ⟨w3, hw3⟩ := hW3
  have hs3 : w3.heap.size = w.heap.size + 3 := by rw [hw3]; simp
  have hb3 : Below w.heap.size w w3 := by rw [hw3]; exact (((Below.refl _ _).alloc (Nat.le_refl _) _).alloc (by simp) _).alloc (by simp; omega) _
  have hbt : Bx w3 w.heap.size (.int .i64 k) (.bool x) (.slice ad d.size cd) (.slice an ns.length cn) (.slice ak ks.length ck) := by
    rw [hw3]
    exact (bx_new w _ _ _ _ _).kept (((Below.refl (w.heap.size + 1) _).alloc (by simp) _).alloc (by simp) _) (by omega)
  have hbr : Bx w3 (w.heap.size + 1) (.int .i64 0) (.bool false) (.slice none 0 0) (.slice none 0 0) (.slice none 0 0) := by
    rw [hw3]
    have := (bx_new (w.alloc (.cells #[.int .i64 k, .bool x, .slice ad d.size cd, .slice an ns.length cn, .slice ak ks.length ck] 26)) (.int .i64 0) (.bool false) (.slice none 0 0) (.slice none 0 0) (.slice none 0 0)).kept ((Below.refl (w.heap.size + 1 + 1) _).alloc (by simp) (.cells #[.int .i64 k, .bool x, .slice none 0 0, .slice none 0 0, .slice none 0 0] 26)) (by simp)
    simpa using this
  have hbc : Bx w3 (w.heap.size + 1 + 1) (.int .i64 k) (.bool x) (.slice none 0 0) (.slice none 0 0) (.slice none 0 0) := by
    rw [hw3]
    have := bx_new ((w.alloc (.cells #[.int .i64 k, .bool x, .slice ad d.size cd, .slice an ns.length cn, .slice ak ks.length ck] 26)).alloc (.cells #[.int .i64 0, .bool false, .slice none 0 0, .slice none 0 0, .slice none 0 0] 26)) (.int .i64 k) (.bool x) (.slice none 0 0) (.slice none 0 0) (.slice none 0 0)
    simpa using this
  obtain ⟨a1, c1, w4, happ1, hb4, ho4⟩ := onto22 w3 lo hi ad d.size cd (byteVals d) (hd.below hb3 hhi) (byteVals_length d) (one_bytes d) (by have := hSm.d; omega)
  have hs4 := hb4.size
  obtain ⟨c0, c1', c2, c3, c4⟩ := (hbc.kept hb4 (by omega)).cells
  have f2 := (hbc.kept hb4 (by omega)).fr 2
  obtain ⟨t0, t1, t2, t3, t4⟩ := (hbt.kept hb4 (by omega)).cells
  rw [hw3] at happ1
  obtain ⟨N, hN⟩ : ∃ N, ns.length = N := ⟨_, rfl⟩
  have hNk : ks.length = N := by rw [← hlen]; exact hN
  have hN1 : N ≤ 100000 := by rw [← hN]; exact hSm.n
  rw [hN] at hn hcn happ1 t3
  rw [hNk] at hk hck happ1 t4 hl
  have HR := hide (And.intro hn (And.intro hk (And.intro hl hK)))
  have HSm := hide hSm
  have HN := hide (And.intro hN hNk)
  have HS := hide (And.intro hs3 (And.intro hs4 (And.intro (hb3.trans (hb4.mono (by omega))) (And.intro (hbt.kept hb4 (by omega)) (And.intro (hbr.kept hb4 (by omega)) (And.intro (hbc.kept hb4 (by omega)) ho4))))))
  rw [hN, hNk] at HS
  have hl4 : w.heap.size + 1 + 1 < w4.heap.size := by omega
  have hl5 : w.heap.size < w4.heap.size := by omega
  have HG1 := hide (fun w => grow23_nil N w (by omega))
  have HG2 := hide (fun w => grow24_nil N w (by omega))
  rw [hN, hNk]
  clear hN hNk hlen hn hk hl hK hSm hs3 hs4 hb3 hb4 hbt hbr hbc ho4 hd hw3 hcd
  go_enter Tryd.func39, Tryd.ntmps39
  go_wp2_with fail
  obtain ⟨hs3, hs4, hold4, hbt4, hbr4, hbc4, ho4⟩ := unhide HS
  clear HS happ1 c0 c1' c2 c3 c4 f2 t0 t1 t2 t3 t4
  obtain ⟨wA, hwA⟩ : ∃ wA, wA = w4.setCell ⟨w.heap.size + 1 + 1, 2, none⟩ (.slice a1 d.size c1) := ⟨_, rfl⟩
  have hsA : wA.heap.size = w4.heap.size := by rw [hwA]; simp
  have holdA : Below w.heap.size w wA := by rw [hwA]; exact hold4.setCell (by simp; omega) _
  have hbtA : Bx wA w.heap.size (.int .i64 k) (.bool x) (.slice ad d.size cd) (.slice an N cn) (.slice ak N ck) := by rw [hwA]; exact hbt4.of (set_other _ _ _ _ _ (by omega))
  have hbrA : Bx wA (w.heap.size + 1) (.int .i64 0) (.bool false) (.slice none 0 0) (.slice none 0 0) (.slice none 0 0) := by rw [hwA]; exact hbr4.of (set_other _ _ _ _ _ (by omega))
  have hbcA : Bx wA (w.heap.size + 1 + 1) (.int .i64 k) (.bool x) (.slice a1 d.size c1) (.slice none 0 0) (.slice none 0 0) := by rw [hwA]; exact hbc4.set2 _
  have hoA : wA.ownsRow (w.heap.size + 3) 5 1 (.slice a1 d.size c1) d.size (byteVals d) := by rw [hwA]; exact owns_same ho4 (fun g hg => set_other _ _ _ _ _ (by have := (owns_lt ho4 g hg).1; omega)) (fun _ _ h => by omega)
  rw [← hwA]
  clear hwA hold4 hbt4 hbr4 hbc4 ho4
  refine (unhide HG1 _).mono ?_
  rintro e w5 ⟨a2, c2, rfl, ho5, hb5, hcap5, _⟩
  have hs5 := hb5.size
  obtain ⟨c0, c1', c2', c3, c4⟩ := (hbcA.kept hb5 (by omega)).cells
  obtain ⟨t0, t1, t2, t3, t4⟩ := (hbtA.kept hb5 (by omega)).cells
  have f3 := (hbcA.kept hb5 (by omega)).fr 3
  have hl6 : w.heap.size + 1 + 1 < w5.heap.size := by omega
  have hl7 : w.heap.size < w5.heap.size := by omega
  have HS5 := hide (And.intro hs5 (And.intro ho5 hb5))
  have HA := hide (And.intro hs3 (And.intro hs4 (And.intro hsA (And.intro holdA (And.intro hbtA (And.intro hbrA (And.intro hbcA hoA)))))))
  clear ho5 hb5 hs5 hs3 hs4 hsA holdA hbtA hbrA hbcA hoA
  go_wp2_with fail
  obtain ⟨wB, hwB⟩ : ∃ wB, wB = w5.setCell ⟨w.heap.size + 1 + 1, 3, none⟩ (.slice a2 0 c2) := ⟨_, rfl⟩
  rw [← hwB]
  have hsB : wB.heap.size = w5.heap.size := by rw [hwB]; simp
  refine (unhide HG2 _).mono ?_
  rintro e w6 ⟨a3, c3', rfl, ho6, hb6, hcap6, _⟩
  obtain ⟨hs3, hs4, hsA, holdA, hbtA, hbrA, hbcA, hoA⟩ := unhide HA
  obtain ⟨hs5, ho5, hb5⟩ := unhide HS5
  have hs6 := hb6.size
  have hbcB : Bx wB (w.heap.size + 1 + 1) (.int .i64 k) (.bool x) (.slice a1 d.size c1) (.slice a2 0 c2) (.slice none 0 0) := by rw [hwB]; exact (hbcA.kept hb5 (by omega)).set3 _
  have hbtB : Bx wB w.heap.size (.int .i64 k) (.bool x) (.slice ad d.size cd) (.slice an N cn) (.slice ak N ck) := by rw [hwB]; exact (hbtA.kept hb5 (by omega)).of (set_other _ _ _ _ _ (by omega))
  have hbrB : Bx wB (w.heap.size + 1) (.int .i64 0) (.bool false) (.slice none 0 0) (.slice none 0 0) (.slice none 0 0) := by rw [hwB]; exact (hbrA.kept hb5 (by omega)).of (set_other _ _ _ _ _ (by omega))
  have holdB : Below w.heap.size w wB := by rw [hwB]; exact (holdA.trans (hb5.mono (by omega))).setCell (by simp; omega) _
  have hoB : wB.ownsRow (w.heap.size + 3) 5 1 (.slice a1 d.size c1) d.size (byteVals d) := by rw [hwB]; exact owns_same hoA (fun g hg => by rw [set_other _ _ _ _ _ (by have := (owns_lt hoA g hg).1; omega), hb5.block g (owns_lt hoA g hg).2]) (fun _ _ h => h)
  have hnB : wB.ownsRow wA.heap.size 9 1 (.slice a2 0 c2) 0 [] := by rw [hwB]; exact owns_same ho5 (fun g hg => set_other _ _ _ _ _ (by have := (owns_lt ho5 g hg).1; omega)) (fun _ _ h => h)
  have hCl : Cl wA.heap.size w6 (.slice a2 0 c2) (.slice a3 0 c3') ns ks 0 0 := by
    refine ⟨?_, ⟨[], fun _ => 0, fun _ => 0, rfl, fun c hc => by simp at hc, owns_same ho6 (fun _ _ => rfl) (fun _ _ h => by omega), fun j t c _ hc => by simp at hc, fun i j _ h => by omega⟩, fun g hg e => ?_⟩
    · exact owns_same hnB (fun g hg => hb6.block g (owns_lt hnB g hg).2) (fun _ _ h => h)
    · have h1 := (owns_lt ho6 g hg).1
      have h2 := (owns_lt hnB g e).2
      omega
  have HC0 : Hid (ClW w (w6.setCell ⟨w.heap.size + 1 + 1, 4, none⟩ (.slice a3 0 c3')) wA.heap.size k x d ns ks (.slice ad d.size cd) (.slice an N cn) (.slice ak N ck) (.slice a1 d.size c1) (.slice a2 0 c2) (.slice a3 0 c3') 0 0) := by
    refine ⟨(holdB.trans (hb6.mono (by omega))).setCell (by simp; omega) _, (hbtB.kept hb6 (by omega)).of (set_other _ _ _ _ _ (by omega)), (hbrB.kept hb6 (by omega)).of (set_other _ _ _ _ _ (by omega)), (hbcB.kept hb6 (by omega)).set4 _, ?_, fun g hg => (owns_lt hoA g hg).2, hCl.same (fun k hk _ => set_other _ _ _ _ _ (by omega)) (by simp), by omega, by simp; omega⟩
    exact owns_same hoB (fun g hg => by rw [set_other _ _ _ _ _ (by have := (owns_lt hoB g hg).1; omega), hb6.block g (owns_lt hoB g hg).2]) (fun _ _ h => h)
  obtain ⟨e0, e1, e2, e3, e4⟩ := (hbcB.kept hb6 (by omega)).cells
  obtain ⟨u0, u1, u2, u3, u4⟩ := (hbtB.kept hb6 (by omega)).cells
  have f4 := (hbcB.kept hb6 (by omega)).fr 4
  clear hs3 hs4 hsA holdA hbtA hbrA hbcA hoA hs5 ho5 hb5 hs6 hbcB hbtB hbrB holdB hoB hnB hCl ho6 hb6 HA HS5 HG1 HG2 hwB hsB c0 c1' c2' c3 c4 t0 t1 t2 t3 t4 f3 hcap5 hcap6
  go_wp2_with fail
  clear e0 e1 e2 e3 e4 u0 u1 u2 u3 u4 f4 hl4 hl5 hl6 hl7
  obtain ⟨Z, hZ⟩ : ∃ Z, Z = wA.heap.size := ⟨_, rfl⟩
  rw [← hZ] at HC0
  clear hZ
  go_loopw [34] (fun vi wr => ∃ (i : Nat) (av av' : Option Addr) (cv cv' : Nat), i ≤ N ∧ vi = .int .i64 (i : Int) ∧ ClW w wr Z k x d ns ks (.slice ad d.size cd) (.slice an N cn) (.slice ak N ck) (.slice a1 d.size c1) (.slice av i cv) (.slice av' i cv') i i) (fun vi _ => N - (intOf vi).toNat)
  case atStart => exact ⟨0, _, _, _, _, by omega, rfl, unhide HC0⟩
  case round =>
    clear HC0
    obtain ⟨i, av, av', cv, cv', hiN, rfl, hW⟩ := hrel
    obtain ⟨y0, y1, y2, y3, y4⟩ := hW.bt.cells
    obtain ⟨x0, x1, x2, x3, x4⟩ := hW.bc.cells
    have hz2 := hW.z2
    have hz1 := hW.z1
    have hl4 : w.heap.size + 1 + 1 < wr.heap.size := by omega
    have hl5 : w.heap.size < wr.heap.size := by omega
    by_cases hlt : i < N
    · have hn1 : i < ns.length := by rw [(unhide HN).1]; exact hlt
      have hk1 : i < ks.length := by rw [(unhide HN).2]; exact hlt
      obtain ⟨g, o, rfl, hg1, hg2, hcell⟩ := (unhide HR).1.at (by omega)
      obtain ⟨g', o', rfl, hg1', hg2', hcell'⟩ := (unhide HR).2.1.at (by omega)
      obtain ⟨hl, hK⟩ := (unhide HR).2.2
      have hci : wr.cell? ⟨g, o + i, none⟩ = some (.string ns[i]) := by rw [hW.old.cell (p := ⟨g, o + i, none⟩) (show g < w.heap.size by omega)]; exact hcell i _ (by simp [List.getElem?_eq_getElem hn1])
      have HSc := hide (fun w => sclone_any ns[i] w (by have := (unhide HSm).s ns[i] (List.getElem_mem hn1); omega))
      have HTn : Hid (ns[i]? = some ns[i]) := List.getElem?_eq_getElem hn1
      have HTk : Hid (ks[i]? = some ks[i]) := List.getElem?_eq_getElem hk1
      have HW := hide hW
      have HKi : Hid (∀ w' : World, Below w.heap.size w w' → ∃ k' x' b1 n1 d1 b2 n2 d2 b3 n3 d3, Lies lo hi w' ks[i] [.int .i64 k', .bool x', .slice b1 n1 d1, .slice b2 n2 d2, .slice b3 n3 d3] ∧ w'.cell? ⟨g', o' + i * 5, none⟩ = some (.int .i64 k') ∧ w'.cell? ⟨g', o' + i * 5 + 1, none⟩ = some (.bool x') ∧ w'.cell? ⟨g', o' + i * 5 + 2, none⟩ = some (.slice b1 n1 d1) ∧ w'.cell? ⟨g', o' + i * 5 + 3, none⟩ = some (.slice b2 n2 d2) ∧ w'.cell? ⟨g', o' + i * 5 + 4, none⟩ = some (.slice b3 n3 d3)) := fun w' hw' =>
        kid_sl (hl.trans (unhide HN).2.symm) (fun j u hj => by rw [hw'.cell (p := ⟨g', o' + j, none⟩) (show g' < w.heap.size by omega)]; exact hcell' j u hj) (fun i t c h1 h2 => (hK i t c h1 h2).kept hw' hhi) i hk1
      have HI : Hid (∀ (w' : World) (cs : List Value), Lies lo hi w' ks[i] cs → hi ≤ w'.heap.size → _) := fun w' cs h1 h2 => ih ks[i] (List.getElem_mem hk1) lo hi cs w' h1 ((unhide HSm).t _ (List.getElem_mem hk1)) h2 (hevk _ (List.getElem_mem hk1))
      clear hcell hcell' hl hK hW
      generalize ns[i] = s at *
      generalize ks[i] = t at *
      clear hn1 hk1
      go_wp2_with fail
      go_region_law (go_simp; refine (unhide HSc wr.drew).mono ?_; rintro e w7 ⟨rfl, hb7⟩; obtain ⟨a7, c7, w8, happ7, hCl7, hb8, hs8⟩ := cl_name s (unhide HW).cl (below_drew' hb7) (unhide HTn) (by omega) hz2; have hl7 : w.heap.size + 1 + 1 < w7.heap.size := Nat.lt_of_lt_of_le hl4 hb7.size; obtain ⟨x0', x1', x2', x3', x4'⟩ := ((unhide HW).bc.kept (below_drew' hb7) hl4).cells; obtain ⟨q0, q1, q2, q3, q4⟩ := ((unhide HW).bc.kept hb8 (by omega)).cells; have f8 := ((unhide HW).bc.kept hb8 (by omega)).fr 3)
      all_goals
        have HW8 := hide ((unhide HW).name hb8 hCl7)
        clear happ7 hCl7 hb8 hs8 x0' x1' x2' x3' x4' q0 q1 q2 q3 q4 f8 hb7 hl7 y0 y1 y2 y3 y4 x0 x1 x2 x3 x4 hz2 hz1 hl4 hl5 hci HSc HTn
        generalize w8.setCell ⟨w.heap.size + 1 + 1, 3, none⟩ (.slice a7 (i + 1) c7) = w9 at *
        obtain ⟨y0, y1, y2, y3, y4⟩ := (unhide HW8).bt.cells
        obtain ⟨x0, x1, x2, x3, x4⟩ := (unhide HW8).bc.cells
        have hz2 := (unhide HW8).z2
        have hz1 := (unhide HW8).z1
        have hl4 : w.heap.size + 1 + 1 < w9.heap.size := by omega
        have hl5 : w.heap.size < w9.heap.size := by omega
        obtain ⟨k', x', b1, n1, d1, b2, n2, d2, b3, n3, d3, hLi, m0, m1, m2, m3, m4⟩ := unhide HKi w9 (unhide HW8).old
        have HLi := hide hLi
        clear hLi
        go_wp2_with fail
        go_region_law (go_simp; refine (unhide HI w9.drew _ ((unhide HLi).same (fun _ _ _ => rfl)) (Nat.le_trans hhi (Nat.le_of_lt hl5))).mono ?_; rintro e w10 ⟨cs10, rfl, hb10, hO10⟩; obtain ⟨k10, x10, r1, r2, r3, r4, r5, r6, r7, r8, r9, rfl⟩ := hO10.lies.form; obtain ⟨a11, c11, w11, happ11, hCl11, hb11, hs11⟩ := cl_kid (unhide HW8).cl (below_drew' hb10) hO10 (unhide HTk) (by omega) hz2; have hl10 : w.heap.size + 1 + 1 < w10.heap.size := Nat.lt_of_lt_of_le hl4 hb10.size; obtain ⟨x0', x1', x2', x3', x4'⟩ := ((unhide HW8).bc.kept (below_drew' hb10) hl4).cells; obtain ⟨q0, q1, q2, q3, q4⟩ := ((unhide HW8).bc.kept hb11 (by omega)).cells; have f11 := ((unhide HW8).bc.kept hb11 (by omega)).fr 4)
        all_goals
          have HW11 := hide ((unhide HW8).kid hb11 hCl11)
          clear happ11 hCl11 hb11 hs11 x0' x1' x2' x3' x4' q0 q1 q2 q3 q4 f11 hb10 hl10 hO10
          go_wp2_with fail
          go_roundw
          case rel => exact ⟨i + 1, _, _, _, _, by omega, by go_num, unhide HW11⟩
          case measure => simp [intOf]; omega
    · obtain rfl : i = N := by omega
      obtain ⟨r0, r1, r2, r3, r4⟩ := hW.br.cells
      have g0 := hW.br.fr 0
      have g1 := hW.br.fr 1
      have g2 := hW.br.fr 2
      have g3 := hW.br.fr 3
      have g4 := hW.br.fr 4
      have HW := hide hW
      clear hW
      go_wp2_with fail
      refine bodyPost_ret (v := .agg #[.int .i64 k, .bool x, .slice a1 d.size c1, .slice av i cv, .slice av' i cv']) (by simp [results, Tryd.results39, go_sem, r0, r1, r2, r3, r4]) rfl ⟨[.int .i64 k, .bool x, .slice a1 d.size c1, .slice av i cv, .slice av' i cv'], rfl, ?_, ?_⟩
      · exact ((((((unhide HW).old.setCell (by simp) _).setCell (by simp) _).setCell (by simp) _).setCell (by simp) _).setCell (by simp) _)
      · have hother : ∀ k', w.heap.size + 1 + 1 ≤ k' → (((((wr.setCell ⟨w.heap.size + 1, 0, none⟩ (.int .i64 k)).setCell ⟨w.heap.size + 1, 1, none⟩ (.bool x)).setCell ⟨w.heap.size + 1, 2, none⟩ (.slice a1 d.size c1)).setCell ⟨w.heap.size + 1, 3, none⟩ (.slice av i cv)).setCell ⟨w.heap.size + 1, 4, none⟩ (.slice av' i cv')).heap[k']? = wr.heap[k']? := fun k' hk' => by
          rw [set_other _ _ _ _ _ (by omega), set_other _ _ _ _ _ (by omega), set_other _ _ _ _ _ (by omega), set_other _ _ _ _ _ (by omega), set_other _ _ _ _ _ (by omega)]
        have hsz : (((((wr.setCell ⟨w.heap.size + 1, 0, none⟩ (.int .i64 k)).setCell ⟨w.heap.size + 1, 1, none⟩ (.bool x)).setCell ⟨w.heap.size + 1, 2, none⟩ (.slice a1 d.size c1)).setCell ⟨w.heap.size + 1, 3, none⟩ (.slice av i cv)).setCell ⟨w.heap.size + 1, 4, none⟩ (.slice av' i cv')).heap.size = wr.heap.size := by simp
        generalize (((((wr.setCell ⟨w.heap.size + 1, 0, none⟩ (.int .i64 k)).setCell ⟨w.heap.size + 1, 1, none⟩ (.bool x)).setCell ⟨w.heap.size + 1, 2, none⟩ (.slice a1 d.size c1)).setCell ⟨w.heap.size + 1, 3, none⟩ (.slice av i cv)).setCell ⟨w.heap.size + 1, 4, none⟩ (.slice av' i cv')) = wF at *
        obtain ⟨h1, h2, h3, h4, h5, h6, h7, h8, h9⟩ := unhide HW
        have h7' : Cl Z wF (.slice av i cv) (.slice av' i cv') ns ks ns.length ks.length := by
          rw [(unhide HN).1, (unhide HN).2]
          exact h7.same (fun k' hk _ => hother k' (by omega)) (by omega)
        have h5' : wF.ownsRow (w.heap.size + 3) 5 1 (.slice a1 d.size c1) d.size (byteVals d) := owns_same h5 (fun g hg => hother g (by have := (owns_lt h5 g hg).1; omega)) (fun _ _ h => h)
        exact (cl_end h7' h5' h6 h8).mono (by omega) (Nat.le_refl _)
end Go.Proofs.YthfjofmfiklegaaDoor
