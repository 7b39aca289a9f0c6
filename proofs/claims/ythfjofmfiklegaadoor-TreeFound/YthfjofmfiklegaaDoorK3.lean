import Derived.Test.YthfjofmfiklegaaDoorK2
import Derived.Deep.RegionLaw
import Derived.Test.YthfjofmfiklegaaDoorK1
import Derived.OwnWalk
import Derived.RangeFuncNested
import Derived.RangeFuncBound
import Derived.RangeFuncCalls
import Derived.RangeFuncLeaves
import Derived.Shelf.Abstract
import Derived.Shelf.RegionOpen
import Derived.WalkKit
import Derived.OwnWalkIn
import Derived.TacticsInMore
import Derived.LoopNIn
import Derived.LoopIn
/- Clone, in the document's own answer. -/
namespace Go.Proofs.YthfjofmfiklegaaDoor
open Go.RowKit
set_option maxRecDepth 20000 in
set_option maxHeartbeats 1000000 in
theorem cloneR_any (T : Tr) : ∀ (lo hi : Nat) (cs : List Value) (w : World), Lies lo hi w T cs → wt T ≤ 100000 → hi ≤ w.heap.size →
    Calls Tryd.prog 10 #[.agg cs.toArray] w fun e w' => ∃ cs', e = .returned (.agg cs'.toArray) ∧ Below w.heap.size w w' ∧ Lies w.heap.size w'.heap.size w' T cs' := by
  induction T using Tr.ind with
  | h k x d ns ks ih =>
  intro lo hi cs w hL hW hhi
  have hSm := small_of hW
  cases hL with
  | mk _ _ _ _ _ vd vn vk Ks hl hd hn hk hK =>
  obtain ⟨ad, cd, rfl, hcd⟩ := hd.slice
  obtain ⟨an, cn, rfl, hcn⟩ := hn.slice
  obtain ⟨ak, ck, rfl, hck⟩ := hk.slice
  have hkl := hSm.k
  have HSm := hide hSm
  have HR := hide (And.intro hd (And.intro hn (And.intro hk (And.intro hl hK))))
  have hbx0 := bx_new w (.int .i64 k) (.bool x) (.slice ad d.size cd) (.slice an ns.length cn) (.slice ak ks.length ck)
  have hbx1 : Bx ((w.alloc (.cells #[.int .i64 k, .bool x, .slice ad d.size cd, .slice an ns.length cn, .slice ak ks.length ck] 26)).alloc (.cells #[.int .i64 0, .bool false, .slice none 0 0, .slice none 0 0, .slice none 0 0] 26)) (w.heap.size + 1) (.int .i64 0) (.bool false) (.slice none 0 0) (.slice none 0 0) (.slice none 0 0) := by
    have := bx_new (w.alloc (.cells #[.int .i64 k, .bool x, .slice ad d.size cd, .slice an ns.length cn, .slice ak ks.length ck] 26)) (.int .i64 0) (.bool false) (.slice none 0 0) (.slice none 0 0) (.slice none 0 0)
    rwa [World.size_alloc] at this
  have hbw0 : Below w.heap.size w ((w.alloc (.cells #[.int .i64 k, .bool x, .slice ad d.size cd, .slice an ns.length cn, .slice ak ks.length ck] 26)).alloc (.cells #[.int .i64 0, .bool false, .slice none 0 0, .slice none 0 0, .slice none 0 0] 26)) := ((Below.refl _ _).alloc (Nat.le_refl _) _).alloc (by simp) _
  have hbx2 : Bx ((w.alloc (.cells #[.int .i64 k, .bool x, .slice ad d.size cd, .slice an ns.length cn, .slice ak ks.length ck] 26)).alloc (.cells #[.int .i64 0, .bool false, .slice none 0 0, .slice none 0 0, .slice none 0 0] 26)) w.heap.size (.int .i64 k) (.bool x) (.slice ad d.size cd) (.slice an ns.length cn) (.slice ak ks.length ck) := hbx0.kept ((Below.refl (w.heap.size + 1) _).alloc (by simp) _) (by omega)
  obtain ⟨a1, c1, w1, happ1, hb1, hr1⟩ := fresh22 _ lo hi ad d.size cd (byteVals d) (hd.below hbw0 hhi) (byteVals_length d) (one_bytes d) (by have := hSm.d; omega) (by simp; omega)
  have hs1 := hb1.size
  have hbw1 : Below w.heap.size w w1 := hbw0.trans (hb1.mono (by simp; omega))
  have hbx3 := hbx2.kept hb1 (by simp; omega)
  have hbx4 := hbx1.kept hb1 (by simp)
  simp only [World.size_alloc] at happ1 hr1 hs1
  have hl1 : w.heap.size < w1.heap.size := by omega
  obtain ⟨z0, z1, z2, z3, z4⟩ := hbx3.cells
  have f2 := hbx3.fr 2
  -- the names
  obtain ⟨wB, hwB⟩ : ∃ wB, wB = w1.setCell ⟨w.heap.size, 2, none⟩ (.slice a1 d.size c1) := ⟨_, rfl⟩
  have hsB : wB.heap.size = w1.heap.size := by rw [hwB]; simp
  have hbwB : Below w.heap.size w wB := by rw [hwB]; exact hbw1.setCell (by simp) _
  have hbxB : Bx wB w.heap.size (.int .i64 k) (.bool x) (.slice a1 d.size c1) (.slice an ns.length cn) (.slice ak ks.length ck) := by rw [hwB]; exact hbx3.set2 _
  have hbrB : Bx wB (w.heap.size + 1) (.int .i64 0) (.bool false) (.slice none 0 0) (.slice none 0 0) (.slice none 0 0) := by rw [hwB]; exact hbx4.of (set_other _ _ _ _ _ (by omega))
  have hrB : Row (w.heap.size + 1 + 1) w1.heap.size wB (.slice a1 d.size c1) d.size (byteVals d) := by rw [hwB]; exact hr1.same (fun k hk _ => set_other _ _ _ _ _ (by omega))
  obtain ⟨a2, c2, w2, happ2, hb2, hr2⟩ := fresh23 wB lo hi an ns.length cn (ns.map .string) (hn.below hbwB hhi) (by simp) (one_strs ns) (by have := hSm.n; omega) (by omega)
  have hs2 := hb2.size
  have hbw2 : Below w.heap.size w w2 := hbwB.trans (hb2.mono (by omega))
  have hbx5 := hbxB.kept hb2 (by omega)
  have hbr5 := hbrB.kept hb2 (by omega)
  have hd5 := hrB.below hb2 (by omega)
  have hl2 : w.heap.size < w2.heap.size := by omega
  obtain ⟨y0, y1, y2, y3, y4⟩ := hbx5.cells
  have f3 := hbx5.fr 3
  rw [hsB] at happ2 hr2
  rw [hwB] at happ2
  -- what stands ahead of the kids
  obtain ⟨wC, hwC⟩ : ∃ wC, wC = w2.setCell ⟨w.heap.size, 3, none⟩ (.slice a2 ns.length c2) := ⟨_, rfl⟩
  have hsC : wC.heap.size = w2.heap.size := by rw [hwC]; simp
  have hbwC : Below w.heap.size w wC := by rw [hwC]; exact hbw2.setCell (by simp) _
  have hbxC : Bx wC w.heap.size (.int .i64 k) (.bool x) (.slice a1 d.size c1) (.slice a2 ns.length c2) (.slice ak ks.length ck) := by rw [hwC]; exact hbx5.set3 _
  have hbrC : Bx wC (w.heap.size + 1) (.int .i64 0) (.bool false) (.slice none 0 0) (.slice none 0 0) (.slice none 0 0) := by rw [hwC]; exact hbr5.of (set_other _ _ _ _ _ (by omega))
  have hdC : Row (w.heap.size + 1 + 1) wC.heap.size wC (.slice a1 d.size c1) d.size (byteVals d) := by
    rw [hsC]
    refine Row.mono (lo := w.heap.size + 1 + 1) (hi := w1.heap.size) ?_ (Nat.le_refl _) (by omega)
    rw [hwC]; exact hd5.same (fun k hk _ => set_other _ _ _ _ _ (by omega))
  have hnC : Row (w.heap.size + 1 + 1) wC.heap.size wC (.slice a2 ns.length c2) ns.length (ns.map .string) := by
    rw [hsC]
    refine Row.mono (lo := w1.heap.size) (hi := w2.heap.size) ?_ (by omega) (Nat.le_refl _)
    rw [hwC]; exact hr2.same (fun k hk _ => set_other _ _ _ _ _ (by omega))
  have hlC : w.heap.size + 1 + 1 ≤ wC.heap.size := by omega
  have HC := hide (And.intro hbwC (And.intro hbxC (And.intro hbrC (And.intro hdC hnC))))
  have HwC := hide hwC
  clear hbx0 hbx1 hbx2 hbx3 hbx4 hr1 hb1 hs1 hbw1 hbw0 hd hn hk hl hK hSm hwB hsB hbwB hbxB hbrB hrB hb2 hr2 hs2 hbw2 hbx5 hbr5 hd5 hsC hbwC hbxC hbrC hdC hnC hwC
  go_enter Tryd.func10, Tryd.ntmps10
  go_wp2_with fail
  rw [← unhide HwC]
  clear happ1 happ2 z0 z1 z2 z3 z4 f2 y0 y1 y2 y3 y4 f3 HwC
  go_loopw [3, 4] (fun vk vi wr => ∃ i : Nat, i ≤ ks.length ∧ vi = .int .i64 (i : Int) ∧ (∃ a c, vk = .slice a i c) ∧ KidsAt wC.heap.size wr vk ks i ∧ Below wC.heap.size wC wr) (fun _ vi _ => ks.length - (intOf vi).toNat)
  case atStart => exact ⟨0, by omega, rfl, ⟨_, _, rfl⟩, kids_none _ _ _, Below.refl _ _⟩
  case round =>
    obtain ⟨i, hik, rfl, ⟨av, cv, rfl⟩, hKi, hbr⟩ := hrel
    have hszr := hbr.size
    obtain ⟨z0, z1, z2, z3, z4⟩ := ((unhide HC).2.1.kept hbr (by omega)).cells
    by_cases hlt : i < ks.length
    · obtain ⟨-, -, hk, hl, hK⟩ := unhide HR
      obtain ⟨g, o, rfl, hg1, hg2, hcell⟩ := hk.at (by omega)
      have hbel : Below w.heap.size w wr := (unhide HC).1.trans (hbr.mono (by omega))
      have hcell' : ∀ j u, Ks.flatten[j]? = some u → wr.cell? ⟨g, o + j, none⟩ = some u := fun j u hj => by rw [hbel.cell (p := ⟨g, o + j, none⟩) (show g < w.heap.size by omega)]; exact hcell j u hj
      obtain ⟨k', x', b1, n1, c1', b2, n2, c2', b3, n3, c3', hLi, y0, y1, y2, y3, y4⟩ := kid_sl hl hcell' (fun i t c h1 h2 => (hK i t c h1 h2).kept hbel hhi) i hlt
      have HI := hide (ih ks[i] (List.getElem_mem hlt) lo hi _ wr hLi ((unhide HSm).t _ (List.getElem_mem hlt)) (by omega))
      have HKi := hide hKi
      have HT : Hid (ks[i]? = some ks[i]) := List.getElem?_eq_getElem hlt
      clear hcell hcell' hl hK hLi hk hbel hKi
      generalize ks[i] = t at *
      go_wp2_with fail
      refine (unhide HI).mono ?_
      rintro e w3 ⟨cs3, rfl, hb3, hL3⟩
      obtain ⟨k3, x3, d1, m1, e1, d2, m2, e2, d3, m3, e3, rfl⟩ := hL3.form
      have hs3 := hb3.size
      obtain ⟨a', c', w4, happ, hK4, hb4⟩ := kids_step (unhide HKi) hb3 hL3 (unhide HT) (by omega) hszr
      have HN := hide (And.intro hK4 (hbr.trans hb4))
      clear hK4 hb4 hL3 hb3 HI HKi HT z0 z1 z2 z3 z4 y0 y1 y2 y3 y4
      go_wp2_with fail
      go_roundw
      case rel => exact ⟨i + 1, by omega, by go_num, ⟨_, _, rfl⟩, (unhide HN).1, (unhide HN).2⟩
      case measure => simp [intOf]; omega
    · obtain rfl : i = ks.length := by omega
      have f4 := ((unhide HC).2.1.kept hbr (by omega)).fr 4
      obtain ⟨x0, x1, x2, x3, x4⟩ := ((unhide HC).2.2.1.kept hbr (by omega)).cells
      have g0 := ((unhide HC).2.2.1.kept hbr (by omega)).fr 0
      have g1 := ((unhide HC).2.2.1.kept hbr (by omega)).fr 1
      have g2 := ((unhide HC).2.2.1.kept hbr (by omega)).fr 2
      have g3 := ((unhide HC).2.2.1.kept hbr (by omega)).fr 3
      have g4 := ((unhide HC).2.2.1.kept hbr (by omega)).fr 4
      have HKi := hide hKi
      clear hKi
      go_wp2_with fail
      refine bodyPost_ret (v := .agg #[.int .i64 k, .bool x, .slice a1 d.size c1, .slice a2 ns.length c2, .slice av ks.length cv]) (by simp [results, Tryd.results10, go_sem, x0, x1, x2, x3, x4]) rfl ⟨[.int .i64 k, .bool x, .slice a1 d.size c1, .slice a2 ns.length c2, .slice av ks.length cv], rfl, ?_, ?_⟩
      · exact ((((((((unhide HC).1.trans (hbr.mono (by omega))).setCell (by simp) _).setCell (by simp) _).setCell (by simp) _).setCell (by simp) _).setCell (by simp) _).setCell (by simp) _)
      · have hother : ∀ k', w.heap.size + 1 + 1 ≤ k' → ((((((wr.setCell ⟨w.heap.size, 4, none⟩ (.slice av ks.length cv)).setCell ⟨w.heap.size + 1, 0, none⟩ (.int .i64 k)).setCell ⟨w.heap.size + 1, 1, none⟩ (.bool x)).setCell ⟨w.heap.size + 1, 2, none⟩ (.slice a1 d.size c1)).setCell ⟨w.heap.size + 1, 3, none⟩ (.slice a2 ns.length c2)).setCell ⟨w.heap.size + 1, 4, none⟩ (.slice av ks.length cv)).heap[k']? = wr.heap[k']? := fun k' hk' => by
          rw [set_other _ _ _ _ _ (by omega), set_other _ _ _ _ _ (by omega), set_other _ _ _ _ _ (by omega), set_other _ _ _ _ _ (by omega), set_other _ _ _ _ _ (by omega), set_other _ _ _ _ _ (by omega)]
        obtain ⟨Ks2, hKl2, hkr, hK2⟩ := kids_end ((unhide HKi).same (w' := ((((((wr.setCell ⟨w.heap.size, 4, none⟩ (.slice av ks.length cv)).setCell ⟨w.heap.size + 1, 0, none⟩ (.int .i64 k)).setCell ⟨w.heap.size + 1, 1, none⟩ (.bool x)).setCell ⟨w.heap.size + 1, 2, none⟩ (.slice a1 d.size c1)).setCell ⟨w.heap.size + 1, 3, none⟩ (.slice a2 ns.length c2)).setCell ⟨w.heap.size + 1, 4, none⟩ (.slice av ks.length cv))) (fun k' h1 _ => hother k' (by omega)) (by simp))
        refine .mk k x d ns ks _ _ _ Ks2 hKl2 ?_ ?_ ?_ ?_
        · refine Row.mono (lo := w.heap.size + 1 + 1) (hi := wC.heap.size) ?_ (by omega) (by simp; omega)
          exact ((unhide HC).2.2.2.1.below hbr (Nat.le_refl _)).same (fun k' h1 _ => hother k' h1)
        · refine Row.mono (lo := w.heap.size + 1 + 1) (hi := wC.heap.size) ?_ (by omega) (by simp; omega)
          exact ((unhide HC).2.2.2.2.below hbr (Nat.le_refl _)).same (fun k' h1 _ => hother k' h1)
        · exact hkr.mono (by omega) (Nat.le_refl _)
        · exact fun i t c h1 h2 => (hK2 i t c h1 h2).mono (by omega) (Nat.le_refl _)
end Go.Proofs.YthfjofmfiklegaaDoor
/- clone, in the code: a tree in memory of its own. -/
namespace Go.Proofs.YthfjofmfiklegaaDoor
open Go.RowKit
theorem sclone_any (s : ByteArray) (w : World) (hlim : s.size ≤ 281474976710656) :
    Calls Tryd.prog 57 #[.string s] w fun e w' => e = .returned (.string s) ∧ Below w.heap.size w w' := by
  go_enter Tryd.func57, Tryd.ntmps57
  go_wp2_with fail
  refine (Tryd.stringslite_Clone s w hlim).mono ?_
  rintro e w1 ⟨rfl, hb⟩
  go_wp2_with fail
  go_ret
  exact ⟨rfl, hb⟩
/-- Onto nothing. -/
theorem onto22 (w : World) (lo hi : Nat) (a : Option Addr) (m c : Nat) (ys : List Value) (hr : Row lo hi w (.slice a m c) m ys) (hl : ys.length = m) (h1 : ∀ u ∈ ys, u.oneCell' = true) (hmax : m ≤ 100000000) :
    ∃ a1 c1 w1, (∀ ty, (app22 ty #[.slice none 0 0, .slice a m c]).run Tryd.prog w = .ok (.slice a1 m c1) w1) ∧ Below w.heap.size w w1 ∧ w1.ownsRow w.heap.size 5 1 (.slice a1 m c1) m ys := by
  obtain ⟨v1, w1, happ, ho, hg, _⟩ := app22_own w w.heap.size lo hi (.slice none 0 0) 0 [] a m c ys ⟨by simp, .inl ⟨rfl, rfl⟩⟩ hr hl h1 (by omega) (Nat.le_refl _)
  rw [Nat.zero_add, List.nil_append] at ho
  obtain ⟨a1, c1, rfl, _⟩ := owns_slice ho
  exact ⟨a1, c1, w1, happ, (Below.refl _ _).grown hg (Nat.le_refl _) (fun k hk => by simp [Value.ownBlock] at hk), ho⟩
/-- As many names as kids, everywhere. -/
inductive Ev : Tr → Prop
  | mk (k : Int) (x : Bool) (d : ByteArray) (ns : List ByteArray) (ks : List Tr) (h : ns.length = ks.length) (hk : ∀ t ∈ ks, Ev t) : Ev (.mk k x d ns ks)
theorem below_drew' {B : Nat} {w w1 : World} (h : Below B w.drew w1) : Below B w w1 := ⟨h.os, h.tape, h.output, h.size, h.block⟩
/-- What stands in a clone under way. -/
structure ClW (w wr : World) (Z : Nat) (k : Int) (x : Bool) (d : ByteArray) (ns : List ByteArray) (ks : List Tr) (t1 t2 t3 v1 vn vk : Value) (p q : Nat) : Prop where
  old : Below w.heap.size w wr
  bt : Bx wr w.heap.size (.int .i64 k) (.bool x) t1 t2 t3
  br : Bx wr (w.heap.size + 1) (.int .i64 0) (.bool false) (.slice none 0 0) (.slice none 0 0) (.slice none 0 0)
  bc : Bx wr (w.heap.size + 1 + 1) (.int .i64 k) (.bool x) v1 vn vk
  dat : wr.ownsRow (w.heap.size + 3) 5 1 v1 d.size (byteVals d)
  datZ : ∀ g, v1.ownBlock = some g → g < Z
  cl : Cl Z wr vn vk ns ks p q
  z1 : w.heap.size + 3 ≤ Z
  z2 : Z ≤ wr.heap.size
theorem ClW.name {w wr w2 : World} {Z : Nat} {k : Int} {x : Bool} {d : ByteArray} {ns : List ByteArray} {ks : List Tr} {t1 t2 t3 v1 vn vk vn' : Value} {p p' q : Nat} (h : ClW w wr Z k x d ns ks t1 t2 t3 v1 vn vk p q) (hb : Below Z wr w2) (hc : Cl Z w2 vn' vk ns ks p' q) :
    ClW w (w2.setCell ⟨w.heap.size + 1 + 1, 3, none⟩ vn') Z k x d ns ks t1 t2 t3 v1 vn' vk p' q := by
  obtain ⟨h1, h2, h3, h4, h5, h6, h7, h8, h9⟩ := h
  have hz := hb.size
  refine ⟨(h1.trans (hb.mono (by omega))).setCell (by simp; omega) _, (h2.kept hb (by omega)).of (set_other _ _ _ _ _ (by omega)), (h3.kept hb (by omega)).of (set_other _ _ _ _ _ (by omega)), (h4.kept hb (by omega)).set3 _, ?_, h6, hc.same (fun k hk _ => set_other _ _ _ _ _ (by omega)) (by simp), h8, by simp; omega⟩
  exact owns_same h5 (fun g hg => by rw [set_other _ _ _ _ _ (by have := (owns_lt h5 g hg).1; omega), hb.block g (h6 g hg)]) (fun _ _ h => h)
theorem ClW.kid {w wr w2 : World} {Z : Nat} {k : Int} {x : Bool} {d : ByteArray} {ns : List ByteArray} {ks : List Tr} {t1 t2 t3 v1 vn vk vk' : Value} {p q q' : Nat} (h : ClW w wr Z k x d ns ks t1 t2 t3 v1 vn vk p q) (hb : Below Z wr w2) (hc : Cl Z w2 vn vk' ns ks p q') :
    ClW w (w2.setCell ⟨w.heap.size + 1 + 1, 4, none⟩ vk') Z k x d ns ks t1 t2 t3 v1 vn vk' p q' := by
  obtain ⟨h1, h2, h3, h4, h5, h6, h7, h8, h9⟩ := h
  have hz := hb.size
  refine ⟨(h1.trans (hb.mono (by omega))).setCell (by simp; omega) _, (h2.kept hb (by omega)).of (set_other _ _ _ _ _ (by omega)), (h3.kept hb (by omega)).of (set_other _ _ _ _ _ (by omega)), (h4.kept hb (by omega)).set4 _, ?_, h6, hc.same (fun k hk _ => set_other _ _ _ _ _ (by omega)) (by simp), h8, by simp; omega⟩
  exact owns_same h5 (fun g hg => by rw [set_other _ _ _ _ _ (by have := (owns_lt h5 g hg).1; omega), hb.block g (h6 g hg)]) (fun _ _ h => h)
theorem ClW.drew {w wr : World} {Z : Nat} {k : Int} {x : Bool} {d : ByteArray} {ns : List ByteArray} {ks : List Tr} {t1 t2 t3 v1 vn vk : Value} {p q : Nat} (h : ClW w wr Z k x d ns ks t1 t2 t3 v1 vn vk p q) : ClW w wr.drew Z k x d ns ks t1 t2 t3 v1 vn vk p q := by
  obtain ⟨h1, h2, h3, h4, h5, h6, h7, h8, h9⟩ := h
  exact ⟨h1.drew, h2, h3, h4, h5, h6, h7.same (fun _ _ _ => rfl) (Nat.le_refl _), h8, h9⟩
set_option maxRecDepth 20000 in
set_option maxHeartbeats 2000000 in
theorem clone_any (T : Tr) : ∀ (lo hi : Nat) (cs : List Value) (w : World), Lies lo hi w T cs → wt T ≤ 100000 → hi ≤ w.heap.size → Ev T →
    Calls Tryd.prog 39 #[.agg cs.toArray] w fun e w' => ∃ cs', e = .returned (.agg cs'.toArray) ∧ Below w.heap.size w w' ∧ Own w' w.heap.size w'.heap.size T cs' := by
  induction T using Tr.ind with
  | h k x d ns ks ih =>
  intro lo hi cs w hL hW hhi hev
  have hSm := small_of hW
  obtain ⟨hlen, hevk⟩ : ns.length = ks.length ∧ ∀ t ∈ ks, Ev t := by cases hev with | mk _ _ _ _ _ h1 h2 => exact ⟨h1, h2⟩
  clear hev
  cases hL with
  | mk _ _ _ _ _ vd vn vk Ks hl hd hn hk hK =>
  obtain ⟨ad, cd, rfl, hcd⟩ := hd.slice
  obtain ⟨an, cn, rfl, hcn⟩ := hn.slice
  obtain ⟨ak, ck, rfl, hck⟩ := hk.slice
  have hW3 : ∃ w3, w3 = ((w.alloc (.cells #[.int .i64 k, .bool x, .slice ad d.size cd, .slice an ns.length cn, .slice ak ks.length ck] 26)).alloc (.cells #[.int .i64 0, .bool false, .slice none 0 0, .slice none 0 0, .slice none 0 0] 26)).alloc (.cells #[.int .i64 k, .bool x, .slice none 0 0, .slice none 0 0, .slice none 0 0] 26) := ⟨_, rfl⟩
  obtain ⟨w3, hw3⟩ := hW3
  have hs3 : w3.heap.size = w.heap.size + 3 := by rw [hw3]; simp
  have hb3 : Below w.heap.size w w3 := by rw [hw3]; exact (((Below.refl _ _).alloc (Nat.le_refl _) _).alloc (by simp) _).alloc (by simp; omega) _
  have hbt : Bx w3 w.heap.size (.int .i64 k) (.bool x) (.slice ad d.size cd) (.slice an ns.length cn) (.slice ak ks.length ck) := by
    rw [hw3]
    exact (bx_new w _ _ _ _ _).kept (((Below.refl (w.heap.size + 1) _).alloc (by simp) _).alloc (by simp) _) (by omega)
  have hbr : Bx w3 (w.heap.size + 1) (.int .i64 0) (.bool false) (.slice none 0 0) (.slice none 0 0) (.slice none 0 0) := by
    rw [hw3]
    have := (bx_new (w.alloc (.cells #[.int .i64 k, .bool x, .slice ad d.size cd, .slice an ns.length cn, .slice ak ks.length ck] 26)) (.int .i64 0) (.bool false) (.slice none 0 0) (.slice none 0 0) (.slice none 0 0)).kept ((Below.refl (w.heap.size + 1 + 1) _).alloc (by simp) (.cells #[.int .i64 k, .bool x, .slice none 0 0, .slice none 0 0, .slice none 0 0] 26)) (by simp)
    simpa using this
  have hbc : Bx w3 (w.heap.size + 1 + 1) (.int .i64 k) (.bool x) (.slice none 0 0) (.slice none 0 0) (.slice none 0 0) := by
    rw [hw3]
    have := bx_new ((w.alloc (.cells #[.int .i64 k, .bool x, .slice ad d.size cd, .slice an ns.length cn, .slice ak ks.length ck] 26)).alloc (.cells #[.int .i64 0, .bool false, .slice none 0 0, .slice none 0 0, .slice none 0 0] 26)) (.int .i64 k) (.bool x) (.slice none 0 0) (.slice none 0 0) (.slice none 0 0)
    simpa using this
  obtain ⟨a1, c1, w4, happ1, hb4, ho4⟩ := onto22 w3 lo hi ad d.size cd (byteVals d) (hd.below hb3 hhi) (byteVals_length d) (one_bytes d) (by have := hSm.d; omega)
  have hs4 := hb4.size
  obtain ⟨c0, c1', c2, c3, c4⟩ := (hbc.kept hb4 (by omega)).cells
  have f2 := (hbc.kept hb4 (by omega)).fr 2
  obtain ⟨t0, t1, t2, t3, t4⟩ := (hbt.kept hb4 (by omega)).cells
  rw [hw3] at happ1
  obtain ⟨N, hN⟩ : ∃ N, ns.length = N := ⟨_, rfl⟩
  have hNk : ks.length = N := by rw [← hlen]; exact hN
  have hN1 : N ≤ 100000 := by rw [← hN]; exact hSm.n
  rw [hN] at hn hcn happ1 t3
  rw [hNk] at hk hck happ1 t4 hl
  have HR := hide (And.intro hn (And.intro hk (And.intro hl hK)))
  have HSm := hide hSm
  have HN := hide (And.intro hN hNk)
  have HS := hide (And.intro hs3 (And.intro hs4 (And.intro (hb3.trans (hb4.mono (by omega))) (And.intro (hbt.kept hb4 (by omega)) (And.intro (hbr.kept hb4 (by omega)) (And.intro (hbc.kept hb4 (by omega)) ho4))))))
  rw [hN, hNk] at HS
  have hl4 : w.heap.size + 1 + 1 < w4.heap.size := by omega
  have hl5 : w.heap.size < w4.heap.size := by omega
  have HG1 := hide (fun w => grow23_nil N w (by omega))
  have HG2 := hide (fun w => grow24_nil N w (by omega))
  rw [hN, hNk]
  clear hN hNk hlen hn hk hl hK hSm hs3 hs4 hb3 hb4 hbt hbr hbc ho4 hd hw3 hcd
  go_enter Tryd.func39, Tryd.ntmps39
  go_wp2_with fail
  obtain ⟨hs3, hs4, hold4, hbt4, hbr4, hbc4, ho4⟩ := unhide HS
  clear HS happ1 c0 c1' c2 c3 c4 f2 t0 t1 t2 t3 t4
  obtain ⟨wA, hwA⟩ : ∃ wA, wA = w4.setCell ⟨w.heap.size + 1 + 1, 2, none⟩ (.slice a1 d.size c1) := ⟨_, rfl⟩
  have hsA : wA.heap.size = w4.heap.size := by rw [hwA]; simp
  have holdA : Below w.heap.size w wA := by rw [hwA]; exact hold4.setCell (by simp; omega) _
  have hbtA : Bx wA w.heap.size (.int .i64 k) (.bool x) (.slice ad d.size cd) (.slice an N cn) (.slice ak N ck) := by rw [hwA]; exact hbt4.of (set_other _ _ _ _ _ (by omega))
  have hbrA : Bx wA (w.heap.size + 1) (.int .i64 0) (.bool false) (.slice none 0 0) (.slice none 0 0) (.slice none 0 0) := by rw [hwA]; exact hbr4.of (set_other _ _ _ _ _ (by omega))
  have hbcA : Bx wA (w.heap.size + 1 + 1) (.int .i64 k) (.bool x) (.slice a1 d.size c1) (.slice none 0 0) (.slice none 0 0) := by rw [hwA]; exact hbc4.set2 _
  have hoA : wA.ownsRow (w.heap.size + 3) 5 1 (.slice a1 d.size c1) d.size (byteVals d) := by rw [hwA]; exact owns_same ho4 (fun g hg => set_other _ _ _ _ _ (by have := (owns_lt ho4 g hg).1; omega)) (fun _ _ h => by omega)
  rw [← hwA]
  clear hwA hold4 hbt4 hbr4 hbc4 ho4
  refine (unhide HG1 _).mono ?_
  rintro e w5 ⟨a2, c2, rfl, ho5, hb5, hcap5, _⟩
  have hs5 := hb5.size
  obtain ⟨c0, c1', c2', c3, c4⟩ := (hbcA.kept hb5 (by omega)).cells
  obtain ⟨t0, t1, t2, t3, t4⟩ := (hbtA.kept hb5 (by omega)).cells
  have f3 := (hbcA.kept hb5 (by omega)).fr 3
  have hl6 : w.heap.size + 1 + 1 < w5.heap.size := by omega
  have hl7 : w.heap.size < w5.heap.size := by omega
  have HS5 := hide (And.intro hs5 (And.intro ho5 hb5))
  have HA := hide (And.intro hs3 (And.intro hs4 (And.intro hsA (And.intro holdA (And.intro hbtA (And.intro hbrA (And.intro hbcA hoA)))))))
  clear ho5 hb5 hs5 hs3 hs4 hsA holdA hbtA hbrA hbcA hoA
  go_wp2_with fail
  obtain ⟨wB, hwB⟩ : ∃ wB, wB = w5.setCell ⟨w.heap.size + 1 + 1, 3, none⟩ (.slice a2 0 c2) := ⟨_, rfl⟩
  rw [← hwB]
  have hsB : wB.heap.size = w5.heap.size := by rw [hwB]; simp
  refine (unhide HG2 _).mono ?_
  rintro e w6 ⟨a3, c3', rfl, ho6, hb6, hcap6, _⟩
  obtain ⟨hs3, hs4, hsA, holdA, hbtA, hbrA, hbcA, hoA⟩ := unhide HA
  obtain ⟨hs5, ho5, hb5⟩ := unhide HS5
  have hs6 := hb6.size
  have hbcB : Bx wB (w.heap.size + 1 + 1) (.int .i64 k) (.bool x) (.slice a1 d.size c1) (.slice a2 0 c2) (.slice none 0 0) := by rw [hwB]; exact (hbcA.kept hb5 (by omega)).set3 _
  have hbtB : Bx wB w.heap.size (.int .i64 k) (.bool x) (.slice ad d.size cd) (.slice an N cn) (.slice ak N ck) := by rw [hwB]; exact (hbtA.kept hb5 (by omega)).of (set_other _ _ _ _ _ (by omega))
  have hbrB : Bx wB (w.heap.size + 1) (.int .i64 0) (.bool false) (.slice none 0 0) (.slice none 0 0) (.slice none 0 0) := by rw [hwB]; exact (hbrA.kept hb5 (by omega)).of (set_other _ _ _ _ _ (by omega))
  have holdB : Below w.heap.size w wB := by rw [hwB]; exact (holdA.trans (hb5.mono (by omega))).setCell (by simp; omega) _
  have hoB : wB.ownsRow (w.heap.size + 3) 5 1 (.slice a1 d.size c1) d.size (byteVals d) := by rw [hwB]; exact owns_same hoA (fun g hg => by rw [set_other _ _ _ _ _ (by have := (owns_lt hoA g hg).1; omega), hb5.block g (owns_lt hoA g hg).2]) (fun _ _ h => h)
  have hnB : wB.ownsRow wA.heap.size 9 1 (.slice a2 0 c2) 0 [] := by rw [hwB]; exact owns_same ho5 (fun g hg => set_other _ _ _ _ _ (by have := (owns_lt ho5 g hg).1; omega)) (fun _ _ h => h)
  have hCl : Cl wA.heap.size w6 (.slice a2 0 c2) (.slice a3 0 c3') ns ks 0 0 := by
    refine ⟨?_, ⟨[], fun _ => 0, fun _ => 0, rfl, fun c hc => by simp at hc, owns_same ho6 (fun _ _ => rfl) (fun _ _ h => by omega), fun j t c _ hc => by simp at hc, fun i j _ h => by omega⟩, fun g hg e => ?_⟩
    · exact owns_same hnB (fun g hg => hb6.block g (owns_lt hnB g hg).2) (fun _ _ h => h)
    · have h1 := (owns_lt ho6 g hg).1
      have h2 := (owns_lt hnB g e).2
      omega
  have HC0 : Hid (ClW w (w6.setCell ⟨w.heap.size + 1 + 1, 4, none⟩ (.slice a3 0 c3')) wA.heap.size k x d ns ks (.slice ad d.size cd) (.slice an N cn) (.slice ak N ck) (.slice a1 d.size c1) (.slice a2 0 c2) (.slice a3 0 c3') 0 0) := by
    refine ⟨(holdB.trans (hb6.mono (by omega))).setCell (by simp; omega) _, (hbtB.kept hb6 (by omega)).of (set_other _ _ _ _ _ (by omega)), (hbrB.kept hb6 (by omega)).of (set_other _ _ _ _ _ (by omega)), (hbcB.kept hb6 (by omega)).set4 _, ?_, fun g hg => (owns_lt hoA g hg).2, hCl.same (fun k hk _ => set_other _ _ _ _ _ (by omega)) (by simp), by omega, by simp; omega⟩
    exact owns_same hoB (fun g hg => by rw [set_other _ _ _ _ _ (by have := (owns_lt hoB g hg).1; omega), hb6.block g (owns_lt hoB g hg).2]) (fun _ _ h => h)
  obtain ⟨e0, e1, e2, e3, e4⟩ := (hbcB.kept hb6 (by omega)).cells
  obtain ⟨u0, u1, u2, u3, u4⟩ := (hbtB.kept hb6 (by omega)).cells
  have f4 := (hbcB.kept hb6 (by omega)).fr 4
  clear hs3 hs4 hsA holdA hbtA hbrA hbcA hoA hs5 ho5 hb5 hs6 hbcB hbtB hbrB holdB hoB hnB hCl ho6 hb6 HA HS5 HG1 HG2 hwB hsB c0 c1' c2' c3 c4 t0 t1 t2 t3 t4 f3 hcap5 hcap6
  go_wp2_with fail
  clear e0 e1 e2 e3 e4 u0 u1 u2 u3 u4 f4 hl4 hl5 hl6 hl7
  obtain ⟨Z, hZ⟩ : ∃ Z, Z = wA.heap.size := ⟨_, rfl⟩
  rw [← hZ] at HC0
  clear hZ
  go_loopw [34] (fun vi wr => ∃ (i : Nat) (av av' : Option Addr) (cv cv' : Nat), i ≤ N ∧ vi = .int .i64 (i : Int) ∧ ClW w wr Z k x d ns ks (.slice ad d.size cd) (.slice an N cn) (.slice ak N ck) (.slice a1 d.size c1) (.slice av i cv) (.slice av' i cv') i i) (fun vi _ => N - (intOf vi).toNat)
  case atStart => exact ⟨0, _, _, _, _, by omega, rfl, unhide HC0⟩
  case round =>
    clear HC0
    obtain ⟨i, av, av', cv, cv', hiN, rfl, hW⟩ := hrel
    obtain ⟨y0, y1, y2, y3, y4⟩ := hW.bt.cells
    obtain ⟨x0, x1, x2, x3, x4⟩ := hW.bc.cells
    have hz2 := hW.z2
    have hz1 := hW.z1
    have hl4 : w.heap.size + 1 + 1 < wr.heap.size := by omega
    have hl5 : w.heap.size < wr.heap.size := by omega
    by_cases hlt : i < N
    · have hn1 : i < ns.length := by rw [(unhide HN).1]; exact hlt
      have hk1 : i < ks.length := by rw [(unhide HN).2]; exact hlt
      obtain ⟨g, o, rfl, hg1, hg2, hcell⟩ := (unhide HR).1.at (by omega)
      obtain ⟨g', o', rfl, hg1', hg2', hcell'⟩ := (unhide HR).2.1.at (by omega)
      obtain ⟨hl, hK⟩ := (unhide HR).2.2
      have hci : wr.cell? ⟨g, o + i, none⟩ = some (.string ns[i]) := by rw [hW.old.cell (p := ⟨g, o + i, none⟩) (show g < w.heap.size by omega)]; exact hcell i _ (by simp [List.getElem?_eq_getElem hn1])
      have HSc := hide (fun w => sclone_any ns[i] w (by have := (unhide HSm).s ns[i] (List.getElem_mem hn1); omega))
      have HTn : Hid (ns[i]? = some ns[i]) := List.getElem?_eq_getElem hn1
      have HTk : Hid (ks[i]? = some ks[i]) := List.getElem?_eq_getElem hk1
      have HW := hide hW
      have HKi : Hid (∀ w' : World, Below w.heap.size w w' → ∃ k' x' b1 n1 d1 b2 n2 d2 b3 n3 d3, Lies lo hi w' ks[i] [.int .i64 k', .bool x', .slice b1 n1 d1, .slice b2 n2 d2, .slice b3 n3 d3] ∧ w'.cell? ⟨g', o' + i * 5, none⟩ = some (.int .i64 k') ∧ w'.cell? ⟨g', o' + i * 5 + 1, none⟩ = some (.bool x') ∧ w'.cell? ⟨g', o' + i * 5 + 2, none⟩ = some (.slice b1 n1 d1) ∧ w'.cell? ⟨g', o' + i * 5 + 3, none⟩ = some (.slice b2 n2 d2) ∧ w'.cell? ⟨g', o' + i * 5 + 4, none⟩ = some (.slice b3 n3 d3)) := fun w' hw' =>
        kid_sl (hl.trans (unhide HN).2.symm) (fun j u hj => by rw [hw'.cell (p := ⟨g', o' + j, none⟩) (show g' < w.heap.size by omega)]; exact hcell' j u hj) (fun i t c h1 h2 => (hK i t c h1 h2).kept hw' hhi) i hk1
      have HI : Hid (∀ (w' : World) (cs : List Value), Lies lo hi w' ks[i] cs → hi ≤ w'.heap.size → _) := fun w' cs h1 h2 => ih ks[i] (List.getElem_mem hk1) lo hi cs w' h1 ((unhide HSm).t _ (List.getElem_mem hk1)) h2 (hevk _ (List.getElem_mem hk1))
      clear hcell hcell' hl hK hW
      generalize ns[i] = s at *
      generalize ks[i] = t at *
      clear hn1 hk1
      go_wp2_with fail
      go_region_law (go_simp; refine (unhide HSc wr.drew).mono ?_; rintro e w7 ⟨rfl, hb7⟩; obtain ⟨a7, c7, w8, happ7, hCl7, hb8, hs8⟩ := cl_name s (unhide HW).cl (below_drew' hb7) (unhide HTn) (by omega) hz2; have hl7 : w.heap.size + 1 + 1 < w7.heap.size := Nat.lt_of_lt_of_le hl4 hb7.size; obtain ⟨x0', x1', x2', x3', x4'⟩ := ((unhide HW).bc.kept (below_drew' hb7) hl4).cells; obtain ⟨q0, q1, q2, q3, q4⟩ := ((unhide HW).bc.kept hb8 (by omega)).cells; have f8 := ((unhide HW).bc.kept hb8 (by omega)).fr 3)
      all_goals
        have HW8 := hide ((unhide HW).name hb8 hCl7)
        clear happ7 hCl7 hb8 hs8 x0' x1' x2' x3' x4' q0 q1 q2 q3 q4 f8 hb7 hl7 y0 y1 y2 y3 y4 x0 x1 x2 x3 x4 hz2 hz1 hl4 hl5 hci HSc HTn
        generalize w8.setCell ⟨w.heap.size + 1 + 1, 3, none⟩ (.slice a7 (i + 1) c7) = w9 at *
        obtain ⟨y0, y1, y2, y3, y4⟩ := (unhide HW8).bt.cells
        obtain ⟨x0, x1, x2, x3, x4⟩ := (unhide HW8).bc.cells
        have hz2 := (unhide HW8).z2
        have hz1 := (unhide HW8).z1
        have hl4 : w.heap.size + 1 + 1 < w9.heap.size := by omega
        have hl5 : w.heap.size < w9.heap.size := by omega
        obtain ⟨k', x', b1, n1, d1, b2, n2, d2, b3, n3, d3, hLi, m0, m1, m2, m3, m4⟩ := unhide HKi w9 (unhide HW8).old
        have HLi := hide hLi
        clear hLi
        go_wp2_with fail
        go_region_law (go_simp; refine (unhide HI w9.drew _ ((unhide HLi).same (fun _ _ _ => rfl)) (Nat.le_trans hhi (Nat.le_of_lt hl5))).mono ?_; rintro e w10 ⟨cs10, rfl, hb10, hO10⟩; obtain ⟨k10, x10, r1, r2, r3, r4, r5, r6, r7, r8, r9, rfl⟩ := hO10.lies.form; obtain ⟨a11, c11, w11, happ11, hCl11, hb11, hs11⟩ := cl_kid (unhide HW8).cl (below_drew' hb10) hO10 (unhide HTk) (by omega) hz2; have hl10 : w.heap.size + 1 + 1 < w10.heap.size := Nat.lt_of_lt_of_le hl4 hb10.size; obtain ⟨x0', x1', x2', x3', x4'⟩ := ((unhide HW8).bc.kept (below_drew' hb10) hl4).cells; obtain ⟨q0, q1, q2, q3, q4⟩ := ((unhide HW8).bc.kept hb11 (by omega)).cells; have f11 := ((unhide HW8).bc.kept hb11 (by omega)).fr 4)
        all_goals
          have HW11 := hide ((unhide HW8).kid hb11 hCl11)
          clear happ11 hCl11 hb11 hs11 x0' x1' x2' x3' x4' q0 q1 q2 q3 q4 f11 hb10 hl10 hO10
          go_wp2_with fail
          go_roundw
          case rel => exact ⟨i + 1, _, _, _, _, by omega, by go_num, unhide HW11⟩
          case measure => simp [intOf]; omega
    · obtain rfl : i = N := by omega
      obtain ⟨r0, r1, r2, r3, r4⟩ := hW.br.cells
      have g0 := hW.br.fr 0
      have g1 := hW.br.fr 1
      have g2 := hW.br.fr 2
      have g3 := hW.br.fr 3
      have g4 := hW.br.fr 4
      have HW := hide hW
      clear hW
      go_wp2_with fail
      refine bodyPost_ret (v := .agg #[.int .i64 k, .bool x, .slice a1 d.size c1, .slice av i cv, .slice av' i cv']) (by simp [results, Tryd.results39, go_sem, r0, r1, r2, r3, r4]) rfl ⟨[.int .i64 k, .bool x, .slice a1 d.size c1, .slice av i cv, .slice av' i cv'], rfl, ?_, ?_⟩
      · exact ((((((unhide HW).old.setCell (by simp) _).setCell (by simp) _).setCell (by simp) _).setCell (by simp) _).setCell (by simp) _)
      · have hother : ∀ k', w.heap.size + 1 + 1 ≤ k' → (((((wr.setCell ⟨w.heap.size + 1, 0, none⟩ (.int .i64 k)).setCell ⟨w.heap.size + 1, 1, none⟩ (.bool x)).setCell ⟨w.heap.size + 1, 2, none⟩ (.slice a1 d.size c1)).setCell ⟨w.heap.size + 1, 3, none⟩ (.slice av i cv)).setCell ⟨w.heap.size + 1, 4, none⟩ (.slice av' i cv')).heap[k']? = wr.heap[k']? := fun k' hk' => by
          rw [set_other _ _ _ _ _ (by omega), set_other _ _ _ _ _ (by omega), set_other _ _ _ _ _ (by omega), set_other _ _ _ _ _ (by omega), set_other _ _ _ _ _ (by omega)]
        have hsz : (((((wr.setCell ⟨w.heap.size + 1, 0, none⟩ (.int .i64 k)).setCell ⟨w.heap.size + 1, 1, none⟩ (.bool x)).setCell ⟨w.heap.size + 1, 2, none⟩ (.slice a1 d.size c1)).setCell ⟨w.heap.size + 1, 3, none⟩ (.slice av i cv)).setCell ⟨w.heap.size + 1, 4, none⟩ (.slice av' i cv')).heap.size = wr.heap.size := by simp
        generalize (((((wr.setCell ⟨w.heap.size + 1, 0, none⟩ (.int .i64 k)).setCell ⟨w.heap.size + 1, 1, none⟩ (.bool x)).setCell ⟨w.heap.size + 1, 2, none⟩ (.slice a1 d.size c1)).setCell ⟨w.heap.size + 1, 3, none⟩ (.slice av i cv)).setCell ⟨w.heap.size + 1, 4, none⟩ (.slice av' i cv')) = wF at *
        obtain ⟨h1, h2, h3, h4, h5, h6, h7, h8, h9⟩ := unhide HW
        have h7' : Cl Z wF (.slice av i cv) (.slice av' i cv') ns ks ns.length ks.length := by
          rw [(unhide HN).1, (unhide HN).2]
          exact h7.same (fun k' hk _ => hother k' (by omega)) (by omega)
        have h5' : wF.ownsRow (w.heap.size + 3) 5 1 (.slice a1 d.size c1) d.size (byteVals d) := owns_same h5 (fun g hg => hother g (by have := (owns_lt h5 g hg).1; omega)) (fun _ _ h => h)
        exact (cl_end h7' h5' h6 h8).mono (by omega) (Nat.le_refl _)
end Go.Proofs.YthfjofmfiklegaaDoor
/- slices.BinarySearch among names that rise; strings.Cut at a slash. -/
namespace Go.Proofs.YthfjofmfiklegaaDoor
open Go.RowKit
theorem nanC_any (x : ByteArray) (w : World) : Calls Tryd.prog 83 #[.string x] w fun e w' => e = .returned (.bool false) ∧ w' = w := by
  go_enter Tryd.func83, Tryd.ntmps83
  go_wp2
  go_ret
  exact ⟨rfl, rfl⟩
theorem nanS_any (x : ByteArray) (w : World) : Calls Tryd.prog 76 #[.string x] w fun e w' => e = .returned (.bool false) ∧ w' = w := by
  go_enter Tryd.func76, Tryd.ntmps76
  go_wp2
  go_ret
  exact ⟨rfl, rfl⟩
theorem less_any (x y : ByteArray) (w : World) : Calls Tryd.prog 68 #[.string x, .string y] w fun e w' => e = .returned (.bool (Op.bytesLess x.toList y.toList)) ∧ w' = w := by
  have HN := hide (fun x w => nanC_any x w)
  go_enter Tryd.func68, Tryd.ntmps68
  go_wp2_with (go_at_call 83; refine (unhide HN _ _).mono ?_; rintro e w' ⟨rfl, hw⟩; rw [hw]; clear hw w')
  go_ret
  exact ⟨rfl, rfl⟩
/-- Names that rise, each once. -/
def Rise (ns : List ByteArray) : Prop := ∀ i j, i < j → j < ns.length → (ns.getD i ⟨#[]⟩).toList < (ns.getD j ⟨#[]⟩).toList
/-- Where a name stands, or would, among names that rise. -/
def Found (ns : List ByteArray) (x : ByteArray) (e : Ending) : Prop :=
  ∃ (i : Nat) (b : Bool), e = .returned (.tuple #[.int .i64 (i : Int), .bool b]) ∧ i ≤ ns.length ∧ (∀ j, j < i → (ns.getD j ⟨#[]⟩).toList < x.toList) ∧ (∀ j, i ≤ j → j < ns.length → ¬ (ns.getD j ⟨#[]⟩).toList < x.toList) ∧ (b = true ↔ i < ns.length ∧ ns.getD i ⟨#[]⟩ = x)
theorem found_mk {ns : List ByteArray} {x : ByteArray} {n i : Nat} {b : Bool} (hn : n = ns.length) (h1 : i ≤ n) (h2 : ∀ j, j < i → (ns.getD j ⟨#[]⟩).toList < x.toList) (h3 : ∀ j, i ≤ j → j < n → ¬ (ns.getD j ⟨#[]⟩).toList < x.toList) (h4 : b = true ↔ i < n ∧ ns.getD i ⟨#[]⟩ = x) : Found ns x (.returned (.tuple #[.int .i64 (i : Int), .bool b])) := by
  subst hn; exact ⟨i, b, rfl, h1, h2, h3, h4⟩
set_option maxRecDepth 20000 in
set_option maxHeartbeats 1000000 in
theorem search_any (lo hi : Nat) (a : Option Addr) (c : Nat) (ns : List ByteArray) (x : ByteArray) (w : World) (hr : Row lo hi w (.slice a ns.length c) ns.length (ns.map .string)) (hR : Rise ns) (hmax : ns.length ≤ 1000000) :
    Calls Tryd.prog 54 #[.slice a ns.length c, .string x] w fun e w' => w' = w ∧ Found ns x e := by
  obtain ⟨n, hn⟩ : ∃ n, n = ns.length := ⟨_, rfl⟩
  rw [← hn] at hr hmax ⊢
  have HN := hide hn
  have HRi := hide hR
  have HC : Hid (∀ i, i < n → ∃ g o, a = some ⟨g, o, none⟩ ∧ w.cell? ⟨g, o + i, none⟩ = some (.string (ns.getD i ⟨#[]⟩))) := fun i hi => by
    obtain ⟨g, o, rfl, _, _, hcell⟩ := hr.at (by omega)
    exact ⟨g, o, rfl, hcell i _ (by rw [List.getElem?_map, List.getElem?_eq_getElem (show i < ns.length by omega), List.getD_eq_getElem?_getD, List.getElem?_eq_getElem (show i < ns.length by omega)]; rfl)⟩
  have HL := hide (fun x y w => less_any x y w)
  have HS := hide (fun x w => nanS_any x w)
  clear hn hR hr
  go_enter Tryd.func54, Tryd.ntmps54
  go_wp2_with fail
  go_loop [7, 8] (fun vl vh => ∃ l h : Nat, l ≤ h ∧ h ≤ n ∧ vl = .int .i64 (l : Int) ∧ vh = .int .i64 (h : Int) ∧ Hid (∀ j, j < l → (ns.getD j ⟨#[]⟩).toList < x.toList) ∧ Hid (∀ j, h ≤ j → j < n → ¬ (ns.getD j ⟨#[]⟩).toList < x.toList)) (fun vl vh => (intOf vh).toNat - (intOf vl).toNat)
  case atStart => exact ⟨0, n, by omega, by omega, rfl, rfl, fun j h => by omega, fun j h h' => by omega⟩
  case round =>
    obtain ⟨l, h, hlh, hhn, rfl, rfl, hlo, hhi⟩ := hrel
    by_cases hlt : l < h
    · obtain ⟨m, hm⟩ : ∃ m : Nat, (l + h) / 2 = m := ⟨_, rfl⟩
      have hmi : ((l : Int) + (h : Int)) / 2 = (m : Int) := by omega
      have hm1 : l ≤ m := by omega
      have hm2 : m < h := by omega
      obtain ⟨g, o, rfl, hcm⟩ := unhide HC m (by omega)
      have hmono : Hid (∀ j, j < n → (j < m → (ns.getD j ⟨#[]⟩).toList < (ns.getD m ⟨#[]⟩).toList) ∧ (m < j → (ns.getD m ⟨#[]⟩).toList < (ns.getD j ⟨#[]⟩).toList)) := fun j hj =>
        ⟨fun h => unhide HRi j m h (by rw [← unhide HN]; omega), fun h => unhide HRi m j h (by rw [← unhide HN]; omega)⟩
      clear hm
      by_cases hz : (ns.getD m ⟨#[]⟩).toList < x.toList
      · have hbl : Op.bytesLess (ns.getD m ⟨#[]⟩).toList x.toList = true := by rw [Go.Proofs.bytesLess_eq]; exact decide_eq_true hz
        have hlo' : Hid (∀ j, j < m + 1 → (ns.getD j ⟨#[]⟩).toList < x.toList) := fun j hj => by
          rcases Nat.lt_or_ge j m with h | h
          · exact Ord.trans ((unhide hmono j (by omega)).1 h) hz
          · obtain rfl : j = m := by omega
            exact hz
        clear hz hmono hlo
        generalize ns.getD m ⟨#[]⟩ = z at *
        go_wp2_with (go_at_call 68; refine (unhide HL _ _ _).mono ?_; rintro e w' ⟨rfl, hw⟩; rw [hw]; clear hw w')
        go_round
        case rel => exact ⟨m + 1, h, by omega, hhn, by go_num, rfl, hlo', hhi⟩
        case measure => simp [intOf]; try omega
      · have hbl : Op.bytesLess (ns.getD m ⟨#[]⟩).toList x.toList = false := by rw [Go.Proofs.bytesLess_eq]; exact decide_eq_false hz
        have hhi' : Hid (∀ j, m ≤ j → j < n → ¬ (ns.getD j ⟨#[]⟩).toList < x.toList) := fun j hj hjn hc => by
          rcases Nat.lt_or_ge m j with h | h
          · exact hz (Ord.trans ((unhide hmono j hjn).2 h) hc)
          · obtain rfl : j = m := by omega
            exact hz hc
        clear hz hmono hhi
        generalize ns.getD m ⟨#[]⟩ = z at *
        go_wp2_with (go_at_call 68; refine (unhide HL _ _ _).mono ?_; rintro e w' ⟨rfl, hw⟩; rw [hw]; clear hw w')
        go_round
        case rel => exact ⟨l, m, hm1, by omega, rfl, by first | rfl | (rw [hmi]), hlo, hhi'⟩
        case measure => simp [intOf]; try omega
    · obtain rfl : l = h := by omega
      by_cases hln : l < n
      · obtain ⟨g, o, rfl, hcm⟩ := unhide HC l hln
        by_cases he : ns.getD l ⟨#[]⟩ = x
        · have HE : Hid (∀ j, l ≤ j → j < n → ¬ (ns.getD j ⟨#[]⟩).toList < x.toList) := hhi
          rw [he] at hcm
          go_wp2_with (go_at_call 76; refine (unhide HS _ _).mono ?_; rintro e w' ⟨rfl, hw⟩; rw [hw]; clear hw w')
          go_ret2
          exact ⟨rfl, found_mk (unhide HN) hhn (unhide hlo) (unhide hhi) ⟨fun _ => ⟨hln, he⟩, fun _ => rfl⟩⟩
        · have hne : ((ns.getD l ⟨#[]⟩).toList == x.toList) = false := by
            rw [beq_eq_false_iff_ne]
            intro h
            rw [ByteArray.toList_eq, ByteArray.toList_eq] at h
            exact he (ByteArray.ext (Array.ext' h))
          have HEn := hide he
          clear he
          generalize hz : ns.getD l ⟨#[]⟩ = z at hcm hne
          have HZ := hide hz
          clear hz
          go_wp2_with (go_at_call 76; refine (unhide HS _ _).mono ?_; rintro e w' ⟨rfl, hw⟩; rw [hw]; clear hw w')
          go_ret2
          exact ⟨rfl, found_mk (unhide HN) hhn (unhide hlo) (unhide hhi) ⟨fun h => by simp at h, fun h => absurd h.2 (unhide HEn)⟩⟩
      · go_wp2_with (go_at_call 76; refine (unhide HS _ _).mono ?_; rintro e w' ⟨rfl, hw⟩; rw [hw]; clear hw w')
        go_ret2
        exact ⟨rfl, found_mk (unhide HN) hhn (unhide hlo) (unhide hhi) ⟨fun h => by simp at h, fun h => absurd h.1 hln⟩⟩
end Go.Proofs.YthfjofmfiklegaaDoor
/- Places: names with a slash between; strings.Cut of one. -/
namespace Go.Proofs.YthfjofmfiklegaaDoor
open Go.RowKit
/-- Names with a slash between. -/
def joinB : List ByteArray → ByteArray
  | [] => ⟨#[]⟩
  | [n] => n
  | n :: m :: r => ⟨n.data ++ (#[47] ++ (joinB (m :: r)).data)⟩
theorem index_at (a b : List UInt8) (h : (47 : UInt8) ∉ a) : Lib.indexByte (a ++ 47 :: b) 47 = (a.length : Int) := by
  induction a with
  | nil => simp [Lib.indexByte]
  | cons x r ih =>
    have h1 : ¬ x = 47 := fun e => h (by simp [e])
    have h2 := ih (fun e => h (by simp [e]))
    simp only [List.cons_append, Lib.indexByte, h2]
    have e1 : (x == 47) = false := by simpa using h1
    have e2 : (((r.length : Nat) : Int) == -1) = false := by rw [beq_eq_false_iff_ne]; omega
    rw [e1, e2]
    simp
theorem index_none (a : List UInt8) (h : (47 : UInt8) ∉ a) : Lib.indexByte a 47 = -1 := by
  have h1 := (ib_neg a 47).2 h
  have h2 := Lib.indexByte_ge a 47
  omega
theorem join_head (n m : ByteArray) (r : List ByteArray) : (joinB (n :: m :: r)).extract 0 n.size = n := by
  apply ByteArray.ext
  rw [ByteArray.data_extract, joinB]
  apply Array.ext'
  rw [Array.toList_extract]
  simp
theorem join_list (n m : ByteArray) (r : List ByteArray) : (joinB (n :: m :: r)).data.toList = n.data.toList ++ 47 :: (joinB (m :: r)).data.toList := by rw [joinB]; simp
theorem join_rest (n m : ByteArray) (r : List ByteArray) : (joinB (n :: m :: r)).extract (n.size + 1) (joinB (n :: m :: r)).size = joinB (m :: r) := by
  apply ByteArray.ext
  rw [ByteArray.data_extract]
  apply Array.ext'
  have e1 : (joinB (n :: m :: r)).size = (joinB (n :: m :: r)).data.toList.length := by simp
  rw [Array.toList_extract, List.extract_eq_take_drop, e1, join_list, List.take_of_length_le (by simp)]
  have e2 : n.size + 1 = (n.data.toList ++ [47]).length := by simp
  rw [e2, show n.data.toList ++ 47 :: (joinB (m :: r)).data.toList = (n.data.toList ++ [47]) ++ (joinB (m :: r)).data.toList by simp, List.drop_left']
  rfl
theorem join_size (n m : ByteArray) (r : List ByteArray) : (joinB (n :: m :: r)).size = n.size + 1 + (joinB (m :: r)).size := by
  have h := congrArg List.length (join_list n m r)
  simp at h
  omega
set_option maxRecDepth 20000 in
set_option maxHeartbeats 1000000 in
theorem cutI_any (n : ByteArray) (r : List ByteArray) (w : World) (hn : (47 : UInt8) ∉ n.data.toList) (hm : (joinB (n :: r)).size ≤ 1000000) :
    Calls Tryd.prog 75 #[.string (joinB (n :: r)), .string ⟨#[47]⟩] w fun e w' => (∃ q, w' = w.drewN q) ∧ ∃ b, e = .returned (.tuple #[.string n, .string (joinB r), .bool b]) := by
  have HI := hide (fun s w => Tryd.stringslite_Index_one s 47 w)
  cases r with
  | nil =>
    have e1 := hide (index_none n.data.toList hn)
    have e2 : joinB [n] = n := rfl
    have e3 : joinB [] = ⟨#[]⟩ := rfl
    rw [e2, e3]
    go_enter Tryd.func75, Tryd.ntmps75
    go_wp2_with fail
    refine (unhide HI _ _).mono ?_
    rintro e w' ⟨rfl, hw⟩
    rw [hw, unhide e1]
    clear hw w'
    go_wp2_with fail
    go_ret3
    exact ⟨⟨0, rfl⟩, false, rfl⟩
  | cons m r =>
    have e1 : Hid (Lib.indexByte (joinB (n :: m :: r)).data.toList 47 = (n.size : Int)) := by
      show Lib.indexByte (joinB (n :: m :: r)).data.toList 47 = (n.size : Int)
      rw [join_list, index_at _ _ hn]; simp
    have e2 := join_head n m r
    have e3 := join_rest n m r
    have e4 := join_size n m r
    have hm2 : n.size + 1 ≤ (joinB (n :: m :: r)).size := by omega
    have hm3 : n.size ≤ (joinB (n :: m :: r)).size := by omega
    generalize joinB (n :: m :: r) = s at *
    generalize joinB (m :: r) = s' at *
    have E4 := hide e4
    clear e4
    go_enter Tryd.func75, Tryd.ntmps75
    go_wp2_with fail
    refine (unhide HI _ _).mono ?_
    rintro e w' ⟨rfl, hw⟩
    rw [hw, unhide e1]
    clear hw w'
    go_wp2_with fail
    go_quiet (fail)
    go_wp2_with fail
    go_ret3
    exact ⟨⟨_, rfl⟩, true, rfl⟩
set_option maxRecDepth 20000 in
set_option maxHeartbeats 1000000 in
theorem cut_any (n : ByteArray) (r : List ByteArray) (w : World) (hn : (47 : UInt8) ∉ n.data.toList) (hm : (joinB (n :: r)).size ≤ 1000000) :
    Calls Tryd.prog 53 #[.string (joinB (n :: r)), .string ⟨#[47]⟩] w fun e w' => (∃ q, w' = w.drewN q) ∧ ∃ b, e = .returned (.tuple #[.string n, .string (joinB r), .bool b]) := by
  have HI := hide (cutI_any n r w hn hm)
  generalize joinB (n :: r) = s at *
  generalize joinB r = s' at *
  go_enter Tryd.func53, Tryd.ntmps53
  go_wp2_with fail
  refine (unhide HI).mono ?_
  rintro e w' ⟨⟨q, rfl⟩, b, rfl⟩
  go_wp2_with fail
  go_ret3
  exact ⟨⟨q, rfl⟩, b, rfl⟩
end Go.Proofs.YthfjofmfiklegaaDoor
/- below: the place of an entry. -/
namespace Go.Proofs.YthfjofmfiklegaaDoor
open Go.RowKit
/-- The place of an entry. -/
def belowB (p n : ByteArray) : ByteArray := if p.size = 0 then n else p ++ ⟨#[47]⟩ ++ n
set_option maxRecDepth 20000 in
set_option maxHeartbeats 1000000 in
theorem below_any (p n : ByteArray) (w : World) (hp : p.size ≤ 100000000) (hn : n.size ≤ 100000000) :
    Calls Tryd.prog 45 #[.string p, .string n] w fun e w' => e = .returned (.string (belowB p n)) ∧ Below w.heap.size w w' := by
  have HC := hide (fun w => sclone_any n w (by omega))
  by_cases h0 : p.size = 0
  · have e0 : (p.toList == []) = true := by rw [ByteArray.toList_eq]; have : p.data.toList = [] := List.eq_nil_of_length_eq_zero h0; rw [this]; rfl
    have hB : belowB p n = n := by unfold belowB; rw [if_pos h0]
    rw [hB]
    clear hB h0
    go_enter Tryd.func45, Tryd.ntmps45
    go_wp2_with fail
    refine (unhide HC _).mono ?_
    rintro e w1 ⟨rfl, hb⟩
    go_wp2_with fail
    go_ret
    exact ⟨rfl, hb⟩
  · have e0 : (p.toList == []) = false := by rw [beq_eq_false_iff_ne, ByteArray.toList_eq]; intro h; apply h0; show p.data.toList.length = 0; rw [h]; rfl
    have hB : belowB p n = p ++ ⟨#[47]⟩ ++ n := by unfold belowB; rw [if_neg h0]
    rw [hB]
    clear hB h0
    go_enter Tryd.func45, Tryd.ntmps45
    go_wp2_with fail
    go_ret
    exact ⟨rfl, Below.refl _ _⟩
end Go.Proofs.YthfjofmfiklegaaDoor
/- strings.SplitSeq at a slash: the parts of a place, one by one, for a round that may say no more. -/
namespace Go.Proofs.YthfjofmfiklegaaDoor
open Go.RowKit Go.Shelf
attribute [local go_sem] Oper.semAt_some
/-- How long the text in a box is. -/
def sizeAt (b : Nat) (w : World) : Nat := match w.cell? ⟨b, 0, none⟩ with
  | some (.string s) => s.size
  | _ => 0
theorem join_lt (n m : ByteArray) (r : List ByteArray) : (joinB (m :: r)).size < (joinB (n :: m :: r)).size := by rw [join_size]; omega
theorem join_mem {parts : List ByteArray} {x : ByteArray} (h : x ∈ parts) : x.size ≤ (joinB parts).size := by
  induction parts with
  | nil => simp at h
  | cons a p ih =>
    cases p with
    | nil => simp at h; subst h; exact Nat.le_refl _
    | cons m r =>
      rw [join_size]
      rcases List.mem_cons.1 h with rfl | h
      · omega
      · have := ih h; omega
theorem join_suffix (pre rest : List ByteArray) (hr : rest ≠ []) : (joinB rest).size ≤ (joinB (pre ++ rest)).size := by
  induction pre with
  | nil => simp
  | cons a p ih =>
    cases h : p ++ rest with
    | nil => simp at h; exact absurd h.2 hr
    | cons m r =>
      rw [h] at ih
      rw [List.cons_append, h, join_size]
      omega
set_option maxRecDepth 20000 in
set_option maxHeartbeats 2000000 in
theorem seq_in (n : Nat) (l Bs Bp Bz : Nat) (parts : List ByteArray) (J Jx : List ByteArray → World → Prop) (hne : parts ≠ []) (h47 : ∀ s ∈ parts, (47 : UInt8) ∉ s.data.toList) (hmax : (joinB parts).size ≤ 1000000)
    (hBx : ∀ pre W, J pre W → W.cell? ⟨Bp, 0, none⟩ = some (.string ⟨#[47]⟩) ∧ W.cell? ⟨Bz, 0, none⟩ = some (.int .i64 0) ∧ W.frozen? ⟨Bs, 0, none⟩ = false)
    (hst : ∀ pre W v, J pre W → J pre (W.setCell ⟨Bs, 0, none⟩ v)) (hsd : Bp ≠ Bs ∧ Bz ≠ Bs)
    (hY : ∀ pre x W, x ∈ parts → J pre W → YieldAt Fence.wide (n - 1) Tryd.prog l #[.string x] W fun e W' =>
      (e = .returned (.bool true) ∧ J (pre ++ [x]) W' ∧ W'.cell? ⟨Bs, 0, none⟩ = W.cell? ⟨Bs, 0, none⟩) ∨ (e = .returned (.bool false) ∧ Jx (pre ++ [x]) W'))
    (W : World) (h0 : J [] W) (hs : W.cell? ⟨Bs, 0, none⟩ = some (.string (joinB parts))) :
    CallsIn Fence.wide n Tryd.prog 84 #[.func (.yield l) #[] #[], .pointer (some ⟨Bp, 0, none⟩), .pointer (some ⟨Bs, 0, none⟩), .pointer (some ⟨Bz, 0, none⟩)] W fun e W' => (∃ v, e = .returned v) ∧ (J parts W' ∨ ∃ pre, pre <+: parts ∧ Jx pre W') := by
  refine callsIn_of_wp Tryd.func84 rfl trivial ?_ rfl
  simp only [Tryd.ntmps84, List.size_toArray, List.length_cons, List.length_nil, Nat.reduceAdd, Nat.reduceSub, Array.replicate_succ, Array.replicate_zero, List.push_toArray, List.append_toArray, List.nil_append, List.cons_append]
  obtain ⟨c1, c2, c3⟩ := hBx [] W h0
  gi_wp2
  have HB := hide hBx
  have HSt := hide hst
  have HY := hide hY
  have H47 := hide h47
  have HMx := hide hmax
  have HI := hide (fun s w => Tryd.strings_Index_one s 47 w)
  obtain ⟨hd1, hd2⟩ := hsd
  clear hBx hst hY h47 c1 c2 c3 hmax
  gi_loopw [7] (fun _ wr => ∃ pre rest : List ByteArray, Hid (parts = pre ++ rest) ∧ Hid (rest ≠ []) ∧ J pre wr ∧ Hid (wr.cell? ⟨Bs, 0, none⟩ = some (.string (joinB rest)))) (fun _ wr => sizeAt Bs wr)
  case atStart => exact ⟨[], parts, rfl, hne, h0, hs⟩
  case round =>
    clear h0 hs
    obtain ⟨pre, rest, hx, hr, hJ, hc⟩ := hrel
    obtain ⟨c1, c2, c3⟩ := unhide HB pre wr hJ
    have hsz : Hid ((joinB rest).size ≤ 1000000) := Nat.le_trans (join_suffix pre rest (unhide hr)) (by rw [← unhide hx]; exact unhide HMx)
    cases rest with
    | nil => exact absurd rfl (unhide hr)
    | cons x rest =>
      have hx47 : (47 : UInt8) ∉ x.data.toList := unhide H47 x (by rw [unhide hx]; simp)
      cases rest with
      | nil =>
        have e1 := hide (index_none x.data.toList hx47)
        have hc' : wr.cell? ⟨Bs, 0, none⟩ = some (.string x) := unhide hc
        obtain ⟨fn, tmps, assign, body, hy, hR⟩ := unhide HY pre x wr (by rw [unhide hx]; simp) hJ
        have HR := hide hR
        clear hR hc
        gi_wp2_with fail
        refine ⟨trivial, fun h => by simp [Fence.wide] at h, ?_⟩
        refine (callsIn_wide.2 (unhide HI _ _)).mono ?_
        rintro e w' ⟨rfl, hw⟩
        rw [hw, unhide e1]
        clear hw w'
        gi_wp2_with fail
        refine ⟨fun h => by simp [Fence.wide] at h, (unhide HR).mono ?_⟩
        rintro e W' (⟨rfl, hJ', -⟩ | ⟨rfl, hJx'⟩)
        · gi_wp2_with fail
          go_end0
          exact ⟨⟨_, rfl⟩, .inl (by rw [unhide hx]; exact hJ')⟩
        · gi_wp2_with fail
          go_end0
          exact ⟨⟨_, rfl⟩, .inr ⟨pre ++ [x], by rw [unhide hx]; exact List.prefix_refl _, hJx'⟩⟩
      | cons m r =>
        have e1 : Hid (Lib.indexByte (joinB (x :: m :: r)).data.toList 47 = (x.size : Int)) := by
          show Lib.indexByte (joinB (x :: m :: r)).data.toList 47 = (x.size : Int)
          rw [join_list, index_at _ _ hx47]; simp
        have e2 := join_head x m r
        have e3 := join_rest x m r
        have hm2 : x.size + 1 ≤ (joinB (x :: m :: r)).size := by rw [join_size]; omega
        have hm3 : x.size ≤ (joinB (x :: m :: r)).size := by omega
        have hm4 : (joinB (x :: m :: r)).size ≤ 1000000 := unhide hsz
        have hlt := hide (join_lt x m r)
        have hc' : wr.cell? ⟨Bs, 0, none⟩ = some (.string (joinB (x :: m :: r))) := unhide hc
        obtain ⟨fn, tmps, assign, body, hy, hR⟩ := unhide HY pre x wr (by rw [unhide hx]; simp) hJ
        have HR := hide hR
        clear hR hc
        generalize joinB (x :: m :: r) = t at *
        gi_wp2_with fail
        refine ⟨trivial, fun h => by simp [Fence.wide] at h, ?_⟩
        refine (callsIn_wide.2 (unhide HI _ _)).mono ?_
        rintro e w' ⟨rfl, hw⟩
        rw [hw, unhide e1]
        clear hw w'
        gi_wp2_with fail
        refine ⟨fun h => by simp [Fence.wide] at h, (unhide HR).mono ?_⟩
        rintro e W' (⟨rfl, hJ', hk⟩ | ⟨rfl, hJx'⟩)
        · obtain ⟨q1, q2, q3⟩ := unhide HB _ W' hJ'
          have q4 : W'.cell? ⟨Bs, 0, none⟩ = some (.string t) := by rw [hk]; exact hc'
          have HJ' := hide hJ'
          have hcs := hide hc'
          clear c1 c2 c3 hJ hk hc' hJ' HR hy
          gi_wp2_with fail
          have hset : (W'.setCell ⟨Bs, 0, none⟩ (.string (joinB (m :: r)))).cell? ⟨Bs, 0, none⟩ = some (.string (joinB (m :: r))) := by simp [go_sem, q4]
          refine ⟨⟨pre ++ [x], m :: r, by show parts = _; rw [unhide hx]; simp, (fun h => by cases h), unhide HSt _ _ _ (unhide HJ'), hset⟩, ?_⟩
          unfold sizeAt
          rw [hset, unhide hcs]
          exact unhide hlt
        · gi_wp2_with fail
          exact bodyPost_ret (v := .tuple #[]) (by simp [results, Tryd.results84]) rfl ⟨⟨_, rfl⟩, .inr ⟨pre ++ [x], ⟨m :: r, by rw [unhide hx]; simp⟩, hJx'⟩⟩
end Go.Proofs.YthfjofmfiklegaaDoor
/- isPlace, in the code. -/
namespace Go.Proofs.YthfjofmfiklegaaDoor
open Go.RowKit Go.Shelf
attribute [local go_sem] Oper.semAt_some
theorem splitSeq_any (s : ByteArray) (w : World) : Calls Tryd.prog 51 #[.string s, .string ⟨#[47]⟩] w fun e w' => e = .returned (.func (.func 84) #[] #[.pointer (some ⟨w.heap.size + 1, 0, none⟩), .pointer (some ⟨w.heap.size, 0, none⟩), .pointer (some ⟨w.heap.size + 1 + 1, 0, none⟩)]) ∧ w' = ((w.alloc (.cells #[.string s] 9)).alloc (.cells #[.string ⟨#[47]⟩] 9)).alloc (.cells #[.int .i64 0] 3) := by
  go_enter Tryd.func51, Tryd.ntmps51
  go_wp2
  go_ret
  exact ⟨rfl, rfl⟩
/-- What stands while the parts of a place are gone through. -/
structure Pl (w : World) (l D : Nat) (r : Loop) (W : World) : Prop where
  old : Below w.heap.size w W
  res : W.heap[w.heap.size]? = some (.cells #[.bool false] 4)
  str : ∃ v, W.heap[w.heap.size + 1]? = some (.cells #[v] 9)
  sep : W.heap[w.heap.size + 1 + 1]? = some (.cells #[.string ⟨#[47]⟩] 9)
  nul : W.heap[w.heap.size + 1 + 1 + 1]? = some (.cells #[.int .i64 0] 3)
  rcd : W.heap[l]? = some (.loop r)
  dfr : W.heap[D]? = some (.deferred (some []))
theorem cell0 {W : World} {b : Nat} {v : Value} {t : TypeId} (h : W.heap[b]? = some (.cells #[v] t)) : W.cell? ⟨b, 0, none⟩ = some v ∧ W.frozen? ⟨b, 0, none⟩ = false := by
  refine ⟨?_, ?_⟩
  · unfold World.cell?; rw [show W.heap[b]? = _ from h]; rfl
  · unfold World.frozen?; rw [show W.heap[b]? = _ from h]; simp
theorem set0 {W : World} {b : Nat} {v u : Value} {t : TypeId} (h : W.heap[b]? = some (.cells #[v] t)) : (W.setCell ⟨b, 0, none⟩ u).heap[b]? = some (.cells #[u] t) := by
  simp [World.setCell, Array.getElem?_modify, h]
theorem Pl.set {w W : World} {l D : Nat} {r : Loop} (h : Pl w l D r W) (v : Value) (hl : w.heap.size + 1 < l) (hD : w.heap.size + 1 < D) : Pl w l D r (W.setCell ⟨w.heap.size + 1, 0, none⟩ v) := by
  obtain ⟨h1, h2, ⟨u, h3⟩, h4, h5, h6, h7⟩ := h
  exact ⟨h1.setCell (by simp) _, by rw [set_other _ _ _ _ _ (by omega)]; exact h2, ⟨v, set0 h3⟩, by rw [set_other _ _ _ _ _ (by omega)]; exact h4, by rw [set_other _ _ _ _ _ (by omega)]; exact h5, by rw [set_other _ _ _ _ _ (by omega)]; exact h6, by rw [set_other _ _ _ _ _ (by omega)]; exact h7⟩
theorem Pl.put {w W : World} {l D : Nat} {r : Loop} (h : Pl w l D r W) (r' : Loop) (hl : w.heap.size + 1 + 1 + 1 < l) (hD : D ≠ l) : Pl w l D r' (W.putObj l (.loop r')) := by
  obtain ⟨h1, h2, ⟨u, h3⟩, h4, h5, h6, h7⟩ := h
  have hlt := (Array.getElem?_eq_some_iff.1 h6).1
  exact ⟨h1.grown (grownBy_putObj' W l _) (Nat.le_trans (Nat.le_refl _) h1.size) (fun k e => by cases e; omega), by rw [World.putObj_heap_other (by omega)]; exact h2, ⟨u, by rw [World.putObj_heap_other (by omega)]; exact h3⟩, by rw [World.putObj_heap_other (by omega)]; exact h4, by rw [World.putObj_heap_other (by omega)]; exact h5, World.putObj_heap_same hlt, by rw [World.putObj_heap_other hD]; exact h7⟩
theorem Pl.setRes {w W : World} {l D : Nat} {r : Loop} (h : Pl w l D r W) (hl : w.heap.size + 1 < l) (hD : w.heap.size + 1 < D) : Pl w l D r (W.setCell ⟨w.heap.size, 0, none⟩ (.bool false)) := by
  obtain ⟨h1, h2, ⟨u, h3⟩, h4, h5, h6, h7⟩ := h
  exact ⟨h1.setCell (by simp) _, set0 h2, ⟨u, by rw [set_other _ _ _ _ _ (by omega)]; exact h3⟩, by rw [set_other _ _ _ _ _ (by omega)]; exact h4, by rw [set_other _ _ _ _ _ (by omega)]; exact h5, by rw [set_other _ _ _ _ _ (by omega)]; exact h6, by rw [set_other _ _ _ _ _ (by omega)]; exact h7⟩
set_option maxRecDepth 20000 in
/-- A loop over the parts of a place whose round asks each and leaves the function at the first that is no name. -/
theorem split_law {assign body : Code} {Q : Exit → Act → World → Prop} {a : Act} {w W0 : World} {g : Operand} {p : Tmp} (parts : List ByteArray) (a1 : ByteArray → Act)
    (hne : parts ≠ []) (h47 : ∀ s ∈ parts, (47 : UInt8) ∉ s.data.toList) (hmax : (joinB parts).size ≤ 1000000)
    (hg : a.eval g = .func (.func 84) #[] #[.pointer (some ⟨w.heap.size + 1 + 1, 0, none⟩), .pointer (some ⟨w.heap.size + 1, 0, none⟩), .pointer (some ⟨w.heap.size + 1 + 1 + 1, 0, none⟩)])
    (hold : Below w.heap.size w W0) (hsz : W0.heap.size = w.heap.size + 1 + 1 + 1 + 1) (hres : W0.heap[w.heap.size]? = some (.cells #[.bool false] 4)) (hstr : W0.heap[w.heap.size + 1]? = some (.cells #[.string (joinB parts)] 9)) (hsep : W0.heap[w.heap.size + 1 + 1]? = some (.cells #[.string ⟨#[47]⟩] 9)) (hnul : W0.heap[w.heap.size + 1 + 1 + 1]? = some (.cells #[.int .i64 0] 3))
    (hassign : ∀ (l : Nat) (x : ByteArray) (W : World) (K : Act → World → Prop), K (a1 x) W → assign.wpIn (Fence.wide.inRound l) 1 Tryd.prog (Exit.then K (fun _ _ _ => False)) { tmps := (#[p].zip #[Value.string x]).foldl (fun t (p, v) => t.setIfInBounds p v) a.tmps, defers := [] } W)
    (hbody : ∀ (l : Nat) (x : ByteArray) (W : World) (R : Exit → Act → World → Prop), x.size ≤ 1000000 → W.heap[w.heap.size]? = some (.cells #[.bool false] 4) → (entB x = true → ∀ a', R .normal a' W) → (entB x = false → ∀ a', R .ret a' (W.setCell ⟨w.heap.size, 0, none⟩ (.bool false))) → body.wpIn (Fence.wide.inRound l) 1 Tryd.prog R (a1 x) W)
    (hdone : ∀ (r : Loop) (W : World), Pl w (W0.heap.size + 1) W0.heap.size r W → (∀ s ∈ parts, entB s = true) → Q .normal { a with defers := { target := .collected W0.heap.size, args := #[] } :: a.defers } W)
    (hstop : ∀ (r : Loop) (W : World), Pl w (W0.heap.size + 1) W0.heap.size r W → (∃ s ∈ parts, entB s = false) → Code.ret.wpIn Fence.wide 3 Tryd.prog Q { a with defers := { target := .collected W0.heap.size, args := #[] } :: a.defers } W) :
    (Code.rangeFunc g #[p] assign body).wpIn Fence.wide 3 Tryd.prog Q a W0 := by
  refine wpIn_rangeFunc ?_
  intro fn hfn
  obtain ⟨rc, hrc⟩ : ∃ rc : LoopState → Option Code → Loop, rc = fun st pe => { state := st, pending := pe, fn, tmps := a.tmps, params := #[p], assign, body, defers := W0.heap.size } := ⟨_, rfl⟩
  obtain ⟨W1, hW1⟩ : ∃ W1, (W0.alloc (.deferred (some []))).alloc (.loop (rc .ready none)) = W1 := ⟨_, rfl⟩
  have hb1 : Below W0.heap.size W0 W1 := by rw [← hW1]; exact ((Below.refl _ _).alloc (Nat.le_refl _) _).alloc (by simp) _
  have hP1 : Pl w (W0.heap.size + 1) W0.heap.size (rc .ready none) W1 := by
    refine ⟨hold.trans (hb1.mono (by omega)), by rw [hb1.block _ (by omega)]; exact hres, ⟨_, by rw [hb1.block _ (by omega)]; exact hstr⟩, by rw [hb1.block _ (by omega)]; exact hsep, by rw [hb1.block _ (by omega)]; exact hnul, ?_, ?_⟩
    · rw [← hW1]; have := World.alloc_heap_new (W0.alloc (.deferred (some []))) (.loop (rc .ready none)); rwa [World.size_alloc] at this
    · rw [← hW1]; exact (Below.heap_alloc _ _ _ (by simp)).trans (World.alloc_heap_new W0 _)
  refine ⟨W0.heap.size + 1, [{ target := .collected W0.heap.size, args := #[] }], W1, { target := .fn (.func 84) #[.pointer (some ⟨w.heap.size + 1 + 1, 0, none⟩), .pointer (some ⟨w.heap.size + 1, 0, none⟩), .pointer (some ⟨w.heap.size + 1 + 1 + 1, 0, none⟩)], args := #[.func (.yield (W0.heap.size + 1)) #[] #[]] }, W1, 84, #[.func (.yield (W0.heap.size + 1)) #[] #[]] ++ #[.pointer (some ⟨w.heap.size + 1 + 1, 0, none⟩), .pointer (some ⟨w.heap.size + 1, 0, none⟩), .pointer (some ⟨w.heap.size + 1 + 1 + 1, 0, none⟩)], W1, ?_, ?_, fun _ _ => trivial, ?_, fun _ => by omega, ?_⟩
  · rw [← hW1, hrc]; exact run_enterLoop_outer _ _ _ _ _
  · simp only [resolve, hg]
    simp [go_sem]
  · simp [invoke, go_sem]
  refine CallsIn.mono (seq_in 2 (W0.heap.size + 1) (w.heap.size + 1) (w.heap.size + 1 + 1) (w.heap.size + 1 + 1 + 1) parts
    (fun pre W => (∀ s ∈ pre, entB s = true) ∧ Pl w (W0.heap.size + 1) W0.heap.size (rc .ready none) W)
    (fun pre W => (∃ s ∈ pre, entB s = false) ∧ Pl w (W0.heap.size + 1) W0.heap.size (rc .done (some .ret)) W)
    hne h47 hmax ?_ ?_ ⟨by omega, by omega⟩ ?_ W1 ⟨fun s hs => by simp at hs, hP1⟩ ?_) ?_
  · rintro pre W ⟨_, h⟩
    obtain ⟨v, hv⟩ := h.str
    exact ⟨(cell0 h.sep).1, (cell0 h.nul).1, (cell0 hv).2⟩
  · rintro pre W v ⟨h1, h2⟩
    exact ⟨h1, h2.set v (by omega) (by omega)⟩
  · rintro pre x W hxm ⟨h1, h2⟩
    have hxs := join_mem hxm
    have hy := run_yield (P := Tryd.prog) (args := #[.string x]) h2.rcd (by rw [hrc]; rfl)
    rw [hrc] at hy
    refine ⟨fn, _, assign, body, hy, roundIn_of_wpIn hfn (hassign _ x W _ ⟨_, run_beginRound h2.rcd (by rw [hrc]), ?_⟩)⟩
    have h3 := h2.put { rc .ready none with state := .busy } (by omega) (by omega)
    refine hbody _ x _ _ (by omega) h3.res (fun he a' => ?_) (fun he a' => ?_)
    · refine ⟨_, _, run_endRound none h3.rcd, .inl ⟨rfl, ⟨?_, ?_⟩, ?_⟩⟩
      · intro s hs
        rcases List.mem_append.1 hs with h | h
        · exact h1 s h
        · simp at h; subst h; exact he
      · have h4 := h3.put (rc .ready none) (by omega) (by omega)
        rw [hrc] at h4 ⊢
        exact h4
      · obtain ⟨v, hv⟩ := h2.str
        rw [(cell0 hv).1]
        refine (cell0 (t := 9) ?_).1
        rw [World.putObj_heap_other (by omega), World.putObj_heap_other (by omega)]
        exact hv
    · have h4 := h3.setRes (by omega) (by omega)
      refine ⟨_, _, run_endRound (some .ret) h4.rcd, .inr ⟨rfl, ⟨x, by simp, he⟩, ?_⟩⟩
      have h5 := h4.put (rc .done (some .ret)) (by omega) (by omega)
      rw [hrc] at h5 ⊢
      exact h5
  · exact (cell0 (by rw [hb1.block _ (by omega)]; exact hstr)).1
  · rintro e W2 ⟨⟨v, rfl⟩, ⟨h1, h2⟩ | ⟨pre, hpre, ⟨s, hs, hse⟩, h2⟩⟩
    · exact ⟨none, _, by have := run_endLoop (P := Tryd.prog) h2.rcd (by rw [hrc]; simp); rw [hrc] at this; exact this, hdone _ _ (h2.put _ (by omega) (by omega)) h1⟩
    · exact ⟨some .ret, _, by have := run_endLoop (P := Tryd.prog) h2.rcd (by rw [hrc]; simp); rw [hrc] at this; exact this, hstop _ _ (h2.put _ (by omega) (by omega)) ⟨s, hpre.subset hs, hse⟩⟩
set_option maxRecDepth 20000 in
set_option maxHeartbeats 2000000 in
theorem place_some (parts : List ByteArray) (w : World) (hne : parts ≠ []) (h47 : ∀ s ∈ parts, (47 : UInt8) ∉ s.data.toList) (h0 : (joinB parts).size ≠ 0) (hmax : (joinB parts).size ≤ 1000000) :
    Calls Tryd.prog 37 #[.string (joinB parts)] w fun e w' => Below w.heap.size w w' ∧ ((e = .returned (.bool true) ∧ ∀ s ∈ parts, entB s = true) ∨ (e = .returned (.bool false) ∧ ∃ s ∈ parts, entB s = false)) := by
  have hz : ((joinB parts).toList == []) = false := by
    rw [beq_eq_false_iff_ne, ByteArray.toList_eq]
    intro h
    apply h0
    have := congrArg List.length h
    simpa using this
  have HSeq := hide (splitSeq_any (joinB parts) (w.alloc (.cells #[.bool false] 4)))
  simp only [World.size_alloc] at HSeq
  refine (callsIn_wide (n := 3)).1 ?_
  refine callsIn_of_wp_marks Tryd.func37 rfl trivial ?_ rfl
  simp only [Tryd.ntmps37, List.size_toArray, List.length_cons, List.length_nil, Nat.reduceAdd, Nat.reduceSub, Array.replicate_succ, Array.replicate_zero, List.push_toArray, List.append_toArray, List.nil_append, List.cons_append]
  gi_wp2_with fail
  refine ⟨trivial, ?_⟩
  refine (callsIn_wide.2 (unhide HSeq)).mono ?_
  rintro e w1 ⟨rfl, hw1⟩
  rw [hw1]
  clear hw1 w1
  gi_wp2_with fail
  have hs0 : ((((w.alloc (.cells #[.bool false] 4)).alloc (.cells #[.string (joinB parts)] 9)).alloc (.cells #[.string ⟨#[47]⟩] 9)).alloc (.cells #[.int .i64 0] 3)).heap.size = w.heap.size + 1 + 1 + 1 + 1 := by simp
  have hB0 : Below w.heap.size w ((((w.alloc (.cells #[.bool false] 4)).alloc (.cells #[.string (joinB parts)] 9)).alloc (.cells #[.string ⟨#[47]⟩] 9)).alloc (.cells #[.int .i64 0] 3)) := ((((Below.refl _ _).alloc (Nat.le_refl _) _).alloc (by simp) _).alloc (by simp; omega) _).alloc (by simp; omega) _
  have HE := hide (fun x w => ent_any x w)
  refine split_law (w := w) parts (fun x => { tmps := #[.string (joinB parts), undef, .pointer (some ⟨w.heap.size, 0, none⟩), .string x, .string (joinB parts), .bool false, .string (joinB parts), .func (.func 84) #[] #[.pointer (some ⟨w.heap.size + 1 + 1, 0, none⟩), .pointer (some ⟨w.heap.size + 1, 0, none⟩), .pointer (some ⟨w.heap.size + 1 + 1 + 1, 0, none⟩)], .string x, undef, undef, undef], defers := [] }) hne h47 hmax rfl hB0 hs0 ?_ ?_ ?_ ?_ ?_ ?_ ?_ ?_
  · rw [Below.heap_alloc _ _ _ (by simp; omega), Below.heap_alloc _ _ _ (by simp; omega), Below.heap_alloc _ _ _ (by simp), World.alloc_heap_new]
  · rw [Below.heap_alloc _ _ _ (by simp), Below.heap_alloc _ _ _ (by simp)]
    have := World.alloc_heap_new (w.alloc (.cells #[.bool false] 4)) (.cells #[.string (joinB parts)] 9)
    rwa [World.size_alloc] at this
  · rw [Below.heap_alloc _ _ _ (by simp)]
    have := World.alloc_heap_new ((w.alloc (.cells #[.bool false] 4)).alloc (.cells #[.string (joinB parts)] 9)) (.cells #[.string ⟨#[47]⟩] 9)
    rwa [World.size_alloc, World.size_alloc] at this
  · have := World.alloc_heap_new (((w.alloc (.cells #[.bool false] 4)).alloc (.cells #[.string (joinB parts)] 9)).alloc (.cells #[.string ⟨#[47]⟩] 9)) (.cells #[.int .i64 0] 3)
    rwa [World.size_alloc, World.size_alloc, World.size_alloc] at this
  · intro l x W K hK
    gi_wp2
    exact hK
  · intro l x W R hxs hres h1 h2
    obtain ⟨q1, q2⟩ := cell0 hres
    have HEx := hide (fun w => ent_any x w (by omega))
    cases hent : entB x
    case true =>
      have H1 := hide (h1 hent)
      rw [hent] at HEx
      clear h1 h2
      gi_wp2_with fail
      refine ⟨trivial, ?_⟩
      refine (CallsIn.inRound l (callsIn_wide.2 (unhide HEx _))).mono ?_
      rintro e w' ⟨rfl, hw⟩
      rw [hw]
      clear hw w'
      gi_wp2_with fail
      exact unhide H1 _
    case false =>
      have H2 := hide (h2 hent)
      rw [hent] at HEx
      clear h1 h2
      gi_wp2_with fail
      refine ⟨trivial, ?_⟩
      refine (CallsIn.inRound l (callsIn_wide.2 (unhide HEx _))).mono ?_
      rintro e w' ⟨rfl, hw⟩
      rw [hw]
      clear hw w'
      gi_wp2_with fail
      exact unhide H2 _
  · intro r W h1 h2
    obtain ⟨q1, q2⟩ := cell0 h1.res
    gi_wp2_with fail
    rw [hs0] at h1 ⊢
    have hK : (W.setCell ⟨w.heap.size, 0, none⟩ (.bool true)).heap[w.heap.size + 1 + 1 + 1 + 1]? = some (.deferred (some [])) := by rw [set_other _ _ _ _ _ (by omega)]; exact h1.dfr
    have hres : ((W.setCell ⟨w.heap.size, 0, none⟩ (.bool true)).putObj (w.heap.size + 1 + 1 + 1 + 1) (.deferred none)).heap[w.heap.size]? = some (.cells #[.bool true] 4) := by rw [World.putObj_heap_other (by omega)]; exact set0 h1.res
    have hlt := (Array.getElem?_eq_some_iff.1 hK).1
    refine ⟨by simp, .inl ⟨_, _, rfl, run_takeDeferred hK, ?_⟩⟩
    refine ⟨.bool true, by simp [results, Tryd.results37, go_sem, (cell0 hres).1], ?_, ?_⟩
    · exact (h1.old.setCell (by simp) _).grown (grownBy_putObj' _ _ _) (by have := h1.old.size; simp; omega) (fun k e => by cases e; omega)
    · exact .inl ⟨rfl, h2⟩
  · intro r W h1 h2
    obtain ⟨q1, q2⟩ := cell0 h1.res
    gi_wp2_with fail
    rw [hs0] at h1 ⊢
    have hK := h1.dfr
    have hres : (W.putObj (w.heap.size + 1 + 1 + 1 + 1) (.deferred none)).heap[w.heap.size]? = some (.cells #[.bool false] 4) := by rw [World.putObj_heap_other (by omega)]; exact h1.res
    refine ⟨by simp, .inl ⟨_, _, rfl, run_takeDeferred hK, ?_⟩⟩
    refine ⟨.bool false, by simp [results, Tryd.results37, go_sem, (cell0 hres).1], ?_, ?_⟩
    · exact h1.old.grown (grownBy_putObj' _ _ _) (by have := h1.old.size; omega) (fun k e => by cases e; omega)
    · exact .inr ⟨rfl, h2⟩
end Go.Proofs.YthfjofmfiklegaaDoor
/- Texts with a slash between, taken apart and joined: one and the same. No Go text is named here. -/
namespace Go.Proofs.YthfjofmfiklegaaDoor
def splitL : List UInt8 → List (List UInt8)
  | [] => [[]]
  | c :: r => if c = 47 then [] :: splitL r else match splitL r with
    | [] => [[c]]
    | h :: t => (c :: h) :: t
def joinL : List (List UInt8) → List UInt8
  | [] => []
  | [n] => n
  | n :: m :: r => n ++ 47 :: joinL (m :: r)
theorem splitL_ne (s : List UInt8) : splitL s ≠ [] := by
  cases s with
  | nil => simp [splitL]
  | cons c r =>
    rw [splitL]
    split
    · simp
    · split <;> simp
theorem join_split (s : List UInt8) : joinL (splitL s) = s := by
  induction s with
  | nil => rfl
  | cons c r ih =>
    rw [splitL]
    split
    · rename_i h
      cases h2 : splitL r with
      | nil => exact absurd h2 (splitL_ne r)
      | cons a t => rw [joinL, ← h2, ih, h]; rfl
    · cases h2 : splitL r with
      | nil => exact absurd h2 (splitL_ne r)
      | cons a t =>
        rw [h2] at ih
        cases t with
        | nil => simp [joinL] at ih ⊢; exact ih
        | cons b t => simp [joinL] at ih ⊢; exact ih
theorem split_no (s : List UInt8) : ∀ p ∈ splitL s, (47 : UInt8) ∉ p := by
  induction s with
  | nil => intro p hp; simp [splitL] at hp; subst hp; simp
  | cons c r ih =>
    rw [splitL]
    split
    · intro p hp
      rcases List.mem_cons.1 hp with rfl | h
      · simp
      · exact ih p h
    · rename_i hc
      cases h2 : splitL r with
      | nil => exact absurd h2 (splitL_ne r)
      | cons a t =>
        rw [h2] at ih
        intro p hp
        rcases List.mem_cons.1 hp with rfl | h
        · intro h
          rcases List.mem_cons.1 h with e | h
          · exact hc e.symm
          · exact ih a (by simp) h
        · exact ih p (by simp [h])
theorem split_app (a : List UInt8) (h : (47 : UInt8) ∉ a) (b : List UInt8) : splitL (a ++ 47 :: b) = a :: splitL b := by
  induction a with
  | nil => simp [splitL]
  | cons c r ih =>
    have hc : ¬ c = 47 := fun e => h (by simp [e])
    rw [List.cons_append, splitL, if_neg hc, ih (fun e => h (by simp [e]))]
theorem split_one (a : List UInt8) (h : (47 : UInt8) ∉ a) : splitL a = [a] := by
  induction a with
  | nil => rfl
  | cons c r ih =>
    have hc : ¬ c = 47 := fun e => h (by simp [e])
    rw [splitL, if_neg hc, ih (fun e => h (by simp [e]))]
theorem split_join (l : List (List UInt8)) (hne : l ≠ []) (h : ∀ p ∈ l, (47 : UInt8) ∉ p) : splitL (joinL l) = l := by
  induction l with
  | nil => exact absurd rfl hne
  | cons a r ih =>
    cases r with
    | nil => exact split_one a (h a (by simp))
    | cons b t => rw [joinL, split_app a (h a (by simp)), ih (by simp) (fun p hp => h p (by simp [hp]))]
theorem joinB_list (l : List ByteArray) : (joinB l).data.toList = joinL (l.map (·.data.toList)) := by
  induction l with
  | nil => rfl
  | cons a r ih =>
    cases r with
    | nil => rfl
    | cons b t => rw [join_list, ih]; rfl
/-- The parts of a text. -/
def partsB (s : ByteArray) : List ByteArray := (splitL s.data.toList).map fun l => ⟨l.toArray⟩
theorem partsB_ne (s : ByteArray) : partsB s ≠ [] := by
  unfold partsB
  intro h
  exact splitL_ne _ (List.map_eq_nil_iff.1 h)
theorem partsB_no (s : ByteArray) : ∀ p ∈ partsB s, (47 : UInt8) ∉ p.data.toList := by
  intro p hp
  obtain ⟨l, hl, rfl⟩ := List.mem_map.1 hp
  simpa using split_no _ l hl
theorem join_parts (s : ByteArray) : joinB (partsB s) = s := by
  apply ByteArray.ext
  apply Array.ext'
  rw [joinB_list]
  unfold partsB
  rw [List.map_map]
  have : ((fun x : ByteArray => x.data.toList) ∘ fun l : List UInt8 => (⟨l.toArray⟩ : ByteArray)) = id := by funext l; simp
  rw [this, List.map_id, join_split]
theorem parts_join (l : List ByteArray) (hne : l ≠ []) (h : ∀ p ∈ l, (47 : UInt8) ∉ p.data.toList) : partsB (joinB l) = l := by
  unfold partsB
  rw [joinB_list, split_join _ (by simpa using hne) (fun p hp => by obtain ⟨b, hb, rfl⟩ := List.mem_map.1 hp; exact h b hb), List.map_map]
  have : ((fun l : List UInt8 => (⟨l.toArray⟩ : ByteArray)) ∘ fun x : ByteArray => x.data.toList) = id := by funext x; cases x; simp
  rw [this, List.map_id]
theorem entB_no {s : ByteArray} (h : entB s = true) : (47 : UInt8) ∉ s.data.toList := fun hm => by
  have := entB_bad hm (.inl rfl)
  rw [h] at this; cases this
theorem entB_pos {s : ByteArray} (h : entB s = true) : 1 ≤ s.size := by
  unfold entB at h; exact (of_decide_eq_true h).1
end Go.Proofs.YthfjofmfiklegaaDoor
/- Which texts are places. -/
namespace Go.Proofs.YthfjofmfiklegaaDoor
open Go.RowKit
/-- A text is a place: names with a slash between. -/
def IsPl (s : ByteArray) (l : List ByteArray) : Prop := (∀ n ∈ l, entB n = true) ∧ s = joinB l
theorem isPl_parts {s : ByteArray} {l : List ByteArray} (h : IsPl s l) (h0 : s.size ≠ 0) : l = partsB s := by
  obtain ⟨h1, rfl⟩ := h
  exact (parts_join l (fun e => by subst e; exact h0 rfl) (fun p hp => entB_no (h1 p hp))).symm
set_option maxRecDepth 20000 in
set_option maxHeartbeats 1000000 in
theorem isPlace_any (s : ByteArray) (w : World) (hs : s.size ≤ 1000000) :
    Calls Tryd.prog 37 #[.string s] w fun e w' => Below w.heap.size w w' ∧ ((e = .returned (.bool true) ∧ ∃ l, IsPl s l) ∨ (e = .returned (.bool false) ∧ ∀ l, ¬ IsPl s l)) := by
  by_cases h0 : s.size = 0
  · obtain rfl : s = ⟨#[]⟩ := by
      cases s with
      | mk a => have : a = #[] := Array.eq_empty_of_size_eq_zero h0
                rw [this]
    have HP : Hid (∃ l, IsPl ⟨#[]⟩ l) := ⟨[], fun n hn => by simp at hn, rfl⟩
    go_enter Tryd.func37, Tryd.ntmps37
    go_wp2_with fail
    exact bodyPost_ret (v := .bool true) (by simp [results, Tryd.results37, go_sem]) rfl ⟨((Below.refl _ _).alloc (Nat.le_refl _) _), .inl ⟨rfl, unhide HP⟩⟩
  · have h := place_some (partsB s) w (partsB_ne s) (partsB_no s) (by rw [join_parts]; exact h0) (by rw [join_parts]; exact hs)
    rw [join_parts] at h
    refine h.mono ?_
    rintro e w' ⟨hb, ⟨rfl, hall⟩ | ⟨rfl, x, hx, hxe⟩⟩
    · exact ⟨hb, .inl ⟨rfl, partsB s, hall, (join_parts s).symm⟩⟩
    · refine ⟨hb, .inr ⟨rfl, fun l hl => ?_⟩⟩
      rw [← isPl_parts hl h0] at hx
      rw [hl.1 x hx] at hxe
      cases hxe
end Go.Proofs.YthfjofmfiklegaaDoor
/- A tree laid at a place: the plain mathematics. No Go text is named here. -/
namespace Go.Proofs.YthfjofmfiklegaaDoor
open Go.RowKit
/-- Names that rise, and as many kids, everywhere. -/
inductive Nice : Tr → Prop
  | mk (k : Int) (x : Bool) (d : ByteArray) (ns : List ByteArray) (ks : List Tr) (hr : Rise ns) (hl : ns.length = ks.length) (hk : ∀ t ∈ ks, Nice t) : Nice (.mk k x d ns ks)
def emptyDir : Tr := .mk 2 false ⟨#[]⟩ [] []
theorem nice_empty : Nice emptyDir := .mk _ _ _ _ _ (fun i j _ h => by simp at h) rfl (fun t ht => by simp at ht)
theorem Nice.ev {T : Tr} (h : Nice T) : Ev T := by
  induction h with
  | mk k x d ns ks hr hl hk ih => exact .mk k x d ns ks hl ih
/-- Where a name stands, or would. -/
def pos (ns : List ByteArray) (x : ByteArray) : Nat := (ns.takeWhile fun s => decide (s.toList < x.toList)).length
def has (ns : List ByteArray) (x : ByteArray) : Bool := decide (ns[pos ns x]? = some x)
theorem takeWhile_len {α : Type} (p : α → Bool) (l : List α) (i : Nat) (hi : i ≤ l.length) (h1 : ∀ j, (h : j < l.length) → j < i → p l[j] = true) (h2 : ∀ h : i < l.length, p l[i] = false) : (l.takeWhile p).length = i := by
  induction l generalizing i with
  | nil => simp at hi; simp [hi]
  | cons a r ih =>
    cases i with
    | zero =>
      have := h2 (by simp)
      simp at this
      simp [this]
    | succ i =>
      have ha := h1 0 (by simp) (by omega)
      simp at ha
      rw [List.takeWhile_cons, if_pos ha, List.length_cons, ih i (by simpa using hi) (fun j h hj => by have := h1 (j + 1) (by simpa using h) (by omega); simpa using this) (fun h => by have := h2 (by simpa using h); simpa using this)]
theorem found_pos {ns : List ByteArray} {x : ByteArray} {e : Ending} (h : Found ns x e) : e = .returned (.tuple #[.int .i64 ((pos ns x : Nat) : Int), .bool (has ns x)]) ∧ pos ns x ≤ ns.length := by
  obtain ⟨i, b, rfl, h1, h2, h3, h4⟩ := h
  have hp : pos ns x = i := by
    refine takeWhile_len _ ns i h1 (fun j hj hji => ?_) (fun hi => ?_)
    · have := h2 j hji
      rw [List.getD_eq_getElem?_getD, List.getElem?_eq_getElem hj] at this
      simpa using this
    · have := h3 i (Nat.le_refl _) hi
      rw [List.getD_eq_getElem?_getD, List.getElem?_eq_getElem hi] at this
      simpa using this
  have hb : has ns x = b := by
    unfold has
    rw [hp]
    cases b with
    | true =>
      obtain ⟨h5, h6⟩ := h4.1 rfl
      rw [List.getD_eq_getElem?_getD, List.getElem?_eq_getElem h5] at h6
      exact decide_eq_true (by rw [List.getElem?_eq_getElem h5]; exact congrArg some h6)
    | false =>
      refine decide_eq_false fun h => ?_
      obtain ⟨h5, h6⟩ := List.getElem?_eq_some_iff.1 h
      have : false = true := h4.2 ⟨h5, by rw [List.getD_eq_getElem?_getD, h]; rfl⟩
      cases this
  exact ⟨by rw [hp, hb], by rw [hp]; exact h1⟩
theorem has_lt {ns : List ByteArray} {x : ByteArray} (h : has ns x = true) : pos ns x < ns.length := by
  unfold has at h
  exact (List.getElem?_eq_some_iff.1 (of_decide_eq_true h)).1
/-- The kid that is gone on with. -/
def kidAt (ns : List ByteArray) (ks : List Tr) (x : ByteArray) : Tr := if has ns x then ks.getD (pos ns x) emptyDir else emptyDir
def nextAt (ns : List ByteArray) (x : ByteArray) : Nat := if has ns x then pos ns x + 1 else pos ns x
/-- A tree laid at a place, or why not: so deep. -/
def laidS : Tr → List ByteArray → Tr → Nat → Except Nat Tr
  | _, [], X, deep => if 64 < deep then .error 5 else .ok X
  | .mk k _ _ ns ks, n :: r, X, deep => if 64 < deep then .error 5 else if k = 2 then
      (match laidS (kidAt ns ks n) r X (deep + 1) with
      | .error e => .error e
      | .ok t => .ok (.mk 2 false ⟨#[]⟩ (ns.take (pos ns n) ++ [n] ++ ns.drop (nextAt ns n)) (ks.take (pos ns n) ++ [t] ++ ks.drop (nextAt ns n)))) else .error 8
theorem kidAt_nice {ns : List ByteArray} {ks : List Tr} {x : ByteArray} (h : ∀ t ∈ ks, Nice t) : Nice (kidAt ns ks x) := by
  unfold kidAt
  split
  · rw [List.getD_eq_getElem?_getD]
    cases hq : ks[pos ns x]? with
    | none => exact nice_empty
    | some t => exact h t (List.mem_of_getElem? hq)
  · exact nice_empty
theorem kidAt_wt {ns : List ByteArray} {ks : List Tr} {x : ByteArray} (h : ∀ t ∈ ks, wt t ≤ 100000) : wt (kidAt ns ks x) ≤ 100000 := by
  have he : wt emptyDir ≤ 100000 := by unfold emptyDir; rw [wt]; simp only [tenths, wts, List.length_nil]; have : (⟨#[]⟩ : ByteArray).size = 0 := rfl; omega
  unfold kidAt
  split
  · rw [List.getD_eq_getElem?_getD]
    cases hq : ks[pos ns x]? with
    | none => exact he
    | some t => exact h t (List.mem_of_getElem? hq)
  · exact he
end Go.Proofs.YthfjofmfiklegaaDoor
/- slices.Concat of names, and of trees. -/
namespace Go.Proofs.YthfjofmfiklegaaDoor
open Go.RowKit
def catN (L : Nat → Nat) : Nat → Nat | 0 => 0 | i + 1 => catN L i + L i
def catX (X : Nat → List Value) : Nat → List Value | 0 => [] | i + 1 => catX X i ++ X i
theorem catN_succ (L : Nat → Nat) (i : Nat) : catN L (i + 1) = catN L i + L i := rfl
theorem catX_succ (X : Nat → List Value) (i : Nat) : catX X (i + 1) = catX X i ++ X i := rfl
set_option maxRecDepth 20000 in
set_option maxHeartbeats 1000000 in
theorem concat23_any (g o m cap lo hi : Nat) (A : Nat → Option Addr) (L C : Nat → Nat) (X : Nat → List Value) (w : World) (hm : m ≤ 100) (hg : g < w.heap.size) (hhi : hi ≤ w.heap.size) (hcell : ∀ i, i < m → w.cell? ⟨g, o + i, none⟩ = some (.slice (A i) (L i) (C i)))
    (hrow : ∀ i, i < m → Row lo hi w (.slice (A i) (L i) (C i)) (L i) (X i)) (hX : ∀ i, i < m → (X i).length = L i * 1) (h1 : ∀ i, i < m → ∀ u ∈ X i, u.oneCell' = true) (hmax : ∀ i, i ≤ m → catN L i ≤ 1000000) :
    Calls Tryd.prog 58 #[.slice (some ⟨g, o, none⟩) m cap] w fun e w' => ∃ a c, e = .returned (.slice a (catN L m) c) ∧ w'.ownsRow w.heap.size 9 1 (.slice a (catN L m) c) (catN L m) (catX X m) ∧ Below w.heap.size w w' := by
  have HC := hide hcell
  have HR := hide hrow
  have HX := hide (And.intro hX h1)
  have HM := hide hmax
  have HS := hide (fun i => catN_succ L i)
  have HG := hide (fun w => grow23_nil (catN L m) w (hmax m (Nat.le_refl _)))
  clear hcell hrow hX h1 hmax
  go_enter Tryd.func58, Tryd.ntmps58
  go_wp2_with fail
  go_loop [3, 11] (fun vs vi => ∃ i : Nat, i ≤ m ∧ vi = .int .i64 (i : Int) ∧ vs = .int .i64 ((catN L i : Nat) : Int)) (fun _ vi => m - (intOf vi).toNat)
  case atStart => exact ⟨0, by omega, rfl, rfl⟩
  case round =>
    obtain ⟨i, him, rfl, rfl⟩ := hrel
    by_cases hlt : i < m
    · have hci := unhide HC i hlt
      have hni := unhide HM i him
      have hnj := unhide HM (i + 1) (by omega)
      have hsu := unhide HS i
      have HSi := hide hsu
      rw [hsu] at hnj
      clear hsu
      generalize hN : catN L i = N at *
      have HN := hide hN
      clear hN
      go_wp2_with fail
      go_round
      case rel => exact ⟨i + 1, by omega, by go_num, by rw [unhide HSi]; go_num⟩
      case measure => simp [intOf]; omega
    · obtain rfl : i = m := by omega
      go_wp2_with fail
      refine (unhide HG _).mono ?_
      rintro e w1 ⟨a1, c1, rfl, ho1, hb1, -, -⟩
      clear HG
      go_wp2_with fail
      go_loopw [6, 27] (fun vv vi wr => ∃ (j : Nat) (a c : _), j ≤ i ∧ vi = .int .i64 (j : Int) ∧ vv = .slice a (catN L j) c ∧ wr.ownsRow w.heap.size 9 1 (.slice a (catN L j) c) (catN L j) (catX X j) ∧ Below w.heap.size w wr) (fun _ vi _ => i - (intOf vi).toNat)
      case atStart => exact ⟨0, a1, c1, by omega, rfl, rfl, ho1, hb1⟩
      case round =>
        obtain ⟨j, a2, c2, hji, rfl, rfl, ho, hb⟩ := hrel
        clear ho1 hb1
        by_cases hlt : j < i
        · have hcj : wr.cell? ⟨g, o + j, none⟩ = some (.slice (A j) (L j) (C j)) := by rw [hb.cell (p := ⟨g, o + j, none⟩) hg]; exact unhide HC j hlt
          have hnj := unhide HM (j + 1) (by omega)
          rw [unhide HS j] at hnj
          obtain ⟨v3, w3, happ, ho3, hg3, -⟩ := app23_own wr w.heap.size lo hi _ _ _ (A j) (L j) (C j) (X j) ho ((unhide HR j hlt).below hb hhi) (by rw [(unhide HX).1 j hlt]; omega) ((unhide HX).2 j hlt) (by omega) hb.size
          obtain ⟨a3, c3, rfl, _⟩ := owns_slice ho3
          have hb3 := hb.grown hg3 hb.size (fun k hk => (owns_lt ho k hk).1)
          have HO := hide (And.intro ho3 hb3)
          clear ho3 hg3 hb3 ho
          go_wp2_with fail
          go_roundw
          case rel =>
            refine ⟨j + 1, a3, c3, by omega, by go_num, by rw [unhide HS j], ?_, (unhide HO).2⟩
            rw [unhide HS j, catX_succ]
            exact (unhide HO).1
          case measure => simp [intOf]; omega
        · obtain rfl : j = i := by omega
          go_wp2_with fail
          go_ret
          exact ⟨a2, c2, rfl, ho, hb⟩
set_option maxRecDepth 20000 in
set_option maxHeartbeats 1000000 in
theorem concat24_any (g o m cap lo hi : Nat) (A : Nat → Option Addr) (L C : Nat → Nat) (X : Nat → List Value) (w : World) (hm : m ≤ 100) (hg : g < w.heap.size) (hhi : hi ≤ w.heap.size) (hcell : ∀ i, i < m → w.cell? ⟨g, o + i, none⟩ = some (.slice (A i) (L i) (C i)))
    (hrow : ∀ i, i < m → Row lo hi w (.slice (A i) (L i) (C i)) (L i) (X i)) (hX : ∀ i, i < m → (X i).length = L i * 5) (h1 : ∀ i, i < m → ∀ u ∈ X i, u.oneCell' = true) (hmax : ∀ i, i ≤ m → catN L i ≤ 1000000) :
    Calls Tryd.prog 59 #[.slice (some ⟨g, o, none⟩) m cap] w fun e w' => ∃ a c, e = .returned (.slice a (catN L m) c) ∧ w'.ownsRow w.heap.size 26 5 (.slice a (catN L m) c) (catN L m) (catX X m) ∧ Below w.heap.size w w' := by
  have HC := hide hcell
  have HR := hide hrow
  have HX := hide (And.intro hX h1)
  have HM := hide hmax
  have HS := hide (fun i => catN_succ L i)
  have HG := hide (fun w => grow24_nil (catN L m) w (hmax m (Nat.le_refl _)))
  clear hcell hrow hX h1 hmax
  go_enter Tryd.func59, Tryd.ntmps59
  go_wp2_with fail
  go_loop [3, 11] (fun vs vi => ∃ i : Nat, i ≤ m ∧ vi = .int .i64 (i : Int) ∧ vs = .int .i64 ((catN L i : Nat) : Int)) (fun _ vi => m - (intOf vi).toNat)
  case atStart => exact ⟨0, by omega, rfl, rfl⟩
  case round =>
    obtain ⟨i, him, rfl, rfl⟩ := hrel
    by_cases hlt : i < m
    · have hci := unhide HC i hlt
      have hni := unhide HM i him
      have hnj := unhide HM (i + 1) (by omega)
      have hsu := unhide HS i
      have HSi := hide hsu
      rw [hsu] at hnj
      clear hsu
      generalize hN : catN L i = N at *
      have HN := hide hN
      clear hN
      go_wp2_with fail
      go_round
      case rel => exact ⟨i + 1, by omega, by go_num, by rw [unhide HSi]; go_num⟩
      case measure => simp [intOf]; omega
    · obtain rfl : i = m := by omega
      go_wp2_with fail
      refine (unhide HG _).mono ?_
      rintro e w1 ⟨a1, c1, rfl, ho1, hb1, -, -⟩
      clear HG
      go_wp2_with fail
      go_loopw [6, 27] (fun vv vi wr => ∃ (j : Nat) (a c : _), j ≤ i ∧ vi = .int .i64 (j : Int) ∧ vv = .slice a (catN L j) c ∧ wr.ownsRow w.heap.size 26 5 (.slice a (catN L j) c) (catN L j) (catX X j) ∧ Below w.heap.size w wr) (fun _ vi _ => i - (intOf vi).toNat)
      case atStart => exact ⟨0, a1, c1, by omega, rfl, rfl, ho1, hb1⟩
      case round =>
        obtain ⟨j, a2, c2, hji, rfl, rfl, ho, hb⟩ := hrel
        clear ho1 hb1
        by_cases hlt : j < i
        · have hcj : wr.cell? ⟨g, o + j, none⟩ = some (.slice (A j) (L j) (C j)) := by rw [hb.cell (p := ⟨g, o + j, none⟩) hg]; exact unhide HC j hlt
          have hnj := unhide HM (j + 1) (by omega)
          rw [unhide HS j] at hnj
          obtain ⟨v3, w3, happ, ho3, hg3, -⟩ := app24_own wr w.heap.size lo hi _ _ _ (A j) (L j) (C j) (X j) ho ((unhide HR j hlt).below hb hhi) (by rw [(unhide HX).1 j hlt]) ((unhide HX).2 j hlt) (by omega) hb.size
          obtain ⟨a3, c3, rfl, _⟩ := owns_slice ho3
          have hb3 := hb.grown hg3 hb.size (fun k hk => (owns_lt ho k hk).1)
          have HO := hide (And.intro ho3 hb3)
          clear ho3 hg3 hb3 ho
          go_wp2_with fail
          go_roundw
          case rel =>
            refine ⟨j + 1, a3, c3, by omega, by go_num, by rw [unhide HS j], ?_, (unhide HO).2⟩
            rw [unhide HS j, catX_succ]
            exact (unhide HO).1
          case measure => simp [intOf]; omega
        · obtain rfl : j = i := by omega
          go_wp2_with fail
          go_ret
          exact ⟨a2, c2, rfl, ho, hb⟩
end Go.Proofs.YthfjofmfiklegaaDoor
