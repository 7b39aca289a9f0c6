import Derived.Test.YtikamklgelcnhaaK2
import Derived.Deep.RegionWith
import Derived.Test.YtikamklgelcnhaaK1
import Derived.OwnWalk
import Derived.RangeFuncNested
import Derived.RangeFuncBound
import Derived.RangeFuncCalls
import Derived.RangeFuncLeaves
import Derived.Shelf.Abstract
import Derived.Shelf.RegionOpen
import Derived.WalkKit
import Derived.OwnWalkIn
import Derived.TacticsInMore
import Derived.LoopNIn
import Derived.LoopIn
import Derived.Lib.AppendZerosOnto
import Derived.Deep.RegionLaw
/- Clone, in the document's own answer. -/
namespace Go.Proofs.Ytikamklgelcnhaa
open Go.RowKit
set_option maxRecDepth 20000 in
set_option maxHeartbeats 1000000 in
theorem cloneR_any (T : Tr) : ∀ (lo hi : Nat) (cs : List Value) (w : World), Lies lo hi w T cs → wt T ≤ 100000 → hi ≤ w.heap.size →
    Calls Try.prog 10 #[.agg cs.toArray] w fun e w' => ∃ cs', e = .returned (.agg cs'.toArray) ∧ Below w.heap.size w w' ∧ Lies w.heap.size w'.heap.size w' T cs' := by
  induction T using Tr.ind with
  | h k x d ns ks ih =>
  intro lo hi cs w hL hW hhi
  have hSm := small_of hW
  cases hL with
  | mk _ _ _ _ _ vd vn vk Ks hl hd hn hk hK =>
  obtain ⟨ad, cd, rfl, hcd⟩ := hd.slice
  obtain ⟨an, cn, rfl, hcn⟩ := hn.slice
  obtain ⟨ak, ck, rfl, hck⟩ := hk.slice
  have hkl := hSm.k
  have HSm := hide hSm
  have HR := hide (And.intro hd (And.intro hn (And.intro hk (And.intro hl hK))))
  have hbx0 := bx_new w (.int .i64 k) (.bool x) (.slice ad d.size cd) (.slice an ns.length cn) (.slice ak ks.length ck)
  have hbx1 : Bx ((w.alloc (.cells #[.int .i64 k, .bool x, .slice ad d.size cd, .slice an ns.length cn, .slice ak ks.length ck] 26)).alloc (.cells #[.int .i64 0, .bool false, .slice none 0 0, .slice none 0 0, .slice none 0 0] 26)) (w.heap.size + 1) (.int .i64 0) (.bool false) (.slice none 0 0) (.slice none 0 0) (.slice none 0 0) := by
    have := bx_new (w.alloc (.cells #[.int .i64 k, .bool x, .slice ad d.size cd, .slice an ns.length cn, .slice ak ks.length ck] 26)) (.int .i64 0) (.bool false) (.slice none 0 0) (.slice none 0 0) (.slice none 0 0)
    rwa [World.size_alloc] at this
  have hbw0 : Below w.heap.size w ((w.alloc (.cells #[.int .i64 k, .bool x, .slice ad d.size cd, .slice an ns.length cn, .slice ak ks.length ck] 26)).alloc (.cells #[.int .i64 0, .bool false, .slice none 0 0, .slice none 0 0, .slice none 0 0] 26)) := ((Below.refl _ _).alloc (Nat.le_refl _) _).alloc (by simp) _
  have hbx2 : Bx ((w.alloc (.cells #[.int .i64 k, .bool x, .slice ad d.size cd, .slice an ns.length cn, .slice ak ks.length ck] 26)).alloc (.cells #[.int .i64 0, .bool false, .slice none 0 0, .slice none 0 0, .slice none 0 0] 26)) w.heap.size (.int .i64 k) (.bool x) (.slice ad d.size cd) (.slice an ns.length cn) (.slice ak ks.length ck) := hbx0.kept ((Below.refl (w.heap.size + 1) _).alloc (by simp) _) (by omega)
  obtain ⟨a1, c1, w1, happ1, hb1, hr1⟩ := fresh22 _ lo hi ad d.size cd (byteVals d) (hd.below hbw0 hhi) (byteVals_length d) (one_bytes d) (by have := hSm.d; omega) (by simp; omega)
  have hs1 := hb1.size
  have hbw1 : Below w.heap.size w w1 := hbw0.trans (hb1.mono (by simp; omega))
  have hbx3 := hbx2.kept hb1 (by simp; omega)
  have hbx4 := hbx1.kept hb1 (by simp)
  simp only [World.size_alloc] at happ1 hr1 hs1
  have hl1 : w.heap.size < w1.heap.size := by omega
  obtain ⟨z0, z1, z2, z3, z4⟩ := hbx3.cells
  have f2 := hbx3.fr 2
  -- the names
  obtain ⟨wB, hwB⟩ : ∃ wB, wB = w1.setCell ⟨w.heap.size, 2, none⟩ (.slice a1 d.size c1) := ⟨_, rfl⟩
  have hsB : wB.heap.size = w1.heap.size := by rw [hwB]; simp
  have hbwB : Below w.heap.size w wB := by rw [hwB]; exact hbw1.setCell (by simp) _
  have hbxB : Bx wB w.heap.size (.int .i64 k) (.bool x) (.slice a1 d.size c1) (.slice an ns.length cn) (.slice ak ks.length ck) := by rw [hwB]; exact hbx3.set2 _
  have hbrB : Bx wB (w.heap.size + 1) (.int .i64 0) (.bool false) (.slice none 0 0) (.slice none 0 0) (.slice none 0 0) := by rw [hwB]; exact hbx4.of (set_other _ _ _ _ _ (by omega))
  have hrB : Row (w.heap.size + 1 + 1) w1.heap.size wB (.slice a1 d.size c1) d.size (byteVals d) := by rw [hwB]; exact hr1.same (fun k hk _ => set_other _ _ _ _ _ (by omega))
  obtain ⟨a2, c2, w2, happ2, hb2, hr2⟩ := fresh23 wB lo hi an ns.length cn (ns.map .string) (hn.below hbwB hhi) (by simp) (one_strs ns) (by have := hSm.n; omega) (by omega)
  have hs2 := hb2.size
  have hbw2 : Below w.heap.size w w2 := hbwB.trans (hb2.mono (by omega))
  have hbx5 := hbxB.kept hb2 (by omega)
  have hbr5 := hbrB.kept hb2 (by omega)
  have hd5 := hrB.below hb2 (by omega)
  have hl2 : w.heap.size < w2.heap.size := by omega
  obtain ⟨y0, y1, y2, y3, y4⟩ := hbx5.cells
  have f3 := hbx5.fr 3
  rw [hsB] at happ2 hr2
  rw [hwB] at happ2
  -- what stands ahead of the kids
  obtain ⟨wC, hwC⟩ : ∃ wC, wC = w2.setCell ⟨w.heap.size, 3, none⟩ (.slice a2 ns.length c2) := ⟨_, rfl⟩
  have hsC : wC.heap.size = w2.heap.size := by rw [hwC]; simp
  have hbwC : Below w.heap.size w wC := by rw [hwC]; exact hbw2.setCell (by simp) _
  have hbxC : Bx wC w.heap.size (.int .i64 k) (.bool x) (.slice a1 d.size c1) (.slice a2 ns.length c2) (.slice ak ks.length ck) := by rw [hwC]; exact hbx5.set3 _
  have hbrC : Bx wC (w.heap.size + 1) (.int .i64 0) (.bool false) (.slice none 0 0) (.slice none 0 0) (.slice none 0 0) := by rw [hwC]; exact hbr5.of (set_other _ _ _ _ _ (by omega))
  have hdC : Row (w.heap.size + 1 + 1) wC.heap.size wC (.slice a1 d.size c1) d.size (byteVals d) := by
    rw [hsC]
    refine Row.mono (lo := w.heap.size + 1 + 1) (hi := w1.heap.size) ?_ (Nat.le_refl _) (by omega)
    rw [hwC]; exact hd5.same (fun k hk _ => set_other _ _ _ _ _ (by omega))
  have hnC : Row (w.heap.size + 1 + 1) wC.heap.size wC (.slice a2 ns.length c2) ns.length (ns.map .string) := by
    rw [hsC]
    refine Row.mono (lo := w1.heap.size) (hi := w2.heap.size) ?_ (by omega) (Nat.le_refl _)
    rw [hwC]; exact hr2.same (fun k hk _ => set_other _ _ _ _ _ (by omega))
  have hlC : w.heap.size + 1 + 1 ≤ wC.heap.size := by omega
  have HC := hide (And.intro hbwC (And.intro hbxC (And.intro hbrC (And.intro hdC hnC))))
  have HwC := hide hwC
  clear hbx0 hbx1 hbx2 hbx3 hbx4 hr1 hb1 hs1 hbw1 hbw0 hd hn hk hl hK hSm hwB hsB hbwB hbxB hbrB hrB hb2 hr2 hs2 hbw2 hbx5 hbr5 hd5 hsC hbwC hbxC hbrC hdC hnC hwC
  go_enter Try.func10, Try.ntmps10
  go_wp2_with fail
  rw [← unhide HwC]
  clear happ1 happ2 z0 z1 z2 z3 z4 f2 y0 y1 y2 y3 y4 f3 HwC
  go_loopw [3, 4] (fun vk vi wr => ∃ i : Nat, i ≤ ks.length ∧ vi = .int .i64 (i : Int) ∧ (∃ a c, vk = .slice a i c) ∧ KidsAt wC.heap.size wr vk ks i ∧ Below wC.heap.size wC wr) (fun _ vi _ => ks.length - (intOf vi).toNat)
  case atStart => exact ⟨0, by omega, rfl, ⟨_, _, rfl⟩, kids_none _ _ _, Below.refl _ _⟩
  case round =>
    obtain ⟨i, hik, rfl, ⟨av, cv, rfl⟩, hKi, hbr⟩ := hrel
    have hszr := hbr.size
    obtain ⟨z0, z1, z2, z3, z4⟩ := ((unhide HC).2.1.kept hbr (by omega)).cells
    by_cases hlt : i < ks.length
    · obtain ⟨-, -, hk, hl, hK⟩ := unhide HR
      obtain ⟨g, o, rfl, hg1, hg2, hcell⟩ := hk.at (by omega)
      have hbel : Below w.heap.size w wr := (unhide HC).1.trans (hbr.mono (by omega))
      have hcell' : ∀ j u, Ks.flatten[j]? = some u → wr.cell? ⟨g, o + j, none⟩ = some u := fun j u hj => by rw [hbel.cell (p := ⟨g, o + j, none⟩) (show g < w.heap.size by omega)]; exact hcell j u hj
      obtain ⟨k', x', b1, n1, c1', b2, n2, c2', b3, n3, c3', hLi, y0, y1, y2, y3, y4⟩ := kid_sl hl hcell' (fun i t c h1 h2 => (hK i t c h1 h2).kept hbel hhi) i hlt
      have HI := hide (ih ks[i] (List.getElem_mem hlt) lo hi _ wr hLi ((unhide HSm).t _ (List.getElem_mem hlt)) (by omega))
      have HKi := hide hKi
      have HT : Hid (ks[i]? = some ks[i]) := List.getElem?_eq_getElem hlt
      clear hcell hcell' hl hK hLi hk hbel hKi
      generalize ks[i] = t at *
      go_wp2_with fail
      refine (unhide HI).mono ?_
      rintro e w3 ⟨cs3, rfl, hb3, hL3⟩
      obtain ⟨k3, x3, d1, m1, e1, d2, m2, e2, d3, m3, e3, rfl⟩ := hL3.form
      have hs3 := hb3.size
      obtain ⟨a', c', w4, happ, hK4, hb4⟩ := kids_step (unhide HKi) hb3 hL3 (unhide HT) (by omega) hszr
      have HN := hide (And.intro hK4 (hbr.trans hb4))
      clear hK4 hb4 hL3 hb3 HI HKi HT z0 z1 z2 z3 z4 y0 y1 y2 y3 y4
      go_wp2_with fail
      go_roundw
      case rel => exact ⟨i + 1, by omega, by go_num, ⟨_, _, rfl⟩, (unhide HN).1, (unhide HN).2⟩
      case measure => simp [intOf]; omega
    · obtain rfl : i = ks.length := by omega
      have f4 := ((unhide HC).2.1.kept hbr (by omega)).fr 4
      obtain ⟨x0, x1, x2, x3, x4⟩ := ((unhide HC).2.2.1.kept hbr (by omega)).cells
      have g0 := ((unhide HC).2.2.1.kept hbr (by omega)).fr 0
      have g1 := ((unhide HC).2.2.1.kept hbr (by omega)).fr 1
      have g2 := ((unhide HC).2.2.1.kept hbr (by omega)).fr 2
      have g3 := ((unhide HC).2.2.1.kept hbr (by omega)).fr 3
      have g4 := ((unhide HC).2.2.1.kept hbr (by omega)).fr 4
      have HKi := hide hKi
      clear hKi
      go_wp2_with fail
      refine bodyPost_ret (v := .agg #[.int .i64 k, .bool x, .slice a1 d.size c1, .slice a2 ns.length c2, .slice av ks.length cv]) (by simp [results, Try.results10, go_sem, x0, x1, x2, x3, x4]) rfl ⟨[.int .i64 k, .bool x, .slice a1 d.size c1, .slice a2 ns.length c2, .slice av ks.length cv], rfl, ?_, ?_⟩
      · exact ((((((((unhide HC).1.trans (hbr.mono (by omega))).setCell (by simp) _).setCell (by simp) _).setCell (by simp) _).setCell (by simp) _).setCell (by simp) _).setCell (by simp) _)
      · have hother : ∀ k', w.heap.size + 1 + 1 ≤ k' → ((((((wr.setCell ⟨w.heap.size, 4, none⟩ (.slice av ks.length cv)).setCell ⟨w.heap.size + 1, 0, none⟩ (.int .i64 k)).setCell ⟨w.heap.size + 1, 1, none⟩ (.bool x)).setCell ⟨w.heap.size + 1, 2, none⟩ (.slice a1 d.size c1)).setCell ⟨w.heap.size + 1, 3, none⟩ (.slice a2 ns.length c2)).setCell ⟨w.heap.size + 1, 4, none⟩ (.slice av ks.length cv)).heap[k']? = wr.heap[k']? := fun k' hk' => by
          rw [set_other _ _ _ _ _ (by omega), set_other _ _ _ _ _ (by omega), set_other _ _ _ _ _ (by omega), set_other _ _ _ _ _ (by omega), set_other _ _ _ _ _ (by omega), set_other _ _ _ _ _ (by omega)]
        obtain ⟨Ks2, hKl2, hkr, hK2⟩ := kids_end ((unhide HKi).same (w' := ((((((wr.setCell ⟨w.heap.size, 4, none⟩ (.slice av ks.length cv)).setCell ⟨w.heap.size + 1, 0, none⟩ (.int .i64 k)).setCell ⟨w.heap.size + 1, 1, none⟩ (.bool x)).setCell ⟨w.heap.size + 1, 2, none⟩ (.slice a1 d.size c1)).setCell ⟨w.heap.size + 1, 3, none⟩ (.slice a2 ns.length c2)).setCell ⟨w.heap.size + 1, 4, none⟩ (.slice av ks.length cv))) (fun k' h1 _ => hother k' (by omega)) (by simp))
        refine .mk k x d ns ks _ _ _ Ks2 hKl2 ?_ ?_ ?_ ?_
        · refine Row.mono (lo := w.heap.size + 1 + 1) (hi := wC.heap.size) ?_ (by omega) (by simp; omega)
          exact ((unhide HC).2.2.2.1.below hbr (Nat.le_refl _)).same (fun k' h1 _ => hother k' h1)
        · refine Row.mono (lo := w.heap.size + 1 + 1) (hi := wC.heap.size) ?_ (by omega) (by simp; omega)
          exact ((unhide HC).2.2.2.2.below hbr (Nat.le_refl _)).same (fun k' h1 _ => hother k' h1)
        · exact hkr.mono (by omega) (Nat.le_refl _)
        · exact fun i t c h1 h2 => (hK2 i t c h1 h2).mono (by omega) (Nat.le_refl _)
end Go.Proofs.Ytikamklgelcnhaa
/- Bytes as a text. -/
namespace Go.Proofs.Ytikamklgelcnhaa
open Go.RowKit
def cv22 (v : Value) : Sem Value := convert 22 9 v
@[go_sem ↓] theorem convert_cv22 (v : Value) : convert 22 9 v = cv22 v := rfl
theorem push_fold (l : List UInt8) : ∀ r : ByteArray, (l.map (fun b => (b.toNat : Int))).foldl (fun r n => r.push (UInt8.ofNat n.toNat)) r = ⟨r.data ++ l.toArray⟩ := by
  induction l with
  | nil => intro r; simp
  | cons x l ih =>
    intro r
    rw [List.map_cons, List.foldl_cons, ih]
    simp [ByteArray.push]
theorem run_cv22 {lo hi : Nat} {w : World} {a : Option Addr} {c : Nat} {d : ByteArray} (h : Row lo hi w (.slice a d.size c) d.size (byteVals d)) : (cv22 (.slice a d.size c)).run Try.prog w = .ok (.string d) w := by
  unfold cv22
  rw [run_convert_bytes_string w 22 9 5 _ _ _ Try.underlying22 Try.underlying5 Try.underlying9]
  by_cases h0 : 0 < d.size
  · obtain ⟨b, rfl, hcell⟩ := h.src h0
    have hload : (loadCells b d.size).run Try.prog w = .ok ((d.data.toList.map (fun b => (b.toNat : Int))).map (Value.int .u8)).toArray w := by
      have := run_loadCells_list (P := Try.prog) w b ((d.data.toList.map (fun b => (b.toNat : Int))).map (Value.int .u8)) (fun j v hv => hcell j v (by rw [List.map_map] at hv; exact hv))
      simpa using this
    rw [run_bytesToString w _ d.size c _ hload, push_fold]
    simp [ByteArray.empty, ByteArray.emptyWithCapacity]
    cases d
    simp
    rfl
  · have hz : d.size = 0 := by omega
    obtain rfl : d = ⟨#[]⟩ := by
      cases d with
      | mk a => have : a = #[] := Array.eq_empty_of_size_eq_zero hz
                rw [this]
    cases a with
    | none => rfl
    | some x =>
      show (Conv.bytesToString (.slice (some x) 0 c)).run Try.prog w = _
      rw [run_bytesToString w _ 0 c [] rfl]; rfl
end Go.Proofs.Ytikamklgelcnhaa
/- The document's reader: its box; the next text. -/
namespace Go.Proofs.Ytikamklgelcnhaa
open Go.RowKit
set_option linter.unusedSimpArgs false
/-- The reader: what is left, the error, how many nodes have begun. -/
def Qx (w : World) (r : Nat) (b : Value) (e n : Int) : Prop := w.heap[r]? = some (.cells #[b, .int .i64 e, .int .i64 n] 116)
theorem Qx.cells {w : World} {r : Nat} {b : Value} {e n : Int} (h : Qx w r b e n) :
    w.cell? ⟨r, 0, none⟩ = some b ∧ w.cell? ⟨r, 1, none⟩ = some (.int .i64 e) ∧ w.cell? ⟨r, 2, none⟩ = some (.int .i64 n) := by
  unfold Qx at h
  refine ⟨?_, ?_, ?_⟩
  all_goals
    unfold World.cell?
    rw [h]
    rfl
theorem Qx.fr {w : World} {r : Nat} {b : Value} {e n : Int} (h : Qx w r b e n) (o : Nat) : w.frozen? ⟨r, o, none⟩ = false := by
  unfold World.frozen?; rw [show w.heap[r]? = _ from h]; simp
theorem Qx.lt {w : World} {r : Nat} {b : Value} {e n : Int} (h : Qx w r b e n) : r < w.heap.size := (Array.getElem?_eq_some_iff.1 h).1
theorem Qx.of {w w' : World} {r : Nat} {b : Value} {e n : Int} (h : Qx w r b e n) (k : w'.heap[r]? = w.heap[r]?) : Qx w' r b e n := by
  unfold Qx; rw [k]; exact h
theorem Qx.kept {w w' : World} {r B : Nat} {b : Value} {e n : Int} (h : Qx w r b e n) (hb : Below B w w') (hB : r < B) : Qx w' r b e n := h.of (hb.block r hB)
theorem Qx.set0 {w : World} {r : Nat} {b : Value} {e n : Int} (h : Qx w r b e n) (x : Value) : Qx (w.setCell ⟨r, 0, none⟩ x) r x e n := by
  unfold Qx at *; simp [World.setCell, Array.getElem?_modify, h]
theorem Qx.set1 {w : World} {r : Nat} {b : Value} {e n : Int} (h : Qx w r b e n) (x : Int) : Qx (w.setCell ⟨r, 1, none⟩ (.int .i64 x)) r b x n := by
  unfold Qx at *; simp [World.setCell, Array.getElem?_modify, h]
theorem Qx.set2 {w : World} {r : Nat} {b : Value} {e n : Int} (h : Qx w r b e n) (x : Int) : Qx (w.setCell ⟨r, 2, none⟩ (.int .i64 x)) r b e x := by
  unfold Qx at *; simp [World.setCell, Array.getElem?_modify, h]
theorem Qx.drewN {w : World} {r : Nat} {b : Value} {e n : Int} (h : Qx w r b e n) (k : Nat) : Qx (w.drewN k) r b e n := h
theorem qx_new (w : World) (b : Value) (e n : Int) : Qx (w.alloc (.cells #[b, .int .i64 e, .int .i64 n] 116)) w.heap.size b e n := by
  show (w.heap.push _)[w.heap.size]? = _
  rw [Array.getElem?_push, if_pos rfl]
theorem cut_l22 (a : Option Addr) (n c i : Nat) (hn : n ≤ c) (hi : i ≤ n) : ∃ a1, (∀ w, (sl22 (.slice a n c) (some (.int .i64 (i : Int))) none none).run Try.prog w = .ok (.slice a1 (n - i) (c - i)) w) ∧ ∀ (lo hi : Nat) (w : World) (xs : List Value), xs.length = n → Row lo hi w (.slice a n c) n xs → Row lo hi w (.slice a1 (n - i) (c - i)) (n - i) (xs.drop i) := by
  have hp : Piece (.slice a n c) (.slice a n c) 0 n := ⟨a, a, n, c, c, rfl, rfl, hn, by omega, fun lo hi w xs hx hr => by rw [List.drop_zero, List.take_of_length_le (by omega)]; exact hr⟩
  obtain ⟨a2, h1, h2⟩ := piece_lo hp hi
  obtain ⟨_, _, _, _, _, e1, e2, _, _, h3⟩ := h2
  cases e1
  cases e2
  refine ⟨a2, h1, fun lo hi w xs hx hr => ?_⟩
  have := h3 lo hi w xs hx hr
  rw [Nat.zero_add, List.take_of_length_le (by rw [List.length_drop]; omega)] at this
  exact this
theorem bits_up (n : Nat) (x : UInt8) (hn : n < 72057594037927936) : bits .or .u64 (IntKind.u64.wrap ((n : Int) * 256)) (x.toNat : Int) = ((x.toNat + 256 * n : Nat) : Int) := by
  have hx := x.toNat_lt
  have e1 : IntKind.u64.wrap ((n : Int) * 256) = ((n * 256 : Nat) : Int) := by rw [IntKind.wrap_u64]; omega
  rw [e1, bits_or_u64_nat _ _ (by omega) (by omega)]
  have := or_le x.toNat n 8 (by simpa using hx)
  rw [Nat.or_comm, show n * 256 = n * 2 ^ 8 by rfl, this]
theorem padN_le (n : Nat) : padN n ≤ 7 := by unfold padN; omega
theorem whole_pad (n : Nat) : (n + 7) / 8 * 8 = n + padN n := by unfold padN; omega
/-- What the document's text leaves. -/
def QtA (lo hi r : Nat) (L : List UInt8) (a : Option Addr) (c : Nat) (n : Int) (w : World) (x : Ending) (w' : World) : Prop :=
  Sole r w w' ∧ ((∃ m a', rdT L = .ok m ∧ x = .returned (.string ⟨((L.drop 8).take m).toArray⟩) ∧ Qx w' r (.slice a' (L.length - (8 + m + padN m)) (c - (8 + m + padN m))) 0 n ∧ Row lo hi w' (.slice a' (L.length - (8 + m + padN m)) (c - (8 + m + padN m))) (L.length - (8 + m + padN m)) (bv (L.drop (8 + m + padN m)))) ∨
    (∃ E, rdT L = .error E ∧ E ≠ 0 ∧ x = .returned (.string ⟨#[]⟩) ∧ Qx w' r (.slice a L.length c) E n))
attribute [local go_sem ↓] slice_sl22
set_option maxRecDepth 20000 in
set_option maxHeartbeats 1000000 in
theorem qtext_any (lo hi r : Nat) (L : List UInt8) (a : Option Addr) (c : Nat) (n : Int) (w : World) (hx : Qx w r (.slice a L.length c) 0 n) (hrow : Row lo hi w (.slice a L.length c) L.length (bv L)) (hoff : r < lo ∨ hi ≤ r) (hbig : L.length ≤ 1000000000) :
    Calls Try.prog 84 #[.pointer (some ⟨r, 0, none⟩)] w (QtA lo hi r L a c n w) := by
  obtain ⟨h0, h1, h2⟩ := hx.cells
  have f0 := hx.fr 0
  have f1 := hx.fr 1
  have hc : L.length ≤ c := by obtain ⟨_, c', e, h, _⟩ := hrow; cases e; exact h
  have HX := hide hx
  have HR := hide hrow
  clear hx hrow
  by_cases h8 : L.length < 8
  · have HE : Hid (QtA lo hi r L a c n w (.returned (.string ⟨#[]⟩)) (w.setCell ⟨r, 1, none⟩ (.int .i64 2))) := ⟨(Sole.refl r w).setCell 1 _, .inr ⟨2, rdT_short h8, by decide, rfl, (unhide HX).set1 2⟩⟩
    generalize L.length = N at *
    go_enter Try.func84, Try.ntmps84
    go_wp2_with fail
    go_ret
    exact unhide HE
  obtain ⟨g, o, rfl, _, _, hcell⟩ := (unhide HR).at (by omega)
  have hcs : ∀ i, i < L.length → ∃ x : UInt8, L[i]? = some x ∧ w.cell? ⟨g, o + i, none⟩ = some (.int .u8 (x.toNat : Int)) := by
    intro i hi
    have hx : L[i]? = some L[i] := List.getElem?_eq_getElem hi
    exact ⟨_, hx, hcell i _ (by unfold bv; rw [List.getElem?_map, hx]; rfl)⟩
  have HC := hide hcs
  clear hcs hcell
  go_enter Try.func84, Try.ntmps84
  go_wp2_with fail
  go_loopw [4, 3] (fun vi vn wr => ∃ z : Int, -1 ≤ z ∧ z ≤ 7 ∧ vi = .int .i64 z ∧ vn = .int .u64 ((leN ((L.take 8).drop (z + 1).toNat) : Nat) : Int) ∧ wr = w) (fun vi _ _ => (intOf vi + 1).toNat)
  case atStart => exact ⟨7, by omega, by omega, rfl, by rw [show (L.take 8).drop ((7 : Int) + 1).toNat = [] from List.drop_eq_nil_of_le (by rw [List.length_take]; exact Nat.min_le_left _ _)]; rfl, rfl⟩
  case round =>
    obtain ⟨z, hz1, hz2, rfl, rfl, rfl⟩ := hrel
    by_cases hz : 0 ≤ z
    · obtain ⟨i, rfl⟩ := Int.eq_ofNat_of_zero_le hz
      have hi8 : i < 8 := by omega
      obtain ⟨x, hx, hxc⟩ := unhide HC i (by omega)
      have hd : leN ((L.take 8).drop i) = x.toNat + 256 * leN ((L.take 8).drop ((i : Int) + 1).toNat) := by
        have hlt : i < (L.take 8).length := by rw [List.length_take]; omega
        rw [List.drop_eq_getElem_cons hlt, leN, show ((i : Int) + 1).toNat = i + 1 by omega]
        congr 2
        rw [List.getElem_take]
        rw [List.getElem?_eq_getElem (by omega)] at hx
        injection hx with hx
      have hb : leN ((L.take 8).drop ((i : Int) + 1).toNat) < 72057594037927936 := by
        refine Nat.lt_of_lt_of_le (leN_lt _) ?_
        have h7 : (256 : Nat) ^ ((L.take 8).drop ((i : Int) + 1).toNat).length ≤ 256 ^ 7 := Nat.pow_le_pow_right (by decide) (by rw [List.length_drop, List.length_take]; omega)
        exact h7
      generalize leN ((L.take 8).drop ((i : Int) + 1).toNat) = N at *
      have HQ := hide (bits_up N x hb)
      have HD := hide hd
      clear hd hb hx
      go_wp2_with fail
      go_roundw
      case rel =>
        refine ⟨(i : Int) - 1, by omega, by omega, rfl, ?_, trivial⟩
        have hw : IntKind.u64.wrap (x.toNat : Int) = (x.toNat : Int) := by have := x.toNat_lt; rw [IntKind.wrap_u64]; omega
        rw [hw, unhide HQ, show ((i : Int) - 1 + 1).toNat = i by omega, unhide HD]
      case measure => simp [intOf]; try omega
    · obtain rfl : z = -1 := by omega
      rw [show (L.take 8).drop ((-1 : Int) + 1).toNat = L.take 8 from rfl]
      have hlt64 : leN (L.take 8) < 18446744073709551616 := by have := leN_lt (L.take 8); rw [List.length_take, Nat.min_eq_left (by omega)] at this; exact this
      have HN0 : Hid (∃ N, N = leN (L.take 8)) := ⟨_, rfl⟩
      obtain ⟨N, hN⟩ := unhide HN0
      rw [← hN] at hlt64 ⊢
      have HN := hide hN
      clear hN HN0
      by_cases hbg : 2097152 < N
      · have HE : Hid (QtA lo hi r L (some ⟨g, o, none⟩) c n wr (.returned (.string ⟨#[]⟩)) (wr.setCell ⟨r, 1, none⟩ (.int .i64 3))) := ⟨(Sole.refl r wr).setCell 1 _, .inr ⟨3, rdT_long (by omega) (by rw [← unhide HN]; exact hbg), by decide, rfl, (unhide HX).set1 3⟩⟩
        clear HC HX HR
        go_wp2_with fail
        go_ret
        exact unhide HE
      have hp := padN_le N
      by_cases hsh : L.length < 8 + N + padN N
      · have HE : Hid (QtA lo hi r L (some ⟨g, o, none⟩) c n wr (.returned (.string ⟨#[]⟩)) (wr.setCell ⟨r, 1, none⟩ (.int .i64 2))) := ⟨(Sole.refl r wr).setCell 1 _, .inr ⟨2, rdT_cut (by omega) (unhide HN) (by omega) hsh, by decide, rfl, (unhide HX).set1 2⟩⟩
        clear HC HX HR
        have hq : ((N : Int) + 7) / 8 * 8 = (N : Int) + (padN N : Nat) := by have := whole_pad N; omega
        have hsh' : (L.length : Int) - 8 < (N : Int) + (padN N : Nat) := by omega
        generalize padN N = P at *
        go_wp2_with fail
        go_ret
        exact unhide HE
      · have hq : ((N : Int) + 7) / 8 * 8 = (N : Int) + (padN N : Nat) := by have := whole_pad N; omega
        have hsh' : ¬ (L.length : Int) - 8 < (N : Int) + (padN N : Nat) := by omega
        obtain ⟨a1, hrun1, hrow1⟩ := cut_lh22 (some ⟨g, o, none⟩) L.length c 8 (8 + N) hc (by omega) (by omega)
        obtain ⟨a2, hrun2, hrow2⟩ := cut_l22 (some ⟨g, o, none⟩) L.length c (8 + N + padN N) hc (by omega)
        have hsz : (⟨((L.drop 8).take N).toArray⟩ : ByteArray).size = N := by
          show ((L.drop 8).take N).toArray.size = N
          simp; omega
        have hcv : (cv22 (.slice a1 N (c - 8))).run Try.prog wr = .ok (.string ⟨((L.drop 8).take N).toArray⟩) wr := by
          have h := hrow1 lo hi wr (bv L) (bv_length L) (unhide HR)
          rw [show 8 + N - 8 = N by omega] at h
          have h' : Row lo hi wr (.slice a1 (⟨((L.drop 8).take N).toArray⟩ : ByteArray).size (c - 8)) (⟨((L.drop 8).take N).toArray⟩ : ByteArray).size (byteVals ⟨((L.drop 8).take N).toArray⟩) := by
            rw [hsz]
            unfold bv at h
            rw [← List.map_drop, ← List.map_take] at h
            exact h
          have := run_cv22 h'
          rw [hsz] at this
          exact this
        have hr1 : ∀ w, (sl22 (.slice (some ⟨g, o, none⟩) L.length c) (some (.int .i64 8)) (some (.int .i64 (8 + (N : Int)))) none).run Try.prog w = .ok (.slice a1 N (c - 8)) w := by
          intro W
          have := hrun1 W
          rw [show 8 + N - 8 = N by omega, Int.natCast_add] at this
          exact this
        have hr2 : ∀ w, (sl22 (.slice (some ⟨g, o, none⟩) L.length c) (some (.int .i64 (8 + ((N : Int) + (padN N : Nat))))) none none).run Try.prog w = .ok (.slice a2 (L.length - (8 + N + padN N)) (c - (8 + N + padN N))) w := by
          intro W
          have := hrun2 W
          rw [show ((8 + N + padN N : Nat) : Int) = 8 + ((N : Int) + (padN N : Nat)) by omega] at this
          exact this
        have HOK : Hid (rdT L = .ok N → QtA lo hi r L (some ⟨g, o, none⟩) c n wr (.returned (.string ⟨((L.drop 8).take N).toArray⟩)) (wr.setCell ⟨r, 0, none⟩ (.slice a2 (L.length - (8 + N + padN N)) (c - (8 + N + padN N))))) := by
          intro hrd
          refine ⟨(Sole.refl r wr).setCell 0 _, .inl ⟨N, a2, hrd, rfl, (unhide HX).set0 _, ?_⟩⟩
          have h := hrow2 lo hi wr (bv L) (bv_length L) (unhide HR)
          unfold bv at h ⊢
          rw [List.map_drop]
          exact h.same (fun k hk1 hk2 => set_other _ _ _ _ _ (by omega))
        have HPD : Hid (rdT L = .error 3 → QtA lo hi r L (some ⟨g, o, none⟩) c n wr (.returned (.string ⟨#[]⟩)) (wr.setCell ⟨r, 1, none⟩ (.int .i64 3))) := fun hrd => ⟨(Sole.refl r wr).setCell 1 _, .inr ⟨3, hrd, by decide, rfl, (unhide HX).set1 3⟩⟩
        have HAL : Hid ((∀ j, j < padN N → ∃ x : UInt8, L[8 + N + j]? = some x ∧ x = 0) → rdT L = .ok N) := by
          intro h
          refine rdT_ok (by omega) (unhide HN) (by omega) (by omega) ?_
          rw [List.all_eq_true]
          intro x hx
          obtain ⟨j, hj, he⟩ := List.getElem_of_mem hx
          rw [List.length_take, List.length_drop] at hj
          obtain ⟨y, hy, rfl⟩ := h j (by omega)
          rw [List.getElem_take, List.getElem_drop] at he
          rw [List.getElem?_eq_getElem (by omega)] at hy
          injection hy with hy
          rw [← he, hy]; rfl
        have HNO : Hid (∀ j, j < padN N → (∃ x : UInt8, L[8 + N + j]? = some x ∧ x ≠ 0) → rdT L = .error 3) := by
          intro j hj ⟨x, hx, hne⟩
          refine rdT_pad (by omega) (unhide HN) (by omega) (by omega) (fun h => hne ?_)
          rw [List.all_eq_true] at h
          have hj2 : j < ((L.drop (8 + N)).take (padN N)).length := by rw [List.length_take, List.length_drop]; omega
          have := h _ (List.getElem_mem hj2)
          rw [List.getElem_take, List.getElem_drop] at this
          rw [List.getElem?_eq_getElem (by omega)] at hx
          injection hx with hx
          rw [hx] at this
          simpa using this
        clear HX HR hrow1 hrow2 hrun1 hrun2 hsz
        generalize padN N = P at *
        generalize (⟨((L.drop 8).take N).toArray⟩ : ByteArray) = S at *
        go_wp2_with fail
        go_loopw [7] (fun vi wq => ∃ j : Nat, j ≤ P ∧ vi = .int .i64 ((N : Int) + (j : Int)) ∧ wq = wr ∧ Hid (∀ i, i < j → ∃ x : UInt8, L[8 + N + i]? = some x ∧ x = 0)) (fun vi _ => N + P - (intOf vi).toNat)
        case atStart => exact ⟨0, by omega, by simp, rfl, fun i hi => absurd hi (by omega)⟩
        case round =>
          obtain ⟨j, hj, rfl, rfl, hz⟩ := hrel
          by_cases hlt : j < P
          · obtain ⟨x, hx, hxc⟩ := unhide HC (8 + N + j) (by omega)
            have hxc' : wr.cell? ⟨g, o + (8 + (N + j)), none⟩ = some (.int .u8 (x.toNat : Int)) := by
              rw [show 8 + (N + j) = 8 + N + j by omega]; exact hxc
            by_cases hx0 : x = 0
            · subst hx0
              have hxn : ((0 : UInt8).toNat : Int) = 0 := rfl
              rw [hxn] at hxc'
              have HZ' : Hid (∀ i, i < j + 1 → ∃ x : UInt8, L[8 + N + i]? = some x ∧ x = 0) := by
                intro i hi
                by_cases h : i < j
                · exact unhide hz i h
                · obtain rfl : i = j := by omega
                  exact ⟨0, hx, rfl⟩
              clear hx hxc hxn hz
              go_wp2_with fail
              go_roundw
              case rel => exact ⟨j + 1, by omega, by rw [show (N : Int) + (j : Int) + 1 = (N : Int) + ((j + 1 : Nat) : Int) by omega], by trivial, unhide HZ'⟩
              case measure => simp [intOf]; omega
            · have hxn : ((x.toNat : Int) == 0) = false := by
                rw [beq_eq_false_iff_ne]
                intro h
                exact hx0 (UInt8.toNat_inj.1 (by simpa using h))
              have hE := unhide HPD (unhide HNO j hlt ⟨x, hx, hx0⟩)
              have HE := hide hE
              clear hx hxc hz hE HOK hcv
              go_wp2_with fail
              go_ret
              exact unhide HE
          · obtain rfl : j = P := by omega
            have HE := hide (unhide HOK (unhide HAL (unhide hz)))
            clear HOK HPD hz
            go_wp2_with fail
            go_ret
            exact unhide HE
/-- Behind an error nothing is read. -/
theorem qtext_err (r : Nat) (b : Value) (e n : Int) (w : World) (hx : Qx w r b e n) (he : e ≠ 0) :
    Calls Try.prog 84 #[.pointer (some ⟨r, 0, none⟩)] w fun x w' => x = .returned (.string ⟨#[]⟩) ∧ w' = w := by
  obtain ⟨h0, h1, h2⟩ := hx.cells
  have hbe : (e == 0) = false := by rw [beq_eq_false_iff_ne]; exact he
  clear hx
  go_enter Try.func84, Try.ntmps84
  go_wp2_with fail
  go_ret
  exact ⟨rfl, rfl⟩
end Go.Proofs.Ytikamklgelcnhaa
/- A sink for bytes: what is handed to it stands behind what it has; texts and data handed to it. -/
namespace Go.Proofs.Ytikamklgelcnhaa
open Go.RowKit
set_option linter.unusedSimpArgs false
/-- Only one cell's row has grown. -/
structure Gt (c : Nat) (w w' : World) (v v' : Value) : Prop where
  os : w'.os = w.os
  tape : w'.tape = w.tape
  output : w'.output = w.output
  size : w.heap.size ≤ w'.heap.size
  keep : ∀ k, k < w.heap.size → k ≠ c → v.ownBlock ≠ some k → w'.heap[k]? = w.heap[k]?
  own : ∀ g, v'.ownBlock = some g → v.ownBlock = some g ∨ w.heap.size ≤ g
theorem Gt.trans {c : Nat} {w w' w'' : World} {v v' v'' : Value} (h : Gt c w w' v v') (k : Gt c w' w'' v' v'') : Gt c w w'' v v'' :=
  ⟨k.os.trans h.os, k.tape.trans h.tape, k.output.trans h.output, Nat.le_trans h.size k.size,
    fun i hi hc hv => by
      have h2 := h.size
      rw [k.keep i (by omega) hc (fun e => by rcases h.own i e with h1 | h1; exact hv h1; omega), h.keep i hi hc hv],
    fun g hg => by
      have h2 := h.size
      rcases k.own g hg with h1 | h1
      · exact h.own g h1
      · exact .inr (by omega)⟩
theorem Gt.of_below {c : Nat} {w w' : World} (v : Value) (h : Below w.heap.size w w') : Gt c w w' v v := ⟨h.os, h.tape, h.output, h.size, fun k hk _ _ => h.block k hk, fun _ hg => .inl hg⟩
theorem Gt.drew {c : Nat} {w w' : World} {v v' : Value} (h : Gt c w w' v v') : Gt c w w'.drew v v' := ⟨h.os, h.tape, h.output, h.size, h.keep, h.own⟩
/-- The sink has these bytes. -/
structure Has (c : Nat) (w : World) (v : Value) (xs : List UInt8) : Prop where
  ctr : Ctr w c v
  row : w.ownsRow (c + 1) 5 1 v xs.length (bv xs)
theorem Has.slice {c : Nat} {w : World} {v : Value} {xs : List UInt8} (h : Has c w v xs) : ∃ a cp, v = .slice a xs.length cp := by
  obtain ⟨a, cp, e, _⟩ := owns_slice h.row; exact ⟨a, cp, e⟩
theorem Has.kept {c : Nat} {w w' : World} {v : Value} {xs : List UInt8} (h : Has c w v xs) (hb : Below w.heap.size w w') : Has c w' v xs :=
  ⟨h.ctr.below hb h.ctr.lt, owns_same h.row (fun g hg => hb.block g (owns_lt h.row g hg).2) (fun _ _ h => h)⟩
/-- What is there behind a call that hands bytes to the sink. -/
def SkA (c : Nat) (w : World) (v : Value) (xs : List UInt8) (w' : World) : Prop := ∃ v', Gt c w w' v v' ∧ Has c w' v' xs
theorem SkA.trans {c : Nat} {w w1 w2 : World} {v v1 : Value} {xs : List UInt8} (h : Gt c w w1 v v1) (k : SkA c w1 v1 xs w2) : SkA c w v xs w2 := by
  obtain ⟨v2, h2, h3⟩ := k
  exact ⟨v2, h.trans h2, h3⟩
/-- What lies elsewhere stays. -/
theorem Gt.row {c : Nat} {w w' : World} {v v' : Value} (h : Gt c w w' v v') {lo hi : Nat} {u : Value} {n : Nat} {xs : List Value} (hr : Row lo hi w u n xs) (hhi : hi ≤ w.heap.size) (hc : c < lo ∨ hi ≤ c) (hv : ∀ g, v.ownBlock = some g → g < lo ∨ hi ≤ g) : Row lo hi w' u n xs :=
  hr.same (fun k h1 h2 => h.keep k (by omega) (by omega) (fun e => by have := hv k e; omega))
set_option maxRecDepth 20000 in
set_option maxHeartbeats 1000000 in
theorem sink_any (c : Nat) (v : Value) (xs ys : List UInt8) (lo hi : Nat) (b : Option Addr) (m d : Nat) (w : World) (hS : Has c w v xs) (hr : Row lo hi w (.slice b m d) m (bv ys)) (hm : ys.length = m) (hmax : xs.length + m ≤ 10000000) :
    Calls Try.prog 28 #[.slice b m d, .pointer (some ⟨c, 0, none⟩)] w fun e w' => e = .returned (.tuple #[]) ∧ SkA c w v (xs ++ ys) w' := by
  obtain ⟨a, cp, rfl⟩ := hS.slice
  have hlt := hS.ctr.lt
  obtain ⟨v2, w2, happ, ho2, hg2, hv2⟩ := app22_own w (c + 1) lo hi (.slice a xs.length cp) xs.length (bv xs) b m d (bv ys) hS.row hr (by rw [bv_length]; exact hm) (bv_one ys) (by omega) (by omega)
  obtain ⟨a2, c2, rfl, _⟩ := owns_slice ho2
  have hne : some c ≠ (Value.slice a xs.length cp).ownBlock := fun e => by have := (owns_lt hS.row c e.symm).1; omega
  have hcc := hS.ctr.cell
  have hC2 : Ctr w2 c (.slice a xs.length cp) := ⟨by rw [World.cell?_of_block (w := w) (a := ⟨c, 0, none⟩) (hg2.block c hlt hne)]; exact hS.ctr.cell, by rw [World.frozen?_of_block (w := w) (a := ⟨c, 0, none⟩) (hg2.block c hlt hne)]; exact hS.ctr.fr⟩
  have hf2 := hC2.fr
  have hc2 := hC2.cell
  have hC3 := hC2.set (.slice a2 (xs.length + m) c2)
  have hs2 := hg2.size
  have HA : Hid (SkA c w (.slice a xs.length cp) (xs ++ ys) (w2.setCell ⟨c, 0, none⟩ (.slice a2 (xs.length + m) c2))) := by
    refine ⟨.slice a2 (xs.length + m) c2, ⟨hg2.os, hg2.tape, hg2.output, by simpa using hs2, fun k hk hkc hko => ?_, fun g hg => ?_⟩, hC3, ?_⟩
    · rw [set_other _ _ _ _ _ hkc]; exact hg2.block k hk (fun e => hko e.symm)
    · rcases hv2 with e | e
      · left; rw [← e]; exact hg
      · right; rw [e] at hg; cases hg; exact Nat.le_refl _
    · rw [List.length_append, hm, bv_append]
      exact owns_same ho2 (fun g hg => set_other _ _ _ _ _ (by have := (owns_lt ho2 g hg).1; omega)) (fun _ _ h => h)
  clear hS hr ho2 hg2 hv2 hne hC2 hC3
  go_enter Try.func28, Try.ntmps28
  go_wp2_with fail
  exact bodyPost_end (v := .tuple #[]) (by simp [results, Try.results28, go_sem]) rfl ⟨rfl, unhide HA⟩
end Go.Proofs.Ytikamklgelcnhaa
/- writeTexts and writeData: texts and data handed to the sink. -/
namespace Go.Proofs.Ytikamklgelcnhaa
open Go.RowKit
set_option linter.unusedSimpArgs false
def app22s (ty : TypeId) (args : Array Value) : Sem Value := Builtin.append_ #[22, 9] ty args
@[go_sem ↓] theorem append_app22s (ty : TypeId) (args : Array Value) : Builtin.append_ #[22, 9] ty args = app22s ty args := rfl
theorem str_app (w : World) (base : Nat) (v : Value) (n : Nat) (xs : List UInt8) (s : ByteArray) (ho : w.ownsRow base 5 1 v n (bv xs)) (hmax : n + s.size ≤ 10000000) (hbase : base ≤ w.heap.size) :
    ∃ a' c' w', (∀ ty, (app22s ty #[v, .string s]).run Try.prog w = .ok (.slice a' (n + s.size) c') w') ∧ w'.ownsRow base 5 1 (.slice a' (n + s.size) c') (n + s.size) (bv (xs ++ sB s)) ∧ Below base w w' ∧ w.heap.size ≤ w'.heap.size := by
  obtain ⟨i, hi', hz, hsz, hby⟩ := info5
  obtain ⟨v', w', h1, h2, h3, _⟩ := Lib.run_append_own_string (P := Try.prog) w base 22 9 22 5 i Try.underlying22 Try.underlying9 hi' hz hsz hby v n (bv xs) ho s (by unfold maxLen; omega) (by omega) hbase
  obtain ⟨a', c', rfl, _⟩ := owns_slice h2
  exact ⟨a', c', w', fun ty => h1, by rw [bv_append]; exact h2, (Below.refl base w).grown h3 hbase (fun k hk => (owns_lt ho k hk).1), h3.size⟩
theorem row_strX {lo hi : Nat} {w : World} {a : Option Addr} {n c : Nat} {xs : List ByteArray} (h : Row lo hi w (.slice a n c) n (xs.map .string)) (hn : xs.length = n) (i : Nat) (hi' : i < n) : ∃ g o, a = some ⟨g, o, none⟩ ∧ w.cell? ⟨g, o + i, none⟩ = some (.string (xs.getD i ⟨#[]⟩)) := by
  obtain ⟨g, o, rfl, _, _, hcell⟩ := h.at (by omega)
  exact ⟨g, o, rfl, hcell i _ (by rw [List.getElem?_map, List.getElem?_eq_getElem (show i < xs.length by omega), List.getD_eq_getElem?_getD, List.getElem?_eq_getElem (show i < xs.length by omega)]; rfl)⟩
theorem txs_take {ts : List ByteArray} {i : Nat} (h : i < ts.length) : txs ((ts.take (i + 1)).map sB) = txs ((ts.take i).map sB) ++ tx (sB (ts.getD i ⟨#[]⟩)) := by
  rw [List.take_add_one, List.getElem?_eq_getElem h, List.map_append, List.getD_eq_getElem?_getD, List.getElem?_eq_getElem h]
  exact txs_snoc _ _
theorem txs_le (l : List (List UInt8)) (i : Nat) : (txs (l.take i)).length ≤ (txs l).length := by
  induction l generalizing i with
  | nil => simp
  | cons a r ih =>
    cases i with
    | zero => simp [txs]
    | succ i => rw [List.take_succ_cons, txs, txs, List.length_append, List.length_append]; have := ih i; omega
theorem tx_len (s : List UInt8) : (tx s).length = 8 + s.length + padN s.length := by unfold tx; rw [List.length_append, List.length_append, lenB_length, List.length_replicate]
set_option maxRecDepth 20000 in
set_option maxHeartbeats 2000000 in
theorem writeTexts_any (c : Nat) (v : Value) (xs : List UInt8) (ts : List ByteArray) (lo hi : Nat) (a : Option Addr) (n ct : Nat) (w : World) (hS : Has c w v xs) (hr : Row lo hi w (.slice a n ct) n (ts.map .string)) (hn : ts.length = n) (hhi : hi ≤ w.heap.size) (hn1 : n ≤ 1000) (hmax : xs.length + (txs (ts.map sB)).length ≤ 10000000) (hmt : (txs (ts.map sB)).length ≤ 960000) :
    Calls Try.prog 44 #[.func (Fn.func 28) #[] #[.pointer (some ⟨c, 0, none⟩)], .slice a n ct] w fun e w' => e = .returned (.tuple #[]) ∧ SkA c w v (xs ++ txs (ts.map sB)) w' := by
  have HR := hide (And.intro hr hn)
  have HS := hide (And.intro hS (And.intro hmax hmt))
  clear hS hr hn hmax hmt
  go_enter Try.func44, Try.ntmps44
  go_wp2_with fail
  go_loopw [9, 4] (fun vi vp wr => ∃ (i : Nat) (a' : Option Addr) (c' L : Nat), i ≤ n ∧ vi = .int .i64 (i : Int) ∧ vp = .slice a' L c' ∧ Hid (L = (txs ((ts.take i).map sB)).length ∧ wr.ownsRow w.heap.size 5 1 (.slice a' L c') L (bv (txs ((ts.take i).map sB)))) ∧ Below w.heap.size w wr) (fun vi _ _ => n - (intOf vi).toNat)
  case atStart => exact ⟨0, none, 0, 0, by omega, rfl, rfl, ⟨by simp [txs], by simpa [txs, bv] using World.ownsRow_nil _ _ _ _⟩, Below.refl _ _⟩
  case round =>
    obtain ⟨i, a', c', L, hi1, rfl, rfl, hO, hb⟩ := hrel
    have hsb := hb.size
    by_cases hlt : i < n
    · obtain ⟨g, o, rfl, hcx⟩ := row_strX ((unhide HR).1.below hb hhi) (unhide HR).2 i hlt
      have hit : i < ts.length := by rw [(unhide HR).2]; exact hlt
      have htk := txs_take hit
      have hLe := (unhide hO).1
      have hle1 : (txs ((ts.take (i + 1)).map sB)).length ≤ 960000 := by
        rw [List.map_take]; exact Nat.le_trans (txs_le _ _) (unhide HS).2.2
      rw [htk, List.length_append, ← hLe, tx_len] at hle1
      have hsz : (sB (ts.getD i ⟨#[]⟩)).length = (ts.getD i ⟨#[]⟩).size := by unfold sB; rfl
      rw [hsz] at hle1
      generalize hsi : ts.getD i ⟨#[]⟩ = s at *
      have H1 := hide (lenapp_any w.heap.size a' c' L s.size (txs ((ts.take i).map sB)) wr (unhide hO).2 (by omega) (by omega))
      have HTK : Hid (txs ((ts.take (i + 1)).map sB) = txs ((ts.take i).map sB) ++ tx (sB s)) := htk
      clear htk hsi hsz hLe
      generalize txs ((ts.take i).map sB) = T0 at *
      go_wp2_with fail
      refine (unhide H1).mono ?_
      rintro e w2 ⟨a2, c2, rfl, ho2, hb2, hs2⟩
      obtain ⟨a3, c3, w3, happ, ho3, hb3, hs3⟩ := str_app w2 w.heap.size (.slice a2 (L + 8) c2) (L + 8) _ s ho2 (by omega) (by omega)
      have H4 := hide (padapp_any w.heap.size a3 c3 (L + 8 + s.size) s.size _ w3 ho3 (by omega) (by omega) (by omega))
      have Hb3 := hide (hb.trans (hb2.trans hb3))
      clear H1 ho2 hb2 ho3 hb3 hb hcx
      go_wp2_with fail
      refine (unhide H4).mono ?_
      rintro e w4 ⟨a4, c4, rfl, ho4, hb4, hs4⟩
      have HN : Hid (L + 8 + s.size + padN s.size = (txs ((ts.take (i + 1)).map sB)).length ∧ w4.ownsRow w.heap.size 5 1 (.slice a4 (L + 8 + s.size + padN s.size) c4) (L + 8 + s.size + padN s.size) (bv (txs ((ts.take (i + 1)).map sB)))) := by
        show _ ∧ _
        rw [unhide HTK]
        have e1 : T0 ++ tx (sB s) = T0 ++ lenB 8 s.size ++ sB s ++ List.replicate (padN s.size) 0 := by
          unfold tx
          have : (sB s).length = s.size := by unfold sB; rfl
          rw [this]
          simp only [List.append_assoc]
        refine ⟨?_, by rw [e1]; exact ho4⟩
        rw [List.length_append, tx_len, ← (unhide hO).1]
        have : (sB s).length = s.size := by unfold sB; rfl
        rw [this]; omega
      have Hb4 := hide ((unhide Hb3).trans hb4)
      clear H4 ho4 hb4 happ hO
      go_wp2_with fail
      go_roundw
      case rel => exact ⟨i + 1, a4, c4, L + 8 + s.size + padN s.size, by omega, by go_num, rfl, unhide HN, unhide Hb4⟩
      case measure => simp [intOf]; try omega
    · obtain rfl : n = i := by omega
      have hful : ts.take n = ts := List.take_of_length_le (by rw [(unhide HR).2]; omega)
      rw [hful] at hO
      have hL := (unhide hO).1
      have HK := hide (sink_any c v xs (txs (ts.map sB)) w.heap.size wr.heap.size a' L c' wr ((unhide HS).1.kept hb) (owns_row (unhide hO).2 (owns_lt (unhide hO).2)) hL.symm (by have := (unhide HS).2.1; omega))
      have HG : Hid (Gt c w wr v v) := Gt.of_below v hb
      clear hO hL hful hb
      go_wp2_with fail
      refine (unhide HK).mono ?_
      rintro e w5 ⟨rfl, hA⟩
      have HA := hide (SkA.trans (unhide HG) hA)
      clear HK hA
      go_wp2_with fail
      exact bodyPost_end (v := .tuple #[]) (by simp [results, Try.results44, go_sem]) rfl ⟨rfl, unhide HA⟩
set_option maxRecDepth 20000 in
set_option maxHeartbeats 2000000 in
theorem writeData_any (c : Nat) (v : Value) (xs ys : List UInt8) (lo hi : Nat) (a : Option Addr) (m d : Nat) (w : World) (hS : Has c w v xs) (hr : Row lo hi w (.slice a m d) m (bv ys)) (hm : ys.length = m) (hhi : hi ≤ c) (hmax : xs.length + (tx ys).length ≤ 10000000) :
    Calls Try.prog 66 #[.func (Fn.func 28) #[] #[.pointer (some ⟨c, 0, none⟩)], .slice a m d] w fun e w' => e = .returned (.tuple #[]) ∧ SkA c w v (xs ++ tx ys) w' := by
  have hcl := hS.ctr.lt
  rw [tx_len, hm] at hmax
  have H1 := hide (lenapp_any w.heap.size none 0 0 m [] w (by simpa [bv] using World.ownsRow_nil _ _ _ _) (by omega) (Nat.le_refl _))
  have HS := hide (And.intro hS (And.intro hr hm))
  clear hS hr hm
  go_enter Try.func66, Try.ntmps66
  go_wp2_with fail
  refine (unhide H1).mono ?_
  rintro e w1 ⟨a1, c1, rfl, ho1, hb1, hs1⟩
  rw [List.nil_append] at ho1
  have hS1 := (unhide HS).1.kept hb1
  have H2 := hide (sink_any c v xs (lenB 8 m) w.heap.size w1.heap.size a1 8 c1 w1 hS1 (owns_row ho1 (owns_lt ho1)) (lenB_length 8 m) (by omega))
  have HG1 : Hid (Gt c w w1 v v) := Gt.of_below v hb1
  have Hr1 := hide ((unhide HS).2.1.below hb1 (by omega))
  clear H1 ho1 hb1 hS1
  go_wp2_with fail
  refine (unhide H2).mono ?_
  rintro e w2 ⟨rfl, v2, hg2, hS2⟩
  have HG2 := hide ((unhide HG1).trans hg2)
  have hr2 := hg2.row (unhide Hr1) (by omega) (.inr hhi) (fun g hg => by
    have := (owns_lt (unhide HS).1.row g hg).1; omega)
  have hl8 := lenB_length 8 m
  have H3 := hide (sink_any c v2 _ ys lo hi a m d w2 hS2 hr2 (unhide HS).2.2 (by rw [List.length_append, hl8]; omega))
  clear H2 hg2 HG1 Hr1 hS2 hr2
  go_wp2_with fail
  refine (unhide H3).mono ?_
  rintro e w3 ⟨rfl, v3, hg3, hS3⟩
  have HG3 := hide ((unhide HG2).trans hg3)
  have H4 := hide (padapp_any w3.heap.size none 0 0 m [] w3 (by simpa [bv] using World.ownsRow_nil _ _ _ _) (by omega) (by omega) (Nat.le_refl _))
  have HS3 := hide hS3
  clear H3 hg3 HG2 hS3
  go_wp2_with fail
  refine (unhide H4).mono ?_
  rintro e w4 ⟨a4, c4, rfl, ho4, hb4, hs4⟩
  rw [List.nil_append, Nat.zero_add] at ho4
  have H5 := hide (sink_any c v3 _ (List.replicate (padN m) 0) w3.heap.size w4.heap.size a4 (padN m) c4 w4 ((unhide HS3).kept hb4) (owns_row ho4 (owns_lt ho4)) (by simp) (by rw [List.length_append, List.length_append, hl8, (unhide HS).2.2]; omega))
  have HG4 : Hid (Gt c w w4 v v3) := (unhide HG3).trans (Gt.of_below v3 hb4)
  clear H4 ho4 hb4 HG3
  go_wp2_with fail
  refine (unhide H5).mono ?_
  rintro e w5 ⟨rfl, hA⟩
  have HA : Hid (SkA c w v (xs ++ tx ys) w5) := by
    have := SkA.trans (unhide HG4) hA
    show SkA _ _ _ _ _
    unfold tx
    rw [(unhide HS).2.2]
    simpa only [List.append_assoc] using this
  clear H5 hA
  go_wp2_with fail
  exact bodyPost_end (v := .tuple #[]) (by simp [results, Try.results66, go_sem]) rfl ⟨rfl, unhide HA⟩
end Go.Proofs.Ytikamklgelcnhaa
/- slices.BinarySearch among names that rise; strings.Cut at a slash. -/
namespace Go.Proofs.Ytikamklgelcnhaa
open Go.RowKit
/-- Names that rise, each once. -/
def Rise (ns : List ByteArray) : Prop := ∀ i j, i < j → j < ns.length → (ns.getD i ⟨#[]⟩).toList < (ns.getD j ⟨#[]⟩).toList
/-- Where a name stands, or would, among names that rise. -/
def Found (ns : List ByteArray) (x : ByteArray) (e : Ending) : Prop :=
  ∃ (i : Nat) (b : Bool), e = .returned (.tuple #[.int .i64 (i : Int), .bool b]) ∧ i ≤ ns.length ∧ (∀ j, j < i → (ns.getD j ⟨#[]⟩).toList < x.toList) ∧ (∀ j, i ≤ j → j < ns.length → ¬ (ns.getD j ⟨#[]⟩).toList < x.toList) ∧ (b = true ↔ i < ns.length ∧ ns.getD i ⟨#[]⟩ = x)
theorem found_mk {ns : List ByteArray} {x : ByteArray} {n i : Nat} {b : Bool} (hn : n = ns.length) (h1 : i ≤ n) (h2 : ∀ j, j < i → (ns.getD j ⟨#[]⟩).toList < x.toList) (h3 : ∀ j, i ≤ j → j < n → ¬ (ns.getD j ⟨#[]⟩).toList < x.toList) (h4 : b = true ↔ i < n ∧ ns.getD i ⟨#[]⟩ = x) : Found ns x (.returned (.tuple #[.int .i64 (i : Int), .bool b])) := by
  subst hn; exact ⟨i, b, rfl, h1, h2, h3, h4⟩
end Go.Proofs.Ytikamklgelcnhaa
/- Places: names with a slash between; strings.Cut of one. -/
namespace Go.Proofs.Ytikamklgelcnhaa
open Go.RowKit
/-- Names with a slash between. -/
def joinB : List ByteArray → ByteArray
  | [] => ⟨#[]⟩
  | [n] => n
  | n :: m :: r => ⟨n.data ++ (#[47] ++ (joinB (m :: r)).data)⟩
theorem index_at (a b : List UInt8) (h : (47 : UInt8) ∉ a) : Lib.indexByte (a ++ 47 :: b) 47 = (a.length : Int) := by
  induction a with
  | nil => simp [Lib.indexByte]
  | cons x r ih =>
    have h1 : ¬ x = 47 := fun e => h (by simp [e])
    have h2 := ih (fun e => h (by simp [e]))
    simp only [List.cons_append, Lib.indexByte, h2]
    have e1 : (x == 47) = false := by simpa using h1
    have e2 : (((r.length : Nat) : Int) == -1) = false := by rw [beq_eq_false_iff_ne]; omega
    rw [e1, e2]
    simp
theorem index_none (a : List UInt8) (h : (47 : UInt8) ∉ a) : Lib.indexByte a 47 = -1 := by
  have h1 := (ib_neg a 47).2 h
  have h2 := Lib.indexByte_ge a 47
  omega
theorem join_head (n m : ByteArray) (r : List ByteArray) : (joinB (n :: m :: r)).extract 0 n.size = n := by
  apply ByteArray.ext
  rw [ByteArray.data_extract, joinB]
  apply Array.ext'
  rw [Array.toList_extract]
  simp
theorem join_list (n m : ByteArray) (r : List ByteArray) : (joinB (n :: m :: r)).data.toList = n.data.toList ++ 47 :: (joinB (m :: r)).data.toList := by rw [joinB]; simp
theorem join_rest (n m : ByteArray) (r : List ByteArray) : (joinB (n :: m :: r)).extract (n.size + 1) (joinB (n :: m :: r)).size = joinB (m :: r) := by
  apply ByteArray.ext
  rw [ByteArray.data_extract]
  apply Array.ext'
  have e1 : (joinB (n :: m :: r)).size = (joinB (n :: m :: r)).data.toList.length := by simp
  rw [Array.toList_extract, List.extract_eq_take_drop, e1, join_list, List.take_of_length_le (by simp)]
  have e2 : n.size + 1 = (n.data.toList ++ [47]).length := by simp
  rw [e2, show n.data.toList ++ 47 :: (joinB (m :: r)).data.toList = (n.data.toList ++ [47]) ++ (joinB (m :: r)).data.toList by simp, List.drop_left']
  rfl
theorem join_size (n m : ByteArray) (r : List ByteArray) : (joinB (n :: m :: r)).size = n.size + 1 + (joinB (m :: r)).size := by
  have h := congrArg List.length (join_list n m r)
  simp at h
  omega
end Go.Proofs.Ytikamklgelcnhaa
/- strings.SplitSeq at a slash: the parts of a place, one by one, for a round that may say no more. -/
namespace Go.Proofs.Ytikamklgelcnhaa
open Go.RowKit Go.Shelf
attribute [local go_sem] Oper.semAt_some
/-- How long the text in a box is. -/
def sizeAt (b : Nat) (w : World) : Nat := match w.cell? ⟨b, 0, none⟩ with
  | some (.string s) => s.size
  | _ => 0
theorem join_lt (n m : ByteArray) (r : List ByteArray) : (joinB (m :: r)).size < (joinB (n :: m :: r)).size := by rw [join_size]; omega
theorem join_mem {parts : List ByteArray} {x : ByteArray} (h : x ∈ parts) : x.size ≤ (joinB parts).size := by
  induction parts with
  | nil => simp at h
  | cons a p ih =>
    cases p with
    | nil => simp at h; subst h; exact Nat.le_refl _
    | cons m r =>
      rw [join_size]
      rcases List.mem_cons.1 h with rfl | h
      · omega
      · have := ih h; omega
theorem join_suffix (pre rest : List ByteArray) (hr : rest ≠ []) : (joinB rest).size ≤ (joinB (pre ++ rest)).size := by
  induction pre with
  | nil => simp
  | cons a p ih =>
    cases h : p ++ rest with
    | nil => simp at h; exact absurd h.2 hr
    | cons m r =>
      rw [h] at ih
      rw [List.cons_append, h, join_size]
      omega
end Go.Proofs.Ytikamklgelcnhaa
/- isPlace, in the code. -/
namespace Go.Proofs.Ytikamklgelcnhaa
open Go.RowKit Go.Shelf
attribute [local go_sem] Oper.semAt_some
/-- What stands while the parts of a place are gone through. -/
structure Pl (w : World) (l D : Nat) (r : Loop) (W : World) : Prop where
  old : Below w.heap.size w W
  res : W.heap[w.heap.size]? = some (.cells #[.bool false] 4)
  str : ∃ v, W.heap[w.heap.size + 1]? = some (.cells #[v] 9)
  sep : W.heap[w.heap.size + 1 + 1]? = some (.cells #[.string ⟨#[47]⟩] 9)
  nul : W.heap[w.heap.size + 1 + 1 + 1]? = some (.cells #[.int .i64 0] 3)
  rcd : W.heap[l]? = some (.loop r)
  dfr : W.heap[D]? = some (.deferred (some []))
theorem cell0 {W : World} {b : Nat} {v : Value} {t : TypeId} (h : W.heap[b]? = some (.cells #[v] t)) : W.cell? ⟨b, 0, none⟩ = some v ∧ W.frozen? ⟨b, 0, none⟩ = false := by
  refine ⟨?_, ?_⟩
  · unfold World.cell?; rw [show W.heap[b]? = _ from h]; rfl
  · unfold World.frozen?; rw [show W.heap[b]? = _ from h]; simp
theorem set0 {W : World} {b : Nat} {v u : Value} {t : TypeId} (h : W.heap[b]? = some (.cells #[v] t)) : (W.setCell ⟨b, 0, none⟩ u).heap[b]? = some (.cells #[u] t) := by
  simp [World.setCell, Array.getElem?_modify, h]
theorem Pl.set {w W : World} {l D : Nat} {r : Loop} (h : Pl w l D r W) (v : Value) (hl : w.heap.size + 1 < l) (hD : w.heap.size + 1 < D) : Pl w l D r (W.setCell ⟨w.heap.size + 1, 0, none⟩ v) := by
  obtain ⟨h1, h2, ⟨u, h3⟩, h4, h5, h6, h7⟩ := h
  exact ⟨h1.setCell (by simp) _, by rw [set_other _ _ _ _ _ (by omega)]; exact h2, ⟨v, set0 h3⟩, by rw [set_other _ _ _ _ _ (by omega)]; exact h4, by rw [set_other _ _ _ _ _ (by omega)]; exact h5, by rw [set_other _ _ _ _ _ (by omega)]; exact h6, by rw [set_other _ _ _ _ _ (by omega)]; exact h7⟩
theorem Pl.put {w W : World} {l D : Nat} {r : Loop} (h : Pl w l D r W) (r' : Loop) (hl : w.heap.size + 1 + 1 + 1 < l) (hD : D ≠ l) : Pl w l D r' (W.putObj l (.loop r')) := by
  obtain ⟨h1, h2, ⟨u, h3⟩, h4, h5, h6, h7⟩ := h
  have hlt := (Array.getElem?_eq_some_iff.1 h6).1
  exact ⟨h1.grown (grownBy_putObj' W l _) (Nat.le_trans (Nat.le_refl _) h1.size) (fun k e => by cases e; omega), by rw [World.putObj_heap_other (by omega)]; exact h2, ⟨u, by rw [World.putObj_heap_other (by omega)]; exact h3⟩, by rw [World.putObj_heap_other (by omega)]; exact h4, by rw [World.putObj_heap_other (by omega)]; exact h5, World.putObj_heap_same hlt, by rw [World.putObj_heap_other hD]; exact h7⟩
theorem Pl.setRes {w W : World} {l D : Nat} {r : Loop} (h : Pl w l D r W) (hl : w.heap.size + 1 < l) (hD : w.heap.size + 1 < D) : Pl w l D r (W.setCell ⟨w.heap.size, 0, none⟩ (.bool false)) := by
  obtain ⟨h1, h2, ⟨u, h3⟩, h4, h5, h6, h7⟩ := h
  exact ⟨h1.setCell (by simp) _, set0 h2, ⟨u, by rw [set_other _ _ _ _ _ (by omega)]; exact h3⟩, by rw [set_other _ _ _ _ _ (by omega)]; exact h4, by rw [set_other _ _ _ _ _ (by omega)]; exact h5, by rw [set_other _ _ _ _ _ (by omega)]; exact h6, by rw [set_other _ _ _ _ _ (by omega)]; exact h7⟩
end Go.Proofs.Ytikamklgelcnhaa
/- Texts with a slash between, taken apart and joined: one and the same. No Go text is named here. -/
namespace Go.Proofs.Ytikamklgelcnhaa
def splitL : List UInt8 → List (List UInt8)
  | [] => [[]]
  | c :: r => if c = 47 then [] :: splitL r else match splitL r with
    | [] => [[c]]
    | h :: t => (c :: h) :: t
def joinL : List (List UInt8) → List UInt8
  | [] => []
  | [n] => n
  | n :: m :: r => n ++ 47 :: joinL (m :: r)
theorem splitL_ne (s : List UInt8) : splitL s ≠ [] := by
  cases s with
  | nil => simp [splitL]
  | cons c r =>
    rw [splitL]
    split
    · simp
    · split <;> simp
theorem join_split (s : List UInt8) : joinL (splitL s) = s := by
  induction s with
  | nil => rfl
  | cons c r ih =>
    rw [splitL]
    split
    · rename_i h
      cases h2 : splitL r with
      | nil => exact absurd h2 (splitL_ne r)
      | cons a t => rw [joinL, ← h2, ih, h]; rfl
    · cases h2 : splitL r with
      | nil => exact absurd h2 (splitL_ne r)
      | cons a t =>
        rw [h2] at ih
        cases t with
        | nil => simp [joinL] at ih ⊢; exact ih
        | cons b t => simp [joinL] at ih ⊢; exact ih
theorem split_no (s : List UInt8) : ∀ p ∈ splitL s, (47 : UInt8) ∉ p := by
  induction s with
  | nil => intro p hp; simp [splitL] at hp; subst hp; simp
  | cons c r ih =>
    rw [splitL]
    split
    · intro p hp
      rcases List.mem_cons.1 hp with rfl | h
      · simp
      · exact ih p h
    · rename_i hc
      cases h2 : splitL r with
      | nil => exact absurd h2 (splitL_ne r)
      | cons a t =>
        rw [h2] at ih
        intro p hp
        rcases List.mem_cons.1 hp with rfl | h
        · intro h
          rcases List.mem_cons.1 h with e | h
          · exact hc e.symm
          · exact ih a (by simp) h
        · exact ih p (by simp [h])
theorem split_app (a : List UInt8) (h : (47 : UInt8) ∉ a) (b : List UInt8) : splitL (a ++ 47 :: b) = a :: splitL b := by
  induction a with
  | nil => simp [splitL]
  | cons c r ih =>
    have hc : ¬ c = 47 := fun e => h (by simp [e])
    rw [List.cons_append, splitL, if_neg hc, ih (fun e => h (by simp [e]))]
theorem split_one (a : List UInt8) (h : (47 : UInt8) ∉ a) : splitL a = [a] := by
  induction a with
  | nil => rfl
  | cons c r ih =>
    have hc : ¬ c = 47 := fun e => h (by simp [e])
    rw [splitL, if_neg hc, ih (fun e => h (by simp [e]))]
theorem split_join (l : List (List UInt8)) (hne : l ≠ []) (h : ∀ p ∈ l, (47 : UInt8) ∉ p) : splitL (joinL l) = l := by
  induction l with
  | nil => exact absurd rfl hne
  | cons a r ih =>
    cases r with
    | nil => exact split_one a (h a (by simp))
    | cons b t => rw [joinL, split_app a (h a (by simp)), ih (by simp) (fun p hp => h p (by simp [hp]))]
theorem joinB_list (l : List ByteArray) : (joinB l).data.toList = joinL (l.map (·.data.toList)) := by
  induction l with
  | nil => rfl
  | cons a r ih =>
    cases r with
    | nil => rfl
    | cons b t => rw [join_list, ih]; rfl
/-- The parts of a text. -/
def partsB (s : ByteArray) : List ByteArray := (splitL s.data.toList).map fun l => ⟨l.toArray⟩
theorem partsB_ne (s : ByteArray) : partsB s ≠ [] := by
  unfold partsB
  intro h
  exact splitL_ne _ (List.map_eq_nil_iff.1 h)
theorem partsB_no (s : ByteArray) : ∀ p ∈ partsB s, (47 : UInt8) ∉ p.data.toList := by
  intro p hp
  obtain ⟨l, hl, rfl⟩ := List.mem_map.1 hp
  simpa using split_no _ l hl
theorem join_parts (s : ByteArray) : joinB (partsB s) = s := by
  apply ByteArray.ext
  apply Array.ext'
  rw [joinB_list]
  unfold partsB
  rw [List.map_map]
  have : ((fun x : ByteArray => x.data.toList) ∘ fun l : List UInt8 => (⟨l.toArray⟩ : ByteArray)) = id := by funext l; simp
  rw [this, List.map_id, join_split]
theorem parts_join (l : List ByteArray) (hne : l ≠ []) (h : ∀ p ∈ l, (47 : UInt8) ∉ p.data.toList) : partsB (joinB l) = l := by
  unfold partsB
  rw [joinB_list, split_join _ (by simpa using hne) (fun p hp => by obtain ⟨b, hb, rfl⟩ := List.mem_map.1 hp; exact h b hb), List.map_map]
  have : ((fun l : List UInt8 => (⟨l.toArray⟩ : ByteArray)) ∘ fun x : ByteArray => x.data.toList) = id := by funext x; cases x; simp
  rw [this, List.map_id]
theorem entB_no {s : ByteArray} (h : entB s = true) : (47 : UInt8) ∉ s.data.toList := fun hm => by
  have := entB_bad hm (.inl rfl)
  rw [h] at this; cases this
theorem entB_pos {s : ByteArray} (h : entB s = true) : 1 ≤ s.size := by
  unfold entB at h; exact (of_decide_eq_true h).1
end Go.Proofs.Ytikamklgelcnhaa
/- Which texts are places. -/
namespace Go.Proofs.Ytikamklgelcnhaa
open Go.RowKit
/-- A text is a place: names with a slash between. -/
def IsPl (s : ByteArray) (l : List ByteArray) : Prop := (∀ n ∈ l, entB n = true) ∧ s = joinB l
theorem isPl_parts {s : ByteArray} {l : List ByteArray} (h : IsPl s l) (h0 : s.size ≠ 0) : l = partsB s := by
  obtain ⟨h1, rfl⟩ := h
  exact (parts_join l (fun e => by subst e; exact h0 rfl) (fun p hp => entB_no (h1 p hp))).symm
end Go.Proofs.Ytikamklgelcnhaa
/- A tree in memory of its own: rows that share no block. -/
namespace Go.Proofs.Ytikamklgelcnhaa
open Go.RowKit
inductive Own (w : World) : Nat → Nat → Tr → List Value → Prop
  | mk (lo hi : Nat) (k : Int) (x : Bool) (d : ByteArray) (ns : List ByteArray) (ks : List Tr) (vd vn vk : Value) (Ks : List (List Value)) (L H : Nat → Nat) (hl : Ks.length = ks.length)
      (hd : w.ownsRow lo 5 1 vd d.size (byteVals d)) (hn : w.ownsRow lo 9 1 vn ns.length (ns.map .string)) (hk : w.ownsRow lo 26 5 vk ks.length Ks.flatten)
      (hin : ∀ g, (vd.ownBlock = some g ∨ vn.ownBlock = some g ∨ vk.ownBlock = some g) → g < hi) (hne : ∀ g, vk.ownBlock = some g → vd.ownBlock ≠ some g ∧ vn.ownBlock ≠ some g)
      (hdn : ∀ g, vn.ownBlock = some g → vd.ownBlock ≠ some g)
      (hK : ∀ (i : Nat) (t : Tr) (c : List Value), ks[i]? = some t → Ks[i]? = some c → Own w (L i) (H i) t c)
      (hLH : ∀ i, i < ks.length → lo ≤ L i ∧ H i ≤ hi ∧ ∀ g, (vd.ownBlock = some g ∨ vn.ownBlock = some g ∨ vk.ownBlock = some g) → g < L i ∨ H i ≤ g)
      (hdis : ∀ i j, i < j → j < ks.length → H i ≤ L j) : Own w lo hi (.mk k x d ns ks) [.int .i64 k, .bool x, vd, vn, vk]
theorem Own.same {w w' : World} {lo hi : Nat} {T : Tr} {cs : List Value} (h : Own w lo hi T cs) : (∀ k, lo ≤ k → k < hi → w'.heap[k]? = w.heap[k]?) → Own w' lo hi T cs := by
  induction h with
  | mk lo hi k x d ns ks vd vn vk Ks L H hl hd hn hk hin hne hdn hK hLH hdis ih =>
    intro hs
    refine .mk lo hi k x d ns ks vd vn vk Ks L H hl ?_ ?_ ?_ hin hne hdn (fun i t c h1 h2 => ih i t c h1 h2 (fun k hk1 hk2 => ?_)) hLH hdis
    · exact owns_same hd (fun g hg => hs g (owns_lt hd g hg).1 (hin g (.inl hg))) (fun _ _ h => h)
    · exact owns_same hn (fun g hg => hs g (owns_lt hn g hg).1 (hin g (.inr (.inl hg)))) (fun _ _ h => h)
    · exact owns_same hk (fun g hg => hs g (owns_lt hk g hg).1 (hin g (.inr (.inr hg)))) (fun _ _ h => h)
    · have := hLH i (List.getElem?_eq_some_iff.1 h1).1
      exact hs k (by omega) (by omega)
theorem Own.lies {w : World} {lo hi : Nat} {T : Tr} {cs : List Value} (h : Own w lo hi T cs) : Lies lo hi w T cs := by
  induction h with
  | mk lo hi k x d ns ks vd vn vk Ks L H hl hd hn hk hin hne hdn hK hLH hdis ih =>
    refine .mk k x d ns ks vd vn vk Ks hl (owns_row hd (fun g hg => ⟨(owns_lt hd g hg).1, hin g (.inl hg)⟩)) (owns_row hn (fun g hg => ⟨(owns_lt hn g hg).1, hin g (.inr (.inl hg))⟩)) (owns_row hk (fun g hg => ⟨(owns_lt hk g hg).1, hin g (.inr (.inr hg))⟩)) (fun i t c h1 h2 => ?_)
    have := hLH i (List.getElem?_eq_some_iff.1 h1).1
    exact (ih i t c h1 h2).mono (by omega) (by omega)
theorem Own.mono {w : World} {lo hi lo' hi' : Nat} {T : Tr} {cs : List Value} (h : Own w lo hi T cs) (h1 : lo' ≤ lo) (h2 : hi ≤ hi') : Own w lo' hi' T cs := by
  cases h with
  | mk _ _ k x d ns ks vd vn vk Ks L H hl hd hn hk hin hne hdn hK hLH hdis =>
    refine .mk lo' hi' k x d ns ks vd vn vk Ks L H hl (owns_same hd (fun _ _ => rfl) (fun _ _ h => by omega)) (owns_same hn (fun _ _ => rfl) (fun _ _ h => by omega)) (owns_same hk (fun _ _ => rfl) (fun _ _ h => by omega)) (fun g hg => by have := hin g hg; omega) hne hdn hK (fun i hi => ?_) hdis
    have := hLH i hi
    exact ⟨by omega, by omega, this.2.2⟩
/-- A clone under way: so many names, so many kids yet. -/
structure Cl (Z : Nat) (w : World) (vn vk : Value) (ns : List ByteArray) (ks : List Tr) (p q : Nat) : Prop where
  names : w.ownsRow Z 9 1 vn p ((ns.take p).map .string)
  kids : ∃ (Ks : List (List Value)) (L H : Nat → Nat), Ks.length = q ∧ (∀ c ∈ Ks, c.length = 5) ∧ w.ownsRow Z 26 5 vk q Ks.flatten ∧
    (∀ (j : Nat) (t : Tr) (c : List Value), ks[j]? = some t → Ks[j]? = some c → Own w (L j) (H j) t c ∧ Z ≤ L j ∧ H j ≤ w.heap.size ∧ ∀ g, (vn.ownBlock = some g ∨ vk.ownBlock = some g) → g < L j ∨ H j ≤ g) ∧ ∀ i j, i < j → j < q → H i ≤ L j
  ne : ∀ g, vk.ownBlock = some g → vn.ownBlock ≠ some g
/-- Nothing of it has turned. -/
theorem Cl.same {Z : Nat} {w w' : World} {vn vk : Value} {ns : List ByteArray} {ks : List Tr} {p q : Nat} (h : Cl Z w vn vk ns ks p q) (hs : ∀ k, Z ≤ k → k < w.heap.size → w'.heap[k]? = w.heap[k]?) (hz : w.heap.size ≤ w'.heap.size) : Cl Z w' vn vk ns ks p q := by
  obtain ⟨hn, ⟨Ks, L, H, hKl, hK5, ho, hK, hdis⟩, hne⟩ := h
  refine ⟨owns_same hn (fun g hg => hs g (owns_lt hn g hg).1 (owns_lt hn g hg).2) (fun _ _ h => h), ⟨Ks, L, H, hKl, hK5, owns_same ho (fun g hg => hs g (owns_lt ho g hg).1 (owns_lt ho g hg).2) (fun _ _ h => h), fun j t c hj hc => ?_, hdis⟩, hne⟩
  obtain ⟨h1, h2, h3, h4⟩ := hK j t c hj hc
  exact ⟨h1.same (fun k hk1 hk2 => hs k (by omega) (by omega)), h2, by omega, h4⟩
/-- One more name. -/
theorem cl_name {Z : Nat} {wr w1 : World} {vn vk : Value} {ns : List ByteArray} {ks : List Tr} {p q : Nat} (s : ByteArray) (h : Cl Z wr vn vk ns ks p q) (hb : Below wr.heap.size wr w1) (hs : ns[p]? = some s) (hmax : p ≤ 1000000) (hZ : Z ≤ wr.heap.size) :
    ∃ a' c' w2, (∀ ty, (app23 ty #[vn, .slice (some ⟨w1.heap.size, 0, none⟩) 1 1]).run Try.prog (w1.alloc (.cells #[.string s] 9)) = .ok (.slice a' (p + 1) c') w2) ∧ Cl Z w2 (.slice a' (p + 1) c') vk ns ks (p + 1) q ∧ Below Z wr w2 ∧ wr.heap.size ≤ w2.heap.size := by
  have h1 := h.same (w' := w1.alloc (.cells #[.string s] 9)) (fun k _ hk => by rw [Below.heap_alloc _ _ _ (by have := hb.size; omega), hb.block k hk]) (by have := hb.size; simp; omega)
  obtain ⟨hn, ⟨Ks, L, H, hKl, hK5, ho, hK, hdis⟩, hne⟩ := h1
  have hsz := hb.size
  obtain ⟨v', w2, happ, ho2, hg, hf⟩ := app23_own _ Z _ _ vn p _ _ 1 1 [.string s] hn (one_row w1 [.string s] 9) rfl (fun u hu => by simp at hu; subst hu; rfl) (by omega) (by simp; omega)
  obtain ⟨a', c', rfl, _⟩ := owns_slice ho2
  have hs1 : (w1.alloc (.cells #[.string s] 9)).heap.size = w1.heap.size + 1 := by simp
  have hs2 := hg.size
  rw [hs1] at hs2 hf
  have hb0 : Below Z wr (w1.alloc (.cells #[.string s] 9)) := (hb.mono hZ).alloc (by omega) _
  refine ⟨a', c', w2, happ, ⟨?_, ⟨Ks, L, H, hKl, hK5, owns_same ho (fun g hgk => hg.block g (owns_lt ho g hgk).2 (fun e => hne g hgk e.symm)) (fun _ _ h => h), fun j t c hj hc => ?_, hdis⟩, ?_⟩, hb0.grown hg (by omega) (fun k hk => (owns_lt hn k hk).1), by omega⟩
  · rw [List.take_add_one, hs]
    simpa using ho2
  · obtain ⟨q1, q2, q3, q4⟩ := hK j t c hj hc
    rw [hs1] at q3
    refine ⟨q1.same (fun k hk1 hk2 => hg.block k (by rw [hs1]; omega) (fun e => by have := q4 k (.inl e.symm); omega)), q2, by omega, fun g hgv => ?_⟩
    rcases hgv with hgv | hgv
    · rcases hf with e | e
      · exact q4 g (.inl (by rw [← e]; exact hgv))
      · rw [e] at hgv; simp at hgv; omega
    · exact q4 g (.inr hgv)
  · intro g hgk e
    rcases hf with e2 | e2
    · exact hne g hgk (by rw [← e2]; exact e)
    · rw [e2] at e
      have := (owns_lt ho g hgk).2
      simp at e
      omega
/-- One more kid. -/
theorem cl_kid {Z : Nat} {wr w1 : World} {vn vk : Value} {ns : List ByteArray} {ks : List Tr} {p q : Nat} {cs : List Value} {t : Tr} (h : Cl Z wr vn vk ns ks p q) (hb : Below wr.heap.size wr w1) (hL : Own w1 wr.heap.size w1.heap.size t cs) (ht : ks[q]? = some t) (hmax : q ≤ 1000000) (hZ : Z ≤ wr.heap.size) :
    ∃ a' c' w2, (∀ ty, (app24 ty #[vk, .slice (some ⟨w1.heap.size, 0, none⟩) 1 1]).run Try.prog (w1.alloc (.cells cs.toArray 26)) = .ok (.slice a' (q + 1) c') w2) ∧ Cl Z w2 vn (.slice a' (q + 1) c') ns ks p (q + 1) ∧ Below Z wr w2 ∧ wr.heap.size ≤ w2.heap.size := by
  have hsz := hb.size
  have hs1 : (w1.alloc (.cells cs.toArray 26)).heap.size = w1.heap.size + 1 := by simp
  have hsame : ∀ k, k < wr.heap.size → (w1.alloc (.cells cs.toArray 26)).heap[k]? = wr.heap[k]? := fun k hk => by rw [Below.heap_alloc _ _ _ (by omega), hb.block k hk]
  obtain ⟨hn0, ⟨Ks, L, H, hKl, hK5, ho0, hK, hdis⟩, hne⟩ := h
  have hn := owns_same (base' := Z) hn0 (fun g hg => hsame g (owns_lt hn0 g hg).2) (fun _ _ h => h)
  have ho := owns_same (base' := Z) ho0 (fun g hg => hsame g (owns_lt ho0 g hg).2) (fun _ _ h => h)
  obtain ⟨v', w2, happ, ho2, hg, hf⟩ := app24_own _ Z _ _ vk q _ _ 1 1 cs ho (one_row w1 cs 26) (by rw [hL.lies.length]) hL.lies.one (by omega) (by simp; omega)
  obtain ⟨a', c', rfl, _⟩ := owns_slice ho2
  have hs2 := hg.size
  rw [hs1] at hs2 hf
  have hb0 : Below Z wr (w1.alloc (.cells cs.toArray 26)) := (hb.mono hZ).alloc (by omega) _
  refine ⟨a', c', w2, happ, ⟨?_, ⟨Ks ++ [cs], fun j => if j < q then L j else wr.heap.size, fun j => if j < q then H j else w1.heap.size, ?_, ?_, ?_, fun j t' c hj hc => ?_, ?_⟩, ?_⟩, hb0.grown hg (by omega) (fun k hk => (owns_lt ho k hk).1), by omega⟩
  · exact owns_same hn (fun g hgn => hg.block g (by have := (owns_lt hn0 g hgn).2; omega) (fun e => hne g e.symm hgn)) (fun _ _ h => h)
  · rw [List.length_append, hKl]; rfl
  · intro c hc
    rcases List.mem_append.1 hc with h | h
    · exact hK5 c h
    · simp at h; subst h; exact hL.lies.length
  · rw [List.flatten_append]; simpa using ho2
  · by_cases hji : j < q
    · rw [List.getElem?_append_left (by omega)] at hc
      obtain ⟨q1, q2, q3, q4⟩ := hK j t' c hj hc
      simp only [if_pos hji]
      refine ⟨q1.same (fun k hk1 hk2 => ?_), q2, by omega, fun g hgv => ?_⟩
      · rw [hg.block k (by rw [hs1]; omega) (fun e => by have := q4 k (.inr e.symm); omega), hsame k (by omega)]
      · rcases hgv with hgv | hgv
        · exact q4 g (.inl hgv)
        · rcases hf with e | e
          · exact q4 g (.inr (by rw [← e]; exact hgv))
          · rw [e] at hgv; simp at hgv; omega
    · obtain rfl : j = q := by
        have := (List.getElem?_eq_some_iff.1 hc).1
        simp at this; omega
      rw [ht] at hj
      cases hj
      rw [List.getElem?_append_right (by omega), hKl] at hc
      simp at hc
      subst hc
      simp only [if_neg (Nat.lt_irrefl j)]
      refine ⟨hL.same (fun k hk1 hk2 => ?_), hZ, by omega, fun g hgv => ?_⟩
      · rw [hg.block k (by rw [hs1]; omega) (fun e => by have := (owns_lt ho0 k e.symm).2; omega), Below.heap_alloc _ _ _ (by omega)]
      · rcases hgv with hgv | hgv
        · have := (owns_lt hn0 g hgv).2; omega
        · rcases hf with e | e
          · have := (owns_lt ho0 g (by rw [← e]; exact hgv)).2; omega
          · rw [e] at hgv; simp at hgv; omega
  · intro i j hij hj
    by_cases hjq : j < q
    · simp only [if_pos hjq, if_pos (show i < q by omega)]; exact hdis i j hij hjq
    · obtain rfl : j = q := by omega
      simp only [if_neg (Nat.lt_irrefl j), if_pos hij]
      have hqk := (List.getElem?_eq_some_iff.1 ht).1
      exact (hK i ks[i] Ks[i] (List.getElem?_eq_getElem (by omega)) (List.getElem?_eq_getElem (by omega))).2.2.1
  · intro g hgk e
    rcases hf with e2 | e2
    · exact hne g (by rw [← e2]; exact hgk) e
    · rw [e2] at hgk
      have := (owns_lt hn0 g e).2
      simp at hgk
      omega
/-- The clone is whole. -/
theorem cl_end {Z lo : Nat} {w : World} {k : Int} {x : Bool} {d : ByteArray} {ns : List ByteArray} {ks : List Tr} {vd vn vk : Value} (h : Cl Z w vn vk ns ks ns.length ks.length) (hd : w.ownsRow lo 5 1 vd d.size (byteVals d)) (hdZ : ∀ g, vd.ownBlock = some g → g < Z) (hlo : lo ≤ Z) : Own w lo w.heap.size (.mk k x d ns ks) [.int .i64 k, .bool x, vd, vn, vk] := by
  obtain ⟨hn, ⟨Ks, L, H, hKl, hK5, ho, hK, hdis⟩, hne⟩ := h
  rw [List.take_length] at hn
  refine .mk lo w.heap.size k x d ns ks vd vn vk Ks L H hKl hd (owns_same hn (fun _ _ => rfl) (fun _ _ h => by omega)) (owns_same ho (fun _ _ => rfl) (fun _ _ h => by omega)) ?_ ?_ ?_ (fun i t c h1 h2 => (hK i t c h1 h2).1) (fun i hi => ?_) hdis
  · rintro g (h | h | h)
    · exact (owns_lt hd g h).2
    · exact (owns_lt hn g h).2
    · exact (owns_lt ho g h).2
  · intro g hg
    refine ⟨fun e => ?_, hne g hg⟩
    have h1 := hdZ g e
    have h2 := (owns_lt ho g hg).1
    omega
  · intro g hg e
    have h1 := hdZ g e
    have h2 := (owns_lt hn g hg).1
    omega
  · obtain ⟨_, h2, h3, h4⟩ := hK i ks[i] Ks[i] (List.getElem?_eq_getElem hi) (List.getElem?_eq_getElem (by omega))
    refine ⟨by omega, h3, fun g hg => ?_⟩
    rcases hg with hg | hg
    · have := hdZ g hg; omega
    · exact h4 g hg
end Go.Proofs.Ytikamklgelcnhaa
/- slices.Grow of nothing. -/
namespace Go.Proofs.Ytikamklgelcnhaa
open Go.RowKit
def app23z (ty : TypeId) (args : Array Value) : Sem Value := Builtin.append_ #[23, 3] ty args
@[go_sem ↓] theorem append_app23z (ty : TypeId) (args : Array Value) : Builtin.append_ #[23, 3] ty args = app23z ty args := rfl
def app24z (ty : TypeId) (args : Array Value) : Sem Value := Builtin.append_ #[24, 3] ty args
@[go_sem ↓] theorem append_app24z (ty : TypeId) (args : Array Value) : Builtin.append_ #[24, 3] ty args = app24z ty args := rfl
end Go.Proofs.Ytikamklgelcnhaa
/- clone, in the code: a tree in memory of its own. -/
namespace Go.Proofs.Ytikamklgelcnhaa
open Go.RowKit
/-- Onto nothing. -/
theorem onto22 (w : World) (lo hi : Nat) (a : Option Addr) (m c : Nat) (ys : List Value) (hr : Row lo hi w (.slice a m c) m ys) (hl : ys.length = m) (h1 : ∀ u ∈ ys, u.oneCell' = true) (hmax : m ≤ 100000000) :
    ∃ a1 c1 w1, (∀ ty, (app22 ty #[.slice none 0 0, .slice a m c]).run Try.prog w = .ok (.slice a1 m c1) w1) ∧ Below w.heap.size w w1 ∧ w1.ownsRow w.heap.size 5 1 (.slice a1 m c1) m ys := by
  obtain ⟨v1, w1, happ, ho, hg, _⟩ := app22_own w w.heap.size lo hi (.slice none 0 0) 0 [] a m c ys ⟨by simp, .inl ⟨rfl, rfl⟩⟩ hr hl h1 (by omega) (Nat.le_refl _)
  rw [Nat.zero_add, List.nil_append] at ho
  obtain ⟨a1, c1, rfl, _⟩ := owns_slice ho
  exact ⟨a1, c1, w1, happ, (Below.refl _ _).grown hg (Nat.le_refl _) (fun k hk => by simp [Value.ownBlock] at hk), ho⟩
/-- As many names as kids, everywhere. -/
inductive Ev : Tr → Prop
  | mk (k : Int) (x : Bool) (d : ByteArray) (ns : List ByteArray) (ks : List Tr) (h : ns.length = ks.length) (hk : ∀ t ∈ ks, Ev t) : Ev (.mk k x d ns ks)
theorem below_drew' {B : Nat} {w w1 : World} (h : Below B w.drew w1) : Below B w w1 := ⟨h.os, h.tape, h.output, h.size, h.block⟩
/-- What stands in a clone under way. -/
structure ClW (w wr : World) (Z : Nat) (k : Int) (x : Bool) (d : ByteArray) (ns : List ByteArray) (ks : List Tr) (t1 t2 t3 v1 vn vk : Value) (p q : Nat) : Prop where
  old : Below w.heap.size w wr
  bt : Bx wr w.heap.size (.int .i64 k) (.bool x) t1 t2 t3
  br : Bx wr (w.heap.size + 1) (.int .i64 0) (.bool false) (.slice none 0 0) (.slice none 0 0) (.slice none 0 0)
  bc : Bx wr (w.heap.size + 1 + 1) (.int .i64 k) (.bool x) v1 vn vk
  dat : wr.ownsRow (w.heap.size + 3) 5 1 v1 d.size (byteVals d)
  datZ : ∀ g, v1.ownBlock = some g → g < Z
  cl : Cl Z wr vn vk ns ks p q
  z1 : w.heap.size + 3 ≤ Z
  z2 : Z ≤ wr.heap.size
theorem ClW.name {w wr w2 : World} {Z : Nat} {k : Int} {x : Bool} {d : ByteArray} {ns : List ByteArray} {ks : List Tr} {t1 t2 t3 v1 vn vk vn' : Value} {p p' q : Nat} (h : ClW w wr Z k x d ns ks t1 t2 t3 v1 vn vk p q) (hb : Below Z wr w2) (hc : Cl Z w2 vn' vk ns ks p' q) :
    ClW w (w2.setCell ⟨w.heap.size + 1 + 1, 3, none⟩ vn') Z k x d ns ks t1 t2 t3 v1 vn' vk p' q := by
  obtain ⟨h1, h2, h3, h4, h5, h6, h7, h8, h9⟩ := h
  have hz := hb.size
  refine ⟨(h1.trans (hb.mono (by omega))).setCell (by simp; omega) _, (h2.kept hb (by omega)).of (set_other _ _ _ _ _ (by omega)), (h3.kept hb (by omega)).of (set_other _ _ _ _ _ (by omega)), (h4.kept hb (by omega)).set3 _, ?_, h6, hc.same (fun k hk _ => set_other _ _ _ _ _ (by omega)) (by simp), h8, by simp; omega⟩
  exact owns_same h5 (fun g hg => by rw [set_other _ _ _ _ _ (by have := (owns_lt h5 g hg).1; omega), hb.block g (h6 g hg)]) (fun _ _ h => h)
theorem ClW.kid {w wr w2 : World} {Z : Nat} {k : Int} {x : Bool} {d : ByteArray} {ns : List ByteArray} {ks : List Tr} {t1 t2 t3 v1 vn vk vk' : Value} {p q q' : Nat} (h : ClW w wr Z k x d ns ks t1 t2 t3 v1 vn vk p q) (hb : Below Z wr w2) (hc : Cl Z w2 vn vk' ns ks p q') :
    ClW w (w2.setCell ⟨w.heap.size + 1 + 1, 4, none⟩ vk') Z k x d ns ks t1 t2 t3 v1 vn vk' p q' := by
  obtain ⟨h1, h2, h3, h4, h5, h6, h7, h8, h9⟩ := h
  have hz := hb.size
  refine ⟨(h1.trans (hb.mono (by omega))).setCell (by simp; omega) _, (h2.kept hb (by omega)).of (set_other _ _ _ _ _ (by omega)), (h3.kept hb (by omega)).of (set_other _ _ _ _ _ (by omega)), (h4.kept hb (by omega)).set4 _, ?_, h6, hc.same (fun k hk _ => set_other _ _ _ _ _ (by omega)) (by simp), h8, by simp; omega⟩
  exact owns_same h5 (fun g hg => by rw [set_other _ _ _ _ _ (by have := (owns_lt h5 g hg).1; omega), hb.block g (h6 g hg)]) (fun _ _ h => h)
theorem ClW.drew {w wr : World} {Z : Nat} {k : Int} {x : Bool} {d : ByteArray} {ns : List ByteArray} {ks : List Tr} {t1 t2 t3 v1 vn vk : Value} {p q : Nat} (h : ClW w wr Z k x d ns ks t1 t2 t3 v1 vn vk p q) : ClW w wr.drew Z k x d ns ks t1 t2 t3 v1 vn vk p q := by
  obtain ⟨h1, h2, h3, h4, h5, h6, h7, h8, h9⟩ := h
  exact ⟨h1.drew, h2, h3, h4, h5, h6, h7.same (fun _ _ _ => rfl) (Nat.le_refl _), h8, h9⟩
end Go.Proofs.Ytikamklgelcnhaa
/- A tree laid at a place: the plain mathematics. No Go text is named here. -/
namespace Go.Proofs.Ytikamklgelcnhaa
open Go.RowKit
/-- Names that rise, and as many kids, everywhere. -/
inductive Nice : Tr → Prop
  | mk (k : Int) (x : Bool) (d : ByteArray) (ns : List ByteArray) (ks : List Tr) (hr : Rise ns) (hl : ns.length = ks.length) (hk : ∀ t ∈ ks, Nice t) : Nice (.mk k x d ns ks)
def emptyDir : Tr := .mk 2 false ⟨#[]⟩ [] []
theorem nice_empty : Nice emptyDir := .mk _ _ _ _ _ (fun i j _ h => by simp at h) rfl (fun t ht => by simp at ht)
theorem Nice.ev {T : Tr} (h : Nice T) : Ev T := by
  induction h with
  | mk k x d ns ks hr hl hk ih => exact .mk k x d ns ks hl ih
/-- Where a name stands, or would. -/
def pos (ns : List ByteArray) (x : ByteArray) : Nat := (ns.takeWhile fun s => decide (s.toList < x.toList)).length
def has (ns : List ByteArray) (x : ByteArray) : Bool := decide (ns[pos ns x]? = some x)
theorem takeWhile_len {α : Type} (p : α → Bool) (l : List α) (i : Nat) (hi : i ≤ l.length) (h1 : ∀ j, (h : j < l.length) → j < i → p l[j] = true) (h2 : ∀ h : i < l.length, p l[i] = false) : (l.takeWhile p).length = i := by
  induction l generalizing i with
  | nil => simp at hi; simp [hi]
  | cons a r ih =>
    cases i with
    | zero =>
      have := h2 (by simp)
      simp at this
      simp [this]
    | succ i =>
      have ha := h1 0 (by simp) (by omega)
      simp at ha
      rw [List.takeWhile_cons, if_pos ha, List.length_cons, ih i (by simpa using hi) (fun j h hj => by have := h1 (j + 1) (by simpa using h) (by omega); simpa using this) (fun h => by have := h2 (by simpa using h); simpa using this)]
theorem found_pos {ns : List ByteArray} {x : ByteArray} {e : Ending} (h : Found ns x e) : e = .returned (.tuple #[.int .i64 ((pos ns x : Nat) : Int), .bool (has ns x)]) ∧ pos ns x ≤ ns.length := by
  obtain ⟨i, b, rfl, h1, h2, h3, h4⟩ := h
  have hp : pos ns x = i := by
    refine takeWhile_len _ ns i h1 (fun j hj hji => ?_) (fun hi => ?_)
    · have := h2 j hji
      rw [List.getD_eq_getElem?_getD, List.getElem?_eq_getElem hj] at this
      simpa using this
    · have := h3 i (Nat.le_refl _) hi
      rw [List.getD_eq_getElem?_getD, List.getElem?_eq_getElem hi] at this
      simpa using this
  have hb : has ns x = b := by
    unfold has
    rw [hp]
    cases b with
    | true =>
      obtain ⟨h5, h6⟩ := h4.1 rfl
      rw [List.getD_eq_getElem?_getD, List.getElem?_eq_getElem h5] at h6
      exact decide_eq_true (by rw [List.getElem?_eq_getElem h5]; exact congrArg some h6)
    | false =>
      refine decide_eq_false fun h => ?_
      obtain ⟨h5, h6⟩ := List.getElem?_eq_some_iff.1 h
      have : false = true := h4.2 ⟨h5, by rw [List.getD_eq_getElem?_getD, h]; rfl⟩
      cases this
  exact ⟨by rw [hp, hb], by rw [hp]; exact h1⟩
theorem has_lt {ns : List ByteArray} {x : ByteArray} (h : has ns x = true) : pos ns x < ns.length := by
  unfold has at h
  exact (List.getElem?_eq_some_iff.1 (of_decide_eq_true h)).1
/-- The kid that is gone on with. -/
def kidAt (ns : List ByteArray) (ks : List Tr) (x : ByteArray) : Tr := if has ns x then ks.getD (pos ns x) emptyDir else emptyDir
def nextAt (ns : List ByteArray) (x : ByteArray) : Nat := if has ns x then pos ns x + 1 else pos ns x
/-- A tree laid at a place, or why not: so deep. -/
def laidS : Tr → List ByteArray → Tr → Nat → Except Nat Tr
  | _, [], X, deep => if 64 < deep then .error 5 else .ok X
  | .mk k _ _ ns ks, n :: r, X, deep => if 64 < deep then .error 5 else if k = 2 then
      (match laidS (kidAt ns ks n) r X (deep + 1) with
      | .error e => .error e
      | .ok t => .ok (.mk 2 false ⟨#[]⟩ (ns.take (pos ns n) ++ [n] ++ ns.drop (nextAt ns n)) (ks.take (pos ns n) ++ [t] ++ ks.drop (nextAt ns n)))) else .error 8
theorem kidAt_nice {ns : List ByteArray} {ks : List Tr} {x : ByteArray} (h : ∀ t ∈ ks, Nice t) : Nice (kidAt ns ks x) := by
  unfold kidAt
  split
  · rw [List.getD_eq_getElem?_getD]
    cases hq : ks[pos ns x]? with
    | none => exact nice_empty
    | some t => exact h t (List.mem_of_getElem? hq)
  · exact nice_empty
theorem kidAt_wt {ns : List ByteArray} {ks : List Tr} {x : ByteArray} (h : ∀ t ∈ ks, wt t ≤ 100000) : wt (kidAt ns ks x) ≤ 100000 := by
  have he : wt emptyDir ≤ 100000 := by unfold emptyDir; rw [wt]; simp only [tenths, wts, List.length_nil]; have : (⟨#[]⟩ : ByteArray).size = 0 := rfl; omega
  unfold kidAt
  split
  · rw [List.getD_eq_getElem?_getD]
    cases hq : ks[pos ns x]? with
    | none => exact he
    | some t => exact h t (List.mem_of_getElem? hq)
  · exact he
end Go.Proofs.Ytikamklgelcnhaa
/- Put: the plain mathematics. No Go text is named here. -/
namespace Go.Proofs.Ytikamklgelcnhaa
open Go.RowKit
theorem chks_ok {ks : List Tr} {deep : Nat} : ∀ {n : Nat}, (chks ks deep n).1 = 0 → ∀ t ∈ ks, ∃ n', (chk t deep n').1 = 0 := by
  induction ks with
  | nil => intro n _ t ht; simp at ht
  | cons a r ih =>
    intro n h t ht
    rw [chks] at h
    by_cases h0 : (chk a deep n).1 = 0
    · rw [if_pos h0] at h
      rcases List.mem_cons.1 ht with rfl | ht
      · exact ⟨n, h0⟩
      · exact ih h t ht
    · rw [if_neg h0] at h; exact absurd h h0
theorem chk_kids {k : Int} {x : Bool} {d : ByteArray} {ns : List ByteArray} {ks : List Tr} {deep n : Nat} (h : (chk (.mk k x d ns ks) deep n).1 = 0) : locErr k x d.size ns ks.length = 0 ∧ deep ≤ 64 ∧ ∀ t ∈ ks, ∃ n', (chk t (deep + 1) n').1 = 0 := by
  rw [chk] at h
  split at h
  · cases h
  split at h
  · rename_i h1 h2
    exact ⟨h2, by omega, chks_ok h⟩
  · rename_i h1 h2
    exact absurd h h2
theorem loc0 {k : Int} {x : Bool} {d nk : Nat} {ns : List ByteArray} (h : locErr k x d ns nk = 0) : (k = 1 ∧ ns.length = 0 ∧ nk = 0) ∨ (k = 3 ∧ x = false ∧ ns.length = 0 ∧ nk = 0) ∨ (k = 2 ∧ x = false ∧ d = 0 ∧ ns.length = nk ∧ okNames ns) := by
  unfold locErr at h
  split at h
  · split at h
    · cases h
    · left; rename_i h1 h2; exact ⟨h1, by omega, by omega⟩
  split at h
  · split at h
    · cases h
    · right; left; rename_i h1 h2; exact ⟨h1, by cases x <;> simp_all, by omega, by omega⟩
  split at h
  · split at h
    · cases h
    · split at h
      · right; right; rename_i h1 h2 h3; exact ⟨h1, by cases x <;> simp_all, by omega, by omega, h3⟩
      · cases h
  · cases h
theorem okNames_rise {ns : List ByteArray} (h : okNames ns) : Rise ns := by
  intro i j hij hj
  induction j with
  | zero => omega
  | succ j ih =>
    have h1 := h (j + 1) hj
    rw [okName_next hj, Bool.and_eq_true] at h1
    have h2 := of_decide_eq_true h1.2
    have e : ns[j + 1] = ns.getD (j + 1) ⟨#[]⟩ := by rw [List.getD_eq_getElem?_getD, List.getElem?_eq_getElem hj]; rfl
    rw [e] at h2
    rcases Nat.lt_or_ge i j with hi | hi
    · exact Ord.trans (ih hi (by omega)) h2
    · obtain rfl : i = j := by omega
      exact h2
theorem chk_nice (T : Tr) : ∀ {deep n : Nat}, (chk T deep n).1 = 0 → Nice T := by
  induction T using Tr.ind with
  | h k x d ns ks ih =>
    intro deep n h
    obtain ⟨h1, h2, h3⟩ := chk_kids h
    have hk : ∀ t ∈ ks, Nice t := fun t ht => by obtain ⟨n', hn'⟩ := h3 t ht; exact ih t ht hn'
    rcases loc0 h1 with ⟨_, h4, h5⟩ | ⟨_, _, h4, h5⟩ | ⟨_, _, _, h4, h5⟩
    · exact .mk _ _ _ _ _ (okNames_rise (okNames_nil h4)) (by omega) hk
    · exact .mk _ _ _ _ _ (okNames_rise (okNames_nil h4)) (by omega) hk
    · exact .mk _ _ _ _ _ (okNames_rise h5) h4 hk
/-- A place's names. -/
def placeL (s : ByteArray) : List ByteArray := if s.size = 0 then [] else partsB s
def isPl (s : ByteArray) : Bool := (placeL s).all entB
theorem size_zero {s : ByteArray} (h : s.size = 0) : s = ⟨#[]⟩ := by
  apply ByteArray.ext
  have : s.data.size = 0 := h
  exact Array.eq_empty_of_size_eq_zero this
theorem placeL_join (s : ByteArray) : joinB (placeL s) = s := by
  unfold placeL
  split
  · rename_i h; rw [size_zero h]; rfl
  · exact join_parts s
theorem isPl_yes {s : ByteArray} (h : ∃ l, IsPl s l) : isPl s = true := by
  obtain ⟨l, hl⟩ := h
  unfold isPl placeL
  split
  · rfl
  · rename_i h0
    rw [← isPl_parts hl h0]
    exact List.all_eq_true.2 hl.1
theorem isPl_no {s : ByteArray} (h : ∀ l, ¬ IsPl s l) : isPl s = false := by
  cases hp : isPl s with
  | false => rfl
  | true => exact absurd ⟨List.all_eq_true.1 hp, (placeL_join s).symm⟩ (h (placeL s))
theorem isPl_ent {s : ByteArray} (h : isPl s = true) : ∀ n ∈ placeL s, entB n = true := List.all_eq_true.1 h
theorem entB_le {s : ByteArray} (h : entB s = true) : s.size ≤ 100 := by
  unfold entB at h; exact (of_decide_eq_true h).2.1
theorem tenths_append (a b : List ByteArray) : tenths (a ++ b) = tenths a + tenths b := by
  induction a with
  | nil => simp [tenths]
  | cons x r ih => simp only [List.cons_append, tenths, ih]; omega
theorem wts_split (ks : List Tr) (i : Nat) : wts (ks.take i) + wts (ks.drop i) = wts ks := by rw [← wts_append, List.take_append_drop]
theorem tenths_split (ns : List ByteArray) (i : Nat) : tenths (ns.take i) + tenths (ns.drop i) = tenths ns := by rw [← tenths_append, List.take_append_drop]
theorem wt_empty : wt emptyDir = 1 := by unfold emptyDir; rw [wt]; simp only [tenths, wts, List.length_nil]; rfl
/-- What is laid is little more than both. -/
theorem laid_wt (l : List ByteArray) : ∀ {T X T' : Tr} {deep : Nat}, laidS T l X deep = .ok T' → (∀ n ∈ l, entB n = true) → Nice T → wt T' ≤ wt T + wt X + 12 * l.length ∧ deep + l.length ≤ 64 := by
  induction l with
  | nil =>
    intro T X T' deep h _ _
    cases T
    rw [laidS] at h
    split at h
    · cases h
    · cases h; simp only [List.length_nil]; omega
  | cons a r ih =>
    intro T X T' deep h hent hN
    cases hN with
    | mk k x d ns ks hr hl hk =>
    rw [laidS] at h
    split at h
    · cases h
    split at h
    · cases hq : laidS (kidAt ns ks a) r X (deep + 1) with
      | error e => rw [hq] at h; cases h
      | ok t =>
        rw [hq] at h
        cases h
        obtain ⟨h1, h2⟩ := ih hq (fun n hn => hent n (by simp [hn])) (kidAt_nice hk)
        have ha := entB_le (hent a (by simp))
        rw [wt, wt]
        simp only [tenths_append, wts_append, List.length_append, List.length_cons, List.length_nil, tenths, wts, List.length_take, List.length_drop]
        have hz : (⟨#[]⟩ : ByteArray).size = 0 := rfl
        rw [hz]
        have e1 := tenths_split ns (pos ns a)
        have e2 := wts_split ks (pos ns a)
        cases hh : has ns a with
        | false =>
          have en : nextAt ns a = pos ns a := by unfold nextAt; rw [hh]; rfl
          have ek : kidAt ns ks a = emptyDir := by unfold kidAt; rw [hh]; rfl
          rw [ek, wt_empty] at h1
          rw [en]
          omega
        | true =>
          have en : nextAt ns a = pos ns a + 1 := by unfold nextAt; rw [hh]; rfl
          have hlt := has_lt hh
          have hlk : pos ns a < ks.length := by omega
          have ek : kidAt ns ks a = ks[pos ns a] := by unfold kidAt; rw [hh, if_pos rfl, List.getD_eq_getElem?_getD, List.getElem?_eq_getElem hlk]; rfl
          rw [ek] at h1
          rw [en]
          have e3 := wts_take ks (pos ns a) hlk
          have e4 := wts_split ks (pos ns a + 1)
          have e5 := tenths_take ns (pos ns a) hlt
          have e6 := tenths_split ns (pos ns a + 1)
          omega
    · cases h
/-- Put, or why not. -/
noncomputable def putS (T : Tr) (s : ByteArray) (X : Tr) : Except Nat Tr :=
  if (chk T 1 0).1 ≠ 0 then .error (chk T 1 0).1 else if (chk X 1 0).1 ≠ 0 then .error (chk X 1 0).1 else if isPl s = false then .error 9 else
    match laidS T (placeL s) X 1 with
    | .error e => .error e
    | .ok W => if (chk W 1 0).1 ≠ 0 then .error (chk W 1 0).1 else .ok W
end Go.Proofs.Ytikamklgelcnhaa
