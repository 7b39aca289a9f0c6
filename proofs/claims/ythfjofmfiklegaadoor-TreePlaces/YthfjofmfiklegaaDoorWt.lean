/- The law's own measure of trees: heavy, great. -/
import Derived.Test.YthfjofmfiklegaaDoorBase
namespace Go.Proofs.YthfjofmfiklegaaDoor
open Go.RowKit
namespace Tr
def kids : Tr → List Tr | .mk _ _ _ _ ks => ks
def names : Tr → List ByteArray | .mk _ _ _ ns _ => ns
def data : Tr → ByteArray | .mk _ _ d _ _ => d
def kind : Tr → Int | .mk k _ _ _ _ => k
def exec : Tr → Bool | .mk _ x _ _ _ => x
end Tr
/-- Tenths of names. -/
def tenths : List ByteArray → Nat | [] => 0 | s :: r => s.size / 10 + tenths r
mutual
/-- How much a tree is, as the law measures it. -/
def wt : Tr → Nat | .mk _ _ d ns ks => 1 + d.size / 10 + ns.length + tenths ns + wts ks
def wts : List Tr → Nat | [] => 0 | t :: r => wt t + wts r
end
theorem tenths_snoc (l : List ByteArray) (s : ByteArray) : tenths (l ++ [s]) = tenths l + s.size / 10 := by
  induction l with
  | nil => simp [tenths]
  | cons a r ih => simp only [List.cons_append, tenths, ih]; omega
theorem wts_append (a b : List Tr) : wts (a ++ b) = wts a + wts b := by
  induction a with
  | nil => simp [wts]
  | cons x r ih => simp only [List.cons_append, wts, ih]; omega
theorem wts_take (l : List Tr) (i : Nat) (h : i < l.length) : wts (l.take (i + 1)) = wts (l.take i) + wt l[i] := by
  rw [List.take_succ_eq_append_getElem h, wts_append]; simp [wts]
theorem tenths_take (l : List ByteArray) (i : Nat) (h : i < l.length) : tenths (l.take (i + 1)) = tenths (l.take i) + l[i].size / 10 := by
  rw [List.take_succ_eq_append_getElem h, tenths_snoc]
theorem wts_take_le (l : List Tr) (i : Nat) : wts (l.take i) ≤ wts l := by
  conv => rhs; rw [← List.take_append_drop i l, wts_append]
  omega
theorem tenths_le (l : List ByteArray) (h : ∀ s ∈ l, s.size ≤ 140737488355328) (i : Nat) : tenths (l.take i) ≤ i * 14073748835533 := by
  induction l generalizing i with
  | nil => simp [tenths]
  | cons a r ih =>
    cases i with
    | zero => simp [tenths]
    | succ i =>
      have h1 := ih (fun s hs => h s (by simp [hs])) i
      have h2 := h a (by simp)
      simp only [List.take_succ_cons, tenths]
      omega
/-- All lengths are those of slices. -/
inductive Fit : Tr → Prop
  | mk (k : Int) (x : Bool) (d : ByteArray) (ns : List ByteArray) (ks : List Tr) (h1 : d.size ≤ 140737488355328) (h2 : ns.length ≤ 140737488355328) (h3 : ∀ s ∈ ns, s.size ≤ 140737488355328) (h4 : ks.length ≤ 140737488355328) (h5 : ∀ t ∈ ks, Fit t) : Fit (.mk k x d ns ks)
set_option maxRecDepth 20000 in
set_option maxHeartbeats 1000000 in
theorem great_any (T : Tr) : ∀ (lo hi : Nat) (cs : List Value) (w : World) (c n : Nat), Lies lo hi w T cs → Fit T → Ctr w c (.int .i64 (n : Int)) → hi ≤ c → n ≤ 4611686018427387904 →
    Calls Tryd.prog 28 #[.agg cs.toArray, .pointer (some ⟨c, 0, none⟩)] w fun e w' => Sole c w w' ∧ ((e = .returned (.bool true)) ∨ (e = .returned (.bool false) ∧ n + wt T ≤ 3000 ∧ Ctr w' c (.int .i64 ((n + wt T : Nat) : Int)))) := by
  induction T using Tr.ind with
  | h k x d ns ks ih =>
  intro lo hi cs w c n hL hF hC hhi hn0
  obtain ⟨h1, h2, h3, h4, h5⟩ := hF
  cases hL with
  | mk _ _ _ _ _ vd vn vk Ks hl hd hn hk hK =>
  obtain ⟨ad, cd, rfl, hcd⟩ := hd.slice
  obtain ⟨an, cn, rfl, hcn⟩ := hn.slice
  obtain ⟨ak, ck, rfl, hck⟩ := hk.slice
  have hcl := hC.lt
  have HC := hide hC
  obtain ⟨hcc, hcf⟩ := hC
  rename_i h1 h2 h3 h4 h5
  have H3 := hide h3
  have H5 := hide h5
  clear h3 h5
  go_enter Tryd.func28, Tryd.ntmps28
  go_wp2_with fail
  go_region
  go_wp2_with fail
  · go_ret
    exact ⟨(((Sole.refl c w).setCell 0 _).alloc _).drew, .inl rfl⟩
  · obtain ⟨m, hm⟩ : ∃ m : Nat, m = n + 1 + d.size / 10 + ns.length := ⟨_, rfl⟩
    have hS0 : Sole c w ((w.setCell ⟨c, 0, none⟩ (.int .i64 (↑n + 1 + ↑d.size / 10 + ↑ns.length))).alloc (.cells #[.int .i64 k, .bool x, .slice ad d.size cd, .slice an ns.length cn, .slice ak ks.length ck] 26)).drew := (((Sole.refl c w).setCell 0 _).alloc _).drew
    have hB0 : Bx ((w.setCell ⟨c, 0, none⟩ (.int .i64 (↑n + 1 + ↑d.size / 10 + ↑ns.length))).alloc (.cells #[.int .i64 k, .bool x, .slice ad d.size cd, .slice an ns.length cn, .slice ak ks.length ck] 26)).drew w.heap.size (.int .i64 k) (.bool x) (.slice ad d.size cd) (.slice an ns.length cn) (.slice ak ks.length ck) := bx_new' _ _ _ _ _ _ _ _
    have hC0 : Ctr ((w.setCell ⟨c, 0, none⟩ (.int .i64 (↑n + 1 + ↑d.size / 10 + ↑ns.length))).alloc (.cells #[.int .i64 k, .bool x, .slice ad d.size cd, .slice an ns.length cn, .slice ak ks.length ck] 26)).drew c (.int .i64 (m : Int)) := by
      have h := (unhide HC).set (.int .i64 (↑n + 1 + ↑d.size / 10 + ↑ns.length))
      have h' := h.below ((Below.refl w.heap.size _).alloc (by simp) (.cells #[.int .i64 k, .bool x, .slice ad d.size cd, .slice an ns.length cn, .slice ak ks.length ck] 26)).drew hcl
      have e : ((m : Nat) : Int) = ↑n + 1 + ↑d.size / 10 + ↑ns.length := by omega
      rw [e]; exact h'
    have hm3 : m ≤ 3000 := by omega
    generalize ((w.setCell ⟨c, 0, none⟩ (.int .i64 (↑n + 1 + ↑d.size / 10 + ↑ns.length))).alloc (.cells #[.int .i64 k, .bool x, .slice ad d.size cd, .slice an ns.length cn, .slice ak ks.length ck] 26)).drew = w1 at *
    have HW : Hid (n + wt (.mk k x d ns ks) = m + tenths ns + wts ks) := by
      show n + wt (.mk k x d ns ks) = _
      rw [wt]; omega
    have hnl : ns.length ≤ 3000 := by omega
    have HT : Hid (∀ i, tenths (ns.take i) ≤ i * 14073748835533) := tenths_le ns (unhide H3)
    have HKs := hide (And.intro hl hK)
    have HR := hide (And.intro hn hk)
    clear hm hl hK hn hk hd hcc hcf HC
    go_loopw [5] (fun vi wr => ∃ i : Nat, i ≤ ns.length ∧ vi = .int .i64 (i : Int) ∧ Sole c w wr ∧ Bx wr w.heap.size (.int .i64 k) (.bool x) (.slice ad d.size cd) (.slice an ns.length cn) (.slice ak ks.length ck) ∧ Ctr wr c (.int .i64 ((m + tenths (ns.take i) : Nat) : Int))) (fun vi _ => ns.length - (intOf vi).toNat)
    case atStart => exact ⟨0, by omega, rfl, hS0, hB0, by simpa [tenths] using hC0⟩
    case round =>
      obtain ⟨i, hin, rfl, hS, hB, hC⟩ := hrel
      obtain ⟨c0, c1, c2, c3, c4⟩ := hB.cells
      have HC := hide hC
      obtain ⟨hcc, hcf⟩ := hC
      by_cases hlt : i < ns.length
      · obtain ⟨g, o, rfl, hg1, hg2, hcell⟩ := (unhide HR).1.at (by omega)
        have hci : wr.cell? ⟨g, o + i, none⟩ = some (.string ns[i]) := by
          rw [(hS.below (base := hi) hhi (by omega)).cell (p := ⟨g, o + i, none⟩) hg2]
          exact hcell i _ (by simp [List.getElem?_eq_getElem hlt])
        have hti := unhide HT i
        have hsz := unhide H3 ns[i] (List.getElem_mem hlt)
        have HT1 : Hid (tenths (ns.take (i + 1)) = tenths (ns.take i) + ns[i].size / 10) := tenths_take ns i hlt
        generalize tenths (ns.take i) = q at *
        generalize ns[i] = s at *
        have HBn : Hid (∀ v, Sole c w (wr.setCell ⟨c, 0, none⟩ v) ∧ Bx (wr.setCell ⟨c, 0, none⟩ v) w.heap.size (.int .i64 k) (.bool x) (.slice ad d.size cd) (.slice (some ⟨g, o, none⟩) ns.length cn) (.slice ak ks.length ck) ∧ Ctr (wr.setCell ⟨c, 0, none⟩ v) c v) :=
          fun v => ⟨hS.setCell 0 v, hB.sole ((Sole.refl c wr).setCell 0 v) (by omega), (unhide HC).set v⟩
        go_wp2_with fail
        go_region
        go_wp2_with fail
        go_roundw
        case rel =>
          have e : ((m + (q + s.size / 10) : Nat) : Int) = ↑m + ↑q + ↑s.size / 10 := by omega
          refine ⟨i + 1, by omega, by go_num, ((unhide HBn _).1).drew, (unhide HBn _).2.1, ?_⟩
          rw [unhide HT1, e]
          exact (unhide HBn _).2.2.drew
        case measure => simp [intOf]; omega
      · obtain rfl : i = ns.length := by omega
        rw [List.take_length] at HC
        have hti := unhide HT ns.length
        rw [List.take_length] at hti
        clear hcc hcf
        go_wp2_with fail
        have HK2 : Hid (Sole c w wr ∧ Bx wr w.heap.size (.int .i64 k) (.bool x) (.slice ad d.size cd) (.slice an ns.length cn) (.slice ak ks.length ck) ∧ Ctr wr c (.int .i64 ((m + tenths ns : Nat) : Int))) := ⟨hS, hB, unhide HC⟩
        obtain ⟨M, hM⟩ : ∃ M, M = m + tenths ns := ⟨_, rfl⟩
        rw [← hM] at HK2 HW
        have hM2 : M ≤ 4611686018427387904 := by omega
        clear hM hti HC HT hB hS c0 c1 c2 c3 c4 hS0 hB0 hC0
        generalize wr = w2 at *
        go_loopw [6] (fun vi wr => ∃ i : Nat, i ≤ ks.length ∧ vi = .int .i64 (i : Int) ∧ Sole c w wr ∧ Bx wr w.heap.size (.int .i64 k) (.bool x) (.slice ad d.size cd) (.slice an ns.length cn) (.slice ak ks.length ck) ∧ M + wts (ks.take i) ≤ 4611686018427387904 ∧ Ctr wr c (.int .i64 ((M + wts (ks.take i) : Nat) : Int))) (fun vi _ => ks.length - (intOf vi).toNat)
        case atStart => exact ⟨0, by omega, rfl, (unhide HK2).1, (unhide HK2).2.1, by simpa [wts] using hM2, by simpa [wts] using (unhide HK2).2.2⟩
        case round =>
          obtain ⟨i, hik, rfl, hS, hB, hq, hC⟩ := hrel
          obtain ⟨c0, c1, c2, c3, c4⟩ := hB.cells
          have HC := hide hC
          obtain ⟨hcc, hcf⟩ := hC
          by_cases hlt : i < ks.length
          · obtain ⟨g, o, rfl, hg1, hg2, hcell⟩ := (unhide HR).2.at (by omega)
            obtain ⟨hl, hK⟩ := unhide HKs
            have hbel := hS.below (base := hi) hhi (by omega)
            have hcell' : ∀ j u, Ks.flatten[j]? = some u → wr.cell? ⟨g, o + j, none⟩ = some u := fun j u hj => by rw [hbel.cell (p := ⟨g, o + j, none⟩) hg2]; exact hcell j u hj
            obtain ⟨k', x', vd', vn', vk', hLi, z0, z1, z2, z3, z4⟩ := kid_at hl hcell' (fun i t c h1 h2 => (hK i t c h1 h2).kept hbel (Nat.le_refl _)) i hlt
            have HI := hide (ih ks[i] (List.getElem_mem hlt) lo hi _ wr c (M + wts (ks.take i)) hLi (unhide H5 _ (List.getElem_mem hlt)) (unhide HC) hhi hq)
            have HT1 : Hid (wts (ks.take (i + 1)) = wts (ks.take i) + wt ks[i]) := wts_take ks i hlt
            clear hcell hcell' hl hK hLi hcc hcf HC
            generalize wts (ks.take i) = q at *
            generalize ks[i] = t at *
            go_wp2_with fail
            refine (unhide HI).mono ?_
            rintro e w' ⟨hs', rfl | ⟨rfl, hle, hC'⟩⟩
            · have hSS : Sole c w w' := hS.trans hs'
              go_wp2_with fail
              go_ret
              exact ⟨hSS, .inl rfl⟩
            · have HSS := hide (And.intro (hS.trans hs') (And.intro (hB.sole hs' (by omega)) hC'))
              clear hC' hs'
              go_wp2_with fail
              go_roundw
              case rel =>
                obtain ⟨a1, a2, a3⟩ := unhide HSS
                exact ⟨i + 1, by omega, by go_num, a1, a2, by rw [unhide HT1]; omega, by rw [unhide HT1, ← Nat.add_assoc]; exact a3⟩
              case measure => simp [intOf]; omega
          · obtain rfl : i = ks.length := by omega
            rw [List.take_length] at *
            go_wp2_with fail
            go_ret
            rw [unhide HW]
            refine ⟨hS, ?_⟩
            by_cases h3 : 3000 < M + wts ks
            · exact .inl (by simp; omega)
            · exact .inr ⟨by simp; omega, by omega, unhide HC⟩
end Go.Proofs.YthfjofmfiklegaaDoor
