/- Copies of groups are written over. -/
import Derived.Test.YtebcmicmklpflaaGreatDoorUh
namespace Go.Proofs.YtebcmicmklpflaaGreatDoor
open Go.RowKit Go.Maps
set_option linter.unusedSimpArgs false
/-- Rows of bytes from lo on may be other bytes; all else stands. -/
structure Spd (lo : Nat) (W W' : World) : Prop where
  os : W'.os = W.os
  tape : W'.tape = W.tape
  output : W'.output = W.output
  size : W.heap.size ≤ W'.heap.size
  same : ∀ q : Nat, q < W.heap.size → (q < lo ∨ ∀ cur, W.heap[q]? ≠ some (.cells cur 5 (0, 0))) → W'.heap[q]? = W.heap[q]?
  byt : ∀ (q : Nat) (cur : Array Value), W.heap[q]? = some (.cells cur 5 (0, 0)) → ∃ cur' : Array Value, W'.heap[q]? = some (.cells cur' 5 (0, 0)) ∧ cur'.size = cur.size
theorem Spd.refl (lo : Nat) (W : World) : Spd lo W W := ⟨rfl, rfl, rfl, Nat.le_refl _, fun _ _ _ => rfl, fun _ cur h => ⟨cur, h, rfl⟩⟩
theorem Spd.set {lo : Nat} {W wr : World} (h : Spd lo W wr) (g i : Nat) (v : Value) (hlo : lo ≤ g) (hg : g < W.heap.size → ∃ cur, W.heap[g]? = some (.cells cur 5 (0, 0))) : Spd lo W (wr.setCell ⟨g, i, none⟩ v) := by
  refine ⟨h.os, h.tape, h.output, by rw [size_set]; exact h.size, fun q hq hc => ?_, fun q cur hc => ?_⟩
  · have hne : q ≠ g := fun e => by
      subst e
      rcases hc with h1 | h1
      · omega
      · obtain ⟨cur, h2⟩ := hg hq
        exact h1 cur h2
    rw [set_other _ _ _ _ _ hne]
    exact h.same q hq hc
  · obtain ⟨cur', h1, h2⟩ := h.byt q cur hc
    by_cases hne : q = g
    · subst hne
      exact ⟨cur'.setIfInBounds i v, by simp [World.setCell, Array.getElem?_modify, h1], by simpa using h2⟩
    · exact ⟨cur', by rw [set_other _ _ _ _ _ hne]; exact h1, h2⟩
/-- Bytes of one's own, from lo on. -/
def ByteRow (lo : Nat) (W : World) (v : Value) (n : Nat) : Prop := (v = .slice none 0 0 ∧ n = 0) ∨ ∃ g cur, v = .slice (some ⟨g, 0, none⟩) n cur.size ∧ lo ≤ g ∧ n ≤ cur.size ∧ cur.size ≤ maxLen ∧ W.heap[g]? = some (.cells cur 5 (0, 0))
theorem ByteRow.spd {lo : Nat} {W W' : World} {v : Value} {n : Nat} (h : ByteRow lo W v n) (hs : Spd lo W W') : ByteRow lo W' v n := by
  rcases h with h | ⟨g, cur, e, h1, h2, h3, h4⟩
  · exact .inl h
  · obtain ⟨cur', h5, h6⟩ := hs.byt g cur h4
    exact .inr ⟨g, cur', by rw [e, h6], h1, by omega, by omega, h5⟩
theorem Spd.alloc (lo : Nat) (W : World) (o : Obj) : Spd lo W (W.alloc o) :=
  ⟨rfl, rfl, rfl, by simp, fun q hq _ => Below.heap_alloc W o q hq, fun q cur h => ⟨cur, by rw [Below.heap_alloc W o q (Array.getElem?_eq_some_iff.1 h).1]; exact h, rfl⟩⟩
/-- A byte is appended to bytes of one's own. -/
theorem byte_free {lo : Nat} {W : World} {v : Value} {n : Nat} (x : Nat) (h : ByteRow lo W v n) (hlo : lo ≤ W.heap.size) (hn : n ≤ 2000000) :
    ∃ g c W1 cur, (∀ ty, (app22 ty #[v, .slice (some ⟨W.heap.size, 0, none⟩) 1 1]).run Tryz.prog (W.alloc (.cells #[.int .u8 (x : Int)] 5)) = .ok (.slice (some ⟨g, 0, none⟩) (n + 1) c) W1) ∧ n + 1 ≤ c ∧ Spd lo W W1 ∧ lo ≤ g ∧ (g < W.heap.size → ∃ cur, W.heap[g]? = some (.cells cur 5 (0, 0))) ∧ W1.heap[g]? = some (.cells cur 5 (0, 0)) ∧ n + 1 ≤ cur.size := by
  obtain ⟨i, hi', hz, hsz, hby⟩ := info5
  have hA : Below W.heap.size W (W.alloc (.cells #[.int .u8 (x : Int)] 5)) := (Below.refl _ _).alloc (Nat.le_refl _) _
  have hsA : (W.alloc (.cells #[.int .u8 (x : Int)] 5)).heap.size = W.heap.size + 1 := by simp
  have hnew := cell_one_new W (.int .u8 (x : Int)) 5
  -- a new row
  have fresh : ∀ (o : Array Value), n + 1 ≤ o.size → Spd lo W ((W.alloc (.cells #[.int .u8 (x : Int)] 5)).drew.alloc (.cells o 5)) ∧ ((W.alloc (.cells #[.int .u8 (x : Int)] 5)).drew.alloc (.cells o 5)).heap[W.heap.size + 1]? = some (.cells o 5 (0, 0)) := fun o ho => by
    have hold : ∀ q, q < W.heap.size → ((W.alloc (.cells #[.int .u8 (x : Int)] 5)).drew.alloc (.cells o 5)).heap[q]? = W.heap[q]? := fun q hq => by
      exact (Below.heap_alloc (W.alloc (.cells #[.int .u8 (x : Int)] 5)).drew (.cells o 5) q (show q < (W.alloc (.cells #[.int .u8 (x : Int)] 5)).heap.size by omega)).trans (hA.block q hq)
    refine ⟨⟨rfl, rfl, rfl, ?_, fun q hq _ => hold q hq, fun q cur h => ⟨cur, (hold q (Array.getElem?_eq_some_iff.1 h).1).trans h, rfl⟩⟩, ?_⟩
    · rw [World.size_alloc]
      show W.heap.size ≤ (W.alloc (.cells #[.int .u8 (x : Int)] 5)).heap.size + 1
      omega
    · have := heap_alloc_new (W.alloc (.cells #[.int .u8 (x : Int)] 5)).drew (.cells o 5)
      have e : (W.alloc (.cells #[.int .u8 (x : Int)] 5)).drew.heap.size = W.heap.size + 1 := hsA
      rw [e] at this
      exact this
  rcases h with ⟨rfl, rfl⟩ | ⟨g, cur, rfl, h1, h2, h3, h4⟩
  · have hr := fun ty => run_append_nil (P := Tryz.prog) (W.alloc (.cells #[.int .u8 (x : Int)] 5)) 39 ty 5 i (.int .u8 0) Tryz.underlying39 hi' hz ⟨W.heap.size, 0, none⟩ 1 1 [.int .u8 (x : Int)] (by rw [hsz]; rfl) hnew (by omega) (by omega) (by rw [hby]; omega)
    rw [hsA] at hr
    have hge := grownCap_ge (W.alloc (.cells #[.int .u8 (x : Int)] 5)) 1 0 5
    have ho : 0 + 1 ≤ ([Value.int .u8 (x : Int)].toArray ++ Builtin.zeroCells (Value.int .u8 0).cells (grownCap (W.alloc (.cells #[.int .u8 (x : Int)] 5)) 1 0 5 - 1)).size := by simp
    obtain ⟨f1, f2⟩ := fresh _ ho
    exact ⟨_, _, _, _, hr, hge, f1, by omega, fun h => by omega, f2, ho⟩
  · have h4' : (W.alloc (.cells #[.int .u8 (x : Int)] 5)).heap[g]? = some (.cells cur 5 (0, 0)) := by rw [hA.block g (Array.getElem?_eq_some_iff.1 h4).1]; exact h4
    by_cases hroom : n + 1 ≤ cur.size
    · have hr := fun ty => run_append_room (P := Tryz.prog) (W.alloc (.cells #[.int .u8 (x : Int)] 5)) 39 ty 5 i Tryz.underlying39 hi' g n cur.size cur h4' ⟨W.heap.size, 0, none⟩ 1 1 [.int .u8 (x : Int)] (by rw [hsz]; rfl) hnew (fun u hu => by simp at hu; subst hu; rfl) hroom (by rw [hsz]; simp; omega)
      obtain ⟨A, hA2⟩ : ∃ A, A = (cur.toList.take (n * i.size) ++ [Value.int .u8 (x : Int)] ++ cur.toList.drop (n * i.size + [Value.int .u8 (x : Int)].length)).toArray := ⟨_, rfl⟩
      have hAs : A.size = cur.size := by rw [hA2, hsz]; simp; omega
      rw [← hA2] at hr
      have hsr := setRow_heap (W.alloc (.cells #[.int .u8 (x : Int)] 5)) g cur A 5 (0, 0) h4'
      have hoth : ∀ q, q < W.heap.size → q ≠ g → ((W.alloc (.cells #[.int .u8 (x : Int)] 5)).setRow g A).heap[q]? = W.heap[q]? := fun q hq hne => by
        rw [setRow_other _ g q A hne]
        exact hA.block q hq
      refine ⟨g, cur.size, _, A, hr, hroom, ⟨rfl, rfl, rfl, ?_, fun q hq hc => hoth q hq (fun e => ?_), fun q cur' hq => ?_⟩, h1, fun _ => ⟨cur, h4⟩, hsr, by omega⟩
      · have : ((W.alloc (.cells #[.int .u8 (x : Int)] 5)).setRow g A).heap.size = (W.alloc (.cells #[.int .u8 (x : Int)] 5)).heap.size := by simp
        omega
      · subst e
        rcases hc with h | h
        · omega
        · exact h cur h4
      · by_cases hne : q = g
        · subst hne
          rw [h4] at hq
          injection hq with hq
          injection hq with hq
          subst hq
          exact ⟨A, hsr, hAs⟩
        · exact ⟨cur', (hoth q (Array.getElem?_eq_some_iff.1 hq).1 hne).trans hq, rfl⟩
    · have hcn : cur.size = n := by omega
      have hr := fun ty => run_append_grow (P := Tryz.prog) (W.alloc (.cells #[.int .u8 (x : Int)] 5)) 39 ty 5 i (.int .u8 0) Tryz.underlying39 hi' hz ⟨g, 0, none⟩ n cur.size cur.toList (by rw [hsz]; simp; omega) (fun j u hj => by
          rw [show (⟨g, 0, none⟩ : Addr).add j = ⟨g, 0 + j, none⟩ from by unfold Addr.add; split <;> simp_all]
          simp only [World.cell?, h4', Nat.zero_add]
          rw [← Array.getElem?_toList]; exact hj) ⟨W.heap.size, 0, none⟩ 1 1 [.int .u8 (x : Int)] (by rw [hsz]; rfl) hnew (by omega) (by omega) (growslice_fits (by omega) (by rw [hby]; omega))
      rw [hsA] at hr
      have hge := grownCap_ge (W.alloc (.cells #[.int .u8 (x : Int)] 5)) (n + 1) cur.size 5
      have ho : n + 1 ≤ (cur.toList.toArray ++ [Value.int .u8 (x : Int)].toArray ++ Builtin.zeroCells (Value.int .u8 0).cells (grownCap (W.alloc (.cells #[.int .u8 (x : Int)] 5)) (n + 1) cur.size 5 - (n + 1))).size := by simp; omega
      obtain ⟨f1, f2⟩ := fresh _ ho
      exact ⟨_, _, _, _, hr, hge, f1, by omega, fun h => by omega, f2, ho⟩
set_option maxRecDepth 20000 in
set_option maxHeartbeats 1000000 in
theorem spoil_free (lo : Nat) (v : Value) (n : Nat) (W : World) (h : ByteRow lo W v n) (hlo : lo ≤ W.heap.size) (hn : n ≤ 2000000) :
    Calls Tryz.prog 20 #[v] W fun e W' => e = .returned (.tuple #[]) ∧ Spd lo W W' := by
  obtain ⟨g, c, W1, cur, happ, hc, hS, hg, hgb, hh, hcs⟩ := byte_free 99 h hlo hn
  have happ' : ∀ ty, (app22 ty #[v, .slice (some ⟨W.heap.size, 0, none⟩) 1 1]).run Tryz.prog (W.alloc (.cells #[.int .u8 99] 5)) = .ok (.slice (some ⟨g, 0, none⟩) (n + 1) c) W1 := happ
  obtain ⟨a, l, k, rfl⟩ : ∃ a l k, v = .slice a l k := by
    rcases h with ⟨rfl, _⟩ | ⟨g, cur, rfl, _⟩
    · exact ⟨_, _, _, rfl⟩
    · exact ⟨_, _, _, rfl⟩
  have HG1 := hide hS
  have HH : Hid (∃ cur, W1.heap[g]? = some (.cells cur 5 (0, 0)) ∧ n + 1 ≤ cur.size) := ⟨cur, hh, hcs⟩
  have HK := hide (And.intro hg hgb)
  clear h hS happ hh hcs hlo hg hgb
  go_enter Tryz.func20, Tryz.ntmps20
  go_wp2_with fail
  go_loopw [3] (fun vi wr => ∃ i : Nat, i ≤ n + 1 ∧ vi = .int .i64 (i : Int) ∧ Hid (Spd lo W wr) ∧ Hid (∃ cur, wr.heap[g]? = some (.cells cur 5 (0, 0)) ∧ n + 1 ≤ cur.size)) (fun vi _ => n + 1 - (intOf vi).toNat)
  case atStart => exact ⟨0, by omega, rfl, unhide HG1, unhide HH⟩
  case round =>
    clear HG1 HH happ'
    obtain ⟨i, hi, rfl, hB, hC⟩ := hrel
    by_cases hlt : i < n + 1
    · obtain ⟨cur, hcur, hsz⟩ := unhide hC
      have hcell : wr.cell? ⟨g, i, none⟩ = some cur[i] := by simp only [World.cell?, hcur]; exact Array.getElem?_eq_getElem (by omega)
      have hfr : wr.frozen? ⟨g, i, none⟩ = false := by unfold World.frozen?; rw [hcur]; simp
      have HB' : Hid (Spd lo W (wr.setCell ⟨g, i, none⟩ (.int .u8 98))) := (unhide hB).set g i _ (unhide HK).1 (unhide HK).2
      have HC' : Hid (∃ cur, (wr.setCell ⟨g, i, none⟩ (.int .u8 98)).heap[g]? = some (.cells cur 5 (0, 0)) ∧ n + 1 ≤ cur.size) := ⟨cur.setIfInBounds i (.int .u8 98), by simp [World.setCell, Array.getElem?_modify, hcur], by simp; omega⟩
      generalize cur[i] = old at *
      clear hcur hsz hB hC
      go_wp2_with fail
      refine ⟨⟨i + 1, by omega, by simp, unhide HB', unhide HC'⟩, ?_⟩
      simp [intOf]; omega
    · obtain rfl : i = n + 1 := by omega
      go_wp2_with fail
      exact bodyPost_end (v := .tuple #[]) (by simp [results, Tryz.results20, go_sem]) rfl ⟨rfl, unhide hB⟩
/-- Copies of groups that may be written over. -/
def SPg (lo : Nat) (W : World) (b : Nat) (G : List (List (List UInt8))) : Prop :=
  ∃ cur : Array Value, W.heap[b]? = some (.cells cur 34 (0, 0)) ∧ ∀ (i : Nat) (ds : List (List UInt8)), G[i]? = some ds → ∃ bi, cur[i]? = some (.slice (some ⟨bi, 0, none⟩) ds.length ds.length) ∧ ∃ cur2 : Array Value, W.heap[bi]? = some (.cells cur2 39 (0, 0)) ∧ ∀ (m : Nat) (d : List UInt8), ds[m]? = some d → ∃ x, cur2[m]? = some x ∧ ByteRow lo W x d.length
theorem not_bytes {W : World} {q : Nat} {c : Array Value} {t : TypeId} (h : W.heap[q]? = some (.cells c t (0, 0))) (ht : t ≠ 5) : ∀ cur, W.heap[q]? ≠ some (.cells cur 5 (0, 0)) := fun cur e => by
  rw [h] at e
  injection e with e
  injection e with _ e
  exact ht e
theorem SPg.spd {lo : Nat} {W W' : World} {b : Nat} {G : List (List (List UInt8))} (h : SPg lo W b G) (hs : Spd lo W W') : SPg lo W' b G := by
  obtain ⟨cur, h1, h2⟩ := h
  refine ⟨cur, (hs.same b (Array.getElem?_eq_some_iff.1 h1).1 (.inr (not_bytes h1 (by decide)))).trans h1, fun i ds hi => ?_⟩
  obtain ⟨bi, h3, cur2, h4, h5⟩ := h2 i ds hi
  refine ⟨bi, h3, cur2, (hs.same bi (Array.getElem?_eq_some_iff.1 h4).1 (.inr (not_bytes h4 (by decide)))).trans h4, fun m d hd => ?_⟩
  obtain ⟨x, h6, h7⟩ := h5 m d hd
  exact ⟨x, h6, h7.spd hs⟩
theorem CpG.spg {w W : World} {G : List (List (List UInt8))} (h : CpG w W G G.length) : SPg w.heap.size W w.heap.size G := by
  obtain ⟨cur, h1, h2, h3⟩ := h.row
  refine ⟨cur, h1, fun i ds hi => ?_⟩
  obtain ⟨bi, h4, _, cur2, h5, h6, h7⟩ := h3 i ds (List.getElem?_eq_some_iff.1 hi).1 hi
  refine ⟨bi, h4, cur2, h5, fun m d hd => ?_⟩
  obtain ⟨x, h8, h9⟩ := h7 m d hd
  refine ⟨x, h8, ?_⟩
  rcases h9 with ⟨rfl, rfl⟩ | ⟨g, cur3, e, ho, hg, p1, p2, _⟩
  · exact .inl ⟨rfl, rfl⟩
  · exact .inr ⟨g, cur3, e, by have := ho.1; omega, p1, p2, hg⟩
end Go.Proofs.YtebcmicmklpflaaGreatDoor
