/- Modulo: the digest of bytes but for a path's digits. -/
import Derived.Test.YtlbfcneboaihnaaGreatDoorMds
import Derived.Test.YtlbfcneboaihnaaGreatDoorSplit
namespace Go.Proofs.YtlbfcneboaihnaaGreatDoor
open Go.RowKit Go.Shelf Go.Great
attribute [local go_sem] Oper.semAt_some
set_option linter.unusedSimpArgs false
theorem zs_bytes {k : Nat} : Sha.Bytes (zs k) := fun y hy => by rw [List.eq_of_mem_replicate hy]; decide
theorem row_some {w : World} {a : Option Addr} {n c : Nat} {B : List Nat} (h : BytesAt w (.slice a n c) B) (hn : B.length = n) (h0 : 0 < n) : ∃ av ov, a = some ⟨av, ov, none⟩ ∧ n ≤ c := by
  obtain ⟨a', c', e, hc, hx⟩ := h
  injection e with e1 _ e3
  obtain ⟨b, o, ea, _⟩ := hx (by omega)
  exact ⟨b, o, by rw [e1, ea], by omega⟩
theorem one_way {P G : Prop} (all : P) (go : Hid P → G) : G := go all
theorem zeros_at (w : World) : Dg.BytesAt (w.alloc (.cells (Dg.E8 (Dg.zs 32)) 5)) (.slice (some ⟨w.heap.size, 0, none⟩) 32 32) (Dg.zs 32) := by
  refine ⟨_, 32, by simp [Dg.zs], by simp [Dg.zs], fun _ => ⟨w.heap.size, 0, rfl, by simp, fun j hj => ?_⟩⟩
  have h : (w.alloc (.cells (Dg.E8 (Dg.zs 32)) 5)).heap[w.heap.size]? = some (.cells (Dg.E8 (Dg.zs 32)) 5) := World.alloc_heap_new w _
  simp only [World.cell?, h]
  simp [Dg.zs] at hj
  simp [Dg.zs, hj, Dg.Sha.nth]
theorem rest_at {w : World} {a : Option Addr} {n c : Nat} {B : List Nat} (h : BytesAt w (.slice a n c) B) (hn : B.length = n) (d : Nat) (hd : d ≤ n) : BytesAt w (.slice (if c = d then a else a.map (·.add d)) (n - d) (c - d)) (B.drop d) := by
  by_cases h0 : d < n
  · obtain ⟨av, ov, rfl, hnc⟩ := row_some h hn (by omega)
    rw [if_neg (by omega)]
    have := piece_at h hn d (n - d) (by omega)
    rw [List.take_of_length_le (by rw [List.length_drop]; omega)] at this
    have e2 : Addr.add ⟨av, ov, none⟩ d = ⟨av, ov + d, none⟩ := by
      unfold Addr.add
      split
      · rename_i h9; subst h9; rfl
      · rfl
    rw [Option.map_some, e2]
    exact this
  · have e : B.drop d = [] := List.drop_eq_nil_of_le (by omega)
    rw [e, show n - d = 0 by omega]
    exact ⟨_, _, rfl, by simp, fun h => by simp at h⟩
/-- What is written of the places. -/
def texts (ps : List Nat) : List Nat := (ps.map fun x => 124 :: decL x).flatten
theorem texts_snoc (ps : List Nat) (x : Nat) : texts (ps ++ [x]) = texts ps ++ (124 :: decL x) := by simp [texts]
theorem texts_bytes : ∀ ps, Sha.Bytes (texts ps) := fun ps y hy => by
  simp only [texts, List.mem_flatten, List.mem_map] at hy
  obtain ⟨l, ⟨x, _, rfl⟩, h⟩ := hy
  rcases List.mem_cons.1 h with rfl | h
  · decide
  · exact decL_bytes x y h
theorem texts_len {m : Nat} (hm : m ≤ 1000000) : ∀ ps : List Nat, (∀ x ∈ ps, x ≤ m) → (texts ps).length ≤ 8 * ps.length
  | [], _ => Nat.zero_le _
  | x :: ps, h => by
    have h1 := texts_len hm ps fun y hy => h y (List.mem_cons_of_mem _ hy)
    have h2 := decL_len x (Nat.le_trans (h x (by simp)) hm)
    have e : texts (x :: ps) = (124 :: decL x) ++ texts ps := rfl
    rw [e, List.length_append, List.length_cons, List.length_cons]; omega
theorem row_lt {w : World} {a : Option Addr} {n c : Nat} {B : List Nat} (h : BytesAt w (.slice a n c) B) (hn : B.length = n) (h0 : 0 < n) {x : Addr} (hx : a = some x) : x.block < w.heap.size := by
  obtain ⟨a', c', e, hc, hxx⟩ := h
  injection e with e1 _ e3
  obtain ⟨b, o, ea, hlt, _⟩ := hxx (by omega)
  rw [e1, ea] at hx
  rw [← Option.some.inj hx]; exact hlt
/-- Two results, the first of which lies in a block. -/
theorem res25_two {fn : Func} {p q : Tmp} (h : fn.results = #[.cell p 25, .tmp q]) {tmps : Array Value} {w : World} {b : Nat} (hp : tmps.getD p undef = .pointer (some ⟨b, 0, none⟩)) {cs : Array Value} {v : Value} (hr : Dg.rowOf w b = cs) (hs : cs.size = 32) (hv : tmps.getD q undef = v) :
    (results fn tmps).run Tryz.prog w = .ok (.tuple #[.agg cs, v]) w := by
  subst hv
  have hp' : tmps[p]?.getD undef = .pointer (some ⟨b, 0, none⟩) := by simpa using hp
  have hl : (loadVar 25 ⟨b, 0, none⟩).run Tryz.prog w = .ok (.agg cs) w := by
    rw [← hr]; exact Dg.run_loadVar_rowOf w b 25 32 _ Tryz.underlying25 rfl (zero_of_info Dg.Z25_info).2 (by omega) (by rw [hr]; exact hs)
  simp [results, h, hp', asAddr, hl]
/-- The digest of bytes but for a path's digits. -/
def modS (p B : List Nat) : List Nat := Dg.Sha.sum (layAll (zs 32) B (plcs B (p.take 32) 0) ++ texts (plcs B (p.take 32) 0))
/-- What Modulo answers. -/
def ModIs (w : World) (p B : List Nat) (e : Ending) (w' : World) : Prop :=
  Below w.heap.size w w' ∧ ((Sha.isPth p ∧ e = .returned (.tuple #[.agg (Dg.E8 (modS p B)), .int .i64 0])) ∨ (¬ Sha.isPth p ∧ e = .returned (.tuple #[.agg Dg.Z25, .int .i64 3])))
set_option maxRecDepth 20000 in
set_option maxHeartbeats 600000 in
theorem modulo_any (p : List Nat) (a : Option Addr) (n c : Nat) (B : List Nat) (w : World) (hp : Sha.Bytes p) (hpm : p.length ≤ 1000000) (hb : BytesAt w (.slice a n c) B) (hB : Sha.Bytes B) (hn : B.length = n) (hmax : n ≤ 4000) (hmx : ∃ m, w.cell? ⟨0, 0, none⟩ = some (.int .i64 m)) (hpw : Pow w) :
    Calls Tryz.prog 5 #[.slice a n c, .string (strOf p)] w (ModIs w p B) := by
  have HS := hide (split_any p ((w.alloc (.cells #[.slice a n c] 22)).alloc (.cells (Dg.E8 (Dg.zs 32)) 25)) hp (by omega))
  have HD := hide (And.intro hb (And.intro hB (And.intro hn (And.intro hmx hpw))))
  have HP := hide hp
  clear hb hB hn hmx hpw hp
  refine (callsIn_wide (n := 3)).1 ?_
  refine callsIn_of_wp_marks Tryz.func5 rfl trivial ?_ rfl
  simp only [Tryz.ntmps5, List.size_toArray, List.length_cons, List.length_nil, Nat.reduceAdd, Nat.reduceSub, Array.replicate_succ, Array.replicate_zero, List.push_toArray, List.append_toArray, List.nil_append, List.cons_append]
  gi_wp2_with fail
  refine ⟨trivial, ?_⟩
  refine (callsIn_wide.2 (unhide HS)).mono ?_
  rintro e w1 ⟨hb1, ⟨h1, he⟩ | ⟨h1, he⟩⟩
  · simp only [splitV, if_true] at he
    subst he
    have hz1 : w.heap.size + 2 ≤ w1.heap.size := by have := hb1.size; simpa using this
    generalize p.drop 33 = N1 at *
    generalize hF : p.take 32 = F at *
    have HF := hide hF
    have H1 := hide h1
    have HB1 := hide hb1
    have hbb : w1.heap[w.heap.size]? = some (.cells #[.slice a n c] 22) := by
      rw [hb1.block _ (by simp; omega), Below.heap_alloc _ _ _ (by simp)]; exact World.alloc_heap_new w _
    have hbr : w1.heap[w.heap.size + 1]? = some (.cells (Dg.E8 (Dg.zs 32)) 25) := by
      rw [hb1.block _ (by simp)]
      have := World.alloc_heap_new (w.alloc (.cells #[.slice a n c] 22)) (.cells (Dg.E8 (Dg.zs 32)) 25)
      rwa [World.size_alloc] at this
    have hcb := cellP hbb
    have hwb : Below w.heap.size w w1 := (((Below.refl _ _).alloc (Nat.le_refl _) _).alloc (by simp) _).trans (hb1.mono (by simp; omega))
    have hne : w.heap.size < w1.heap.size := by omega
    have HNew := hide (Dg.new_any (w1.alloc (.cells #[.string (strOf F)] 9)))
    simp only [World.size_alloc] at HNew
    clear hF h1 hb1 HS
    gi_wp2_with fail
    refine ⟨trivial, ?_⟩
    refine (callsIn_wide.2 (unhide HNew)).mono ?_
    rintro e w2 ⟨rfl, hw2⟩
    obtain ⟨hs3, hb3⟩ : w2.heap.size = w1.heap.size + 1 + 1 ∧ Below w1.heap.size w1 w2 := by
      rw [hw2]
      exact ⟨by simp, ((Below.refl _ _).alloc (Nat.le_refl _) _).alloc (by simp) _⟩
    have hf3 : w2.heap[w1.heap.size]? = some (.cells #[.string (strOf F)] 9) := by rw [hw2, Below.heap_alloc _ _ _ (by simp)]; exact World.alloc_heap_new w1 _
    have hk3 : Dg.Kept w2 (w1.heap.size + 1) [] (Dg.zs 32) := by
      have := kept_new (w1.alloc (.cells #[.string (strOf F)] 9))
      rw [World.size_alloc] at this
      rw [hw2]; exact this
    have hc3 : w2.cell? ⟨w.heap.size, 0, none⟩ = some (.slice a n c) := by rw [hb3.cell (p := ⟨w.heap.size, 0, none⟩) hne]; exact hcb
    have hcf3 := cellP hf3
    have hl1 : w.heap.size < w2.heap.size := by omega
    have hl2 : w1.heap.size < w2.heap.size := by omega
    obtain ⟨w3, hw3⟩ : ∃ w3, (w2.alloc (.cells #[.pointer (some ⟨w1.heap.size + 1, 0, none⟩)] 42)).alloc (.cells #[.int .i64 0] 3) = w3 := ⟨_, rfl⟩
    have ho3 : w3.heap[w1.heap.size + 1 + 1 + 1]? = some (.cells #[.int .i64 0] 3) := by
      rw [← hw3]
      have := World.alloc_heap_new (w2.alloc (.cells #[.pointer (some ⟨w1.heap.size + 1, 0, none⟩)] 42)) (.cells #[.int .i64 0] 3)
      rw [World.size_alloc, hs3] at this
      exact this
    have hco3 := cellP ho3
    have hz3 : w3.frozen? ⟨w1.heap.size + 1 + 1 + 1, 0, none⟩ = false := by simp [World.frozen?, ho3]
    obtain ⟨w4, hw4⟩ : ∃ w4, w3.setCell ⟨w1.heap.size + 1 + 1 + 1, 0, none⟩ (.int .i64 0) = w4 := ⟨_, rfl⟩
    have hs4 : w4.heap.size = w1.heap.size + 1 + 1 + 1 + 1 := by rw [← hw4, ← hw3]; simp [hs3]
    have hb4 : Below w2.heap.size w2 w4 := by rw [← hw4, ← hw3]; exact (((Below.refl _ _).alloc (Nat.le_refl _) _).alloc (by simp) _).setCell (by simp [hs3]) _
    have hc4 : w4.cell? ⟨w.heap.size, 0, none⟩ = some (.slice a n c) := by rw [hb4.cell (p := ⟨w.heap.size, 0, none⟩) hl1]; exact hc3
    have hcf4 : w4.cell? ⟨w1.heap.size, 0, none⟩ = some (.string (strOf F)) := by rw [hb4.cell (p := ⟨w1.heap.size, 0, none⟩) hl2]; exact hcf3
    have hh4 : w4.heap[w1.heap.size + 1 + 1]? = some (.cells #[.pointer (some ⟨w1.heap.size + 1, 0, none⟩)] 42) := by
      rw [← hw4, heap_set_other _ _ _ _ _ (by omega), ← hw3, ← hs3, Below.heap_alloc _ _ _ (by simp)]; exact World.alloc_heap_new w2 _
    have ho4 : w4.heap[w1.heap.size + 1 + 1 + 1]? = some (.cells #[.int .i64 ((0 : Nat) : Int)] 3) := by
      rw [← hw4]
      have hl := (Array.getElem?_eq_some_iff.1 ho3).1
      have s2 := ho3
      rw [Array.getElem?_eq_getElem hl] at s2
      have s3 := Option.some.inj s2
      simp [World.setCell, Array.getElem?_modify, Array.getElem?_eq_getElem hl, s3]
    have hbb4 : w4.heap[w.heap.size]? = some (.cells #[.slice a n c] 22) := by rw [hb4.block _ (by omega), hb3.block _ hne]; exact hbb
    have hbr4 : w4.heap[w.heap.size + 1]? = some (.cells (Dg.E8 (Dg.zs 32)) 25) := by rw [hb4.block _ (by omega), hb3.block _ (by omega)]; exact hbr
    have hbf4 : w4.heap[w1.heap.size]? = some (.cells #[.string (strOf F)] 9) := by rw [hb4.block _ (by omega)]; exact hf3
    have hk4 : Dg.Kept w4 (w1.heap.size + 1) [] (Dg.zs 32) := kept_keep hk3 (hb4.block _ (by omega))
    have hbw4 : Below w.heap.size w w4 := (hwb.trans (hb3.mono (by omega))).trans (hb4.mono (by omega))
    have HPL := hide (places_any a n c (strOf F) w4)
    simp only [hs4] at HPL
    have HW4 := hide (And.intro hh4 (And.intro ho4 (And.intro hbb4 (And.intro hbr4 (And.intro hbf4 (And.intro hk4 hbw4))))))
    clear hw2 HNew hk3 hb3 hf3 hh4 ho4 hbb4 hbr4 hbf4 hk4 hbw4 hb4 hbb hbr ho3
    gi_wp2_with fail
    refine ⟨trivial, ?_⟩
    refine (callsIn_wide.2 (unhide HPL)).mono ?_
    rintro e w5 ⟨rfl, hw5⟩
    have hs5 : w5.heap.size = w1.heap.size + 1 + 1 + 1 + 1 + 1 + 1 := by rw [hw5]; simp [hs4]
    have hb5 : Below w4.heap.size w4 w5 := by rw [hw5]; exact ((Below.refl _ _).alloc (Nat.le_refl _) _).alloc (by simp) _
    have hpb5 : w5.heap[w1.heap.size + 1 + 1 + 1 + 1]? = some (.cells #[.slice a n c] 22) := by rw [hw5, ← hs4, Below.heap_alloc _ _ _ (by simp)]; exact World.alloc_heap_new w4 _
    have hpd5 : w5.heap[w1.heap.size + 1 + 1 + 1 + 1 + 1]? = some (.cells #[.string (strOf F)] 9) := by
      rw [hw5]
      have := World.alloc_heap_new (w4.alloc (.cells #[.slice a n c] 22)) (.cells #[.string (strOf F)] 9)
      rwa [World.size_alloc, hs4] at this
    clear hw5 HPL hw4 hw3 hco3 hz3
    obtain ⟨hh4, ho4, hbb4, hbr4, hbf4, hk4, hbw4⟩ := unhide HW4
    obtain ⟨hb, hB, hn, ⟨m, hm⟩, hpw⟩ := unhide HD
    have hp := unhide HP
    have hisp := unhide H1
    have hFp := unhide HF
    have hFl : F.length = 32 := by rw [← hFp]; exact (path_digits hisp).1
    have hFb : Sha.Bytes F := by rw [← hFp]; exact fun y hy => hp y (List.mem_of_mem_take hy)
    have hw5 : Below w.heap.size w w5 := hbw4.trans (hb5.mono (by omega))
    have hMw : Mw w w1.heap.size (w1.heap.size + 1 + 1 + 1 + 1) a n := ⟨by omega, by omega, fun h0 x hx => row_lt hb hn h0 hx, by have := cell_lt hm; exact this⟩
    have g5 : ∀ k o, w4.heap[k]? = some o → w5.heap[k]? = some o := fun k o e => by rw [hb5.block k (Array.getElem?_eq_some_iff.1 e).1]; exact e
    have hJ0 : Mb w w1.heap.size (w1.heap.size + 1 + 1 + 1 + 1) F a n c B 0 [] w5 := ⟨hw5, g5 _ _ hbb4, g5 _ _ hbr4, g5 _ _ hbf4, kept_keep hk4 (hb5.block _ (by omega)), g5 _ _ hh4, g5 _ _ ho4, hpb5, hpd5, hb.below hw5, ⟨m, by rw [hw5.cell (p := ⟨0, 0, none⟩) (cell_lt hm)]; exact hm⟩, pow_below hpw hw5⟩
    clear hpb5 hpd5 hh4 ho4 hbb4 hbr4 hbf4 hk4 hbw4 HW4 hb5 hc4 hcf4 hs4 hs3 hc3 hcf3 hl1 hl2 hcb hwb g5
    generalize hM : w1.heap.size = M at *
    gi_wp2_with fail
    refine range_gen (W0 := w5) (Bd := M + 1 + 1 + 1 + 1 + 1) (Bb := M + 1 + 1 + 1 + 1) (F := F) (a := a) (n := n) (c := c) (B := B) (fun x => { tmps := #[.slice a n c, .string (strOf p), .pointer (some ⟨w.heap.size, 0, none⟩), undef, .pointer (some ⟨w.heap.size + 1, 0, none⟩), .int .i64 0, .pointer (some ⟨M, 0, none⟩), .string (strOf N1), .int .i64 0, .pointer (some ⟨M + 1 + 1, 0, none⟩), .pointer (some ⟨M + 1 + 1 + 1, 0, none⟩), .int .i64 (x : Int), undef, .tuple #[.string (strOf F), .string (strOf N1), .int .i64 0], .string (strOf p), .tuple #[.string (strOf F), .string (strOf N1), .int .i64 0], .string (strOf F), .string (strOf N1), .int .i64 0, .int .i64 0, .bool false, undef, undef, .pointer (some ⟨M + 1, 0, none⟩), .slice a n c, .string (strOf F), .func (.func 29) #[] #[.pointer (some ⟨M + 1 + 1 + 1 + 1 + 1, 0, none⟩), .pointer (some ⟨M + 1 + 1 + 1 + 1, 0, none⟩)], .int .i64 (x : Int), undef, undef, undef, undef, undef, undef, undef, undef, undef, undef, undef, undef, undef, undef, undef, undef, undef, undef, undef, undef, undef, undef, undef, undef, undef, undef, undef, undef, undef, undef, undef, undef], defers := [] }) (fun pre W => Mb w M (M + 1 + 1 + 1 + 1) F a n c B (doneOf pre) ((layAll (zs 32) B pre).take (doneOf pre)) W ∧ Laid (zs 32) B pre) hn (by omega) hB hFb hFl rfl ?_ ?_ ?_ ?_ ?_ ?_ ?_
    · rintro pre W ⟨h, _⟩
      exact ⟨cellP h.pd, cellP h.pb, h.row, h.mxl⟩
    · rintro pre W W' ⟨h, h'⟩ hb'
      exact ⟨h.up hb', h'⟩
    · rintro pre W r ⟨h, h'⟩ _
      exact ⟨h.put hMw _ (by omega) _, h'⟩
    · exact ⟨hJ0, laid_nil _ _⟩
    · intro l x W K hK
      gi_wp2
      exact hK
    · intro l x pre W R hx hpl hpr ⟨hJ, hL⟩ hsz hR
      obtain ⟨rest, hrest⟩ := hpr
      have hd := done_le hFl hrest
      obtain ⟨av, ov, rfl, hnc⟩ := row_some hb hn (by omega)
      have hJd := hJ.up (Below.refl _ _).drew
      have hall : Sha.Bytes ((layAll (zs 32) B pre).take (doneOf pre)) := fun y hy => layAll_bytes zs_bytes pre B hB y (List.mem_of_mem_take hy)
      have hal : ((layAll (zs 32) B pre).take (doneOf pre)).length = doneOf pre := by rw [List.length_take, hL.len]; have := hL.le; omega
      have hpc : Sha.Bytes ((B.drop (doneOf pre)).take (x - doneOf pre)) := fun y hy => hB y (List.mem_of_mem_drop (List.mem_of_mem_take hy))
      have hpl' : ((B.drop (doneOf pre)).take (x - doneOf pre)).length = x - doneOf pre := by rw [List.length_take, List.length_drop]; omega
      have hav : av < w.heap.size := hMw.ha (by omega) _ rfl
      have hM2 := hMw.hM
      have HW1 := hide (CallsIn.inRound l ((callsIn_wide (n := 0)).2 (Dg.write_any (M + 1) _ (Dg.zs 32) (x - doneOf pre) (c - doneOf pre) (some ⟨av, ov + doneOf pre, none⟩) _ W.drew hJd.hk hall hpl' hpc (piece_at hJd.row hn (doneOf pre) (x - doneOf pre) (by omega)) (fun y hy _ => by have := Option.some.inj hy; rw [← this]; show av ≠ M + 1; omega) (by omega))))
      have q1 := cellP hJ.bh
      have q2 := cellP hJ.bb
      have q3 := cellP hJ.bo
      have q4 := cellP hJ.bf
      have HJ := hide (And.intro hJ hJd)
      have HR := hide hR
      have HX := hide (And.intro hx (And.intro hpl (And.intro hrest (And.intro hL (And.intro hall (And.intro hal (And.intro hpc hpl')))))))
      have hxn : x ≤ c := by omega
      have hxc : ¬ (c = doneOf pre) := by omega
      have HC := hide (And.intro hb (And.intro hB (And.intro hpw (And.intro hm (And.intro hFb hMw)))))
      clear hJ hJd hR hx hpl hrest hL hb hB hpw hm hFb hMw hJ0 hw5 hall hal hpc hpl' hnc hav hM2
      generalize hd0 : doneOf pre = d at *
      gi_wp2_with fail
      apply one_way
      case go =>
        intro key
        gi_region_with (refine ⟨trivial, ?_⟩; refine (unhide HW1).mono ?_; rintro e W1 ⟨rfl, hk1, hs1⟩)
        all_goals
          revert W1
          exact unhide key
      case all =>
        intro W1 hk1 hs1
        clear HW1 q1 q2 q3 q4
        obtain ⟨hx, hpl, hrest, hL, hall, hal, hpc, hpl'⟩ := unhide HX
        obtain ⟨hb, hB, hpw, hm, hFb, hMw⟩ := unhide HC
        obtain ⟨hJ, hJd⟩ := unhide HJ
        have hJ1 := hJd.sole hMw hs1 hk1
        have hJ1d := hJ1.up ((Below.refl _ _).drew.alloc (Nat.le_refl _) (.cells (Dg.E8 (Dg.zs 32)) 5))
        have hM1 := Kept.lt hJ1.hk
        have hzb : Dg.BytesAt (W1.drew.alloc (.cells (Dg.E8 (Dg.zs 32)) 5)) (.slice (some ⟨W1.heap.size, 0, none⟩) 32 32) (Dg.zs 32) := zeros_at W1.drew
        have hall1 : Dg.Sha.Bytes ((layAll (zs 32) B pre).take d ++ (B.drop d).take (x - d)) := fun y hy => (List.mem_append.1 hy).elim (hall y) (hpc y)
        have HW2 := hide (CallsIn.inRound l ((callsIn_wide (n := 0)).2 (Dg.write_any (M + 1) _ (Dg.zs 32) 32 32 (some ⟨W1.heap.size, 0, none⟩) (Dg.zs 32) (W1.drew.alloc (.cells (Dg.E8 (Dg.zs 32)) 5)) hJ1d.hk hall1 rfl zs_bytes hzb (fun y hy _ => by have := Option.some.inj hy; rw [← this]; show W1.heap.size ≠ M + 1; omega) (by rw [List.length_append, hal, hpl']; omega))))
        have q1 := cellP hJ1.bh
        have q4 := cellP hJ1.bf
        have qs : (strOf F).size = 32 := by rw [strOf_size]; exact hFl
        have ql1 : M + 1 + 1 < W1.heap.size := (Array.getElem?_eq_some_iff.1 hJ1.bh).1
        have ql4 : M < W1.heap.size := (Array.getElem?_eq_some_iff.1 hJ1.bf).1
        have HJ1 := hide (And.intro hs1 (And.intro hJ1 hJ1d))
        clear hx hpl hrest hL hall hal hpc hpl' hb hB hpw hm hFb hMw hJ hJd hJ1 hJ1d hM1 hzb hall1 hs1 hk1
        gi_wp2_with fail
        apply one_way
        case go =>
          intro key
          gi_region_with (refine ⟨trivial, ?_⟩; refine (unhide HW2).mono ?_; rintro e W2 ⟨rfl, hk2, hs2⟩)
          all_goals
            revert W2
            exact unhide key
        case all =>
          intro W2 hk2 hs2
          obtain ⟨hb, hB, hpw, hm, hFb, hMw⟩ := unhide HC
          obtain ⟨hs1, hJ1, hJ1d⟩ := unhide HJ1
          have hJ2 := hJ1d.sole hMw hs2 hk2
          have q3 := cellP hJ2.bo
          have q4' := cellP hJ2.bf
          have qz : W2.frozen? ⟨M + 1 + 1 + 1, 0, none⟩ = false := by simp [World.frozen?, hJ2.bo]
          have HE : Hid (∀ a', R .normal a' (W2.setCell ⟨M + 1 + 1 + 1, 0, none⟩ (.int .i64 ((x : Int) + 32)))) := fun a' => by
            obtain ⟨hx, hpl, hrest, hL, hall, hal, hpc, hpl'⟩ := unhide HX
            have hnx := hL.next (p := x) rfl (by omega) (by omega)
            have hJ3 := hJ2.done hMw (x + 32)
            have e32 : (((x + 32 : Nat)) : Int) = (x : Int) + 32 := by omega
            rw [e32] at hJ3
            rw [doneOf_snoc, hd0] at hnx
            have hz1 := hs1.size
            have hz2 := hs2.size
            simp at hz1 hz2
            refine unhide HR _ _ ⟨?_, hnx.1⟩ (by simp; omega) (fun k hk1 hk2' => ?_)
            · rw [doneOf_snoc, hnx.2]; exact hJ3
            · rw [hs5] at hk1
              rw [heap_set_other _ _ _ _ _ (by omega), hs2.block k (by simp; omega) (by omega), Below.heap_alloc _ _ _ (by simp; omega)]
              exact hs1.block k hk2' (by omega)
          obtain ⟨hx, _⟩ := unhide HX
          have hxb : x ≤ 4000 := by omega
          clear HW2 q1 q4 ql1 ql4 hk2 hs2 hb hB hpw hm hFb hMw hs1 hJ1 hJ1d hJ2 HJ1 HC HX HR HJ hx
          gi_wp2_with fail
          exact unhide HE _
    · intro W hJJ hdf hszW
      obtain ⟨hJ, hL⟩ := hJJ
      have hle := hL.le
      have hps : ∀ x ∈ plcs B F 0, x ≤ 4000 := fun x hx => by have := (plcs_in (by omega) hx).2; omega
      generalize hdE : doneOf (plcs B F 0) = d at *
      have hJd := hJ.up (Below.refl _ _).drew
      have hall : Sha.Bytes ((layAll (zs 32) B (plcs B F 0)).take d) := fun y hy => layAll_bytes zs_bytes _ B hB y (List.mem_of_mem_take hy)
      have hal : ((layAll (zs 32) B (plcs B F 0)).take d).length = d := by rw [List.length_take, hL.len]; omega
      have hdl : (B.drop d).length = n - d := by rw [List.length_drop]; omega
      obtain ⟨ga, hga⟩ : ∃ ga, (if c = d then a else a.map (·.add d)) = ga := ⟨_, rfl⟩
      have hgb : BytesAt W.drew (.slice ga (n - d) (c - d)) (B.drop d) := by rw [← hga]; exact rest_at hJd.row hn d (by omega)
      have hgn : ∀ y, ga = some y → 0 < (B.drop d).length → y.block ≠ M + 1 := fun y hy h0 => by
        have hM2 := hMw.hM
        have : y.block < w.heap.size := by
          rw [← hga] at hy
          split at hy
          · exact hMw.ha (by omega) y hy
          · cases ha : a with
            | none => rw [ha] at hy; cases hy
            | some z =>
              rw [ha] at hy
              have e := Option.some.inj hy
              rw [← e]; have := hMw.ha (by omega) z ha; show (z.add d).block < _; unfold Addr.add; split <;> exact this
        omega
      have HW1 := hide ((callsIn_wide (n := 2)).2 (Dg.write_any (M + 1) _ (Dg.zs 32) (n - d) (c - d) ga _ W.drew hJd.hk hall hdl (fun y hy => hB y (List.mem_of_mem_drop hy)) hgb hgn (by omega)))
      have hallE : (layAll (zs 32) B (plcs B F 0)).take d ++ B.drop d = layAll (zs 32) B (plcs B F 0) := by rw [← hdE]; exact hL.all
      rw [hallE] at HW1
      have q1 := cellP hJ.bh
      have q2 := cellP hJ.bb
      have q3 := cellP hJ.bo
      have hdn : d ≤ n := by omega
      have HJ := hide (And.intro hJ (And.intro hJd hL))
      have HC := hide (And.intro hb (And.intro hB (And.intro hpw (And.intro hm (And.intro hFb hMw)))))
      clear hJ hJd hL hb hB hpw hm hFb hMw hJ0 hw5 hall hal hdl hgb hgn hallE hle hps
      gi_wp2_with fail
      apply one_way
      case go =>
        intro key
        refine Code.wpIn_mono NoPanic.imp ?_
        gi_region_with (refine ⟨trivial, ?_⟩; refine (unhide HW1).mono ?_; rintro e W1 ⟨rfl, hk1, hs1⟩)
        all_goals
          refine NoPanic.normal ?_
          revert W1
          exact unhide key
      case all =>
        intro W1 hk1 hs1
        obtain ⟨hb, hB, hpw, hm, hFb, hMw⟩ := unhide HC
        obtain ⟨hJ, hJd, hL⟩ := unhide HJ
        have hJ1 := hJd.sole hMw hs1 hk1
        have hM2 := hMw.hM
        have hsz1 : M + 1 + 1 + 1 + 1 + 1 + 1 + 1 < W1.heap.size := by have := hs1.size; simp at this; omega
        have hdf1 : W1.heap[M + 1 + 1 + 1 + 1 + 1 + 1]? = some (.deferred (some [])) := by
          rw [hs1.block _ (by simp; omega) (by omega), ← hs5]; exact hdf
        have HPL := hide (places_any a n c (strOf F) W1)
        have q1 := cellP hJ1.bb
        have q2 := cellP hJ1.bf
        have HJ1 := hide (And.intro hJ1 (And.intro hL (And.intro hM2 hdf1)))
        have HZ1 := hide hsz1
        clear hJ hJd hL hb hB hpw hm hFb hMw hJ1 hk1 hs1 hM2 hdf1 hsz1 HJ hdf hszW q3
        clear HW1
        gi_wp2_with fail
        refine ⟨trivial, ?_⟩
        refine (callsIn_wide.2 (unhide HPL)).mono ?_
        rintro e W2 ⟨rfl, hW2⟩
        obtain ⟨hJ1, hL, hM2, hdf1⟩ := unhide HJ1
        obtain ⟨hb, hB, hpw, hm, hFb, hMw⟩ := unhide HC
        have hsz1 := unhide HZ1
        have hsz2 : W2.heap.size = W1.heap.size + 1 + 1 := by rw [hW2]; simp
        have hb2 : Below W1.heap.size W1 W2 := by rw [hW2]; exact ((Below.refl _ _).alloc (Nat.le_refl _) _).alloc (by simp) _
        have hpb2 : W2.heap[W1.heap.size]? = some (.cells #[.slice a n c] 22) := by rw [hW2, Below.heap_alloc _ _ _ (by simp)]; exact World.alloc_heap_new W1 _
        have hpd2 : W2.heap[W1.heap.size + 1]? = some (.cells #[.string (strOf F)] 9) := by
          rw [hW2]
          have := World.alloc_heap_new (W1.alloc (.cells #[.slice a n c] 22)) (.cells #[.string (strOf F)] 9)
          rwa [World.size_alloc] at this
        have hJ2 : Mb w M W1.heap.size F a n c B d (layAll (zs 32) B (plcs B F 0)) W2 := by
          have h := hJ1.up hb2
          exact ⟨h.below, h.bb, h.br, h.bf, h.hk, h.bh, h.bo, hpb2, hpd2, h.row, h.mxl, h.pow⟩
        have hMw2 : Mw w M W1.heap.size a n := ⟨hMw.hM, by omega, hMw.ha, hMw.h0⟩
        have hdf2 : W2.heap[M + 1 + 1 + 1 + 1 + 1 + 1]? = some (.deferred (some [])) := by rw [hb2.block _ (by omega)]; exact hdf1
        clear hW2 HPL HJ1 hJ1 hpb2 hpd2 hb2 hdf1 q1 q2
        generalize hQ : W1.heap.size = Q2 at *
        gi_wp2_with fail
        refine range_gen (W0 := W2) (Bd := Q2 + 1) (Bb := Q2) (F := F) (a := a) (n := n) (c := c) (B := B) (fun x => { tmps := #[.slice a n c, .string (strOf p), .pointer (some ⟨w.heap.size, 0, none⟩), undef, .pointer (some ⟨w.heap.size + 1, 0, none⟩), .int .i64 0, .pointer (some ⟨M, 0, none⟩), .string (strOf N1), .int .i64 0, .pointer (some ⟨M + 1 + 1, 0, none⟩), .pointer (some ⟨M + 1 + 1 + 1, 0, none⟩), undef, .int .i64 (x : Int), .tuple #[.string (strOf F), .string (strOf N1), .int .i64 0], .string (strOf p), .tuple #[.string (strOf F), .string (strOf N1), .int .i64 0], .string (strOf F), .string (strOf N1), .int .i64 0, .int .i64 0, .bool false, undef, undef, .pointer (some ⟨M + 1, 0, none⟩), .slice a n c, .string (strOf F), .func (.func 29) #[] #[.pointer (some ⟨M + 1 + 1 + 1 + 1 + 1, 0, none⟩), .pointer (some ⟨M + 1 + 1 + 1 + 1, 0, none⟩)], undef, undef, undef, undef, undef, undef, undef, undef, undef, undef, undef, undef, undef, undef, undef, undef, .pointer (some ⟨M + 1, 0, none⟩), .slice a n c, .int .i64 (d : Int), .slice ga (n - d) (c - d), .bool true, .slice a n c, .string (strOf F), .func (.func 29) #[] #[.pointer (some ⟨Q2 + 1, 0, none⟩), .pointer (some ⟨Q2, 0, none⟩)], .int .i64 (x : Int), undef, undef, undef, undef, undef, undef, undef, undef], defers := [] }) (fun pre W => Mb w M Q2 F a n c B d (layAll (zs 32) B (plcs B F 0) ++ texts pre) W ∧ W.heap[M + 1 + 1 + 1 + 1 + 1 + 1]? = some (.deferred (some []))) hn (by omega) hB hFb hFl rfl ?_ ?_ ?_ ?_ ?_ ?_ ?_
        · rintro pre W ⟨h, _⟩
          exact ⟨cellP h.pd, cellP h.pb, h.row, h.mxl⟩
        · rintro pre W W' ⟨h, h'⟩ hb'
          exact ⟨h.up hb', by rw [hb'.block _ (Array.getElem?_eq_some_iff.1 h').1]; exact h'⟩
        · rintro pre W r ⟨h, h'⟩ _
          exact ⟨h.put hMw2 _ (by omega) _, by rw [World.putObj_heap_other (by omega)]; exact h'⟩
        · exact ⟨by rw [show texts [] = [] from rfl, List.append_nil]; exact hJ2, hdf2⟩
        · intro l x W K hK
          gi_wp2
          exact hK
        · intro l x pre W R hx hpl hpr ⟨hJ, hdfW⟩ hsz hR
          obtain ⟨rest, hrest⟩ := hpr
          have hx4 : x ≤ 4000 := by omega
          have hall : Sha.Bytes (layAll (zs 32) B (plcs B F 0) ++ texts pre) := fun y hy => (List.mem_append.1 hy).elim (layAll_bytes zs_bytes _ B hB y) (texts_bytes pre y)
          have hal : (layAll (zs 32) B (plcs B F 0) ++ texts pre).length ≤ 4000 + 8 * 4000 := by
            have h1 := texts_len (m := 4000) (by omega) pre fun y hy => by
              have := (plcs_in (B := B) (D := F) (i := 0) (by omega) (p := y) (by rw [hrest]; exact List.mem_append_left _ hy)).2
              omega
            rw [List.length_append, hL.len]; omega
          obtain ⟨T, hT⟩ : ∃ T, 124 :: decL x = T := ⟨_, rfl⟩
          obtain ⟨N, hN⟩ : ∃ N, T.length = N := ⟨_, rfl⟩
          have hTb : Sha.Bytes T := by rw [← hT]; intro y hy; rcases List.mem_cons.1 hy with rfl | h; decide; exact decL_bytes x y h
          have hTl : N ≤ 8 := by rw [← hN, ← hT, List.length_cons]; have := decL_len x (by omega); omega
          have hcat : (⟨#[124]⟩ : ByteArray) ++ strOf (decL x) = strOf T := by rw [← hT]; exact strOf_cat [124] (decL x)
          have hDl := decL_len x (by omega)
          have hsm : ¬ (9223372036854775807 < 1 + (decL x).length) := by omega
          have hsm' : ¬ (9223372036854775807 < (⟨#[124]⟩ : ByteArray).size + (decL x).length) := by show ¬ (9223372036854775807 < 1 + (decL x).length); omega
          have hTs : (strOf T).size = N := by rw [strOf_size, hN]
          have hJd := hJ.up (Below.refl _ _).drew
          have HI := hide (CallsIn.inRound l ((callsIn_wide (n := 0)).2 (itoa_any x (by omega) W.drew hJd.pow)))
          have HWr : Hid (∀ (V : World) (g cap : Nat), Dg.Kept V (M + 1) (layAll (zs 32) B (plcs B F 0) ++ texts pre) (Dg.zs 32) → BytesAt V (.slice (some ⟨g, 0, none⟩) N cap) T → g ≠ M + 1 → CallsIn (Fence.wide.inRound l) 0 Tryz.prog 15 #[.pointer (some ⟨M + 1, 0, none⟩), .slice (some ⟨g, 0, none⟩) N cap] V fun e w' => e = .returned (.bool true) ∧ Dg.Kept w' (M + 1) (layAll (zs 32) B (plcs B F 0) ++ texts pre ++ T) (Dg.zs 32) ∧ Dg.Sole (M + 1) V w') := fun V g cap h1 h2 h3 => CallsIn.inRound l ((callsIn_wide (n := 0)).2 (Dg.write_any (M + 1) _ (Dg.zs 32) N cap (some ⟨g, 0, none⟩) T V h1 hall hN hTb h2 (fun y hy _ => by have := Option.some.inj hy; rw [← this]; exact h3) (by omega)))
          have HQ : Hid (∀ V V', Below W.drew.heap.size W.drew V → Below V.heap.size V V' → Mb w M Q2 F a n c B d (layAll (zs 32) B (plcs B F 0) ++ texts pre) V') := fun V V' h1 h2 => (hJd.up h1).up h2
          have HFin : Hid (∀ V V' V'', Below W.drew.heap.size W.drew V → Below V.heap.size V V' → Dg.Kept V'' (M + 1) (layAll (zs 32) B (plcs B F 0) ++ texts pre ++ T) (Dg.zs 32) → Dg.Sole (M + 1) V' V'' → ∀ a', R .normal a' V'') := fun V V' V'' h1 h2 h3 h4 a' => by
            have hz1 := h1.size
            have hz2 := h2.size
            have hz3 := h4.size
            simp at hz1
            have hKb : ∀ k, k < W.heap.size → k ≠ M + 1 → V''.heap[k]? = W.heap[k]? := fun k hk1 hk2 => by
              rw [h4.block k (by omega) hk2, h2.block k (by omega), h1.block k (by simpa using hk1)]; rfl
            refine hR _ _ ⟨?_, ?_⟩ (by omega) (fun k hk1 hk2 => hKb k hk2 (by omega))
            · rw [texts_snoc, hT, ← List.append_assoc]
              exact ((hJd.up h1).up h2).sole hMw2 h4 h3
            · rw [hKb _ (Array.getElem?_eq_some_iff.1 hdfW).1 (by omega)]; exact hdfW
          have q1 := cellP hJ.bh
          have hMl := Kept.lt hJ.hk
          have hWl : W.drew.heap.size = W.heap.size := rfl
          have HMl := hide hMl
          have HTb := hide hTb
          clear hJ hJd hR hx hpl hrest hL hb hB hpw hm hFb hMw hMw2 hJ2 hall hal hT hTb hTl hsz hMl hdfW hdf2 hM2 hsz1 hsz2 hN
          gi_wp2_with fail
          gi_region_with (first | (refine ⟨trivial, ?_⟩; refine (unhide HI).mono ?_; rintro e V ⟨rfl, hb1⟩; obtain ⟨cap, V', hr2, hb2, hat2, hz2⟩ := run_cvB V (strOf T); rw [hTs] at hr2 hat2; rw [bytesOf_strOf T (unhide HTb)] at hat2; have q1a := cellP ((unhide HQ) V V hb1 (Below.refl _ _)).bh; have q1b := cellP ((unhide HQ) V V' hb1 hb2).bh; have hVM : V.heap.size ≠ M + 1 := (by have h8 := hb1.size; have h9 := unhide HMl; rw [hWl] at h8; omega); simp only []) | (refine ⟨trivial, ?_⟩; refine (unhide HWr V' V.heap.size cap ((unhide HQ) V V' hb1 hb2).hk hat2 hVM).mono ?_; rintro e V2 ⟨rfl, hk1, hs1⟩))
          all_goals exact unhide HFin V V' _ hb1 hb2 hk1 hs1 _
        · intro W hJJ hdfW hszW
          obtain ⟨hJ, hdf6⟩ := hJJ
          have hall : Sha.Bytes (layAll (zs 32) B (plcs B F 0) ++ texts (plcs B F 0)) := fun y hy => (List.mem_append.1 hy).elim (layAll_bytes zs_bytes _ B hB y) (texts_bytes _ y)
          have hal : (layAll (zs 32) B (plcs B F 0) ++ texts (plcs B F 0)).length ≤ 20000000 := by
            have h1 := texts_len (m := 4000) (by omega) (plcs B F 0) fun y hy => by
              have := (plcs_in (B := B) (D := F) (i := 0) (by omega) (p := y) hy).2
              omega
            have h2 := plcs_len (B := B) (D := F) (by omega) (B.length + 1) 0 (by omega)
            rw [List.length_append, hL.len]; omega
          have HS := hide ((callsIn_wide (n := 2)).2 (Dg.hsum_first (M + 1) _ (Dg.zs 32) W hJ.hk hall hal))
          have q1 := cellP hJ.bh
          have HJ := hide hJ
          have HD6 := hide (And.intro hdf6 (And.intro hdfW hszW))
          clear hJ hL hb hB hpw hm hFb hMw hMw2 hJ2 hall hal hdf6 hdfW hszW hdf2
          gi_wp2_with fail
          refine ⟨trivial, ?_⟩
          refine (unhide HS).mono ?_
          rintro e W3 ⟨rfl, _, hs3⟩
          have hJ := unhide HJ
          obtain ⟨hdf6, hdfW, hszW⟩ := unhide HD6
          have hM2 := (unhide HC).2.2.2.2.2.hM
          have hbr3 : W3.heap[w.heap.size + 1]? = some (.cells (Dg.E8 (Dg.zs 32)) 25) := by rw [hs3.block _ (Array.getElem?_eq_some_iff.1 hJ.br).1 (by omega)]; exact hJ.br
          have hd63 : W3.heap[M + 1 + 1 + 1 + 1 + 1 + 1]? = some (.deferred (some [])) := by rw [hs3.block _ (Array.getElem?_eq_some_iff.1 hdf6).1 (by omega)]; exact hdf6
          have hd23 : W3.heap[W2.heap.size]? = some (.deferred (some [])) := by rw [hs3.block _ (by omega) (by omega)]; exact hdfW
          have hB3 : Below w.heap.size w W3 := ⟨hs3.os.trans hJ.below.os, hs3.tape.trans hJ.below.tape, hs3.output.trans hJ.below.output, Nat.le_trans hJ.below.size hs3.size, fun k hk => (hs3.block k (Nat.lt_of_lt_of_le hk hJ.below.size) (by omega)).trans (hJ.below.block k hk)⟩
          have HE := hide (And.intro hbr3 (And.intro hd63 (And.intro hd23 hB3)))
          have hfit : Dg.fits W3 (w.heap.size + 1) 32 = true := by simp [Dg.fits, hbr3]
          have hSl : (Dg.Sha.sum (layAll (zs 32) B (plcs B F 0) ++ texts (plcs B F 0))).length = 32 := Dg.Sha.sumBehind_length _ 0 _
          generalize hSE : Dg.Sha.sum (layAll (zs 32) B (plcs B F 0) ++ texts (plcs B F 0)) = S at *
          clear hJ hdf6 hdfW hszW hbr3 hd63 hd23 hB3 HS
          have hsE : (Dg.E8 S).size = 32 := by simp [hSl]
          have hfr := Dg.rowOf_setRow_at W3 (w.heap.size + 1) 32 (Dg.E8 S) hfit
          gi_wp2_with fail
          obtain ⟨hbr3, hd63, hd23, hB3⟩ := unhide HE
          have HSE := hide hSE
          rw [hsz2] at hd23
          have hz3 := (Array.getElem?_eq_some_iff.1 hd23).1
          obtain ⟨V0, hV0⟩ : ∃ V0, W3.setRow (w.heap.size + 1) (Dg.E8 S) = V0 := ⟨_, rfl⟩
          have k0 : ∀ k, k < W3.heap.size → k ≠ w.heap.size + 1 → V0.heap[k]? = W3.heap[k]? := fun k hk0 hk => by rw [← hV0]; exact Dg.Sole.block (Dg.Sole.setRow (w.heap.size + 1) W3 (Dg.E8 S)) k hk0 hk
          rw [hV0] at hfr ⊢
          have hd2 : V0.heap[Q2 + 1 + 1]? = some (.deferred (some [])) := by rw [k0 _ hz3 (by omega)]; exact hd23
          have hd6 : V0.heap[M + 1 + 1 + 1 + 1 + 1 + 1]? = some (.deferred (some [])) := by rw [k0 _ (Array.getElem?_eq_some_iff.1 hd63).1 (by omega)]; exact hd63
          refine ⟨by simp, .inl ⟨_, _, rfl, run_takeDeferred hd2, ?_⟩⟩
          refine ⟨by simp, .inl ⟨_, _, rfl, run_takeDeferred (by rw [World.putObj_heap_other (by omega)]; exact hd6), ?_⟩⟩
          have hrr : Dg.rowOf ((V0.putObj (Q2 + 1 + 1) (.deferred none)).putObj (M + 1 + 1 + 1 + 1 + 1 + 1) (.deferred none)) (w.heap.size + 1) = Dg.E8 S := by
            rw [← hfr]
            unfold Dg.rowOf
            rw [World.putObj_heap_other (by omega), World.putObj_heap_other (by omega)]
          refine ⟨_, res25_two Tryz.results5 rfl hrr hsE rfl, ?_⟩
          refine ⟨?_, .inl ⟨unhide H1, by rw [← hSE]; unfold modS; rw [hFp]; rfl⟩⟩
          have hz0 : V0.heap.size = W3.heap.size := by rw [← hV0]; simp [World.setRow]
          exact ⟨by rw [show ((V0.putObj (Q2 + 1 + 1) (.deferred none)).putObj (M + 1 + 1 + 1 + 1 + 1 + 1) (.deferred none)).os = V0.os from rfl, ← hV0]; exact hB3.os, by rw [show ((V0.putObj (Q2 + 1 + 1) (.deferred none)).putObj (M + 1 + 1 + 1 + 1 + 1 + 1) (.deferred none)).tape = V0.tape from rfl, ← hV0]; exact hB3.tape, by rw [show ((V0.putObj (Q2 + 1 + 1) (.deferred none)).putObj (M + 1 + 1 + 1 + 1 + 1 + 1) (.deferred none)).output = V0.output from rfl, ← hV0]; exact hB3.output, by simp [World.putObj, hz0]; exact hB3.size, fun k hk => by rw [World.putObj_heap_other (by omega), World.putObj_heap_other (by omega), k0 k (Nat.lt_of_lt_of_le hk hB3.size) (by omega)]; exact hB3.block k hk⟩
  · simp only [splitV, if_false, Bool.false_eq_true] at he
    subst he
    have hbr : w1.heap[w.heap.size + 1]? = some (.cells (Dg.E8 (Dg.zs 32)) 25) := by
      rw [hb1.block _ (by simp)]
      have := World.alloc_heap_new (w.alloc (.cells #[.slice a n c] 22)) (.cells (Dg.E8 (Dg.zs 32)) 25)
      rwa [World.size_alloc] at this
    have hwb : Below w.heap.size w w1 := (((Below.refl _ _).alloc (Nat.le_refl _) _).alloc (by simp) _).trans (hb1.mono (by simp; omega))
    have hfit : Dg.fits w1 (w.heap.size + 1) 32 = true := by simp [Dg.fits, hbr]
    have hon : Dg.ones Dg.Z25 = true := by simp [Dg.Z25]
    have hll : w.heap.size + 1 < w1.heap.size := by have := hb1.size; simp at this; omega
    have hrr : Dg.rowOf ((w1.setRow (w.heap.size + 1) Dg.Z25).alloc (.cells #[.string ⟨#[]⟩] 9)) (w.heap.size + 1) = Dg.Z25 := by
      have h := Dg.rowOf_setRow_at w1 (w.heap.size + 1) 32 Dg.Z25 hfit
      unfold Dg.rowOf at h ⊢
      rw [Below.heap_alloc _ _ _ (by simpa [World.setRow] using hll)]; exact h
    have HW : Hid (Below w.heap.size w ((w1.setRow (w.heap.size + 1) Dg.Z25).alloc (.cells #[.string ⟨#[]⟩] 9))) := (Dg.below_setRow hwb (by omega) _).alloc (by simp; omega) _
    have HN := hide h1
    clear hwb hbr hb1 h1
    gi_wp2_with fail
    refine ⟨_, res25_two Tryz.results5 rfl hrr (by simp) rfl, ?_⟩
    exact ⟨unhide HW, .inr ⟨unhide HN, rfl⟩⟩
end Go.Proofs.YtlbfcneboaihnaaGreatDoor
