/- Pages: pages of a sheet, as bytes. -/
import Derived.Test.YtebcmicmklpflaaGreatDoorPw
namespace Go.Proofs.YtebcmicmklpflaaGreatDoor
open Go.RowKit Go.Shelf Go.Great Go.Maps
attribute [local go_sem] Oper.semAt_some
set_option linter.unusedSimpArgs false
theorem u8w (x : Nat) : IntKind.u8.wrap (x : Int) = (((UInt8.ofNat x).toNat : Nat) : Int) := by
  rw [IntKind.wrap_u8]
  simp
/-- Three bytes and then a page's bytes are laid behind what was gathered. -/
theorem enc_two {X : World} {bb r C L vl vc : Nat} {va : Option Addr} {out d3 dd : List UInt8} {O : Nat → Prop} (h1 : BufAt X bb r C out) (P : Array Value) (bs : Array Value) (hbs : bs = (byteVals d3).toArray) (h3 : d3.length = 3) (hrec : Rec X O (.slice va vl vc) dd) (hvl : vl = dd.length) (hO : ∀ q, O q → q ≠ r ∧ q ≠ bb) (hfit : out.length + (3 + dd.length) ≤ C) (hL : L = out.length) :
    ∃ Xa Xb, (∀ ty, (app22 ty #[.slice (some ⟨r, 0, none⟩) L C, .slice (some ⟨X.heap.size + 1, 0, none⟩) 3 3]).run Tryz.prog ((X.alloc (.cells P 145)).alloc (.cells bs 5)) = .ok (.slice (some ⟨r, 0, none⟩) (L + 3) C) Xa) ∧ Xa.cell? ⟨bb, 0, none⟩ = some (.slice (some ⟨r, 0, none⟩) L C) ∧ Xa.frozen? ⟨bb, 0, none⟩ = false ∧
      (Xa.setCell ⟨bb, 0, none⟩ (.slice (some ⟨r, 0, none⟩) (L + 3) C)).heap[X.heap.size]? = some (.cells P 145) ∧ (∀ ty, (app22 ty #[.slice (some ⟨r, 0, none⟩) (L + 3) C, .slice va vl vc]).run Tryz.prog (Xa.setCell ⟨bb, 0, none⟩ (.slice (some ⟨r, 0, none⟩) (L + 3) C)) = .ok (.slice (some ⟨r, 0, none⟩) (L + 3 + vl) C) Xb) ∧ Xb.cell? ⟨bb, 0, none⟩ = some (.slice (some ⟨r, 0, none⟩) (L + 3) C) ∧ Xb.frozen? ⟨bb, 0, none⟩ = false ∧
      BufAt (Xb.setCell ⟨bb, 0, none⟩ (.slice (some ⟨r, 0, none⟩) (L + 3 + vl) C)) bb r C (out ++ (d3 ++ dd)) ∧ (∀ q, q < X.heap.size → q ≠ bb → q ≠ r → (Xb.setCell ⟨bb, 0, none⟩ (.slice (some ⟨r, 0, none⟩) (L + 3 + vl) C)).heap[q]? = X.heap[q]?) ∧ Xb.os = X.os ∧ Xb.tape = X.tape ∧ Xb.output = X.output ∧ X.heap.size ≤ Xb.heap.size := by
  subst hL hvl
  have hbl := (Array.getElem?_eq_some_iff.1 h1.box).1
  obtain ⟨cur0, hr0, _⟩ := h1.row
  have hrl := (Array.getElem?_eq_some_iff.1 hr0).1
  have hkA : ∀ q, q < X.heap.size → ((X.alloc (.cells P 145)).alloc (.cells bs 5)).heap[q]? = X.heap[q]? := fun q hq => by rw [Below.heap_alloc _ _ _ (by simp; omega), Below.heap_alloc _ _ _ hq]
  have hBA := h1.kept (X' := (X.alloc (.cells P 145)).alloc (.cells bs 5)) (hkA bb hbl) (hkA r hrl)
  have hrow := row_new (X.alloc (.cells P 145)) d3 bs hbs
  rw [World.size_alloc, h3] at hrow
  have hrow' : Row ((X.alloc (.cells P 145)).alloc (.cells bs 5)).heap.size ((X.alloc (.cells P 145)).alloc (.cells bs 5)) (.slice (some ⟨X.heap.size + 1, 0, none⟩) d3.length 3) d3 := by rw [h3]; simpa using hrow
  obtain ⟨Xa, hra, ca, za, hBa, hoa, osa, tpa, oua, sza⟩ := hBA.app hrow' (by omega)
  rw [h3] at hra hBa
  obtain ⟨Y, hY⟩ : ∃ Y, Y = Xa.setCell ⟨bb, 0, none⟩ (.slice (some ⟨r, 0, none⟩) (out.length + 3) C) := ⟨_, rfl⟩
  rw [← hY] at hBa
  have hYo : ∀ q, q < X.heap.size → q ≠ bb → q ≠ r → Y.heap[q]? = X.heap[q]? := fun q h2 h4 h5 => by
    rw [hY, Below.heap_setCell _ _ _ _ h4, hoa q h5, hkA q h2]
  have hYP : Y.heap[X.heap.size]? = some (.cells P 145) := by
    rw [hY, Below.heap_setCell _ _ _ _ (by show X.heap.size ≠ bb; omega), hoa _ (by omega), Below.heap_alloc _ _ _ (by simp)]
    exact World.alloc_heap_new X _
  have hsY : Y.heap.size = X.heap.size + 1 + 1 := by rw [hY, World.size_setCell, sza]; simp
  have hrecY : Rec Y O (.slice va dd.length vc) dd := by
    obtain ⟨a', c', e, f1, f2, f3⟩ := hrec
    refine ⟨a', c', e, f1, f2, fun h0 => ?_⟩
    obtain ⟨g', cur, ea, ho, hg, hp⟩ := f3 h0
    exact ⟨g', cur, ea, ho, (hYo g' (Array.getElem?_eq_some_iff.1 hg).1 (hO g' ho).2 (hO g' ho).1).trans hg, hp⟩
  obtain ⟨Xb, hrb, cb, zb, hBb, hob, osb, tpb, oub, szb⟩ := hBa.app hrecY.row (by rw [List.length_append, h3]; omega)
  rw [List.length_append, h3] at hrb cb hBb
  refine ⟨Xa, Xb, hra, ca, za, by rw [← hY]; exact hYP, by rw [← hY]; exact hrb, cb, zb, by rw [← List.append_assoc]; exact hBb, fun q h2 h4 h5 => ?_, ?_, ?_, ?_, by omega⟩
  · rw [Below.heap_setCell _ _ _ _ h4, hob q h5, hYo q h2 h4 h5]
  · rw [osb, hY]; exact osa
  · rw [tpb, hY]; exact tpa
  · rw [oub, hY]; exact oua
set_option maxRecDepth 20000 in
set_option maxHeartbeats 4000000 in
theorem encode_ok (s : Nat → Bool) (k : Nat) (v : Value) (ps : List Pge) (O : Nat → Prop) (w : World) (hR : PgR w O v ps) (hlt : ∀ q, O q → q < w.heap.size) (hT : Tab w) (hk : k < 256) (hall : ∀ n ∈ lst s (64 * k) 64, n < ps.length) (hsz : ∀ n, (dat ps n).length ≤ 512) (hn : ps.length ≤ 16384) :
    Calls Tryz.prog 167 #[v, .int .i64 (k : Int), .int .u64 ((word s k : Nat) : Int)] w fun e w' => ∃ r cap, e = .returned (.slice (some ⟨r, 0, none⟩) (encB ps k (lst s (64 * k) 64)).length cap) ∧ Rec w' (fun q => w.heap.size ≤ q) (.slice (some ⟨r, 0, none⟩) (encB ps k (lst s (64 * k) 64)).length cap) (encB ps k (lst s (64 * k) 64)) ∧ Below w.heap.size w w' := by
  refine (callsIn_wide (n := 3)).1 ?_
  refine callsIn_of_wp_marks Tryz.func167 rfl trivial ?_ rfl
  obtain ⟨a0, c, rfl, _, _⟩ := hR.shape
  simp only [Tryz.ntmps167, List.size_toArray, List.length_cons, List.length_nil, Nat.reduceAdd, Nat.reduceSub, Array.replicate_succ, Array.replicate_zero, List.push_toArray, List.append_toArray, List.nil_append, List.cons_append]
  obtain ⟨C, hC0⟩ : ∃ C, C = wsum ps (lst s (64 * k) 64) := ⟨_, rfl⟩
  have hC1 : C ≤ 40000 := by
    have h1 := wsum_le ps hsz (lst s (64 * k) 64)
    have h2 := lst_len s 64 (64 * k)
    omega
  have hC2 : 1 ≤ C := by
    have h1 := wsum_app ps [] (lst s (64 * k) 64)
    rw [List.nil_append, ← hC0] at h1
    exact h1
  have hal : Below w.heap.size w (w.alloc (.cells #[.slice a0 ps.length c] 134)) := (Below.refl _ _).alloc (Nat.le_refl _) _
  have hT1 : Tab (w.alloc (.cells #[.slice a0 ps.length c] 134)) := hT.kept (hal.block 0 hT.lt)
  have oR : ∀ q, (Value.slice a0 ps.length c).ownBlock = some q → O q := by obtain ⟨_, _, o, _⟩ := hR; exact o
  have hR1 : PgR (w.alloc (.cells #[.slice a0 ps.length c] 134)) O (.slice a0 ps.length c) ps := hR.kept (fun _ o => o) (fun q e => hal.block q (hlt q (oR q e))) (fun q _ o _ => hal.block q (hlt q o))
  have HW : Hid (Calls Tryz.prog 166 #[.slice a0 ps.length c, .int .i64 (k : Int), .int .u64 ((word s k : Nat) : Int)] (w.alloc (.cells #[.slice a0 ps.length c] 134)) fun e w' => e = .returned (.int .i64 (C : Int)) ∧ Hid (Below (w.heap.size + 1) (w.alloc (.cells #[.slice a0 ps.length c] 134)) w')) := (weight_ok' s k _ ps O _ hR1 (fun q o => by have := hlt q o; simp; omega) hT1 hk hall hsz hn).mono fun e w' ⟨e1, hb⟩ => ⟨by rw [e1, hC0], by rw [World.size_alloc] at hb; exact hb⟩
  have hmk : ∀ W : World, (Instr.makeSlice 39 (.int .i64 0) (.int .i64 (C : Int))).run Tryz.prog W = .ok (.slice (some ⟨W.heap.size, 0, none⟩) 0 C) (W.alloc (.cells (Dg.E8 (Dg.zs C)) 5)) := fun W => by
    obtain ⟨i, hi, hz, hs, hby⟩ := Dg.info5_at
    rw [run_make (P := Tryz.prog) W 39 5 i _ Tryz.underlying39 hi hz .i64 .i64 0 _ (by omega) (by omega) (by rw [hby]; omega) (by omega), hs, Nat.mul_one, Dg.made_zs]
    simp
  have hZs : (Dg.E8 (Dg.zs C)).size = C := by simp [Dg.E8, Dg.zs]
  obtain ⟨Z, hZ⟩ : ∃ Z, Z = Dg.E8 (Dg.zs C) := ⟨_, rfl⟩
  rw [← hZ] at hmk hZs
  have hkw : IntKind.u8.wrap (k : Int) = (((UInt8.ofNat k).toNat : Nat) : Int) := u8w k
  have HA := hide (And.intro hall (And.intro hsz (And.intro hlt (And.intro hn (And.intro hT hR)))))
  have HC := hide (And.intro hC0 (And.intro hC1 (And.intro hC2 hZs)))
  obtain ⟨N, hN⟩ : ∃ N, N = ps.length := ⟨_, rfl⟩
  have HNe := hide hN
  rw [← hN] at HW
  rw [← hN]
  clear hR hall hsz hlt hn hT hC0 hC1 hC2 hal hT1 oR hR1 hZ hZs hN
  gi_wp2_with fail
  refine ⟨trivial, ?_⟩
  refine (callsIn_wide.2 (unhide HW)).mono ?_
  rintro e w2 ⟨rfl, HB2⟩
  have hm2 := hmk w2
  clear hmk
  obtain ⟨hC0, hC1, hC2, hZs⟩ := unhide HC
  have hB0 : BufAt (((w2.alloc (.cells Z 5)).alloc (.cells #[.slice (some ⟨w2.heap.size, 0, none⟩) 0 C] 39)).alloc (.cells #[.int .u8 ((k : Int) % 256)] 5)) (w2.heap.size + 1) w2.heap.size C [] := by
    refine BufAt.kept (X := (w2.alloc (.cells Z 5)).alloc (.cells #[.slice (some ⟨w2.heap.size, 0, none⟩) 0 C] 39)) ⟨heap_alloc_new2 w2 _ _, ⟨Z, heap_alloc_old2 w2 _ _, hZs, by simp [byteVals]⟩, Nat.zero_le _⟩ (Below.heap_alloc _ _ _ (by simp)) (Below.heap_alloc _ _ _ (by simp; omega))
  have hk1 : (#[.int .u8 ((k : Int) % 256)] : Array Value) = (byteVals [UInt8.ofNat k]).toArray := by simp [byteVals]
  have hrw := row_new ((w2.alloc (.cells Z 5)).alloc (.cells #[.slice (some ⟨w2.heap.size, 0, none⟩) 0 C] 39)) [UInt8.ofNat k] _ hk1
  obtain ⟨X1, hr1, c1, z1, hB1, ho1, os1, tp1, ou1, sz1⟩ := hB0.app hrw (by simpa using hC2)
  simp only [List.length_nil, List.length_singleton, Nat.zero_add, World.size_alloc, List.nil_append] at hr1 c1 hB1 sz1
  have HX1 := hide (And.intro hB1 (And.intro ho1 (And.intro os1 (And.intro tp1 (And.intro ou1 sz1)))))
  obtain ⟨X2, hX2⟩ : ∃ X2, X2 = X1.setCell ⟨w2.heap.size + 1, 0, none⟩ (.slice (some ⟨w2.heap.size, 0, none⟩) 1 C) := ⟨_, rfl⟩
  have HX2 := hide hX2
  have HMk := hide (marked_ok k (word s k) X2)
  clear hB0 hk1 hrw hB1 ho1 os1 tp1 ou1 sz1 hC0 hC1 hC2 hZs hX2
  gi_wp2_with fail
  refine ⟨trivial, ?_⟩
  rw [← unhide HX2]
  refine (callsIn_wide.2 (unhide HMk)).mono ?_
  rintro e W5 ⟨D, K, rfl, hD, hK, hDK, hs5, hb5, hbD, hbK⟩
  have HG : Hid (BufAt W5 (w2.heap.size + 1) w2.heap.size C (encB ps k []) ∧ W5.heap[w.heap.size]? = some (.cells #[.slice a0 N c] 134) ∧ W5.heap[K]? = some (.cells #[.int .i64 (k : Int)] 3) ∧ Below w.heap.size w W5 ∧ w2.heap.size + 1 < D ∧ w2.heap.size + 1 < K ∧ D ≠ K ∧ D < W5.heap.size ∧ K < W5.heap.size ∧ w.heap.size + 1 ≤ w2.heap.size) := by
    obtain ⟨hB1, ho1, os1, tp1, ou1, sz1⟩ := unhide HX1
    have hb2 := unhide HB2
    have hs2 := hb2.size
    rw [World.size_alloc] at hs2
    have hsX : X2.heap.size = w2.heap.size + 1 + 1 + 1 := by rw [unhide HX2, World.size_setCell, sz1]
    have hX2o : ∀ q, q ≠ w2.heap.size + 1 → X2.heap[q]? = X1.heap[q]? := fun q hq => by rw [unhide HX2]; exact Below.heap_setCell _ _ _ _ hq
    rw [← unhide HX2] at hB1
    have hal : ∀ q, q < w2.heap.size → X2.heap[q]? = w2.heap[q]? := fun q hq => by
      rw [hX2o q (by omega), ho1 q (by omega), Below.heap_alloc _ _ _ (by simp; omega), Below.heap_alloc _ _ _ (by simp; omega), Below.heap_alloc _ _ _ hq]
    refine ⟨hB1.kept (hb5.block _ (by omega)) (hb5.block _ (by omega)), ?_, hbK, ?_, by omega, by omega, hDK, (Array.getElem?_eq_some_iff.1 hbD).1, (Array.getElem?_eq_some_iff.1 hbK).1, hs2⟩
    · rw [hb5.block _ (by omega), hal _ (by omega), hb2.block _ (by omega)]
      exact World.alloc_heap_new w _
    · have e1 : X2.os = X1.os ∧ X2.tape = X1.tape ∧ X2.output = X1.output := by rw [unhide HX2]; exact ⟨rfl, rfl, rfl⟩
      refine ⟨hb5.os.trans (e1.1.trans (os1.trans hb2.os)), hb5.tape.trans (e1.2.1.trans (tp1.trans hb2.tape)), hb5.output.trans (e1.2.2.trans (ou1.trans hb2.output)), by have := hb5.size; omega, fun q hq => ?_⟩
      rw [hb5.block q (by omega), hal q (by omega), hb2.block q (by omega)]
      exact Below.heap_alloc _ _ _ hq
  have HGo := hide (marked_iter s k D K W5 hk hbD)
  clear hD hK hDK hs5 hb5 hbD hbK HMk hr1 c1 z1 hm2 HW
  gi_wp2_with fail
  refine range_iter (N := 3) (unhide HGo) enters171 Leave.ret (fun x => { tmps := #[.slice a0 N c, .int .i64 (k : Int), .int .u64 ((word s k : Nat) : Int), .pointer (some ⟨w.heap.size, 0, none⟩), undef, undef, .slice none 0 0, .pointer (some ⟨w2.heap.size + 1, 0, none⟩), .int .i64 (x : Int), undef, undef, .slice a0 N c, .int .i64 (k : Int), .int .u64 ((word s k : Nat) : Int), .int .i64 (C : Int), .slice (some ⟨w2.heap.size, 0, none⟩) 0 C, .slice (some ⟨w2.heap.size, 0, none⟩) 0 C, .int .i64 (k : Int), .int .u8 ((k : Int) % 256), .slice (some ⟨w2.heap.size + 1 + 1, 0, none⟩) 1 1, .slice (some ⟨w2.heap.size, 0, none⟩) 1 C, .int .i64 (k : Int), .int .u64 ((word s k : Nat) : Int), .func (.func 171) #[] #[.pointer (some ⟨D, 0, none⟩), .pointer (some ⟨K, 0, none⟩)], .int .i64 (x : Int), undef, undef, undef, undef, undef, undef, undef, undef, undef, undef, undef, undef, undef, undef, undef, undef, undef, undef, undef, undef, undef, undef, undef, undef, undef, undef, undef, undef, undef, undef], defers := [] })
    (fun i X => BufAt X (w2.heap.size + 1) w2.heap.size C (encB ps k ((lst s (64 * k) 64).take i)) ∧ Its W5.heap.size (fun q => q = w2.heap.size + 1 ∨ q = w2.heap.size ∨ q = D) W5 X) (fun _ => False) rfl ?_ ?_ ?_ ?_ ?_ ?_ ?_ ?_ ?_
  · rintro q rfl
    exact (unhide HG).2.2.2.2.2.2.2.1
  · rintro i X ⟨_, hX⟩
    obtain ⟨g1, g2, g3, g4, g5, g6, g7, g8, g9, g10⟩ := unhide HG
    have hT := (unhide HA).2.2.2.2.1
    have h0 := hT.lt
    refine ⟨by rw [hX.block _ g9 g9 (fun h => by rcases h with h | h | h <;> omega)]; exact g3, hT.kept ?_⟩
    rw [hX.block 0 (by omega) (by omega) (fun h => by rcases h with h | h | h <;> omega), g4.block 0 h0]
  · obtain ⟨g1, g2, g3, g4, g5, g6, g7, g8, g9, g10⟩ := unhide HG
    exact ⟨g1, Its.refl _ _ _⟩
  · rintro i X X' ⟨h1, h2⟩ hX
    obtain ⟨g1, g2, g3, g4, g5, g6, g7, g8, g9, g10⟩ := unhide HG
    have hs := h2.size
    exact ⟨h1.kept (hX.block _ (by omega) (by omega) (fun (h : w2.heap.size + 1 = D) => by omega)) (hX.block _ (by omega) (by omega) (fun (h : w2.heap.size = D) => by omega)), h2.trans (hX.mono (Nat.le_refl _) (fun q _ h => .inr (.inr h)))⟩
  · intro V V' h; exact h.elim
  · intro l' x X K' hK'
    gi_wp2_with fail
    exact hK'
  · rintro l' i X R hi ⟨h1, h2⟩ hlt hR
    obtain ⟨g1, g2, g3, g4, g5, g6, g7, g8, g9, g10⟩ := unhide HG
    obtain ⟨hall, hsz, hlo, hn, hT, hRw⟩ := unhide HA
    obtain ⟨hC0, hC1, hC2, hZs⟩ := unhide HC
    obtain ⟨y, hy⟩ : ∃ y, y = (lst s (64 * k) 64)[i] := ⟨_, rfl⟩
    have hyl : y < ps.length := by rw [hy]; exact hall _ (List.getElem_mem hi)
    obtain ⟨g, c1, sv, e1, hOg, _, d0, d1, hrec, _, _, _, _⟩ := hRw.at hyl
    have hN := unhide HNe
    injection e1 with e1 e1n e1c
    subst e1
    clear e1n e1c
    have hgl := hlo g hOg
    have hs := h2.size
    have hkeep : ∀ q, q < w.heap.size + 1 → X.heap[q]? = W5.heap[q]? := fun q hq => h2.block q (by omega) (by omega) (fun h => by rcases h with h | h | h <;> omega)
    have hkw2 : ∀ q, q < w.heap.size → X.heap[q]? = w.heap[q]? := fun q hq => by rw [hkeep q (by omega), g4.block q hq]
    have cP : X.cell? ⟨w.heap.size, 0, none⟩ = some (.slice (some ⟨g, 0, none⟩) N c) := bk_cell (t := 134) (by rw [hkeep _ (by omega)]; exact g2)
    have d0' : X.cell? ⟨g, y * 2, none⟩ = some (.bool ps[y].isSome) := by
      rw [World.cell?_of_block (w := w) (a := ⟨g, y * 2, none⟩) (hkw2 g hgl)]; exact d0
    have d1' : X.cell? ⟨g, y * 2 + 1, none⟩ = some sv := by
      rw [World.cell?_of_block (w := w) (a := ⟨g, y * 2 + 1, none⟩) (hkw2 g hgl)]; exact d1
    have hdat : ps[y].getD [] = dat ps y := by simp [dat, hyl]
    have hst : stat (ps[y]?.getD none) = stat ps[y] := by simp [hyl]
    rw [hdat] at hrec
    have hrecX : Rec X O sv (dat ps y) := hrec.kept (fun _ o => o) (fun q o => hkw2 q (hlo q o))
    obtain ⟨va, vc, hsv, _⟩ := hrec
    have hvl := hsz y
    have htk : (lst s (64 * k) 64).take (i + 1) = (lst s (64 * k) 64).take i ++ [y] := by rw [hy]; exact List.take_succ_eq_append_getElem hi
    have hB' : encB ps k ((lst s (64 * k) 64).take (i + 1)) = encB ps k ((lst s (64 * k) 64).take i) ++ encE ps y := by
      rw [htk]; unfold encB; rw [encL_snoc]; rfl
    have hfit : (encB ps k ((lst s (64 * k) 64).take i)).length + (encE ps y).length ≤ C := by
      rw [← List.length_append, ← hB', encB_len, hC0]
      have := wsum_app ps ((lst s (64 * k) 64).take (i + 1)) ((lst s (64 * k) 64).drop (i + 1))
      rwa [List.take_append_drop] at this
    have hyi : (y : Int) < (N : Int) := by omega
    have hyb : decide ((N : Int) ≤ (y : Int)) = false := by simp; omega
    obtain ⟨out, hout⟩ : ∃ out, out = encB ps k ((lst s (64 * k) 64).take i) := ⟨_, rfl⟩
    obtain ⟨bt, hbt⟩ : ∃ bt, bt = ps[y].isSome := ⟨_, rfl⟩
    obtain ⟨vl, hvl0⟩ : ∃ vl, vl = (dat ps y).length := ⟨_, rfl⟩
    obtain ⟨L, hL⟩ : ∃ L, L = out.length := ⟨_, rfl⟩
    have cB := bk_cell h1.box
    rw [← hout, ← hL] at cB
    rw [← hbt] at d0'
    rw [← hvl0] at hsv hvl
    subst hsv
    rw [← hy]
    have HX := hide (And.intro h1 (And.intro h2 (And.intro hlt hR)))
    have HB' := hide (And.intro hB' (And.intro hfit (And.intro hrecX (And.intro hout (And.intro hbt (And.intro hvl0 (And.intro hL (And.intro hst hkw2))))))))
    have hgX : g < X.heap.size := cellLt d0'
    have hvi : (vl : Int) ≤ 512 := by omega
    have hbbX : w2.heap.size + 1 < X.heap.size := by omega
    have hwX : w.heap.size < X.heap.size := by omega
    clear h1 h2 hlt hR g1 g2 g3 g4 g5 g6 g7 g8 g9 g10 hall hsz hlo hn hT hRw hC0 hC1 hC2 hZs hkeep hkw2 hdat hst hrecX hvl htk hB' hfit hout hbt hvl0 hL d0 d1 hOg hs hN hy
    have HO : Hid (∀ q, O q → q ≠ w2.heap.size ∧ q ≠ w2.heap.size + 1) := fun q o => by
      have h1 := (unhide HA).2.2.1 q o
      have h2 := (unhide HG).2.2.2.2.2.2.2.2.2
      omega
    cases bt with
    | true =>
      obtain ⟨hB', hfit, hrecX, hout, hbt, hvl0, hL, hst, hkw2⟩ := unhide HB'
      obtain ⟨h1, h2, hlt, hR⟩ := unhide HX
      rw [← hout] at h1 hB' hfit
      have hd3 : encE ps y = [UInt8.ofNat (y % 64), UInt8.ofNat (stat (ps[y]?.getD none) / 256), UInt8.ofNat (stat (ps[y]?.getD none))] ++ dat ps y := rfl
      have hbs : (#[.int .u8 ((y : Int) % 64), .int .u8 (((vl : Int) + 1) / 256), .int .u8 (((vl : Int) + 1) % 256)] : Array Value) = (byteVals [UInt8.ofNat (y % 64), UInt8.ofNat (stat (ps[y]?.getD none) / 256), UInt8.ofNat (stat (ps[y]?.getD none))]).toArray := by
        have e1 : stat (ps[y]?.getD none) = vl + 1 := by
          rw [hst]
          cases hp : ps[y] with
          | none => rw [hp] at hbt; cases hbt
          | some d => rw [hvl0]; simp [stat, dat, hyl, hp]
        rw [e1]
        have i1 : ((UInt8.ofNat (y % 64)).toNat : Int) = (y : Int) % 64 := by simp; omega
        have i2 : ((UInt8.ofNat ((vl + 1) / 256)).toNat : Int) = ((vl : Int) + 1) / 256 := by simp; omega
        have i3 : ((UInt8.ofNat (vl + 1)).toNat : Int) = ((vl : Int) + 1) % 256 := by simp
        simp only [byteVals, List.map_cons, List.map_nil, i1, i2, i3]
      obtain ⟨Xa, Xb, ra, ca, za, pa, rb, cb, zb, hBb, hob, osb, tpb, oub, szb⟩ := enc_two h1 #[.bool true, .slice va vl vc] _ hbs rfl hrecX hvl0 (unhide HO) (by rw [hd3, List.length_append] at hfit; exact hfit) hL
      have pc : (Xa.setCell ⟨w2.heap.size + 1, 0, none⟩ (.slice (some ⟨w2.heap.size, 0, none⟩) (L + 3) C)).cell? ⟨X.heap.size, 1, none⟩ = some (.slice va vl vc) := by simp [World.cell?, pa]
      have HK : Hid (∀ a1', R .normal a1' (Xb.setCell ⟨w2.heap.size + 1, 0, none⟩ (.slice (some ⟨w2.heap.size, 0, none⟩) (L + 3 + vl) C))) := fun a1' => by
        obtain ⟨g1, g2, g3, g4, g5, g6, g7, g8, g9, g10⟩ := unhide HG
        have hs := h2.size
        refine hR _ _ _ (by rw [World.size_setCell]; exact szb) (fun q h6 h7 => hob q h7 (by omega) (by omega)) (fun q (h6 : q = D) => hob q (by omega) (by omega) (by omega)) (.inl ⟨rfl, by rw [hB', hd3]; exact hBb, ?_⟩)
        refine h2.trans ⟨osb, tpb, oub, by rw [World.size_setCell]; exact szb, fun q h6 h7 h8 => hob q h7 (fun e => h8 (.inl e)) (fun e => h8 (.inr (.inl e)))⟩
      clear hB' hfit hrecX hout hbt hvl0 hL hst hkw2 h1 h2 hlt hR hd3 hbs hBb hob osb tpb oub szb pa
      clear HB' HX HG HA HC HNe HGo HX1 HX2 HB2 HO
      dsimp only
      gi_wp2_with fail
      exact unhide HK _
    | false =>
      obtain ⟨hB', hfit, hrecX, hout, hbt, hvl0, hL, hst, hkw2⟩ := unhide HB'
      obtain ⟨h1, h2, hlt, hR⟩ := unhide HX
      rw [← hout] at h1 hB' hfit
      have hd3 : encE ps y = [UInt8.ofNat (y % 64), UInt8.ofNat (stat (ps[y]?.getD none) / 256), UInt8.ofNat (stat (ps[y]?.getD none))] ++ dat ps y := rfl
      have hbs : (#[.int .u8 ((y : Int) % 64), .int .u8 0, .int .u8 0] : Array Value) = (byteVals [UInt8.ofNat (y % 64), UInt8.ofNat (stat (ps[y]?.getD none) / 256), UInt8.ofNat (stat (ps[y]?.getD none))]).toArray := by
        have e1 : stat (ps[y]?.getD none) = 0 := by
          rw [hst]
          cases hp : ps[y] with
          | none => rfl
          | some d => rw [hp] at hbt; cases hbt
        rw [e1]
        have i1 : ((UInt8.ofNat (y % 64)).toNat : Int) = (y : Int) % 64 := by simp; omega
        simp only [byteVals, List.map_cons, List.map_nil, i1]
        rfl
      obtain ⟨Xa, Xb, ra, ca, za, pa, rb, cb, zb, hBb, hob, osb, tpb, oub, szb⟩ := enc_two h1 #[.bool false, .slice va vl vc] _ hbs rfl hrecX hvl0 (unhide HO) (by rw [hd3, List.length_append] at hfit; exact hfit) hL
      have pc : (Xa.setCell ⟨w2.heap.size + 1, 0, none⟩ (.slice (some ⟨w2.heap.size, 0, none⟩) (L + 3) C)).cell? ⟨X.heap.size, 1, none⟩ = some (.slice va vl vc) := by simp [World.cell?, pa]
      have HK : Hid (∀ a1', R .normal a1' (Xb.setCell ⟨w2.heap.size + 1, 0, none⟩ (.slice (some ⟨w2.heap.size, 0, none⟩) (L + 3 + vl) C))) := fun a1' => by
        obtain ⟨g1, g2, g3, g4, g5, g6, g7, g8, g9, g10⟩ := unhide HG
        have hs := h2.size
        refine hR _ _ _ (by rw [World.size_setCell]; exact szb) (fun q h6 h7 => hob q h7 (by omega) (by omega)) (fun q (h6 : q = D) => hob q (by omega) (by omega) (by omega)) (.inl ⟨rfl, by rw [hB', hd3]; exact hBb, ?_⟩)
        refine h2.trans ⟨osb, tpb, oub, by rw [World.size_setCell]; exact szb, fun q h6 h7 h8 => hob q h7 (fun e => h8 (.inl e)) (fun e => h8 (.inr (.inl e)))⟩
      clear hB' hfit hrecX hout hbt hvl0 hL hst hkw2 h1 h2 hlt hR hd3 hbs hBb hob osb tpb oub szb pa
      clear HB' HX HG HA HC HNe HGo HX1 HX2 HB2 HO
      dsimp only
      gi_wp2_with fail
      exact unhide HK _
  · rintro X ⟨h1, h2⟩ hd hlt
    rw [List.take_length] at h1
    have cB := bk_cell h1.box
    obtain ⟨L, hL⟩ : ∃ L, L = (encB ps k (lst s (64 * k) 64)).length := ⟨_, rfl⟩
    rw [← hL] at cB
    have HX := hide (And.intro h1 (And.intro h2 (And.intro hd (And.intro hlt hL))))
    clear h1 h2 hd hlt hL
    gi_wp2_with fail
    obtain ⟨h1, h2, hd, hlt, hL⟩ := unhide HX
    obtain ⟨g1, g2, g3, g4, g5, g6, g7, g8, g9, g10⟩ := unhide HG
    have hs := h2.size
    refine Marks.leave (base := W5.heap.size) (hi := W5.heap.size + 1) _ _ ⟨W5.heap.size, rfl, Nat.le_refl _, by omega, hd, trivial⟩ (fun V' hV => ⟨.slice (some ⟨w2.heap.size, 0, none⟩) L C, by simp [results, Tryz.results167], w2.heap.size, C, by rw [hL], ?_, ?_⟩)
    · obtain ⟨_, ⟨cur, hr, hc, hp⟩, hle⟩ := h1
      refine ⟨_, C, rfl, hle, by have := (unhide HC).2.1; simp only [maxLen]; omega, fun _ => ⟨w2.heap.size, cur, rfl, by omega, ?_, hp⟩⟩
      rw [hV.block _ (by omega) (by omega) (fun h => h)]; exact hr
    · exact ⟨hV.os.trans (h2.os.trans g4.os), hV.tape.trans (h2.tape.trans g4.tape), hV.output.trans (h2.output.trans g4.output), by have := hV.size; have := g4.size; omega, fun q hq => by rw [hV.block q (by omega) (by omega) (fun h => h), h2.block q (by omega) (by omega) (fun h => by rcases h with h | h | h <;> omega), g4.block q hq]⟩
  · intro X h; exact h.elim
end Go.Proofs.YtebcmicmklpflaaGreatDoor
